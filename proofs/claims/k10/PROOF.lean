import PyProof.Rows.All
import Wide.All
import OpenK.AllK
import Wide.FinOn
import Lean
import PyProof.EqAt
import PyProof.EqKinds
import PyProof.TupleCall
import PySem.Challenge.RW_ordertext_k10_is_order
set_option Elab.async false
set_option linter.all false
set_option maxRecDepth 100000
namespace L2
open PySem PySem.Spec PyProof.Rows
abbrev Key:=Sum Int Str
def vP:Key→Value→Bool
 | .inl k,v=>Value.isInt k v
 | .inr x,v=>Value.isStrOf x v
def Zk (w:World):Key→Int
 | .inl k=>hashInt k
 | .inr x=>hashStr w x
theorem dh:∀ {k:Key}{v:Value},vP k v = true→(∃ i t,k = Sum.inl i∧v = Value.int i t)∨(∃ x t,k = Sum.inr x∧v = Value.str x t)
 | .inl i,v,h=>by
  obtain ⟨t,e⟩:=Value.isInt_shape (k:=i) (v:=v) h
  exact .inl ⟨i,t,rfl,e⟩
 | .inr x,v,h=>by
  obtain ⟨t,e⟩:=Value.isStrOf_shape (x:=x) (v:=v) h
  exact .inr ⟨x,t,rfl,e⟩
theorem CS (i:Int) (t:Tok):vP (.inl i) (.int i t) = true:=by simp [vP,Value.isInt]
theorem CT (x:Str) (t:Tok):vP (.inr x) (.str x t) = true:=by simp [vP,Value.isStrOf]
theorem NS (a b:Int):decide ((Sum.inl a:Key) = Sum.inl b) = (a == b):=by
 by_cases e:a = b
 ·subst e;simp
 ·have h:¬ (Sum.inl a:Key) = Sum.inl b:=fun q=>e (Sum.inl.inj q)
  rw [decide_eq_false h]
  exact (beq_eq_false_iff_ne.mpr e).symm
theorem NT (a b:Str):decide ((Sum.inr a:Key) = Sum.inr b) = decide (a = b):=by
 by_cases e:a = b
 ·subst e;simp
 ·have h:¬ (Sum.inr a:Key) = Sum.inr b:=fun q=>e (Sum.inr.inj q)
  rw [decide_eq_false h,decide_eq_false e]
theorem NU (a:Int) (b:Str):decide ((Sum.inl a:Key) = Sum.inr b) = false:=decide_eq_false (fun q=>nomatch q)
theorem NV (a:Str) (b:Int):decide ((Sum.inr a:Key) = Sum.inl b) = false:=decide_eq_false (fun q=>nomatch q)
def cy (prog:Program) (w:World):PySem.KeyKind prog w Key where
 is:=vP
 hash:=Zk w
 inj:=fun v a b ha hb=>by
  rcases dh ha with ⟨i,t,rfl,rfl⟩ | ⟨x,t,rfl,rfl⟩
  ·rcases dh hb with ⟨j,u,rfl,e⟩ | ⟨y,u,rfl,e⟩
   ·injection e with e1 _;rw [e1]
   ·exact nomatch e
  ·rcases dh hb with ⟨j,u,rfl,e⟩ | ⟨y,u,rfl,e⟩
   ·exact nomatch e
   ·injection e with e1 _;rw [e1]
 byValue:=fun k v h=>by
  rcases dh h with ⟨i,t,rfl,rfl⟩ | ⟨x,t,rfl,rfl⟩ <;> rfl
 pyHash:=fun hv h=>by
  rcases dh hv with ⟨i,t,rfl,rfl⟩ | ⟨x,t,rfl,rfl⟩
  ·exact wpAny_pyHash_int h
  ·exact wpAny_pyHash_str h
 eqBool:=fun hu hv h=>by
  rcases dh hu with ⟨i,t,rfl,rfl⟩ | ⟨x,t,rfl,rfl⟩
  ·rcases dh hv with ⟨j,u,rfl,rfl⟩ | ⟨y,u,rfl,rfl⟩
   ·rw [NS] at h;exact wpAny_eqBool_int h
   ·rw [NU] at h;exact SeqAt.EqAt.int_str i t y u _ _ _ _ h
  ·rcases dh hv with ⟨j,u,rfl,rfl⟩ | ⟨y,u,rfl,rfl⟩
   ·rw [NV] at h;exact SeqAt.EqAt.str_int x t j u _ _ _ _ h
   ·rw [NT] at h;exact wpAny_eqBool_str h
 «strs» := fun k x t v h=>by
  rcases dh h with ⟨i,u,rfl,e⟩ | ⟨y,u,rfl,e⟩
  ·exact nomatch e
  ·injection e with e1 _
   subst e1
   cases v <;> rfl
theorem yH (prog:Program) (w:World) (i:Int) (t:Tok):(cy prog w).is (.inl i) (.int i t) = true:=CS i t
theorem yI (prog:Program) (w:World) (x:Str) (t:Tok):(cy prog w).is (.inr x) (.str x t) = true:=CT x t
end L2
namespace L2
open PySem PySem.Spec PyProof.Rows
inductive V where
 | gk | bl (b:Bool) | int (i:Int) | str (x:Str) | Eo (b:Array UInt8) | flt (b:UInt64) | ref (a:Addr) | ty (n:String)
 deriving DecidableEq
def RelV:V→Value→Prop
 | .gk,u=>u = Value.none
 | .bl b,u=>u = Value.bool b
 | .int i,u=>∃ t,u = Value.int i t
 | .str x,u=>∃ t,u = Value.str x t
 | .Eo b,u=>∃ t,u = Value.bytes b t
 | .flt b,u=>∃ t,u = Value.float b t
 | .ref a,u=>u = Value.ref a
 | .ty n,u=>u = Value.type n
abbrev Vals:List V→List Value→Prop:=Paired RelV
theorem Vals.length {xs:List V}{us:List Value}(r:Vals xs us):xs.length = us.length:=Paired.length r
theorem Vals.get:∀ {xs:List V}{us:List Value}{i:Nat}{x:V},Vals xs us→xs[i]? = some x→∃ u,us[i]? = some u∧RelV x u
 | _,_,_,_,.nil,e=>by simp at e
 | _,_,0,_,.cons r _,e=>by simp at e;subst e;exact ⟨_,rfl,r⟩
 | _,_,i + 1,x,.cons _ t,e=>by
  obtain ⟨u,h1,h2⟩:=Vals.get (i:=i) (x:=x) t (by simpa using e)
  exact ⟨u,by simpa using h1,h2⟩
theorem Vals.set {x:V}{u:Value}(r:RelV x u):∀ {xs:List V}{us:List Value}(i:Nat),Vals xs us→Vals (xs.set i x) (us.set i u)
 | _,_,_,.nil=>.nil
 | _,_,0,.cons _ t=>.cons r t
 | _,_,i + 1,.cons q t=>.cons q (Vals.set r i t)
theorem Vals.append:∀ {xs ys:List V}{us ws:List Value},Vals xs us→Vals ys ws→Vals (xs ++ ys) (us ++ ws)
 | _,_,_,_,.nil,s=>s
 | _,_,_,_,.cons r t,s=>.cons r (Vals.append t s)
theorem Vals.take:∀ {xs:List V}{us:List Value}(n:Nat),Vals xs us→Vals (xs.take n) (us.take n)
 | _,_,0,_=>.nil
 | _,_,_ + 1,.nil=>.nil
 | _,_,n + 1,.cons r t=>.cons r (Vals.take n t)
theorem Vals.drop:∀ {xs:List V}{us:List Value}(n:Nat),Vals xs us→Vals (xs.drop n) (us.drop n)
 | _,_,0,r=>r
 | _,_,_ + 1,.nil=>.nil
 | _,_,n + 1,.cons _ t=>Vals.drop n t
theorem Vals.none_of:∀ {xs:List V}{us:List Value}{i:Nat},Vals xs us→xs[i]? = none→us[i]? = none:=fun {xs us i} r e=>by
 have h1:=r.length
 have h2:xs.length≤i:=List.getElem?_eq_none_iff.mp e
 exact List.getElem?_eq_none_iff.mpr (by omega)
def pG:Option V→Option Value→Prop
 | some v,some u=>RelV v u
 | none,none=>True
 | _,_=>False
def KV {κ:Type}:List (κ × V)→List (κ × Value)→Prop:=Paired fun (p:κ × V) (q:κ × Value)=>p.1 = q.1∧RelV p.2 q.2
def kV:Key→V
 | .inl i=>.int i
 | .inr x=>.str x
inductive HO where
 
 | lst (xs:List V)
 
 | tup (xs:List V)
 
 | dK (kvs:List (Key × V)) | dT (kvs:List (List Key × V))
 
 | set (S:Int→Bool) (n:Nat)
 
 | ins (C dx:Addr) (fs:List (Str × V))
 
 | own (x:Addr)
 
 | xd (fs:List (Str × V))
 
 | met (f x:Addr)
 
 | Zl (lo hi:Int)
 
 | m8 (o:Obj) (u:HO)
 
 | sY (cr:Nat→Nat→Option Str)
 
 | ext (φ:Heap→Prop)
abbrev Hp:=Addr→Option HO
def upd (H:Hp) (a:Addr) (o:HO):Hp:=fun b=>if b = a then some o else H b
theorem aE {H:Hp}{a:Addr}{o:HO}:upd H a o a = some o:=by unfold upd;rw [if_pos rfl]
theorem aI {H:Hp}{a b:Addr}{o:HO}(h:b≠a):upd H a o b = H b:=by unfold upd;rw [if_neg h]
theorem tO {H:Hp}{a b:Addr}{o u:HO}(h:H a = some o) (h' : H b = some u) (d:o≠u):a≠b:=by
 intro e;subst e;rw [h] at h';exact d (Option.some.inj h')
theorem aC {H:Hp}{a b:Addr}{o:HO}(h:H a = some o) (h' : H b = none):a≠b:=by
 intro e;subst e;rw [h] at h';cases h'
def wX (oc:Obj) (q:Str):Prop:=∃ (vs:Array Value) (t:Tok),oc.data = .fields vs∧vs[1]? = some (.str q t)
def NW (h:Heap) (a:Addr):Prop:=∃ o,h.get? a = some o∧o.dict = none
section
variable (P:Program) (w:World)
def cC (H:Hp) (h:Heap) (a:Addr):HO→Prop
 | .lst xs=>xs.length≤sizeLine∧∃ (its:List Value) (n:Nat),Vals xs its∧h.get? a = some { cls:=.type "list",data:=.seq its.toArray n }
 | .tup xs=>xs.length≤sizeLine∧∃ its:List Value,Vals xs its∧IsTup h a its.toArray∧NW h a
 | .dK kvs=>kvs.length≤sizeLine∧(a == sysModules) = false∧∃ vs,KV kvs vs∧h.DictOf (cy P w) a vs
 | .dT kvs=>kvs.length≤sizeLine∧(a == sysModules) = false∧∃ xs:List (List Key × Addr × Value),
   Paired (fun (p:List Key × V) (q:List Key × Addr × Value)=>p.1 = q.1∧H q.2.1 = some (.tup (p.1.map kV))∧RelV p.2 q.2.2) kvs xs∧
   ∃ o es ep,h.get? a = some o∧o.ExactDict∧o.data = .dict es ep∧es.toList = xs.map (entryOfKey (tupleKind (cy P w)))∧(xs.map (·.1)).Nodup
 | .set S n=>h.SetOf (intKind P w) a S n
 | .ins C dx fs=>H dx = some (.own a)∧fs.length≤1000∧dx≠a∧h.get? a = some (PySem.W.instObj C dx)∧
   ∃ mA,h.Ns1 dx mA∧(∀ f,pG (fs.lookup f) (mA f))∧PySem.Within mA (fs.map (·.1))
 | .own _=>∃ o,h.get? a = some o
 | .xd fs=>∃ mA,h.Ns1 a mA∧∀ f,pG (fs.lookup f) (mA f)
 | .Zl lo hi=>∃ t u v,h.get? a = some { cls:=.type "range",data:=.fields #[.int lo t,.int hi u,.int 1 v] }
 | .m8 o u=>h.get? a = some o∧cC H h a u
 | .sY cr=>∃ ps:Array Value,h.get? a = some { cls:=.none,data:=.fields ps }∧TriplesOk ps.toList∧∀ (pos:Pos) (v:Value),codeAmong pos ps.toList = some v→
   ∃ (c:Addr) (oc:Obj) (q:Str),v = .ref c∧cr pos.line pos.col = some q∧H c = some (.m8 oc (.own c))∧wX oc q
 | .met f x=>h.get? a = some (PySem.W.methodObj (.ref f) (.ref x))
 | .ext φ=>φ h∧(∃ o,h.get? a = some o)∧∀ h1 h2:Heap,φ h1→(∀ o,h1.get? a = some o→h2.get? a = some o)→φ h2
def oW (H:Hp) (h:Heap):Prop:=∀ a o,H a = some o→cC P w H h a o
end
section
variable {P:Program}{w:World}{H H' : Hp} {h h' : Heap} {a:Addr}{o:HO}
theorem cC.lt (x:cC P w H h a o):a < h.objs.size:=by
 cases o with
 | lst xs=>obtain ⟨_,_,_,_,e⟩:=x;exact Heap.lt_size e
 | tup xs=>obtain ⟨_,_,_,p,_⟩:=x;exact p.lt
 | dK kvs=>obtain ⟨_,_,_,_,o,_,_,e,_⟩:=x;exact Heap.lt_size e
 | dT kvs=>obtain ⟨_,_,_,_,o,_,_,e,_⟩:=x;exact Heap.lt_size e
 | set S n=>obtain ⟨o,_,_,_,e,_⟩:=x;exact Heap.lt_size e
 | ins C dx fs=>obtain ⟨_,_,_,e,_⟩:=x;exact Heap.lt_size e
 | own y=>obtain ⟨_,e⟩:=x;exact Heap.lt_size e
 | xd fs=>obtain ⟨_,⟨_,_,_,e,_⟩,_⟩:=x;exact Heap.lt_size e
 | Zl lo hi=>obtain ⟨_,_,_,e⟩:=x;exact Heap.lt_size e
 | m8 ob u=>obtain ⟨e,_⟩:=x;exact Heap.lt_size e
 | sY cr=>obtain ⟨_,e,_⟩:=x;exact Heap.lt_size e
 | met f y=>exact Heap.lt_size (show h.get? a = some _ from x)
 | ext φ=>obtain ⟨_,⟨_,e⟩,_⟩:=x;exact Heap.lt_size e
theorem Paired.NX {α β:Type}{F G:α→β→Prop}:∀ {l₁:List α}{l₂:List β},Paired F l₁ l₂→(∀ a b,F a b→G a b)→Paired G l₁ l₂
 | _,_,.nil,_=>.nil
 | _,_,.cons r t,f=>.cons (f _ _ r) (Paired.NX t f)
theorem cC.stay (x:cC P w H h a o) (k:∀ b u,(b = a∨H b = some (.own a))→h.get? b = some u→h'.get? b = some u)
  (ho:∀ b,H b = some (.own a)→H' b = some (.own a)) (ht:∀ b xs,H b = some (.tup xs)→H' b = some (.tup xs)) (hz:∀ b o u,H b = some (.m8 o u)→H' b = some (.m8 o u)):cC P w H' h' a o:=by
 induction o with
 | lst xs=>obtain ⟨z,its,n,r,e⟩:=x;exact ⟨z,its,n,r,k _ _ (.inl rfl) e⟩
 | tup xs=>obtain ⟨z,its,r,⟨ob,e,c⟩,od,e',d'⟩:=x;exact ⟨z,its,r,⟨ob,k _ _ (.inl rfl) e,c⟩,od,k _ _ (.inl rfl) e',d'⟩
 | dK kvs=>obtain ⟨z,y,vs,r,ob,es,ep,e,c⟩:=x;exact ⟨z,y,vs,r,ob,es,ep,k _ _ (.inl rfl) e,c⟩
 | dT kvs=>
  obtain ⟨z,y,xs,r,ob,es,ep,e,c⟩:=x
  exact ⟨z,y,xs,Paired.NX r fun p q z=>⟨z.1,ht _ _ z.2.1,z.2.2⟩,ob,es,ep,k _ _ (.inl rfl) e,c⟩
 | set S n=>obtain ⟨ob,es,ep,t,e,c⟩:=x;exact ⟨ob,es,ep,t,k _ _ (.inl rfl) e,c⟩
 | ins C dx fs=>
  obtain ⟨d,z,ne,e,mA,⟨od,es,ep,e2,c⟩,r⟩:=x
  exact ⟨ho _ d,z,ne,k _ _ (.inl rfl) e,mA,⟨od,es,ep,k _ _ (.inr d) e2,c⟩,r⟩
 | own y=>obtain ⟨ob,e⟩:=x;exact ⟨ob,k _ _ (.inl rfl) e⟩
 | xd fs=>obtain ⟨mA,⟨od,es,ep,e,c⟩,r⟩:=x;exact ⟨mA,⟨od,es,ep,k _ _ (.inl rfl) e,c⟩,r⟩
 | Zl lo hi=>obtain ⟨t,u,v,e⟩:=x;exact ⟨t,u,v,k _ _ (.inl rfl) e⟩
 | m8 ob u ih=>obtain ⟨e,q⟩:=x;exact ⟨k _ _ (.inl rfl) e,ih q⟩
 | sY cr=>
  obtain ⟨ps,e,Qz,hc⟩:=x
  exact ⟨ps,k a _ (.inl rfl) e,Qz,fun pos v q=>let ⟨c,oc,z,h1,h2,h3,h4⟩:=hc pos v q;⟨c,oc,z,h1,h2,hz _ _ _ h3,h4⟩⟩
 | met f y=>
  have e:h.get? a = some (PySem.W.methodObj (.ref f) (.ref y)):=x
  show h'.get? a = some (PySem.W.methodObj (.ref f) (.ref y))
  exact k a _ (.inl rfl) e
 | ext φ=>obtain ⟨p,⟨o,e⟩,st⟩:=x;exact ⟨st _ _ p fun o q=>k _ _ (.inl rfl) q,⟨o,k _ _ (.inl rfl) e⟩,st⟩
theorem oW.lt (x:oW P w H h) (e:H a = some o):a < h.objs.size:=(x a o e).lt
theorem oW.fresh (x:oW P w H h) (e:h.objs.size≤a):H a = none:=by
 cases q:H a with
 | none=>rfl
 | some u=>exact absurd (Nat.lt_of_lt_of_le (x.lt q) e) (Nat.lt_irrefl _)
theorem oW.kept (x:oW P w H h) (k:∀ b u,h.get? b = some u→h'.get? b = some u):oW P w H h' := fun a o e=>
 (x a o e).stay (fun b u _ q=>k b u q) (fun _ q=>q) (fun _ _ q=>q) fun _ _ _ q=>q
theorem oW.laid (x:oW P w H h) (k:∀ b u,h.get? b = some u→h'.get? b = some u) (hp:h.objs.size≤a) (new:cC P w (upd H a o) h' a o):oW P w (upd H a o) h' := fun b u e=>by
 have hn:=x.fresh hp
 by_cases hb:b = a
 ·subst hb;rw [aE] at e;cases e;exact new
 ·rw [aI hb] at e
  exact (x b u e).stay (fun c v _ q=>k c v q) (fun c q=>by rw [aI (aC q hn)];exact q) (fun c xs q=>by rw [aI (aC q hn)];exact q) fun c o u q=>by rw [aI (aC q hn)];exact q
end
def Rd (H:Hp) (a:Addr) (u:HO):Prop:=H a = some u∨∃ o,H a = some (.m8 o u)
theorem Rd.of {H:Hp}{a:Addr}{u:HO}(h:H a = some u):Rd H a u:=.inl h
theorem Rd.ok {P:Program}{w:World}{H:Hp}{h:Heap}{a:Addr}{u:HO}(r:Rd H a u) (x:oW P w H h):cC P w H h a u:=by
 rcases r with r | ⟨o,r⟩
 ·exact x a u r
 ·obtain ⟨_,q⟩:=x a _ r
  exact q
def Q4:Option HO→Prop
 | some (.lst _)=>True
 | some (.dK _)=>True
 | some (.dT _)=>True
 | some (.set _ _)=>True
 | some (.ins _ _ _)=>True
 | some (.ext _)=>True
 | _=>False
section
variable {P:Program}{w:World}{H:Hp}{h h' : Heap} {x e:Addr}{o' : HO}
theorem oW.write (ok:oW P w H h) (mu:Q4 (H x)) (he:e = x∨H e = some (.own x)) (k:∀ b u,b≠e→h.get? b = some u→h'.get? b = some u) (QA:∃ u,h'.get? e = some u)
  (new:cC P w (upd H x o') h' x o'):oW P w (upd H x o') h' := fun b u q=>by
 have Q5:∀ c y,H c = some (.own y)→c≠x:=fun c y r z=>by subst z;rw [r] at mu;exact mu
 have Zm:∀ c xs,H c = some (.tup xs)→c≠x:=fun c xs r z=>by subst z;rw [r] at mu;exact mu
 have Zn:∀ c o u,H c = some (.m8 o u)→c≠x:=fun c o u r z=>by subst z;rw [r] at mu;exact mu
 by_cases hb:b = x
 ·subst hb;rw [aE] at q;cases q;exact new
 ·rw [aI hb] at q
  by_cases NY:b = e
  ·have q' : H b = some (.own x):=by
    rcases he with z | z
    ·exact absurd (NY.trans z) hb
    ·rw [NY];exact z
   rw [q] at q';cases q'
   obtain ⟨v,hv⟩:=QA
   exact ⟨v,by rw [NY];exact hv⟩
  ·refine (ok b u q).stay (fun c v hc r=>k c v ?_ r) (fun c r=>by rw [aI (Q5 c b r)];exact r) (fun c xs r=>by rw [aI (Zm c xs r)];exact r) fun c o u r=>by rw [aI (Zn c o u r)];exact r
   rcases hc with rfl | hc
   ·exact NY
   ·rintro rfl
    rcases he with z | z
    ·exact Q5 c b hc z
    ·rw [hc] at z;cases z;exact hb rfl
end
structure Un (fs ex:List Addr) (H H' : Hp) (h h' : Heap):Prop where
 keep:∀ b o,h.get? b = some o→H b = none→b ∉ fs→b ∉ ex→h'.get? b = some o
 slot:∀ b o,h.get? b = some o→H b = none→b∈fs→b ∉ ex→∃ sl,h'.get? b = some { o with slots:=sl }
 free:∀ b o,h.get? b = some o→H b = none→b ∉ ex→H' b = none
 there:∀ b o,h.get? b = some o→b ∉ ex→∃ o',h'.get? b = some o'
 tups:∀ b xs,H b = some (.tup xs)→H' b = some (.tup xs)
 m5:∀ b o u,H b = some (.m8 o u)→H' b = some (.m8 o u)
 oU:∀ b cr,H b = some (.sY cr)→H' b = some (.sY cr)
section
variable {fs fs' ex ex' : List Addr} {H H1 H2:Hp}{h h1 h2 h' : Heap} {a x e:Addr}{o:HO}
theorem Un.any (u:Un fs ex H H1 h h1) {b:Addr}{ob:Obj}(q:h.get? b = some ob) (n:H b = none) (hx:b ∉ ex):∃ sl,h1.get? b = some { ob with slots:=sl }:=by
 by_cases hb:b∈fs
 ·exact u.slot b ob q n hb hx
 ·exact ⟨ob.slots,u.keep b ob q n hb hx⟩
theorem Un.trans (a:Un fs ex H H1 h h1) (b:Un fs ex H1 H2 h1 h2):Un fs ex H H2 h h2 where
 keep:=fun c ob q n hc hx=>b.keep c ob (a.keep c ob q n hc hx) (a.free c ob q n hx) hc hx
 slot:=fun c ob q n hc hx=>by
  obtain ⟨sl,e1⟩:=a.slot c ob q n hc hx
  obtain ⟨Zo,e2⟩:=b.slot c _ e1 (a.free c ob q n hx) hc hx
  exact ⟨Zo,e2⟩
 free:=fun c ob q n hx=>by
  obtain ⟨o',e1⟩:=a.there c ob q hx
  exact b.free c o' e1 (a.free c ob q n hx) hx
 there:=fun c ob q hx=>by
  obtain ⟨o',e1⟩:=a.there c ob q hx
  exact b.there c o' e1 hx
 tups:=fun c xs q=>b.tups c xs (a.tups c xs q)
 m5:=fun c ob xs q=>b.m5 c ob xs (a.m5 c ob xs q)
 oU:=fun c cr q=>b.oU c cr (a.oU c cr q)
theorem Un.kept (k:∀ b u,h.get? b = some u→h'.get? b = some u):Un fs ex H H h h' :=
 ⟨fun b ob q _ _ _=>k b ob q,fun b ob q _ _ _=>⟨ob.slots,k b ob q⟩,fun _ _ _ n _=>n,fun b ob q _=>⟨ob,k b ob q⟩,fun _ _ q=>q,fun _ _ _ q=>q,fun _ _ q=>q⟩
theorem Un.refl:Un fs ex H H h h:=Un.kept fun _ _ q=>q
theorem Un.laid (k:∀ b u,h.get? b = some u→h'.get? b = some u) (hp:h.objs.size≤a) (hn:H a = none):Un fs ex H (upd H a o) h h' where
 keep:=fun b u q _ _ _=>k b u q
 slot:=fun b u q _ _ _=>⟨u.slots,k b u q⟩
 free:=fun b u q n _=>by rw [aI (Nat.ne_of_lt (Nat.lt_of_lt_of_le (Heap.lt_size q) hp))];exact n
 there:=fun b u q _=>⟨u,k b u q⟩
 tups:=fun b xs q=>by rw [aI (aC q hn)];exact q
 m5:=fun b u xs q=>by rw [aI (aC q hn)];exact q
 oU:=fun b cr q=>by rw [aI (aC q hn)];exact q
theorem Un.write (mu:Q4 (H x)) (he:e = x∨H e = some (.own x)) (k:∀ b u,b≠e→h.get? b = some u→h'.get? b = some u) (QA:∃ u,h'.get? e = some u):Un fs ex H (upd H x o) h h' := by
 have hx:∀ b,H b = none→b≠x:=fun b n z=>by subst z;rw [n] at mu;exact mu
 have hb:∀ b,H b = none→b≠e:=fun b n z=>by
  subst z
  rcases he with r | r
  ·exact hx b n r
  ·rw [n] at r;cases r
 have hm:∀ b u,H b = some u→¬ Q4 (some u)→b≠x:=fun b u q nm z=>by subst z;rw [q] at mu;exact nm mu
 refine ⟨fun b u q n _ _=>k b u (hb b n) q,fun b u q n _ _=>⟨u.slots,k b u (hb b n) q⟩,fun b u q n _=>by rw [aI (hx b n)];exact n,fun b u q _=>?_,
  fun b xs q=>by rw [aI (hm b _ q fun z=>z)];exact q,fun b u xs q=>by rw [aI (hm b _ q fun z=>z)];exact q,fun b cr q=>by rw [aI (hm b _ q fun z=>z)];exact q⟩
 by_cases NY:b = e
 ·subst NY;exact QA
 ·exact ⟨u,k b u NY q⟩
theorem Un.mono (u:Un fs ex H H1 h h1) (hs:∀ b∈fs,b∈fs') (hx:∀ b∈ex,b∈ex'):Un fs' ex' H H1 h h1:=
 ⟨fun b ob q n hb he=>u.keep b ob q n (fun z=>hb (hs b z)) fun z=>he (hx b z),fun _ _ q n _ he=>u.any q n fun z=>he (hx _ z),fun b ob q n he=>u.free b ob q n fun z=>he (hx b z),fun b ob q he=>u.there b ob q fun z=>he (hx b z),u.tups,u.m5,u.oU⟩
end
def X0 (h:Heap) (H:Hp):List Addr:=(List.range h.objs.size).filter fun a=>(H a).isSome
def vD (h:Heap) (H:Hp):Heap:=PySem.W.hideAll h (X0 h H)
theorem CU (h:Heap) (H:Hp):(vD h H).objs.size = h.objs.size:=PySem.W.hideAll_size _ _
theorem Ep {h:Heap}{H:Hp}{b:Addr}{o:Obj}(e:h.get? b = some o) (n:H b = none):(vD h H).get? b = some o:=
 PySem.W.hideAll_get _ e fun hm=>by
  have q:(H b).isSome = true:=(List.mem_filter.mp hm).2
  rw [n] at q;simp at q
theorem Ig {h:Heap}{H:Hp}{b:Addr}{o:Obj}(e:(vD h H).get? b = some o):h.get? b = some o∧H b = none:=by
 have e' : h.get? b = some o:=PySem.W.of_hideAll (X0 h H) e
 refine ⟨e',?_⟩
 cases q:H b with
 | none=>rfl
 | some x=>
  have hm:b∈X0 h H:=List.mem_filter.mpr ⟨List.mem_range.mpr (Heap.lt_size e'),by simp [q]⟩
  have z:(vD h H).get? b = none:=PySem.W.hideAll_none (X0 h H) hm
  rw [z] at e;cases e
def Ih (g h:Heap) (L:Addr):List (Addr × Obj):=(List.range h.objs.size).filterMap fun a=>if a = L∨(g.get? a).isSome = true then none else (h.get? a).map fun o=>(a,o)
def rest (g h:Heap) (L d:Addr):List (Addr × Obj):=(Ih g h L).filter fun p=>decide (p.1≠d)
end L2
namespace L2
open PySem PySem.Spec PyProof.Rows
structure Mod (K:PySem.W.Frag) (mg:Str→Option Value) (base:Heap):Prop where
 Ec:K.In base
 glob:base.Ns mainGlobals mg
 blt:∃ mb,base.Ns builtinsNs mb∧∀ x:Str,x≠ "__name__" → mb x = bootBuiltins x
 nolimit:base.NoLimit
structure Cx where
 prog:Program
 w:World
 K:PySem.W.Frag
 mg:Str→Option Value
 base:Heap
 A:Around
 N:List Str
 s₀:Shared
 H₀:Hp
 env:Env
 outer:List Env
 stack:List Env
 ex:List Addr
 fn:Str→Bool
 calm:Bool
 pn:List (Addr × Obj)
 xe:Value→Shared→Prop
def frs (l:List Env):List Addr:=l.filterMap (·.frame)
abbrev Cx.fs (X:Cx):List Addr:=frs X.outer
def X3 (sc:Scope) (x:Str):Prop:=sc.names.lookup x = some .local∨sc.names.lookup x = some .cell∨sc.names.lookup x = some .free
def Loc (sc:Scope) (x:Str):Prop:=sc.names.lookup x = some .local∨sc.names.lookup x = some .cell
def Look (env:Env) (h:Heap) (m:Str→Option Value) (x:Str) (u:Value):Prop:=
 (env.kindOf x = some .local∧m x = some u)∨((env.kindOf x = some .cell∨env.kindOf x = some .free)∧∃ c,env.cells.lookup x = some c∧h.IsCell c (some u))
structure Cx.Ok (X:Cx):Prop where
 mod:Mod X.K X.mg X.base
 kind:X.env.scope.kind = .function
 glob:X.env.globals = mainGlobals
 blt:X.env.builtins = builtinsNs
 above:X.s₀.heap.objs.size≤X.env.locals
 inj:∀ x y c,X.env.cells.lookup x = some c→X.env.cells.lookup y = some c→x = y
 has:∀ x,(X.env.kindOf x = some .cell∨X.env.kindOf x = some .free)→∃ c,X.env.cells.lookup x = some c
 NZ:∀ x c,X.fn x = true→X.env.cells.lookup x = some c→X.s₀.heap.objs.size≤c
 hd:X.calm = true→X.A.handled = none
 frames:X.A.frames = some X.stack
 stk:X.stack = X.outer∨(X.stack = X.env :: X.outer∧X.env.frame = some X.env.locals)
 HY:∀ b∈X.ex,b≠X.env.locals∧∀ x c,X.env.cells.lookup x = some c→c≠b
 bs:∀ b o,X.base.get? b = some o→X.s₀.heap.get? b = some o∧X.H₀ b = none
 Ef:X.base.objs.size≤X.s₀.heap.objs.size
 AF:∀ b o,X.base.get? b = some o→b ∉ X.ex
 AG:∀ b∈X.ex,b ∉ X.fs
 qa:X.s₀.heap.FunFrames X.base X.outer
 Mr:∀ b∈X.fs,X.H₀ b = none
structure Inv (X:Cx) (pins:List (Addr × Obj)) (σ:List (Option V)) (H:Hp) (s:Shared):Prop where
 ok:X.Ok
 os:s.os = X.s₀.os
 bare:AllBare s.gens
 base:Un X.fs X.ex X.H₀ H X.s₀.heap s.heap
 loc:∃ m,s.heap.Ns X.env.locals m∧∀ (i:Nat) (x:Str) (v:V),X.N[i]? = some x→σ[i]? = some (some v)→X3 X.env.scope x→∃ u,RelV v u∧Look X.env s.heap m x u
 cell:∀ x c,X.env.cells.lookup x = some c→∃ v,s.heap.IsCell c v
 free:H X.env.locals = none
 kZ:∀ x c,X.env.cells.lookup x = some c→H c = none
 pin:∀ p∈X.pn ++ pins,s.heap.get? p.1 = some p.2∧H p.1 = none∧p.1≠X.env.locals∧p.1 ∉ X.fs∧∀ v,p.2.data≠.cell v
 hok:oW X.prog X.w H s.heap
 len:σ.length = X.N.length
section
variable {X:Cx}{pins:List (Addr × Obj)}{σ:List (Option V)}{H H' : Hp} {s:Shared}{h' : Heap}
theorem Cx.Ok.Zp (ok:X.Ok) {b:Addr}{o:Obj}(e:X.base.get? b = some o):b ∉ X.fs:=fun hb=>by
 have:=(ok.qa.mem hb).1
 rw [e] at this;cases this
theorem Inv.bs (I:Inv X pins σ H s):∀ b o,X.base.get? b = some o→s.heap.get? b = some o∧H b = none:=fun b o e=>
 ⟨I.base.keep b o (I.ok.bs b o e).1 (I.ok.bs b o e).2 (I.ok.Zp e) (I.ok.AF b o e),I.base.free b o (I.ok.bs b o e).1 (I.ok.bs b o e).2 (I.ok.AF b o e)⟩
theorem Inv.bk (I:Inv X pins σ H s):∀ b o,X.base.get? b = some o→s.heap.get? b = some o:=fun b o e=>(I.bs b o e).1
theorem Inv.mod (I:Inv X pins σ H s):Mod X.K X.mg X.base:=I.ok.mod
theorem Inv.tQ (I:Inv X pins σ H s):X.K.In s.heap:=I.ok.mod.Ec.keeps I.bk
theorem Inv.nolimit (I:Inv X pins σ H s):s.heap.NoLimit:=I.ok.mod.nolimit.keeps I.bk
theorem Inv.fr (I:Inv X pins σ H s):∃ m,Fr X.base X.env.locals s.heap m:=
 let ⟨m,hn,_⟩:=I.loc
 ⟨m,hn,I.bk,Nat.le_trans I.ok.Ef I.ok.above⟩
theorem Inv.lt (I:Inv X pins σ H s):X.env.locals < s.heap.objs.size:=let ⟨_,hn,_⟩:=I.loc;hn.lt
theorem Inv.sz (I:Inv X pins σ H s):X.s₀.heap.objs.size≤s.heap.objs.size:=Nat.le_trans I.ok.above (Nat.le_of_lt I.lt)
theorem Inv.Zq (I:Inv X pins σ H s) {a:Addr}(h:s.heap.objs.size≤a):a ∉ X.fs:=fun hb=>by
 obtain ⟨_,o,ho,_⟩:=I.ok.qa.mem hb
 exact absurd (Nat.lt_of_lt_of_le (Heap.lt_size ho) (Nat.le_trans I.sz h)) (Nat.lt_irrefl _)
theorem Inv.N1 (I:Inv X pins σ H s):∀ x c,X.env.cells.lookup x = some c→c≠X.env.locals:=fun x c e z=>by
 obtain ⟨v,o,ho,hd⟩:=I.cell x c e
 obtain ⟨m,⟨o',es,ep,ho',hd',_⟩,_⟩:=I.loc
 rw [z,ho'] at ho;cases ho;rw [hd'] at hd;cases hd
theorem Inv.qa (I:Inv X pins σ H s):s.heap.FunFrames X.base X.outer:=by
 have all:∀ (l:List Env),(∀ b∈frs l,b∈X.fs)→X.s₀.heap.FunFrames X.base l→s.heap.FunFrames X.base l:=by
  intro l
  induction l with
  | nil=>intro _ _;trivial
  | cons env r ih=>
   intro hs hl
   obtain ⟨hk,⟨L,o,hf,hn,ho,hd⟩,hr⟩:=hl
   have hL:L∈X.fs:=hs L (by unfold frs;rw [List.filterMap_cons,hf];exact List.mem_cons_self)
   obtain ⟨sl,e⟩:=I.base.slot L o ho (I.ok.Mr L hL) hL fun z=>I.ok.AG L z hL
   exact ⟨hk,⟨L,_,hf,hn,e,hd⟩,ih (fun b hb=>hs b (by unfold frs;rw [List.filterMap_cons,hf];exact List.mem_cons_of_mem _ hb)) hr⟩
 exact all X.outer (fun _ hb=>hb) I.ok.qa
theorem Inv.stack (I:Inv X pins σ H s):s.heap.FunFrames X.base X.stack:=by
 rcases I.ok.stk with e | ⟨e,hf⟩
 ·rw [e];exact I.qa
 ·rw [e]
  obtain ⟨m,hn,_⟩:=I.loc
  refine .cons (by rw [I.ok.kind];decide) hf hn ?_ I.qa
  exact Heap.get?_none_of_le (Nat.le_trans I.ok.Ef I.ok.above)
theorem Inv.tR (I:Inv X pins σ H s):∀ b∈frs X.stack,b∈X.env.locals :: X.fs:=fun b hb=>by
 rcases I.ok.stk with e | ⟨e,hf⟩
 ·rw [e] at hb;exact List.mem_cons_of_mem _ hb
 ·rw [e] at hb
  unfold frs at hb
  rw [List.filterMap_cons,hf] at hb
  exact hb
theorem Inv.sZ (I:Inv X pins σ H s):∀ b∈frs X.stack,H b = none:=fun b hb=>by
 rcases List.mem_cons.mp (I.tR b hb) with e | hb
 ·rw [e];exact I.free
 ·obtain ⟨_,o,ho,_⟩:=I.ok.qa.mem hb
  exact I.base.free b o ho (I.ok.Mr b hb) fun z=>I.ok.AG b z hb
theorem Inv.step {g' : Array GenState} {t' : Nat} {d' : Drawn} {ch:List Addr}(I:Inv X pins σ H s)
  (hch:∀ b∈ch,(b∈X.ex∨X.s₀.heap.objs.size≤b)∧b≠X.env.locals∧(∀ x c,X.env.cells.lookup x = some c→c≠b)∧∀ p∈X.pn ++ pins,p.1≠b)
  (keep:∀ b o,b≠X.env.locals→b ∉ X.fs→b ∉ ch→s.heap.get? b = some o→H b = none→h'.get? b = some o)
  (slot:∀ b o,b≠X.env.locals→b∈X.fs→b ∉ ch→s.heap.get? b = some o→H b = none→∃ sl,h'.get? b = some { o with slots:=sl }) (free:∀ b o,b ∉ ch→s.heap.get? b = some o→H b = none→H' b = none)
  (there:∀ b o,b ∉ ch→s.heap.get? b = some o→∃ o',h'.get? b = some o')
  (tups:∀ b xs,H b = some (.tup xs)→H' b = some (.tup xs)) (m5:∀ b o u,H b = some (.m8 o u)→H' b = some (.m8 o u)) (oU:∀ b cr,H b = some (.sY cr)→H' b = some (.sY cr))
  (ns:∀ m,s.heap.Ns X.env.locals m→h'.Ns X.env.locals m) (hok:oW X.prog X.w H' h') (hg:AllBare g'):
  Inv X pins σ H' { s with heap:=h',gens:=g',drawn:=d',toks:=t' }:=by
 have neL:∀ b o,X.s₀.heap.get? b = some o→b≠X.env.locals:=fun b o e=>Nat.ne_of_lt (Nat.lt_of_lt_of_le (Heap.lt_size e) I.ok.above)
 have AB:∀ b o,X.s₀.heap.get? b = some o→b ∉ X.ex→b ∉ ch:=fun b o e hx hb=>by
  rcases (hch b hb).1 with z | z
  ·exact hx z
  ·exact absurd (Nat.lt_of_lt_of_le (Heap.lt_size e) z) (Nat.lt_irrefl _)
 have cellK:∀ x c,X.env.cells.lookup x = some c→∀ v,s.heap.IsCell c v→h'.IsCell c v:=fun x c e v ⟨o,ho,hd⟩=>by
  have Q6:c ∉ ch:=fun z=>(hch c z).2.2.1 x c e rfl
  by_cases hc:c∈X.fs
  ·obtain ⟨sl,q⟩:=slot c o (I.N1 x c e) hc Q6 ho (I.kZ x c e)
   exact ⟨_,q,hd⟩
  ·exact ⟨o,keep c o (I.N1 x c e) hc Q6 ho (I.kZ x c e),hd⟩
 refine ⟨I.ok,I.os,hg,⟨fun b o e n hb hx=>?_,fun b o e n hb hx=>?_,fun b o e n hx=>?_,fun b o e hx=>?_,fun b xs e=>tups b xs (I.base.tups b xs e),fun b o xs e=>m5 b o xs (I.base.m5 b o xs e),fun b ps e=>?_⟩,?_,fun x c e=>?_,?_,fun x c e=>?_,fun p hp=>?_,hok,I.len⟩
 ·exact keep b o (neL b o e) hb (AB b o e hx) (I.base.keep b o e n hb hx) (I.base.free b o e n hx)
 ·obtain ⟨sl,e1⟩:=I.base.slot b o e n hb hx
  obtain ⟨Zo,e2⟩:=slot b _ (neL b o e) hb (AB b o e hx) e1 (I.base.free b o e n hx)
  exact ⟨Zo,e2⟩
 ·obtain ⟨o',e1⟩:=I.base.there b o e hx
  exact free b o' (AB b o e hx) e1 (I.base.free b o e n hx)
 ·obtain ⟨o',e1⟩:=I.base.there b o e hx
  exact there b o' (AB b o e hx) e1
 ·exact oU b ps (I.base.oU b ps e)
 ·obtain ⟨m,hn,hl⟩:=I.loc
  refine ⟨m,ns m hn,fun i x v e1 e2 e3=>?_⟩
  obtain ⟨u,r,l⟩:=hl i x v e1 e2 e3
  refine ⟨u,r,?_⟩
  rcases l with l | ⟨k,c,e,z⟩
  ·exact .inl l
  ·exact .inr ⟨k,c,e,cellK x c e _ z⟩
 ·obtain ⟨v,z⟩:=I.cell x c e
  exact ⟨v,cellK x c e v z⟩
 ·obtain ⟨m,⟨o,_,_,ho,_⟩,_⟩:=I.loc
  exact free _ o (fun z=>(hch _ z).2.1 rfl) ho I.free
 ·obtain ⟨v,o,ho,hd⟩:=I.cell x c e
  exact free c o (fun z=>(hch c z).2.2.1 x c e rfl) ho (I.kZ x c e)
 ·obtain ⟨e,n,ne,nf,d⟩:=I.pin p hp
  have Q6:p.1 ∉ ch:=fun z=>(hch p.1 z).2.2.2 p hp rfl
  exact ⟨keep p.1 p.2 ne nf Q6 e n,free p.1 p.2 Q6 e n,ne,nf,d⟩
theorem Inv.un {t' : Nat} (I:Inv X pins σ H s) (u:Un X.fs [] H H' s.heap h') (hok:oW X.prog X.w H' h'):Inv X pins σ H' { s with heap:=h',toks:=t' }:=by
 obtain ⟨m,⟨o,es,ep,ho,r⟩,_⟩:=id I.loc
 obtain ⟨sl,hL⟩:=u.any ho I.free (by simp)
 exact I.step (g' := s.gens) (d' := s.drawn) (ch:=[]) (fun _ z=>nomatch z) (fun b o _ hb _ e n=>u.keep b o e n hb (by simp)) (fun b o _ hb _ e n=>u.slot b o e n hb (by simp)) (fun b o _ e n=>u.free b o e n (by simp)) (fun b o _ e=>u.there b o e (by simp)) u.tups u.m5 u.oU (fun m' hm=>by
  obtain ⟨o',es',Q7,ho',r'⟩:=hm
  rw [ho] at ho';cases ho'
  exact ⟨_,es',Q7,hL,r'⟩) hok I.bare
theorem Inv.call {g' : Array GenState} {t' : Nat} {d' : Drawn} {ch:List Addr}(I:Inv X pins σ H s) (u:Un (frs X.stack) ch H H' s.heap h') (hok:oW X.prog X.w H' h') (hg:AllBare g')
  (hch:∀ b∈ch,(b∈X.ex∨X.s₀.heap.objs.size≤b)∧b≠X.env.locals∧(∀ x c,X.env.cells.lookup x = some c→c≠b)∧∀ p∈X.pn ++ pins,p.1≠b):
  Inv X pins σ H' { s with heap:=h',gens:=g',drawn:=d',toks:=t' }:=by
 obtain ⟨m,⟨o,es,ep,ho,r⟩,_⟩:=id I.loc
 obtain ⟨sl,hL⟩:=u.any ho I.free fun z=>(hch _ z).2.1 rfl
 exact I.step (ch:=ch) hch (fun b o hL hb hc e n=>u.keep b o e n (fun z=>(List.mem_cons.mp (I.tR b z)).elim hL hb) hc) (fun b o _ _ hc e n=>u.any e n hc) (fun b o hc e n=>u.free b o e n hc) (fun b o hc e=>u.there b o e hc) u.tups u.m5 u.oU (fun m' hm=>by
  obtain ⟨o',es',Q7,ho',r'⟩:=hm
  rw [ho] at ho';cases ho'
  exact ⟨_,es',Q7,hL,r'⟩) hok hg
theorem Inv.turned {t' : Nat} {it:Addr}(I:Inv X pins σ H s) (k:∀ b o,b≠it→s.heap.get? b = some o→h'.get? b = some o) (hn:H it = none) (hL:it≠X.env.locals)
  (h1:it∈X.ex∨X.s₀.heap.objs.size≤it) (h2:∀ x c,X.env.cells.lookup x = some c→c≠it) (h3:∀ p∈X.pn ++ pins,p.1≠it):Inv X pins σ H { s with heap:=h',toks:=t' }:=by
 have nit:∀ b u,H b = some u→b≠it:=fun b u e z=>by rw [z,hn] at e;cases e
 refine I.step (g' := s.gens) (d' := s.drawn) (ch:=[it]) (fun b hb=>?_) (fun b o _ _ hc e _=>k b o (fun z=>hc (by simp [z])) e) (fun b o _ _ hc e _=>⟨o.slots,k b o (fun z=>hc (by simp [z])) e⟩) (fun _ _ _ _ n=>n)
  (fun b o hc e=>⟨o,k b o (fun z=>hc (by simp [z])) e⟩) (fun _ _ e=>e) (fun _ _ _ e=>e) (fun _ _ e=>e) (fun m hm=>?_) (fun b u e=>?_) I.bare
 ·have e:b = it:=by simpa using hb
  subst e
  exact ⟨h1,hL,h2,h3⟩
 ·obtain ⟨o,es,ep,ho,r⟩:=hm
  exact ⟨o,es,ep,k _ o (Ne.symm hL) ho,r⟩
 ·refine (I.hok b u e).stay (fun c v hc q=>k c v ?_ q) (fun _ q=>q) (fun _ _ q=>q) fun _ _ _ q=>q
  rcases hc with z | z
  ·rw [z];exact nit b u e
  ·exact nit c _ z
theorem Inv.tok (I:Inv X pins σ H s) (t:Nat):Inv X pins σ H { s with toks:=t }:=I.un (h' := s.heap) (t' := t) Un.refl I.hok
theorem Inv.kept {t' : Nat} (I:Inv X pins σ H s) (k:∀ b u,s.heap.get? b = some u→h'.get? b = some u):Inv X pins σ H { s with heap:=h',toks:=t' }:=I.un (Un.kept k) (I.hok.kept k)
theorem Inv.laid {a:Addr}{o:HO}{t' : Nat} (I:Inv X pins σ H s) (k:∀ b u,s.heap.get? b = some u→h'.get? b = some u) (hp:s.heap.objs.size≤a) (new:cC X.prog X.w (upd H a o) h' a o):
  Inv X pins σ (upd H a o) { s with heap:=h',toks:=t' }:=I.un (Un.laid k hp (I.hok.fresh hp)) (I.hok.laid k hp new)
theorem Inv.write {x e:Addr}{o:HO}{t' : Nat} (I:Inv X pins σ H s) (mu:Q4 (H x)) (he:e = x∨H e = some (.own x)) (k:∀ b u,b≠e→s.heap.get? b = some u→h'.get? b = some u) (QA:∃ u,h'.get? e = some u)
  (new:cC X.prog X.w (upd H x o) h' x o):Inv X pins σ (upd H x o) { s with heap:=h',toks:=t' }:=I.un (Un.write mu he k QA) (I.hok.write mu he k QA new)
theorem Inv.iT {Ms:List (Addr × Obj)}(I:Inv X pins σ H s) (h:∀ p∈Ms,s.heap.get? p.1 = some p.2∧H p.1 = none∧p.1≠X.env.locals∧p.1 ∉ X.fs∧∀ v,p.2.data≠.cell v):Inv X Ms σ H s:=
 ⟨I.ok,I.os,I.bare,I.base,I.loc,I.cell,I.free,I.kZ,fun p hp=>(List.mem_append.mp hp).elim (fun z=>I.pin p (List.mem_append_left _ z)) (h p),I.hok,I.len⟩
theorem yJ {N:List Str}(hN:N.Nodup) {i j:Nat}{x:Str}(a:N[i]? = some x) (b:N[j]? = some x):i = j:=by
 obtain ⟨h1,e1⟩:=List.getElem?_eq_some_iff.mp a
 obtain ⟨h2,e2⟩:=List.getElem?_eq_some_iff.mp b
 exact (List.getElem_inj hN).mp (e1.trans e2.symm)
theorem CV {M:Model}{A:Around}{E:Value→Shared→Prop}{i:Nat}{x:Str}{v:V}{u:Value}{Q:Unit→Shared→Prop}(I:Inv X pins σ H s) (hN:X.N.Nodup) (hi:X.N[i]? = some x) (hx:Loc X.env.scope x) (r:RelV v u)
  (h:∀ s',Inv X pins (σ.set i (some v)) H s' → (∃ a,Heap.SameBut a s.heap s'.heap∧(a = X.env.locals∨X.env.cells.lookup x = some a))→Q () s') (hf:X.fn x = true∨X.env.scope.names.lookup x = some .local:=by first | exact .inl rfl | exact .inr rfl | assumption):wpAny M A (storeName X.env x u) Q E s:=by
 obtain ⟨m,hn,hl⟩:=id I.loc
 have hcls:(X.env.scope.kind == .class || (X.env.scope.kind == .module && X.env.locals != X.env.globals)) = false:=by rw [I.ok.kind];rfl
 have hiσ:i < σ.length:=by rw [I.len];exact (List.getElem?_eq_some_iff.mp hi).1
 have N1:=I.N1
 have tracked:∀ {a:Addr}{h' : Heap},(∃ o,s.heap.get? a = some o∧H a = none)→Heap.SameBut a s.heap h' → oW X.prog X.w H h' := fun {a h'} ha hs b ob e=>by
  obtain ⟨_,_,hfree⟩:=ha
  refine (I.hok b ob e).stay (fun c w' hc q=>(hs.2 c ?_).trans q) (fun _ q=>q) (fun _ _ q=>q) fun _ _ _ q=>q
  rintro rfl
  rcases hc with rfl | hc
  ·rw [hfree] at e;cases e
  ·rw [hfree] at hc;cases hc
 rcases hx with hk | hk
 ·refine wpAny_storeName_local hk hn (fun h' hn' hs=>?_) hcls
  obtain ⟨oL,_,_,hoL,_⟩:=id hn
  refine h _ ⟨I.ok,I.os,I.bare,⟨fun b o e n hb hx=>?_,fun b o e n hb hx=>?_,I.base.free,fun b o e hx=>?_,I.base.tups,I.base.m5,I.base.oU⟩,⟨_,hn',fun j y v' e1 e2 e3=>?_⟩,fun y c e=>?_,I.free,I.kZ,fun p hp=>?_,tracked ⟨oL,hoL,I.free⟩ hs,by simpa using I.len⟩ ⟨_,hs,.inl rfl⟩
  ·exact (hs.2 b (Nat.ne_of_lt (Nat.lt_of_lt_of_le (Heap.lt_size e) I.ok.above))).trans (I.base.keep b o e n hb hx)
  ·obtain ⟨sl,e1⟩:=I.base.slot b o e n hb hx
   exact ⟨sl,(hs.2 b (Nat.ne_of_lt (Nat.lt_of_lt_of_le (Heap.lt_size e) I.ok.above))).trans e1⟩
  ·obtain ⟨o',e1⟩:=I.base.there b o e hx
   exact ⟨o',(hs.2 b (Nat.ne_of_lt (Nat.lt_of_lt_of_le (Heap.lt_size e) I.ok.above))).trans e1⟩
  ·by_cases hj:j = i
   ·subst hj
    rw [hi] at e1;cases e1
    rw [List.getElem?_set_self hiσ] at e2
    cases e2
    exact ⟨u,r,.inl ⟨hk,by simp⟩⟩
   ·rw [List.getElem?_set_ne (Ne.symm hj)] at e2
    obtain ⟨u',r',q⟩:=hl j y v' e1 e2 e3
    refine ⟨u',r',?_⟩
    rcases q with ⟨k,e⟩ | ⟨k,c,e,z⟩
    ·refine .inl ⟨k,?_⟩
     have:y≠x:=fun e=>hj (yJ hN e1 (e ▸ hi))
     simp [this,e]
    ·exact .inr ⟨k,c,e,z.sameBut hs (N1 y c e)⟩
  ·obtain ⟨w',z⟩:=I.cell y c e
   exact ⟨w',z.sameBut hs (N1 y c e)⟩
  ·obtain ⟨e,n,ne,nf,d⟩:=I.pin p hp
   exact ⟨(hs.2 p.1 ne).trans e,n,ne,nf,d⟩
 ·have hfn:X.fn x = true:=by
   rcases hf with z | z
   ·exact z
   ·rw [z] at hk;cases hk
  obtain ⟨c,hc⟩:=I.ok.has x (.inl hk)
  obtain ⟨w',z⟩:=I.cell x c hc
  refine wpAny_storeName_cell I.ok.kind hk hc z (fun h' hc' hs=>?_)
  obtain ⟨oc,hoc,Zr⟩:=id z
  refine h { s with heap:=h' } ⟨I.ok,I.os,I.bare,⟨fun b o e n hb hx=>?_,fun b o e n hb hx=>?_,I.base.free,fun b o e hx=>?_,I.base.tups,I.base.m5,I.base.oU⟩,⟨m,hn.sameBut hs (Ne.symm (N1 x c hc)),fun j y v' e1 e2 e3=>?_⟩,fun y c' e=>?_,I.free,I.kZ,fun p hp=>?_,tracked ⟨oc,hoc,I.kZ x c hc⟩ hs,by simpa using I.len⟩ ⟨c,hs,.inr hc⟩
  ·exact (hs.2 b (Nat.ne_of_lt (Nat.lt_of_lt_of_le (Heap.lt_size e) (I.ok.NZ x c hfn hc)))).trans (I.base.keep b o e n hb hx)
  ·obtain ⟨sl,e1⟩:=I.base.slot b o e n hb hx
   exact ⟨sl,(hs.2 b (Nat.ne_of_lt (Nat.lt_of_lt_of_le (Heap.lt_size e) (I.ok.NZ x c hfn hc)))).trans e1⟩
  ·obtain ⟨o',e1⟩:=I.base.there b o e hx
   exact ⟨o',(hs.2 b (Nat.ne_of_lt (Nat.lt_of_lt_of_le (Heap.lt_size e) (I.ok.NZ x c hfn hc)))).trans e1⟩
  ·by_cases hj:j = i
   ·subst hj
    rw [hi] at e1;cases e1
    rw [List.getElem?_set_self hiσ] at e2
    cases e2
    exact ⟨u,r,.inr ⟨.inl hk,c,hc,hc'⟩⟩
   ·rw [List.getElem?_set_ne (Ne.symm hj)] at e2
    obtain ⟨u',r',q⟩:=hl j y v' e1 e2 e3
    refine ⟨u',r',?_⟩
    rcases q with q | ⟨k,c',e,z'⟩
    ·exact .inl q
    ·refine .inr ⟨k,c',e,z'.sameBut hs ?_⟩
     rintro rfl
     exact hj (yJ hN e1 (I.ok.inj _ _ _ e hc ▸ hi))
  ·by_cases hcc:c' = c
   ·subst hcc;exact ⟨_,hc'⟩
   ·obtain ⟨w2,z2⟩:=I.cell y c' e
    exact ⟨w2,z2.sameBut hs hcc⟩
  ·obtain ⟨e,n,ne,nf,d⟩:=I.pin p hp
   refine ⟨(hs.2 p.1 ?_).trans e,n,ne,nf,d⟩
   intro q
   rw [q,hoc] at e
   have q' : oc = p.2:=Option.some.inj e
   exact d w' (by rw [← q'];exact Zr)
theorem lg {M:Model}{A:Around}{E:Value→Shared→Prop}{i:Nat}{x:Str}{v:V}{u:Value}{Q:Unit→Shared→Prop}(I:Inv X pins σ H s) (hN:X.N.Nodup) (hi:X.N[i]? = some x) (hx:Loc X.env.scope x) (r:RelV v u)
  (h:∀ s',Inv X pins (σ.set i (some v)) H s' → Q () s') (hf:X.fn x = true∨X.env.scope.names.lookup x = some .local:=by first | exact .inl rfl | exact .inr rfl | assumption):wpAny M A (storeName X.env x u) Q E s:=
 CV I hN hi hx r (fun s' I' _=>h s' I') hf
theorem Inv.Er {s' : Shared} {ch:List Addr}(I:Inv X pins σ H s) (ho:s'.os = s.os) (u:Un (frs X.stack) ch H H' s.heap s'.heap) (hok:oW X.prog X.w H' s'.heap) (hg:AllBare s'.gens)
  (hch:∀ b∈ch,(b∈X.ex∨X.s₀.heap.objs.size≤b)∧b≠X.env.locals∧(∀ x c,X.env.cells.lookup x = some c→c≠b)∧∀ p∈X.pn ++ pins,p.1≠b):Inv X pins σ H' s' := by
 obtain ⟨h',g',d',t',o'⟩:=s'
 have e:o' = s.os:=ho
 subst e
 exact I.call (g' := g') (t' := t') (d' := d') u hok hg hch
end
abbrev XK:=Value→Option Addr→Hp→Prop
abbrev St:=List (Option V)
abbrev VK:=V→Hp→Prop
abbrev TE:=St→Hp→VK→Prop
abbrev TT:=St→Hp→(Bool→Hp→Prop)→Prop
abbrev TA:=St→Hp→(List V→Hp→Prop)→Prop
structure Ends where
 nx:St→Hp→Prop
 rt:VK
 bk:St→Hp→Prop:=fun _ _=>False
 ct:St→Hp→Prop:=fun _ _=>False
abbrev TS:=Ends→St→Hp→Prop
def EP (X:Cx) (pins:List (Addr × Obj)) (σ:St) (Q:VK) (u:Value) (s' : Shared):Prop:=∃ v H',Inv X pins σ H' s' ∧ RelV v u∧Q v H'
def TP (X:Cx) (pins:List (Addr × Obj)) (σ:St) (Q:Bool→Hp→Prop) (b:Bool) (s' : Shared):Prop:=∃ H',Inv X pins σ H' s' ∧ Q b H'
def AP (X:Cx) (pins:List (Addr × Obj)) (σ:St) (Q:List V→Hp→Prop) (us:List Value) (s' : Shared):Prop:=∃ vs H',Inv X pins σ H' s' ∧ Vals vs us∧Q vs H'
def SP (X:Cx) (pins:List (Addr × Obj)) (D:Ends) (f:Flow) (s' : Shared):Prop:=
 match f with
 | .next=>∃ σ' H',Inv X pins σ' H' s' ∧ D.nx σ' H'
 | .brk=>∃ σ' H',Inv X pins σ' H' s' ∧ D.bk σ' H'
 | .cont=>∃ σ' H',Inv X pins σ' H' s' ∧ D.ct σ' H'
 | .ret u=>∃ v σ' H',Inv X pins σ' H' s' ∧ RelV v u∧D.rt v H'
def PE (X:Cx) (e:Expr) (t:TE):Prop:=
 ∀ (pins:List (Addr × Obj)) (s:Shared) (σ:St) (H:Hp) (Q:VK),Inv X pins σ H s→t σ H Q→wpAny (model X.prog X.w) X.A (eval e X.env) (EP X pins σ Q) X.xe s
def PT (X:Cx) (e:Expr) (t:TT):Prop:=
 ∀ (pins:List (Addr × Obj)) (s:Shared) (σ:St) (H:Hp) (Q:Bool→Hp→Prop),Inv X pins σ H s→t σ H Q→wpAny (model X.prog X.w) X.A (isTrue e X.env (eval e X.env)) (TP X pins σ Q) X.xe s
def PW (X:Cx) (e:Expr) (t:TT):Prop:=
 ∀ (whole:Sem Value) (pins:List (Addr × Obj)) (s:Shared) (σ:St) (H:Hp) (Q:Bool→Hp→Prop),Inv X pins σ H s→t σ H Q→wpAny (model X.prog X.w) X.A (isTrue e X.env whole) (TP X pins σ Q) X.xe s
theorem PW.pt {X:Cx}{e:Expr}{t:TT}(h:PW X e t):PT X e t:=h _
def PA (X:Cx) (es:List Expr) (t:TA):Prop:=
 ∀ (pos:Pos) (pins:List (Addr × Obj)) (s:Shared) (σ:St) (H:Hp) (Q:List V→Hp→Prop),Inv X pins σ H s→t σ H Q→wpAny (model X.prog X.w) X.A (spliced (backTo pos (starEach es X.env))) (AP X pins σ Q) X.xe s
def PS (X:Cx) (st:Stmt) (t:TS):Prop:=
 ∀ (pins:List (Addr × Obj)) (s:Shared) (σ:St) (H:Hp) (D:Ends),Inv X pins σ H s→t D σ H→wpAny (model X.prog X.w) X.A (exec st X.env) (SP X pins D) X.xe s
def vA (X:Cx) (st:List Stmt) (t:TS):Prop:=
 ∀ (pins:List (Addr × Obj)) (s:Shared) (σ:St) (H:Hp) (D:Ends),Inv X pins σ H s→t D σ H→wpAny (model X.prog X.w) X.A (execs st X.env) (SP X pins D) X.xe s
theorem cJ {α:Type}{t:Sem α}{Q Q' : α→Shared→Prop} {M:Model}{A:Around}{E:Value→Shared→Prop}{s:Shared}(h:wpAny M A t Q E s) (hQ:∀ a s,Q a s→Q' a s):wpAny M A t Q' E s:=wpAny_mono h hQ fun _ _ x=>x
end L2
namespace L2
open PySem PySem.Spec PyProof.Rows
section
variable {X:Cx}
def cE (i:Nat):TE:=fun σ H Q=>∃ v,σ[i]? = some (some v)∧Q v H
def tC (v:V):TE:=fun _ H Q=>Q v H
theorem Es {i:Nat}{x:Str}{pos:Pos}(hN:X.N[i]? = some x) (hv:X3 X.env.scope x) (hd:(x == ("__debug__" : Str)) = false:=by decide) (hcd:(x == ("__classdict__" : Str)) = false:=by decide):PE X (.Name x pos) (cE i):=by
 intro pins s σ H Q I h
 obtain ⟨v,e,h⟩:=h
 obtain ⟨m,hn,hl⟩:=I.loc
 obtain ⟨u,r,l⟩:=hl i x v hN e hv
 have fin:EP X pins σ Q u s:=⟨v,H,I,r,h⟩
 rcases l with ⟨hk,hm⟩ | ⟨hk,c,hc,hcell⟩
 ·exact wpAny_Name (wpAny_loadName_local I.ok.kind hk hn hm fin) hd
 ·rcases hk with hk | hk
  ·exact wpAny_Name (wpAny_loadName_cell I.ok.kind hk hc hcell fin) hd
  ·exact wpAny_Name (wpAny_loadName_free I.ok.kind hk hc hcell fin hcd) hd
theorem au {i j pos}:PE X (.Constant (.int i) j pos) (tC (.int i)):=fun _ _ _ H _ I h=>wpAny_Constant_int ⟨.int i,H,I.tok _,⟨_,rfl⟩,h⟩
theorem jg {b j pos}:PE X (.Constant (.bool b) j pos) (tC (.bl b)):=fun _ _ _ H _ I h=>Constant_bool ⟨.bl b,H,I,rfl,h⟩
theorem AH {j pos}:PE X (.Constant .none j pos) (tC .gk):=fun _ _ _ H _ I h=>Constant_none ⟨.gk,H,I,rfl,h⟩
theorem bg {x j pos}:PE X (.Constant (.str x) j pos) (tC (.str x)):=fun _ _ _ H _ I h=>Calls.Constant_str ⟨.str x,H,I.tok _,⟨_,rfl⟩,h⟩
def Gl (X:Cx) (x:Str):Prop:=X.env.kindOf x = some .globalImplicit
theorem tu {E:Value→Shared→Prop}{pins:List (Addr × Obj)}{s:Shared}{σ:St}{H:Hp}{x:Str}{u:Value}{pos:Pos}{Q:Value→Shared→Prop}(I:Inv X pins σ H s) (hg:Gl X x) (hm:X.mg x = some u) (h:Q u s)
  (hd:(x == ("__debug__" : Str)) = false:=by decide):wpAny (model X.prog X.w) X.A (eval (.Name x pos) X.env) Q E s:=
 Calls.Name_function_global I.ok.kind hg (Calls.loadGlobal_global (by rw [I.ok.glob];exact I.mod.glob.keeps I.bk) hm h) hd
theorem lP {E:Value→Shared→Prop}{pins:List (Addr × Obj)}{s:Shared}{σ:St}{H:Hp}{x:Str}{u:Value}{pos:Pos}{Q:Value→Shared→Prop}(I:Inv X pins σ H s) (hg:Gl X x) (hm:X.mg x = none) (hv:bootBuiltins x = some u) (h:Q u s)
  (hn:x≠ "__name__" := by decide) (hd:(x == ("__debug__" : Str)) = false:=by decide):wpAny (model X.prog X.w) X.A (eval (.Name x pos) X.env) Q E s:=by
 obtain ⟨mb,h1,h2⟩:=I.mod.blt
 exact Calls.Name_function_global I.ok.kind hg (Calls.loadGlobal_builtin (by rw [I.ok.glob];exact I.mod.glob.keeps I.bk) hm (by rw [I.ok.blt];exact h1.keeps I.bk) ((h2 x hn).trans hv) h) hd
theorem tw {x:Str}{v:V}{u:Value}{pos:Pos}(hg:Gl X x) (hm:X.mg x = some u) (r:RelV v u) (hd:(x == ("__debug__" : Str)) = false:=by decide):PE X (.Name x pos) (tC v):=
 fun _ _ _ H _ I h=>tu I hg hm ⟨v,H,I,r,h⟩ hd
theorem wY {x:Str}{v:V}{u:Value}{pos:Pos}(hg:Gl X x) (hm:X.mg x = none) (hv:bootBuiltins x = some u) (r:RelV v u) (hn:x≠ "__name__" := by decide) (hd:(x == ("__debug__" : Str)) = false:=by decide):PE X (.Name x pos) (tC v):=
 fun _ _ _ H _ I h=>lP I hg hm hv ⟨v,H,I,r,h⟩ hn hd
variable {a b:Expr}{ta tb:TE}{pos:Pos}
def tB (t:TE):TT:=fun σ H Q=>t σ H fun x H1=>∃ c,x = .bl c∧Q c H1
theorem lQ {e:Expr}{t:TE}(h:PE X e t) (he:∀ whole,isTrue e X.env whole = (do let v ← whole;standAt e.pos;holding [v] (truthy v)):=by intro _;rfl):PT X e (tB t):=by
 intro pins s σ H Q I hw
 refine isTrue_plain (cJ (h pins s σ H _ I hw) fun v s1 ⟨x,H1,I1,r1,q1⟩=>?_) (he _)
 obtain ⟨d,rfl,q⟩:=q1
 cases r1
 exact wpAny_truthy_bool ⟨H1,I1,q⟩
variable {tA X4:TT}{rest:List Expr}
def Q8 (t u:TT):TT:=fun σ H Q=>t σ H fun c H1=>if c = true then u σ H1 Q else Q false H1
def tOr (t u:TT):TT:=fun σ H Q=>t σ H fun c H1=>if c = true then Q true H1 else u σ H1 Q
def Q9 (t:TT):TT:=fun σ H Q=>t σ H fun c H1=>Q (!c) H1
theorem Ii (ha:PT X a tA):PW X (.BoolOp .And [a] pos) tA:=by
 intro wh pins s σ H Q I h
 refine isTrue_and (cJ (ha pins s σ H Q I h) fun c s1 e=>?_)
 cases c with
 | true=>exact isTrue_and_nil e
 | false=>exact e
theorem qH (ha:PT X a tA):PW X (.BoolOp .Or [a] pos) tA:=by
 intro wh pins s σ H Q I h
 refine isTrue_or (cJ (ha pins s σ H Q I h) fun c s1 e=>?_)
 cases c with
 | false=>exact isTrue_or_nil e
 | true=>exact e
theorem N2 (ha:PT X a tA) (hb:PW X (.BoolOp .And (b :: rest) pos) X4):PW X (.BoolOp .And (a :: b :: rest) pos) (Q8 tA X4):=by
 intro wh pins s σ H Q I h
 refine isTrue_and (cJ (ha pins s σ H _ I h) fun c s1 ⟨H1,I1,q1⟩=>?_)
 cases c with
 | true=>exact hb wh pins s1 σ H1 Q I1 q1
 | false=>exact ⟨H1,I1,q1⟩
theorem tT (ha:PT X a tA) (hb:PW X (.BoolOp .Or (b :: rest) pos) X4):PW X (.BoolOp .Or (a :: b :: rest) pos) (tOr tA X4):=by
 intro wh pins s σ H Q I h
 refine isTrue_or (cJ (ha pins s σ H _ I h) fun c s1 ⟨H1,I1,q1⟩=>?_)
 cases c with
 | true=>exact ⟨H1,I1,q1⟩
 | false=>exact hb wh pins s1 σ H1 Q I1 q1
theorem AI (ha:PT X a tA):PT X (.UnaryOp .Not a pos) (Q9 tA):=by
 intro pins s σ H Q I h
 exact isTrue_not (ha pins s σ H (fun c H1=>Q (!c) H1) I h)
def Mt (ta tb:TE):TE:=fun σ H Q=>ta σ H fun x H1=>∃ c,x = .bl c∧if c = true then tb σ H1 Q else Q (.bl false) H1
def Rc (ta tb:TE):TE:=fun σ H Q=>ta σ H fun x H1=>∃ c,x = .bl c∧if c = true then Q (.bl true) H1 else tb σ H1 Q
def Mu (ta:TE):TE:=fun σ H Q=>ta σ H fun x H1=>∃ c,x = .bl c∧Q (.bl (!c)) H1
theorem wZ {op} {t:TE}(h:PE X a t):PE X (.BoolOp op [a] pos) t:=fun pins s σ H Q I hw=>BoolOp_one (h pins s σ H Q I hw)
theorem Et (ha:PE X a ta) (hb:PE X (.BoolOp .And (b :: rest) pos) tb):PE X (.BoolOp .And (a :: b :: rest) pos) (Mt ta tb):=by
 intro pins s σ H Q I h
 refine BoolOp_and (cJ (ha pins s σ H _ I h) fun v s1 ⟨x,H1,I1,r1,q1⟩=>?_)
 obtain ⟨c,rfl,q1⟩:=q1
 cases r1
 refine wpAny_truthy_bool ?_
 cases c with
 | true=>exact hb pins s1 σ H1 Q I1 q1
 | false=>exact ⟨.bl false,H1,I1,rfl,q1⟩
theorem Mv (ha:PE X a ta) (hb:PE X (.BoolOp .Or (b :: rest) pos) tb):PE X (.BoolOp .Or (a :: b :: rest) pos) (Rc ta tb):=by
 intro pins s σ H Q I h
 refine BoolOp_or (cJ (ha pins s σ H _ I h) fun v s1 ⟨x,H1,I1,r1,q1⟩=>?_)
 obtain ⟨c,rfl,q1⟩:=q1
 cases r1
 refine wpAny_truthy_bool ?_
 cases c with
 | false=>exact hb pins s1 σ H1 Q I1 q1
 | true=>exact ⟨.bl true,H1,I1,rfl,q1⟩
theorem Eu (ha:PE X a ta):PE X (.UnaryOp .Not a pos) (Mu ta):=by
 intro pins s σ H Q I h
 refine UnaryOp_ (cJ (ha pins s σ H _ I h) fun v s1 ⟨x,H1,I1,r1,q1⟩=>?_)
 obtain ⟨c,rfl,q1⟩:=q1
 cases r1
 exact not_of (wpAny_truthy_bool ⟨.bl (!c),H1,I1,rfl,q1⟩)
def tIf (t:TT) (ta tb:TE):TE:=fun σ H Q=>t σ H fun c H1=>if c = true then ta σ H1 Q else tb σ H1 Q
theorem jh {c:Expr}(hc:PT X c tA) (ha:PE X a ta) (hb:PE X b tb):PE X (.IfExp c a b pos) (tIf tA ta tb):=by
 intro pins s σ H Q I h
 refine wpAny_IfExp (cJ (hc pins s σ H _ I h) fun d s1 ⟨H1,I1,q1⟩=>?_)
 cases d with
 | true=>exact ha pins s1 σ H1 Q I1 q1
 | false=>exact hb pins s1 σ H1 Q I1 q1
end
end L2
namespace L2
open PySem PySem.Spec PyProof.Rows
def b9 (K:PySem.W.Frag) (H:Hp) (a:Addr) (xs:List V):Prop:=
 Rd H a (.lst xs)∨
  ∃ (o:Obj) (its:Array Value) (n:Nat),K.lookup a = some o∧o.cls = .type "list" ∧ o.dict = none∧o.data = .seq its n∧its.size≤sizeLine∧Vals xs its.toList
def eV (K:PySem.W.Frag) (H:Hp) (a:Addr) (xs:List V):Prop:=
 Rd H a (.tup xs)∨
  ∃ (o:Obj) (its:Array Value) (n:Nat),K.lookup a = some o∧o.cls = .type "tuple" ∧ o.data = .seq its n∧its.size≤sizeLine∧Vals xs its.toList
def Rf:Value→Option V
 | .none=>some .gk
 | .bool b=>some (.bl b)
 | .int i _=>some (.int i)
 | .str x _=>some (.str x)
 | .bytes b _=>some (.Eo b)
 | .float b _=>some (.flt b)
 | .ref a=>some (.ref a)
 | .type n=>some (.ty n)
 | _=>none
theorem RelV.abs {x:V}{u:Value}(r:RelV x u):Rf u = some x:=by
 cases x with
 | gk=>cases r;rfl
 | bl _=>cases r;rfl
 | int _=>obtain ⟨t,rfl⟩:=r;rfl
 | str _=>obtain ⟨t,rfl⟩:=r;rfl
 | Eo _=>obtain ⟨t,rfl⟩:=r;rfl
 | flt _=>obtain ⟨t,rfl⟩:=r;rfl
 | ref _=>cases r;rfl
 | ty _=>cases r;rfl
theorem RelV.inj {x y:V}{u:Value}(r:RelV x u) (q:RelV y u):x = y:=Option.some.inj (r.abs.symm.trans q.abs)
theorem Vals.inj:∀ {xs ys:List V}{us:List Value},Vals xs us→Vals ys us→xs = ys
 | _,_,_,.nil,.nil=>rfl
 | _,_,_,.cons r t,.cons r' t' => by rw [r.inj r',Vals.inj t t']
section
variable {X:Cx}{pins:List (Addr × Obj)}{σ:St}{H:Hp}{s:Shared}{a:Addr}{xs ys:List V}
theorem b9.of {K:PySem.W.Frag}(h:H a = some (.lst xs)):b9 K H a xs:=.inl (.inl h)
theorem eV.of {K:PySem.W.Frag}(h:H a = some (.tup xs)):eV K H a xs:=.inl (.inl h)
theorem Inv.list (I:Inv X pins σ H s) (h:b9 X.K H a xs):∃ its:List Value,Vals xs its∧PlainL s.heap a its.toArray∧xs.length≤sizeLine:=by
 rcases h with h | ⟨o,its,n,hk,hc,hd,hs,hz,r⟩
 ·obtain ⟨z,its,n,r,e⟩:=h.ok I.hok
  exact ⟨its,r,⟨_,n,e,rfl,rfl,rfl⟩,z⟩
 ·refine ⟨its.toList,r,⟨o,n,I.tQ a o hk,hc,hd,by simpa using hs⟩,?_⟩
  have e:=r.length
  simp only [Array.length_toList] at e
  omega
theorem Inv.tuple (I:Inv X pins σ H s) (h:eV X.K H a xs):∃ its:List Value,Vals xs its∧IsTup s.heap a its.toArray∧xs.length≤sizeLine:=by
 rcases h with h | ⟨o,its,n,hk,hc,hs,hz,r⟩
 ·obtain ⟨z,its,r,p,_⟩:=h.ok I.hok
  exact ⟨its,r,p,z⟩
 ·refine ⟨its.toList,r,⟨o,I.tQ a o hk,hc,n,by simpa using hs⟩,?_⟩
  have e:=r.length
  simp only [Array.length_toList] at e
  omega
theorem Inv.yK (I:Inv X pins σ H s) (h:b9 X.K H a xs) (h' : b9 X.K H a ys):xs = ys:=by
 obtain ⟨its,r,⟨o,n,e,_,_,d⟩,_⟩:=I.list h
 obtain ⟨its',r',⟨o',n',e',_,_,d'⟩,_⟩:=I.list h'
 rw [e] at e';cases e'
 rw [d] at d'
 injection d' with d1 _
 have:its = its' := by simpa using congrArg Array.toList d1
 subst this
 exact r.inj r'
theorem Inv.ou (I:Inv X pins σ H s) (h:eV X.K H a xs) (h' : eV X.K H a ys):xs = ys:=by
 obtain ⟨its,r,⟨o,e,_,n,d⟩,_⟩:=I.tuple h
 obtain ⟨its',r',⟨o',e',_,n',d'⟩,_⟩:=I.tuple h'
 rw [e] at e';cases e'
 rw [d] at d'
 injection d' with d1 _
 have:its = its' := by simpa using congrArg Array.toList d1
 subst this
 exact r.inj r'
end
abbrev Cx.sD (X:Cx) (E:Value→Shared→Prop):Cx:={ X with xe:=E }
abbrev Cx.CW (X:Cx):Cx:=X.sD fun _ _=>False
theorem Cx.Ok.sD {X:Cx}(ok:X.Ok) (E:Value→Shared→Prop):(X.sD E).Ok:=
 ⟨ok.mod,ok.kind,ok.glob,ok.blt,ok.above,ok.inj,ok.has,ok.NZ,ok.hd,ok.frames,ok.stk,ok.HY,ok.bs,ok.Ef,ok.AF,ok.AG,ok.qa,ok.Mr⟩
theorem Cx.Ok.kQ {X:Cx}{E:Value→Shared→Prop}(ok:(X.sD E).Ok):X.Ok:=
 ⟨ok.mod,ok.kind,ok.glob,ok.blt,ok.above,ok.inj,ok.has,ok.NZ,ok.hd,ok.frames,ok.stk,ok.HY,ok.bs,ok.Ef,ok.AF,ok.AG,ok.qa,ok.Mr⟩
section
variable {X:Cx}{pins:List (Addr × Obj)}{σ:St}{H:Hp}{s:Shared}{E:Value→Shared→Prop}
theorem Inv.sD (I:Inv X pins σ H s) (E:Value→Shared→Prop):Inv (X.sD E) pins σ H s:=⟨I.ok.sD E,I.os,I.bare,I.base,I.loc,I.cell,I.free,I.kZ,I.pin,I.hok,I.len⟩
theorem Inv.kQ (I:Inv (X.sD E) pins σ H s):Inv X pins σ H s:=⟨I.ok.kQ,I.os,I.bare,I.base,I.loc,I.cell,I.free,I.kZ,I.pin,I.hok,I.len⟩
theorem SP.kQ {D:Ends}{f:Flow}{s' : Shared} (h:SP (X.sD E) pins D f s'):SP X pins D f s' := by
 cases f with
 | next=>obtain ⟨σ',H',I,q⟩:=h;exact ⟨σ',H',I.kQ,q⟩
 | brk=>obtain ⟨σ',H',I,q⟩:=h;exact ⟨σ',H',I.kQ,q⟩
 | cont=>obtain ⟨σ',H',I,q⟩:=h;exact ⟨σ',H',I.kQ,q⟩
 | ret u=>obtain ⟨v,σ',H',I,r,q⟩:=h;exact ⟨v,σ',H',I.kQ,r,q⟩
theorem PE.CW {e:Expr}{t:TE}(h:PE X.CW e t):PE X e t:=fun pins s σ H Q I hw=>
 wpAny_mono (h pins s σ H Q (I.sD _) hw) (fun _ _ ⟨v,H',I',r,q⟩=>⟨v,H',I'.kQ,r,q⟩) fun _ _ z=>False.elim z
theorem PT.CW {e:Expr}{t:TT}(h:PT X.CW e t):PT X e t:=fun pins s σ H Q I hw=>
 wpAny_mono (h pins s σ H Q (I.sD _) hw) (fun _ _ ⟨H',I',q⟩=>⟨H',I'.kQ,q⟩) fun _ _ z=>False.elim z
theorem vA.CW {st:List Stmt}{t:TS}(h:vA X.CW st t):vA X st t:=fun pins s σ H D I hw=>
 wpAny_mono (h pins s σ H D (I.sD _) hw) (fun _ _ q=>q.kQ) fun _ _ z=>False.elim z
end
section
variable {X:Cx}{st:Stmt}{rest:List Stmt}{t u:TS}{e:Expr}{te:TE}{pos:Pos}
def Rg:TS:=fun D σ H=>D.nx σ H
def N3 (t u:TS):TS:=fun D σ H=>t { D with nx:=u D } σ H
theorem bA:vA X [] Rg:=fun _ _ σ H _ I h=>wpAny_execs_nil ⟨σ,H,I,h⟩
theorem aB (h1:PS X st t) (h2:vA X rest u):vA X (st :: rest) (N3 t u):=by
 intro pins s σ H D I h
 refine wpAny_execs_cons (cJ (h1 pins s σ H { D with nx:=u D } I h) fun f s1 q=>?_)
 cases f with
 | next=>
  obtain ⟨σ',H',I',q⟩:=q
  exact h2 pins s1 σ' H' D I' q
 | ret v=>exact q
 | brk=>exact q
 | cont=>exact q
theorem aG (h1:PS X st t):vA X [st] t:=by
 intro pins s σ H D I h
 refine wpAny_execs_cons (cJ (h1 pins s σ H D I h) fun f s1 q=>?_)
 cases f with
 | next=>exact wpAny_execs_nil q
 | ret v=>exact q
 | brk=>exact q
 | cont=>exact q
theorem Inv.quiet {pins:List (Addr × Obj)}{σ:St}{H:Hp}{s:Shared}(I:Inv X pins σ H s):interactive X.env = false:=by simp [interactive,I.ok.kind]
def Rh (te:TE):TS:=fun D σ H=>te σ H fun _ H1=>D.nx σ H1
theorem iU (he:PE X e te) (hs:swapsWith e none pos.line X.env = pure false:=by rfl):PS X (.Expr e pos) (Rh te):=by
 intro pins s σ H D I h
 exact wpAny_Expr_any (cJ (he pins s σ H _ I h) fun v s1 ⟨x,H1,I1,r1,q1⟩=>⟨σ,H1,I1,q1⟩) I.quiet hs
def Ij (te:TE):TS:=fun D σ H=>te σ H D.rt
theorem aQ (he:PE X e te):PS X (.Return (some e) pos) (Ij te):=by
 intro pins s σ H D I h
 exact wpAny_Return_some (cJ (he pins s σ H _ I h) fun v s1 ⟨x,H1,I1,r1,q1⟩=>⟨x,σ,H1,I1,r1,q1⟩)
def yL (c:TT) (t u:TS):TS:=fun D σ H=>c σ H fun b H1=>if b = true then t D σ H1 else u D σ H1
theorem bS {c:Expr}{a b:List Stmt}{tc:TT}(hc:PT X c tc) (ha:vA X a t) (hb:vA X b u):PS X (.If c a b pos) (yL tc t u):=by
 intro pins s σ H D I h
 refine wpAny_If (cJ (hc pins s σ H _ I h) fun d s1 ⟨H1,I1,q1⟩=>?_)
 cases d with
 | true=>exact ha pins s1 σ H1 D I1 q1
 | false=>exact hb pins s1 σ H1 D I1 q1
end
abbrev TG:=V→St→Hp→(St→Hp→Prop)→Prop
abbrev N4:=List V→St→Hp→(St→Hp→Prop)→Prop
def PG (X:Cx) (target:Expr) (t:TG):Prop:=
 ∀ (pins:List (Addr × Obj)) (s:Shared) (σ:St) (H:Hp) (v:V) (u:Value) (Q:St→Hp→Prop),Inv X pins σ H s→RelV v u→t v σ H Q→
  wpAny (model X.prog X.w) X.A (assign target X.env u) (fun _ s' => ∃ σ' H',Inv X pins σ' H' s' ∧ Q σ' H') X.xe s
def X5 (X:Cx) (ts:List Expr) (t:N4):Prop:=
 ∀ (pins:List (Addr × Obj)) (s:Shared) (σ:St) (H:Hp) (vs:List V) (us:List Value) (Q:St→Hp→Prop),Inv X pins σ H s→Vals vs us→t vs σ H Q→
  wpAny (model X.prog X.w) X.A (assignInOrder ((assignEach ts X.env).map (·.2)) us) (fun _ s' => ∃ σ' H',Inv X pins σ' H' s' ∧ Q σ' H') X.xe s
abbrev N5:=V→V→V→Hp→(Hp→Prop)→Prop
def Ri (X:Cx) (t:N5):Prop:=
 ∀ (pins:List (Addr × Obj)) (s:Shared) (σ:St) (H:Hp) (o i v:V) (ov iv u:Value) (Q:Hp→Prop),Inv X pins σ H s→RelV o ov→RelV i iv→RelV v u→t o i v H Q→
  wpAny (model X.prog X.w) X.A (setItem ov iv u) (fun _ s' => ∃ H',Inv X pins σ H' s' ∧ Q H') X.xe s
section
variable {X:Cx}{pos:Pos}
def m9 (i:Nat):TG:=fun v σ H Q=>Q (σ.set i (some v)) H
theorem dj {i:Nat}{x:Str}(hN:X.N.Nodup) (hi:X.N[i]? = some x) (hx:Loc X.env.scope x) (hf:X.fn x = true∨X.env.scope.names.lookup x = some .local:=by first | exact .inl rfl | exact .inr rfl | assumption):PG X (.Name x pos) (m9 i):=by
 intro pins s σ H v u Q I r h
 exact wpAny_assign_Name (lg I hN hi hx r (fun s' I' => ⟨_,H,I',h⟩) hf)
def Rj:N4:=fun vs σ H Q=>vs = []∧Q σ H
def Ew (t:TG) (u:N4):N4:=fun vs σ H Q=>∃ v r,vs = v :: r∧t v σ H fun σ' H' => u r σ' H' Q
theorem xg:X5 X [] Rj:=by
 intro pins s σ H vs us Q I r h
 obtain ⟨e,h⟩:=h
 subst e
 cases r
 exact assignInOrder_nil ⟨σ,H,I,h⟩
theorem lq {e:Expr}{es:List Expr}{t:TG}{u:N4}(h1:PG X e t) (h2:X5 X es u)
  (hs:(assignEach (e :: es) X.env).map (·.2) = assign e X.env :: (assignEach es X.env).map (·.2):=by rfl):X5 X (e :: es) (Ew t u):=by
 intro pins s σ H vs us Q I r h
 obtain ⟨v,vr,e1,h⟩:=h
 subst e1
 cases r with
 | cons r rr=>
  rw [hs]
  refine assignInOrder_cons (cJ (h1 pins s σ H _ _ _ I r h) fun _ s1 ⟨σ1,H1,I1,q1⟩=>?_)
  exact h2 pins s1 σ1 H1 _ _ Q I1 rr q1
def Rk (K:PySem.W.Frag) (n:Nat) (t:N4):TG:=fun v σ H Q=>∃ a xs,v = .ref a∧eV K H a xs∧xs.length = n∧t xs σ H Q
theorem AJ {es:List Expr}{k:Nat}{t:N4}{n:Nat}(hc:X.calm = true) (h:X5 X es t)
  (hn:(assignEach es X.env).length = n:=by rfl) (hst:(assignEach es X.env).findIdx? (·.1) = none:=by rfl):PG X (.Tuple es k pos) (Rk X.K n t):=by
 intro pins s σ H v u Q I r hw
 obtain ⟨a,xs,e1,hq,hl,hw⟩:=hw
 subst e1
 cases r
 obtain ⟨its,rv,ht,hz⟩:=I.tuple hq
 refine assign_Tuple_tuple (I.ok.hd hc) ht (by simp [hn,← hl,rv.length]) hst fun h' hx=>?_
 have I1:Inv X pins σ H { s with heap:=h' }:=I.kept (t' := s.toks) fun b o e=>hx b o (Nat.ne_of_lt (Heap.lt_size e)) e
 exact h pins _ σ H xs _ Q I1 (by simpa using rv) hw
def Zs (to ti:TE) (t:N5):TG:=fun v σ H Q=>to σ H fun o H1=>ti σ H1 fun i H2=>t o i v H2 fun H3=>Q σ H3
theorem xh {o i:Expr}{to ti:TE}{t:N5}(ho:PE X o to) (hi:PE X i ti) (hs:Ri X t)
  (ha:∀ v,assign (.Subscript o i pos) X.env v = (do
   let ov ← holding [v] (eval o X.env)
   let iv ← holding [v,ov] (eval i X.env)
   standAt pos
   holding [v,ov,iv] (setItem ov iv v)
   release [v,ov,iv] []):=by intro _;rfl):PG X (.Subscript o i pos) (Zs to ti t):=by
 intro pins s σ H v u Q I r h
 rw [ha]
 refine wpAny_bind (wpAny_holding (cJ (ho pins s σ H _ I h) fun ov s1 ⟨x,H1,I1,r1,q1⟩=>?_))
 refine wpAny_bind (wpAny_holding (cJ (hi pins s1 σ H1 _ I1 q1) fun iv s2 ⟨y,H2,I2,r2,q2⟩=>?_))
 refine wpAny_bind (wpAny_standAt (wpAny_bind (wpAny_holding (cJ (hs pins s2 σ H2 x y v ov iv u _ I2 r1 r2 r q2) fun _ s3 ⟨H3,I3,q3⟩=>?_))))
 exact wpAny_release ⟨σ,H3,I3,q3⟩
def AK (te:TE) (g:TG):TS:=fun D σ H=>te σ H fun x H1=>g x σ H1 D.nx
theorem xj {tg e:Expr}{te:TE}{g:TG}(he:PE X e te) (hg:PG X tg g) (hs:swapsWithSole [tg] e pos.line X.env = pure false:=by rfl) (hw:swappedStores [tg] e X.env = pure none:=by rfl)
  (h1:(assignEach [tg] X.env).map (·.2) = [assign tg X.env]:=by rfl):PS X (.Assign [tg] e pos) (AK te g):=by
 intro pins s σ H D I h
 refine wpAny_Assign_stores (cJ (he pins s σ H _ I h) fun v s1 ⟨x,H1,I1,r1,q1⟩=>?_) hs hw
 rw [h1]
 exact cJ (hg pins s1 σ H1 x v _ I1 r1 q1) fun _ s2 q=>q
theorem bx {i:Nat}{x:Str}{e:Expr}{te:TE}{pos' : Pos} (hN:X.N.Nodup) (hi:X.N[i]? = some x) (hx:Loc X.env.scope x) (he:PE X e te) (hs:swapsWith e (some (.Name x pos')) pos.line X.env = pure false:=by rfl) (hf:X.fn x = true∨X.env.scope.names.lookup x = some .local:=by first | exact .inl rfl | exact .inr rfl | assumption):
  PS X (.Assign [.Name x pos'] e pos) (AK te (m9 i)):=by
 intro pins s σ H D I h
 refine wpAny_Assign_Name (cJ (he pins s σ H _ I h) fun v s1 ⟨y,H1,I1,r1,q1⟩=>?_) hs
 exact lg I1 hN hi hx r1 (fun s2 I2=>⟨_,H1,I2,q1⟩) hf
def Zt (i j:Nat) (ta:TA):TS:=fun D σ H=>ta σ H fun vs H1=>∃ v w,vs = [v,w]∧D.nx ((σ.set i (some v)).set j (some w)) H1
theorem N6 {i j:Nat}{x y:Str}{a b:Expr}{ta:TA}{px py pt:Pos}{kt k2 pt2} (hc:X.calm = true) (hN:X.N.Nodup) (hi:X.N[i]? = some x) (hj:X.N[j]? = some y) (hij:i≠j)
  (hx:X.env.scope.names.lookup x = some .local) (hy:X.env.scope.names.lookup y = some .local) (ha:PA X [a,b] ta)
  (hw:swappedStores [.Tuple [.Name x px,.Name y py] kt pt] (.Tuple [a,b] k2 pt2) X.env = pure (some [x,y]))
  (hs:swapsWithSole [.Tuple [.Name x px,.Name y py] kt pt] (.Tuple [a,b] k2 pt2) pos.line X.env = pure false:=by rfl):
  PS X (.Assign [.Tuple [.Name x px,.Name y py] kt pt] (.Tuple [a,b] k2 pt2) pos) (Zt i j ta):=by
 intro pins s σ H D I h
 rw [exec_Assign_arm]
 refine wpAny_bind (wpAny_standAt ?_)
 rw [hs]
 refine wpAny_bind (wpAny_pure ?_)
 rw [if_neg (by decide)]
 refine wpAny_bind (Tuple_ (cJ (ha _ pins s σ H _ I h) fun us s1 ⟨vs,H1,I1,r1,q1⟩=>?_))
 obtain ⟨v,w,e1,q1⟩:=q1
 subst e1
 obtain ⟨u1,u2,rfl,rv,rw'⟩:∃ u1 u2,us = [u1,u2]∧RelV v u1∧RelV w u2:=by
  cases r1 with
  | cons p q=>
   cases q with
   | cons p' q' =>
    cases q'
    exact ⟨_,_,rfl,p,p'⟩
 refine wpAny_newObj_type ?_ (by show 2≤sizeLine;decide)
 have I2:Inv X pins σ H1 { s1 with heap:=s1.heap.push { cls:=.type "tuple",data:=.seq [u1,u2].toArray } }:=I1.kept (t' := s1.toks) fun b o e=>Heap.get?_push_of_some _ e
 rw [hw]
 refine wpAny_bind (wpAny_pure ?_)
 show wpAny (model X.prog X.w) X.A (do rule "assign.swapped-stores";let items ← unpackItems (.ref s1.heap.objs.size) 2 none;assignInOrder [fun v=>bindName X.env y v,fun v=>bindName X.env x v] items.reverse;pure Flow.next) _ _ _
 refine wpAny_bind (wpAny_rule (wpAny_bind (unpackItems_tuple (items:=#[u1,u2]) (I.ok.hd hc) (IsTup.new s1.heap _) fun h' hx' => ?_)))
 have I3:=I2.kept (h' := h') (t' := s1.toks) fun b o e=>hx' b o (Nat.ne_of_lt (Heap.lt_size e)) e
 show wpAny _ _ (assignInOrder [fun v=>bindName X.env y v,fun v=>bindName X.env x v] [u2,u1] >>= fun _=>pure Flow.next) _ _ _
 refine wpAny_bind (assignInOrder_cons (wpAny_bindName (lg I3 hN hj (.inl hy) rw' (fun s2 I4=>?_) (.inr hy))))
 refine assignInOrder_cons (wpAny_bindName (lg I4 hN hi (.inl hx) rv (fun s3 I5=>assignInOrder_nil (wpAny_pure ?_)) (.inr hx)))
 rw [List.set_comm _ _ (Ne.symm hij)] at I5
 exact ⟨_,H1,I5,q1⟩
end
section
variable {X:Cx}{pos:Pos}
def Ex (c:TT) (tb:TS):TS:=fun D σ H=>∃ W:Nat→St→Hp→Prop,(∃ m,W m σ H)∧∀ m σ H,W m σ H→
 c σ H fun b H1=>if b = true then ∃ N:St→Hp→Prop,(∀ σ' H',N σ' H' → ∃ m',m' < m∧W m' σ' H')∧tb { D with nx:=N,ct:=N,bk:=D.nx } σ H1 else D.nx σ H1
theorem tU {c:Expr}{body:List Stmt}{tc:TT}{tb:TS}(hp:PassesOwn (model X.prog X.w) X.A X.env X.xe) (hc:PT X c tc) (hb:vA X body tb):PS X (.While c body [] pos) (Ex tc tb):=by
 intro pins s σ H D I h
 obtain ⟨W,⟨m0,w0⟩,turn⟩:=h
 refine wpAny_While (codeAny_whileLoop (fun n s' => ∃ σ' H',Inv X pins σ' H' s' ∧ W n σ' H') ?_ m0 ⟨σ,H,I,w0⟩)
 rintro n s1 ⟨σ1,H1,I1,w1⟩
 refine wpAny_passesOwn hp (cJ (hc pins s1 σ1 H1 _ I1 (turn n σ1 H1 w1)) fun b s2 ⟨H2,I2,q2⟩=>?_)
 cases b with
 | true=>
  obtain ⟨N,hN,q2⟩:=q2
  rw [if_pos rfl]
  refine wpAny_passesOwn hp (cJ (hb pins s2 σ1 H2 _ I2 q2) fun f s3 q3=>?_)
  cases f with
  | next=>
   obtain ⟨σ3,H3,I3,n3⟩:=q3
   obtain ⟨m',hm,w3⟩:=hN σ3 H3 n3
   exact ⟨m',hm,σ3,H3,I3,w3⟩
  | cont=>
   obtain ⟨σ3,H3,I3,n3⟩:=q3
   obtain ⟨m',hm,w3⟩:=hN σ3 H3 n3
   exact ⟨m',hm,σ3,H3,I3,w3⟩
  | brk=>exact q3
  | ret v=>exact q3
 | false=>
  rw [if_neg Bool.false_ne_true]
  exact wpAny_execs_nil ⟨σ1,H2,I2,q2⟩
end
structure It where
 go:Nat→Hp→Prop
 AD:Nat→Hp→V→Hp→Prop
 stop:Nat→Hp→Prop
def lu (X:Cx) (pins:List (Addr × Obj)) (H:Hp) (b:Addr):Prop:=
 H b = none∧b≠X.env.locals∧b ∉ X.fs∧(b∈X.ex∨X.s₀.heap.objs.size≤b)∧(∀ x c,X.env.cells.lookup x = some c→c≠b)∧∀ p∈X.pn ++ pins,p.1≠b
theorem Inv.CY {X:Cx}{pins:List (Addr × Obj)}{σ:St}{H H' : Hp} {s:Shared}{b:Addr}(I:Inv X pins σ H s) (hb:s.heap.objs.size≤b) (hn:H' b = none):lu X pins H' b:=by
 refine ⟨hn,Nat.ne_of_gt (Nat.lt_of_lt_of_le I.lt hb),I.Zq hb,.inr (Nat.le_trans I.sz hb),fun x c e z=>?_,fun p hp z=>?_⟩
 ·obtain ⟨v,q⟩:=I.cell x c e
  exact absurd (Nat.lt_of_lt_of_le q.lt (by rw [z];exact hb)) (Nat.lt_irrefl _)
 ·exact absurd (Nat.lt_of_lt_of_le (Heap.lt_size (I.pin p hp).1) (by rw [z];exact hb)) (Nat.lt_irrefl _)
structure Turn (P:Program) (w:World) (K:PySem.W.Frag) (tg:Expr) (J:It) (fp:List Addr) (it:Addr) (tn:Nat→Heap→Prop):Prop where
 mem:it∈fp
 obj:∀ i h,tn i h→∀ b∈fp,∃ o,h.get? b = some o∧∀ v,o.data≠.cell v
 keep:∀ i h h',tn i h→(∀ b∈fp,∀ o,h.get? b = some o→h'.get? b = some o)→tn i h'
 item:∀ (X:Cx),X.prog = P→X.w = w→X.K = K→X.calm = true→∀ (i:Nat) (pins:List (Addr × Obj)) (s:Shared) (σ:St) (H:Hp) (E:Value→Shared→Prop),Inv X pins σ H s→(∀ b∈fp,lu X pins H b)→tn i s.heap→J.go i H→
  wpAny (model P w) X.A (pyNext (.ref it)) (fun r s1=>∃ u,r = some u∧
   wpAny (model P w) X.A (letOwnedTupleGo tg (.ref it) u) (fun _ s2=>∃ x H',Inv X pins σ H' s2∧RelV x u∧J.AD i H x H' ∧ tn (i + 1) s2.heap∧∀ b∈fp,H' b = none) E s1) E s
 done:∀ (X:Cx),X.prog = P→X.w = w→X.K = K→X.calm = true→∀ (i:Nat) (pins:List (Addr × Obj)) (s:Shared) (σ:St) (H:Hp) (E:Value→Shared→Prop),Inv X pins σ H s→(∀ b∈fp,lu X pins H b)→tn i s.heap→J.stop i H→
  wpAny (model P w) X.A (pyNext (.ref it)) (fun r s1=>r = none∧Inv X pins σ H s1) E s
 self:∀ (A:Around) (i:Nat) (s:Shared) (Q:Value→Shared→Prop) (E:Value→Shared→Prop),tn i s.heap→Q (.ref it) s→wpAny (model P w) A (pyIter (.ref it)) Q E s
abbrev TI:=St→Hp→(It→Hp→Prop)→Prop
def PIE (X:Cx) (pins:List (Addr × Obj)) (σ:St) (tg:Expr) (R:It→Hp→Prop) (itv:Value) (s2:Shared):Prop:=
 ∃ (it:Addr) (fp:List Addr) (tn:Nat→Heap→Prop) (J:It) (H' : Hp),itv = .ref it∧Inv X pins σ H' s2∧Turn X.prog X.w X.K tg J fp it tn∧tn 0 s2.heap∧(∀ b∈fp,lu X pins H' b)∧R J H'
def PI (X:Cx) (tg iter:Expr) (wi:TI):Prop:=
 ∀ (pins:List (Addr × Obj)) (s:Shared) (σ:St) (H:Hp) (R:It→Hp→Prop),Inv X pins σ H s→wi σ H R→
  wpAny (model X.prog X.w) X.A (eval iter X.env) (fun v s1=>wpAny (model X.prog X.w) X.A (pyIter v) (PIE X pins σ tg R) X.xe s1) X.xe s
theorem Cc {M:Model}{A:Around}{E:Value→Shared→Prop}{s:Shared}{tg:Expr}{it:Addr}{u:Value}{o:Obj}{n:String}{vs:Array Value}{Q:Unit→Shared→Prop}(ho:s.heap.get? it = some o) (hc:o.cls = .type n) (hd:o.data = .fields vs)
  (hn:["enumerate", "zip", "dict_itemiterator", "dict_reverseitemiterator", "odict_iterator", "itertools.zip_longest", "itertools.pairwise"].contains n = false) (hQ:Q () s):wpAny M A (letOwnedTupleGo tg (.ref it) u) Q E s:=by
 unfold letOwnedTupleGo
 cases tg <;> first
  | exact wpAny_pure hQ
  | (cases u <;> first
    | exact wpAny_pure hQ
    | (refine wpAny_bind (wpAny_load ho ?_);rw [hc,hd];show wpAny M A (if (["enumerate", "zip", "dict_itemiterator", "dict_reverseitemiterator", "odict_iterator", "itertools.zip_longest", "itertools.pairwise"].contains n && vs[0]? == some (rawInt _)) = true then _ else _) Q E s;rw [if_neg (by intro h;rw [hn,Bool.false_and] at h;cases h)];exact wpAny_pure hQ))
def QB (K:PySem.W.Frag) (a:Addr):It:=
 ⟨fun i H=>∃ xs x,b9 K H a xs∧xs[i]? = some x,fun i H x H' => H' = H∧∀ xs,b9 K H a xs→xs[i]? = some x,fun i H=>∃ xs,b9 K H a xs∧xs.length≤i⟩
def QC (K:PySem.W.Frag) (a:Addr):It:=
 ⟨fun i H=>∃ xs x,eV K H a xs∧xs[i]? = some x,fun i H x H' => H' = H∧∀ xs,eV K H a xs→xs[i]? = some x,fun i H=>∃ xs,eV K H a xs∧xs.length≤i⟩
def QD (lo:Int) (n:Nat):It:=⟨fun i _=>i < n,fun i H x H' => H' = H∧x = .int (lo + i),fun i _=>n≤i⟩
theorem CZ {P:Program}{w:World}{K:PySem.W.Frag}{tg:Expr}(a it:Addr):Turn P w K tg (QB K a) [it] it (fun i h=>h.IsListIter it a i) where
 mem:=by simp
 obj:=fun i h st b hb=>by
  have e:b = it:=by simpa using hb
  subst e
  obtain ⟨o,e,c,d⟩:=st
  exact ⟨o,e,fun v z=>by rw [d] at z;cases z⟩
 keep:=fun i h h' st k=>st.at fun o e=>k it (by simp) o e
 item:=by
  intro X hP hw hK hc i pins s σ H E I hf st hg
  subst hP hw hK
  obtain ⟨xs,x,hq,hx⟩:=hg
  obtain ⟨its,rv,p,hz⟩:=I.list hq
  obtain ⟨u,hu,ru⟩:=rv.get hx
  obtain ⟨f0,f1,f2,f3,f4,f5⟩:=hf it (by simp)
  refine wpAny_pyNext_list_item st p.isList (x:=u) (by simpa using hu) fun h' st' sb=>?_
  have I1:Inv X pins σ H { s with heap:=h' }:=I.turned (t' := s.toks) (fun b o hb e=>(sb.2 b hb).trans e) f0 f1 f3 f4 f5
  obtain ⟨o,e,c,d⟩:=id st'
  exact ⟨u,rfl,Cc (s:={ s with heap:=h' }) e c d (by decide) ⟨x,H,I1,ru,⟨rfl,fun ys hy=>by rw [I.yK hy hq];exact hx⟩,st',fun b hb=>(hf b hb).1⟩⟩
 done:=by
  intro X hP hw hK hc i pins s σ H E I hf st hg
  subst hP hw hK
  obtain ⟨xs,hq,hx⟩:=hg
  obtain ⟨its,rv,p,hz⟩:=I.list hq
  obtain ⟨f0,f1,f2,f3,f4,f5⟩:=hf it (by simp)
  have hl:=rv.length
  exact wpAny_pyNext_list_end (I.ok.hd hc) st p.isList (by simp;omega) fun h' eb=>⟨rfl,I.turned (t' := s.toks) (fun b o hb e=>eb b o hb e) f0 f1 f3 f4 f5⟩
 self:=fun _ _ _ _ _ st h=>wpAny_pyIter_listiter st h
theorem AL {P:Program}{w:World}{K:PySem.W.Frag}{tg:Expr}(a it:Addr):Turn P w K tg (QC K a) [it] it (fun i h=>h.IsTupleIter it a i) where
 mem:=by simp
 obj:=fun i h st b hb=>by
  have e:b = it:=by simpa using hb
  subst e
  obtain ⟨o,e,c,d⟩:=st
  exact ⟨o,e,fun v z=>by rw [d] at z;cases z⟩
 keep:=fun i h h' st k=>st.at fun o e=>k it (by simp) o e
 item:=by
  intro X hP hw hK hc i pins s σ H E I hf st hg
  subst hP hw hK
  obtain ⟨xs,x,hq,hx⟩:=hg
  obtain ⟨its,rv,p,hz⟩:=I.tuple hq
  obtain ⟨u,hu,ru⟩:=rv.get hx
  obtain ⟨f0,f1,f2,f3,f4,f5⟩:=hf it (by simp)
  refine wpAny_pyNext_tuple_item st (show s.heap.IsTuple a its.toArray from p) (x:=u) (by simpa using hu) fun h' st' sb=>?_
  have I1:Inv X pins σ H { s with heap:=h' }:=I.turned (t' := s.toks) (fun b o hb e=>(sb.2 b hb).trans e) f0 f1 f3 f4 f5
  obtain ⟨o,e,c,d⟩:=id st'
  exact ⟨u,rfl,Cc (s:={ s with heap:=h' }) e c d (by decide) ⟨x,H,I1,ru,⟨rfl,fun ys hy=>by rw [I.ou hy hq];exact hx⟩,st',fun b hb=>(hf b hb).1⟩⟩
 done:=by
  intro X hP hw hK hc i pins s σ H E I hf st hg
  subst hP hw hK
  obtain ⟨xs,hq,hx⟩:=hg
  obtain ⟨its,rv,p,hz⟩:=I.tuple hq
  obtain ⟨f0,f1,f2,f3,f4,f5⟩:=hf it (by simp)
  have hl:=rv.length
  exact wpAny_pyNext_tuple_end (I.ok.hd hc) st (show s.heap.IsTuple a its.toArray from p) (by simp;omega) fun h' eb=>⟨rfl,I.turned (t' := s.toks) (fun b o hb e=>eb b o hb e) f0 f1 f3 f4 f5⟩
 self:=fun _ _ _ _ _ st h=>wpAny_pyIter_tupleiter st h
theorem AM {P:Program}{w:World}{K:PySem.W.Frag}{tg:Expr}(it:Addr) (lo:Int) (n:Nat):Turn P w K tg (QD lo n) [it] it (fun i h=>IsRangeIter h it (lo + (i:Nat) * 1) ((n:Int) - (i:Nat)) 1) where
 mem:=by simp
 obj:=fun i h st b hb=>by
  have e:b = it:=by simpa using hb
  subst e
  exact ⟨_,st,fun v z=>by
   have z' : Data.fields _ = Data.cell v:=z
   cases z'⟩
 keep:=fun i h h' st k=>k it (by simp) _ st
 item:=by
  intro X hP hw hK hc i pins s σ H E I hf st hg
  subst hP hw hK
  obtain ⟨f0,f1,f2,f3,f4,f5⟩:=hf it (by simp)
  have W:=Walks.range (prog:=X.prog) (w:=X.w) (I.ok.hd hc) it lo 1 n
  refine W.item i s _ _ hg st fun v h' tk hv st' kk=>?_
  obtain ⟨t,rfl⟩:=hv
  have I1:Inv X pins σ H { s with heap:=h',toks:=tk }:=I.turned (fun b o hb e=>kk b o (by simpa using hb) e) f0 f1 f3 f4 f5
  refine ⟨_,rfl,Cc (s:={ s with heap:=h',toks:=tk }) (n:= "range_iterator") st' rfl rfl (by decide) ⟨.int (lo + i),H,I1,⟨t,?_⟩,⟨rfl,rfl⟩,st',fun b hb=>(hf b hb).1⟩⟩
  rw [Int.mul_one]
 done:=by
  intro X hP hw hK hc i pins s σ H E I hf st hg
  subst hP hw hK
  obtain ⟨f0,f1,f2,f3,f4,f5⟩:=hf it (by simp)
  exact wpAny_pyNext_range_end (I.ok.hd hc) st (by have:n≤i:=hg;omega) fun h' eb=>⟨rfl,I.turned (t' := s.toks) (fun b o hb e=>eb b o hb e) f0 f1 f3 f4 f5⟩
 self:=fun _ _ _ _ _ st h=>wpAny_pyIter_rangeiter st h
end L2
namespace L2
open PySem PySem.Spec PyProof.Rows
section
variable {X:Cx}{tg:Expr}
def Ey (K:PySem.W.Frag) (tl:TE):TI:=fun σ H R=>tl σ H fun x H1=>∃ a,x = .ref a∧(∃ xs,b9 K H1 a xs)∧R (QB K a) H1
def Rl (K:PySem.W.Frag) (tl:TE):TI:=fun σ H R=>tl σ H fun x H1=>∃ a,x = .ref a∧(∃ xs,eV K H1 a xs)∧R (QC K a) H1
theorem eW {l:Expr}{tl:TE}(hl:PE X l tl):PI X tg l (Ey X.K tl):=by
 intro pins s σ H R I h
 refine cJ (hl pins s σ H _ I h) fun v s1 ⟨x,H1,I1,r1,q1⟩=>?_
 obtain ⟨a,e,⟨xs,hq⟩,q⟩:=q1
 subst e
 cases r1
 obtain ⟨its,rv,p,hz⟩:=I1.list hq
 refine wpAny_pyIter_list p.isList ?_
 refine ⟨s1.heap.objs.size,[s1.heap.objs.size],_,_,H1,rfl,I1.kept (t' := s1.toks) fun b o e=>Heap.get?_push_of_some _ e,CZ a _,⟨_,Heap.get?_push_size _ rfl,rfl,rfl⟩,fun b hb=>?_,q⟩
 have e:b = s1.heap.objs.size:=by simpa using hb
 subst e
 exact I1.CY (Nat.le_refl _) (I1.hok.fresh (Nat.le_refl _))
theorem Ez {l:Expr}{tl:TE}(hl:PE X l tl):PI X tg l (Rl X.K tl):=by
 intro pins s σ H R I h
 refine cJ (hl pins s σ H _ I h) fun v s1 ⟨x,H1,I1,r1,q1⟩=>?_
 obtain ⟨a,e,⟨xs,hq⟩,q⟩:=q1
 subst e
 cases r1
 obtain ⟨its,rv,p,hz⟩:=I1.tuple hq
 refine wpAny_pyIter_tuple (show s1.heap.IsTuple a its.toArray from p) ?_
 refine ⟨s1.heap.objs.size,[s1.heap.objs.size],_,_,H1,rfl,I1.kept (t' := s1.toks) fun b o e=>Heap.get?_push_of_some _ e,AL a _,⟨_,Heap.get?_push_size _ rfl,rfl,rfl⟩,fun b hb=>?_,q⟩
 have e:b = s1.heap.objs.size:=by simpa using hb
 subst e
 exact I1.CY (Nat.le_refl _) (I1.hok.fresh (Nat.le_refl _))
theorem EA {pins:List (Addr × Obj)}{σ:St}{H:Hp}{s:Shared}{R:It→Hp→Prop}{E:Value→Shared→Prop}{lo hi:Int}{t u v:Tok}{tk:Nat}(I:Inv X pins σ H s) (h1:-(2 ^ 62)≤lo) (h2:lo < 2 ^ 62) (h3:-(2 ^ 62)≤hi) (h4:hi < 2 ^ 62)
  (q:R (QD lo (hi - lo).toNat) H):wpAny (model X.prog X.w) X.A (pyIter (.ref s.heap.objs.size)) (PIE X pins σ tg R) E { s with heap:=s.heap.push { cls:=.type "range",data:=.fields #[.int lo t,.int hi u,.int 1 v] },toks:=tk }:=by
 refine wpAny_pyIter_range (IsRange.new ..) (small_one h1 h2 h3 h4) ?_
 have I1:Inv X pins σ H { s with heap:=s.heap.push { cls:=.type "range",data:=.fields #[.int lo t,.int hi u,.int 1 v] },toks:=tk }:=I.kept fun b o e=>Heap.get?_push_of_some _ e
 refine ⟨(s.heap.push { cls:=.type "range",data:=.fields #[.int lo t,.int hi u,.int 1 v] }).objs.size,[(s.heap.push { cls:=.type "range",data:=.fields #[.int lo t,.int hi u,.int 1 v] }).objs.size],_,_,H,rfl,
  I1.kept (t' := tk) fun b o e=>Heap.get?_push_of_some _ e,AM _ lo (hi - lo).toNat,?_,fun b hb=>?_,q⟩
 ·have e1:lo + ((0:Nat):Int) * 1 = lo:=by simp
  have e2:(((hi - lo).toNat:Nat):Int) - ((0:Nat):Int) = Builtin.Range.rangeSize lo hi 1:=by rw [rangeSize_one];split <;> omega
  show IsRangeIter _ _ (lo + ((0:Nat):Int) * 1) ((((hi - lo).toNat:Nat):Int) - ((0:Nat):Int)) 1
  rw [e1,e2]
  exact Heap.get?_push_size _ rfl
 ·have e:b = (s.heap.push { cls:=.type "range",data:=.fields #[.int lo t,.int hi u,.int 1 v] }).objs.size:=by simpa using hb
  subst e
  exact I1.CY (Nat.le_refl _) (I1.hok.fresh (Nat.le_refl _))
def Mw (ta:TA):TI:=fun σ H R=>ta σ H fun vs H1=>∃ j:Int,vs = [.int j]∧-(2 ^ 62)≤j∧j < 2 ^ 62∧R (QD 0 j.toNat) H1
theorem jR {a:Expr}{ta:TA}{p pos:Pos}(hg:Gl X "range") (hm:X.mg "range" = none) (ha:PA X [a] ta) (hs:starEach [a] X.env = [(false,eval a X.env)]:=by rfl):PI X tg (.Call (.Name "range" p) [a] [] pos) (Mw ta):=by
 intro pins s σ H R I h
 refine Call_ (lP I hg hm boot_range (PyProof.Rows.callWith_type1 (cJ (ha pos pins s σ H _ I h) fun us s1 ⟨vs,H1,I1,r1,q1⟩=>?_) hs rfl))
 obtain ⟨j,e,q1,q2,q⟩:=q1
 subst e
 cases r1 with
 | cons r rr=>
  cases rr
  obtain ⟨t,rfl⟩:=r
  exact call_range_1 (EA I1 (by omega) (by omega) q1 q2 (by simpa using q))
def Zu (wi:TI) (g:TG) (tb:TS):TS:=fun D σ H=>wi σ H fun J H1=>∃ W:Nat→Nat→St→Hp→Prop,(∃ m,W 0 m σ H1)∧∀ i m σ H,W i m σ H→
 (J.stop i H∧D.nx σ H)∨(J.go i H∧∃ N:St→Hp→Prop,(∀ σ' H',N σ' H' → ∃ m',m' < m∧W (i + 1) m' σ' H')∧∀ x H',J.AD i H x H' → g x σ H' fun σ2 H2=>tb { D with nx:=N,ct:=N,bk:=D.nx } σ2 H2)
def gm (fp:List Addr) (h:Heap):List (Addr × Obj):=fp.filterMap fun b=>(h.get? b).map fun o=>(b,o)
theorem jV {fp:List Addr}{h:Heap}{b:Addr}{o:Obj}(hb:b∈fp) (e:h.get? b = some o):(b,o)∈gm fp h:=List.mem_filterMap.mpr ⟨b,hb,by rw [e];rfl⟩
theorem ow {fp:List Addr}{h:Heap}{p:Addr × Obj}(hp:p∈gm fp h):p.1∈fp∧h.get? p.1 = some p.2:=by
 obtain ⟨b,hb,e⟩:=List.mem_filterMap.mp hp
 cases q:h.get? b with
 | none=>rw [q] at e;cases e
 | some o=>
  rw [q] at e
  have e' : (b,o) = p:=Option.some.inj e
  subst e'
  exact ⟨hb,q⟩
theorem Inv.pinned {pins:List (Addr × Obj)}{σ:St}{H:Hp}{s:Shared}{fp:List Addr}(I:Inv X pins σ H s) (hf:∀ b∈fp,lu X pins H b) (ho:∀ b∈fp,∃ o,s.heap.get? b = some o∧∀ v,o.data≠.cell v):Inv X (pins ++ gm fp s.heap) σ H s:=
 I.iT fun p hp=>(List.mem_append.mp hp).elim (fun z=>I.pin p (List.mem_append_right _ z)) fun z=>by
  obtain ⟨hb,e⟩:=ow z
  obtain ⟨f0,f1,f2,_⟩:=hf p.1 hb
  obtain ⟨o,e',d⟩:=ho p.1 hb
  rw [e] at e';cases e'
  exact ⟨e,f0,f1,f2,d⟩
theorem Inv.jW {pins pl:List (Addr × Obj)}{σ:St}{H:Hp}{s:Shared}(I:Inv X (pins ++ pl) σ H s):Inv X pins σ H s:=I.iT fun p hp=>I.pin p (List.mem_append_right _ (List.mem_append_left _ hp))
theorem jX {iter:Expr}{body:List Stmt}{wi:TI}{g:TG}{tb:TS}{pos:Pos}(hp:PassesOwn (model X.prog X.w) X.A X.env X.xe) (hc:X.calm = true) (hi:PI X tg iter wi) (hg:PG X tg g) (hb:vA X body tb)
  (hs:∀ x,foldedSetIterable iter X.env x = pure x:=by intro _;rfl):PS X (.For tg iter body [] pos) (Zu wi g tb):=by
 intro pins s σ H D I h
 refine wpAny_For (cJ (hi pins s σ H _ I h) fun v s1 h1=>cJ h1 fun itv s2 h2=>?_) hs
 obtain ⟨it,fp,tn,J,H2,e,I2,T,st2,f2,W,⟨m0,w0⟩,turn⟩:=h2
 subst e
 have pH:∀ {H' : Hp},(∀ b∈fp,H' b = none)→∀ b∈fp,lu X pins H' b:=fun hn b hb=>⟨hn b hb,(f2 b hb).2⟩
 refine codeAny_forLoop_any (fun n s' => ∃ i σ' H',Inv X pins σ' H' s' ∧ tn i s'.heap∧(∀ b∈fp,H' b = none)∧W i n σ' H') ?_ m0 ⟨0,σ,H2,I2,st2,fun b hb=>(f2 b hb).1,w0⟩
 rintro n s3 ⟨i,σ3,H3,I3,st3,EB,w3⟩
 rcases turn i n σ3 H3 w3 with ⟨stop,qn⟩ | ⟨go,N,hN,step⟩
 ·refine wpAny_passesOwn hp (cJ (T.done X rfl rfl rfl hc i pins s3 σ3 H3 X.xe I3 (pH EB) st3 stop) fun r s4 ⟨hr,I4⟩=>?_)
  subst hr
  exact wpAny_execs_nil ⟨σ3,H3,I4,qn⟩
 ·refine wpAny_passesOwn hp (cJ (T.item X rfl rfl rfl hc i pins s3 σ3 H3 X.xe I3 (pH EB) st3 go) fun r s4 ⟨u,hr,h4⟩=>?_)
  subst hr
  refine wpAny_passesOwn hp (cJ h4 fun _ s5 ⟨x,H5,I5,r5,y5,AN,N7⟩=>?_)
  have N8:=I5.pinned (pH N7) (T.obj _ _ AN)
  refine wpAny_passesOwn hp (cJ (hg _ s5 σ3 H5 x u _ N8 r5 (step x H5 y5)) fun _ s6 ⟨σ6,H6,I6,q6⟩=>?_)
  refine wpAny_passesOwn hp (cJ (hb _ s6 σ6 H6 _ I6 q6) fun f s7 q7=>?_)
  have again:∀ {σ7:St}{H7:Hp},Inv X (pins ++ gm fp s5.heap) σ7 H7 s7→N σ7 H7→∃ m,m < n∧∃ i σ' H',Inv X pins σ' H' s7∧tn i s7.heap∧(∀ b∈fp,H' b = none)∧W i m σ' H' := fun {σ7 H7} I7 n7=>by
   obtain ⟨m',hm,w7⟩:=hN σ7 H7 n7
   refine ⟨m',hm,i + 1,σ7,H7,I7.jW,T.keep _ _ _ AN fun b hb o e=>(I7.pin (b,o) (List.mem_append_right _ (List.mem_append_right _ (jV hb e)))).1,fun b hb=>?_,w7⟩
   obtain ⟨o,e,d⟩:=T.obj _ _ AN b hb
   exact (I7.pin (b,o) (List.mem_append_right _ (List.mem_append_right _ (jV hb e)))).2.1
  cases f with
  | next=>obtain ⟨σ7,H7,I7,n7⟩:=q7;exact again I7 n7
  | cont=>obtain ⟨σ7,H7,I7,n7⟩:=q7;exact again I7 n7
  | brk=>obtain ⟨σ7,H7,I7,q7⟩:=q7;exact ⟨σ7,H7,I7.jW,q7⟩
  | ret v=>obtain ⟨x7,σ7,H7,I7,r7,q7⟩:=q7;exact ⟨x7,σ7,H7,I7.jW,r7,q7⟩
end
theorem tV {K:PySem.W.Frag}{a:Addr}{xs:List V}{g:TG}{tb:TS}{D:Ends}{σ:St}{H:Hp}(Pv:Nat→St→Hp→Prop) (h0:Pv 0 σ H) (hl:∀ i σ H,i≤xs.length→Pv i σ H→b9 K H a xs)
  (hs:∀ i x σ H,xs[i]? = some x→Pv i σ H→g x σ H fun σ2 H2=>tb { D with nx:=Pv (i + 1),ct:=Pv (i + 1),bk:=D.nx } σ2 H2) (hd:∀ σ H,Pv xs.length σ H→D.nx σ H):
  ∃ W:Nat→Nat→St→Hp→Prop,(∃ m,W 0 m σ H)∧∀ i m σ H,W i m σ H→
   ((QB K a).stop i H∧D.nx σ H)∨((QB K a).go i H∧∃ N:St→Hp→Prop,(∀ σ' H',N σ' H' → ∃ m',m' < m∧W (i + 1) m' σ' H')∧∀ x H',(QB K a).AD i H x H' → g x σ H' fun σ2 H2=>tb { D with nx:=N,ct:=N,bk:=D.nx } σ2 H2):=by
 refine ⟨fun i m σ H=>m = xs.length - i∧i≤xs.length∧Pv i σ H,⟨xs.length,by simp,Nat.zero_le _,h0⟩,?_⟩
 rintro i m σ H ⟨rfl,hi,p⟩
 have q:=hl i σ H hi p
 by_cases hlt:i < xs.length
 ·refine .inr ⟨⟨xs,xs[i],q,by simp [hlt]⟩,Pv (i + 1),fun σ' H' p' => ⟨xs.length - (i + 1),by omega,rfl,hlt,p'⟩,fun x H' y=>?_⟩
  obtain ⟨e,y⟩:=y
  subst e
  exact hs i x σ _ (y xs q) p
 ·have e:i = xs.length:=by omega
  subst e
  exact .inl ⟨⟨xs,q,Nat.le_refl _⟩,hd σ H p⟩
theorem Ik {K:PySem.W.Frag}{a:Addr}{xs:List V}{g:TG}{tb:TS}{D:Ends}{σ:St}{H:Hp}(Pv:Nat→St→Hp→Prop) (h0:Pv 0 σ H) (hl:∀ i σ H,i≤xs.length→Pv i σ H→eV K H a xs)
  (hs:∀ i x σ H,xs[i]? = some x→Pv i σ H→g x σ H fun σ2 H2=>tb { D with nx:=Pv (i + 1),ct:=Pv (i + 1),bk:=D.nx } σ2 H2) (hd:∀ σ H,Pv xs.length σ H→D.nx σ H):
  ∃ W:Nat→Nat→St→Hp→Prop,(∃ m,W 0 m σ H)∧∀ i m σ H,W i m σ H→
   ((QC K a).stop i H∧D.nx σ H)∨((QC K a).go i H∧∃ N:St→Hp→Prop,(∀ σ' H',N σ' H' → ∃ m',m' < m∧W (i + 1) m' σ' H')∧∀ x H',(QC K a).AD i H x H' → g x σ H' fun σ2 H2=>tb { D with nx:=N,ct:=N,bk:=D.nx } σ2 H2):=by
 refine ⟨fun i m σ H=>m = xs.length - i∧i≤xs.length∧Pv i σ H,⟨xs.length,by simp,Nat.zero_le _,h0⟩,?_⟩
 rintro i m σ H ⟨rfl,hi,p⟩
 have q:=hl i σ H hi p
 by_cases hlt:i < xs.length
 ·refine .inr ⟨⟨xs,xs[i],q,by simp [hlt]⟩,Pv (i + 1),fun σ' H' p' => ⟨xs.length - (i + 1),by omega,rfl,hlt,p'⟩,fun x H' y=>?_⟩
  obtain ⟨e,y⟩:=y
  subst e
  exact hs i x σ _ (y xs q) p
 ·have e:i = xs.length:=by omega
  subst e
  exact .inl ⟨⟨xs,q,Nat.le_refl _⟩,hd σ H p⟩
theorem qI {lo:Int}{n:Nat}{g:TG}{tb:TS}{D:Ends}{σ:St}{H:Hp}(Pv:Nat→St→Hp→Prop) (h0:Pv 0 σ H)
  (hs:∀ i σ H,i < n→Pv i σ H→g (.int (lo + i)) σ H fun σ2 H2=>tb { D with nx:=Pv (i + 1),ct:=Pv (i + 1),bk:=D.nx } σ2 H2) (hd:∀ σ H,Pv n σ H→D.nx σ H):
  ∃ W:Nat→Nat→St→Hp→Prop,(∃ m,W 0 m σ H)∧∀ i m σ H,W i m σ H→
   ((QD lo n).stop i H∧D.nx σ H)∨((QD lo n).go i H∧∃ N:St→Hp→Prop,(∀ σ' H',N σ' H' → ∃ m',m' < m∧W (i + 1) m' σ' H')∧∀ x H',(QD lo n).AD i H x H' → g x σ H' fun σ2 H2=>tb { D with nx:=N,ct:=N,bk:=D.nx } σ2 H2):=by
 refine ⟨fun i m σ H=>m = n - i∧i≤n∧Pv i σ H,⟨n,by simp,Nat.zero_le _,h0⟩,?_⟩
 rintro i m σ H ⟨rfl,hi,p⟩
 by_cases hlt:i < n
 ·refine .inr ⟨hlt,Pv (i + 1),fun σ' H' p' => ⟨n - (i + 1),by omega,rfl,hlt,p'⟩,fun x H' y=>?_⟩
  obtain ⟨e,y⟩:=y
  subst e y
  exact hs i σ _ hlt p
 ·have e:i = n:=by omega
  subst e
  exact .inl ⟨Nat.le_refl _,hd σ H p⟩
theorem tW {c:TT}{tb:TS}{D:Ends}{σ:St}{H:Hp}(Pv:St→Hp→Prop) (μ:St→Hp→Nat) (h0:Pv σ H)
  (hs:∀ σ H,Pv σ H→c σ H fun b H1=>if b = true then tb { D with nx:=fun σ' H' => Pv σ' H' ∧ μ σ' H' < μ σ H,ct:=fun σ' H' => Pv σ' H' ∧ μ σ' H' < μ σ H,bk:=D.nx } σ H1 else D.nx σ H1)
  (mono:∀ σ H Q Q',(∀ b H1,Q b H1→Q' b H1)→c σ H Q→c σ H Q'):Ex c tb D σ H:=by
 refine ⟨fun m σ H=>m = μ σ H∧Pv σ H,⟨_,rfl,h0⟩,?_⟩
 rintro m σ H ⟨rfl,p⟩
 refine mono σ H _ _ (fun b H1 q=>?_) (hs σ H p)
 cases b with
 | true=>exact ⟨_,fun σ' H' ⟨p',l⟩=>⟨_,l,rfl,p'⟩,q⟩
 | false=>exact q
end L2
namespace L2
open PySem PySem.Spec PyProof.Rows
abbrev R2:=V→V→Hp→VK→Prop
def oX (X:Cx) (f:Value→Value→Sem Value) (r:R2):Prop:=
 ∀ (pins:List (Addr × Obj)) (s:Shared) (σ:St) (H:Hp) (x y:V) (v u:Value) (Q:VK),Inv X pins σ H s→RelV x v→RelV y u→r x y H Q→
  wpAny (model X.prog X.w) X.A (f v u) (EP X pins σ Q) X.xe s
def Zv (X:Cx) (f:Value→Sem Value) (r:V→Hp→VK→Prop):Prop:=
 ∀ (pins:List (Addr × Obj)) (s:Shared) (σ:St) (H:Hp) (x:V) (v:Value) (Q:VK),Inv X pins σ H s→RelV x v→r x H Q→
  wpAny (model X.prog X.w) X.A (f v) (EP X pins σ Q) X.xe s
def gU (X:Cx) (f:Value) (r:List V→Hp→VK→Prop):Prop:=
 ∀ (pins:List (Addr × Obj)) (s:Shared) (σ:St) (H:Hp) (xs:List V) (us:List Value) (Q:VK),Inv X pins σ H s→Vals xs us→r xs H Q→
  wpAny (model X.prog X.w) X.A (call f us) (EP X pins σ Q) X.xe s
def iV (r:R2) (ta tb:TE):TE:=fun σ H Q=>ta σ H fun x H1=>tb σ H1 fun y H2=>r x y H2 Q
def tUn (r:V→Hp→VK→Prop) (ta:TE):TE:=fun σ H Q=>ta σ H fun x H1=>r x H1 Q
def rI (C:Int→Int→Prop) (g:Int→Int→V):R2:=fun x y H Q=>∃ i j,x = .int i∧y = .int j∧C i j∧Q (g i j) H
def Il (g:Int→Int→V):R2:=fun x y H Q=>∃ i j,x = .int i∧y = .int j∧Q (g i j) H
def rU (g:Int→V):V→Hp→VK→Prop:=fun x H Q=>∃ i,x = .int i∧Q (g i) H
section
variable {X:Cx}{a b c:Expr}{ta tb tc:TE}{pos:Pos}
theorem N9 (ha:PE X a ta) (hb:PE X b tb) {pins:List (Addr × Obj)}{s:Shared}{σ:St}{H:Hp}{R:V→V→Hp→Prop}(I:Inv X pins σ H s)
  (h:ta σ H fun x H1=>tb σ H1 fun y H2=>R x y H2) {Q:Value→Shared→Prop}{f:Value→Value→Sem Value}
  (hf:∀ v u s2 x y H2,Inv X pins σ H2 s2→RelV x v→RelV y u→R x y H2→wpAny (model X.prog X.w) X.A (f v u) Q X.xe s2):
  wpAny (model X.prog X.w) X.A (eval a X.env) (fun v s₁=>wpAny (model X.prog X.w) X.A (eval b X.env) (fun u s₂=>wpAny (model X.prog X.w) X.A (f v u) Q X.xe s₂) X.xe s₁) X.xe s:=by
 refine cJ (ha pins s σ H _ I h) fun v s1 ⟨x,H1,I1,r1,q1⟩=>?_
 refine cJ (hb pins s1 σ H1 _ I1 q1) fun u s2 ⟨y,H2,I2,r2,q2⟩=>?_
 exact hf v u s2 x y H2 I2 r1 r2 q2
theorem br {op:Operator}{r:R2}(ho:oX X (binaryOp op) r) (ha:PE X a ta) (hb:PE X b tb):PE X (.BinOp a op b pos) (iV r ta tb):=by
 intro pins s σ H Q I h
 exact wpAny_BinOp (N9 ha hb I h fun v u s2 x y H2 I2 rx ry q=>ho pins s2 σ H2 x y v u Q I2 rx ry q)
theorem vQ {op:UnaryOp}{r:V→Hp→VK→Prop}(ho:Zv X (unaryOp op) r) (ha:PE X a ta):PE X (.UnaryOp op a pos) (tUn r ta):=by
 intro pins s σ H Q I h
 exact UnaryOp_ (cJ (ha pins s σ H _ I h) fun v s1 ⟨x,H1,I1,r1,q1⟩=>ho pins s1 σ H1 x v Q I1 r1 q1)
theorem X6 {f:Value→Value→Sem Value}{C:Int→Int→Prop}{g:Int→Int→Int}
  (rule:∀ (i j:Int) (t u:Tok) (s:Shared) (Q:Value→Shared→Prop) (E:Value→Shared→Prop),C i j→Q (.int (g i j) s.toks) { s with toks:=s.toks + 1 }→wpAny (model X.prog X.w) X.A (f (.int i t) (.int j u)) Q E s):
  oX X f (rI C fun i j=>.int (g i j)):=by
 intro pins s σ H x y v u Q I rx ry h
 obtain ⟨i,j,rfl,rfl,hc,q⟩:=h
 obtain ⟨t,rfl⟩:=rx
 obtain ⟨t',rfl⟩:=ry
 exact rule i j t t' s _ _ hc ⟨.int (g i j),H,I.tok _,⟨_,rfl⟩,q⟩
theorem Rm {f:Value→Value→Sem Value}{g:Int→Int→Int}
  (rule:∀ (i j:Int) (t u:Tok) (s:Shared) (Q:Value→Shared→Prop) (E:Value→Shared→Prop),Q (.int (g i j) s.toks) { s with toks:=s.toks + 1 }→wpAny (model X.prog X.w) X.A (f (.int i t) (.int j u)) Q E s):
  oX X f (Il fun i j=>.int (g i j)):=by
 intro pins s σ H x y v u Q I rx ry h
 obtain ⟨i,j,rfl,rfl,q⟩:=h
 obtain ⟨t,rfl⟩:=rx
 obtain ⟨t',rfl⟩:=ry
 exact rule i j t t' s _ _ ⟨.int (g i j),H,I.tok _,⟨_,rfl⟩,q⟩
theorem Oa {f:Value→Value→Sem Value}{g:Int→Int→Bool}
  (rule:∀ (i j:Int) (t u:Tok) (s:Shared) (Q:Value→Shared→Prop) (E:Value→Shared→Prop),Q (.bool (g i j)) s→wpAny (model X.prog X.w) X.A (f (.int i t) (.int j u)) Q E s):
  oX X f (Il fun i j=>.bl (g i j)):=by
 intro pins s σ H x y v u Q I rx ry h
 obtain ⟨i,j,rfl,rfl,q⟩:=h
 obtain ⟨t,rfl⟩:=rx
 obtain ⟨t',rfl⟩:=ry
 exact rule i j t t' s _ _ ⟨.bl (g i j),H,I,rfl,q⟩
def EC (i j:Int):Prop:=0≤j∧j≤1000000∧i.natAbs < 2 ^ 64
def Rn (i j:Int):Prop:=(-(2 ^ 64) < i∧i < 2 ^ 64)∨(-(2 ^ 64) < j∧j < 2 ^ 64)
theorem Rn.ok {i j:Int}(h:Rn i j):IntMulOk i j:=by
 rcases h with ⟨h1,h2⟩ | ⟨h1,h2⟩
 ·exact .of_left (intBits_le_64 h1 h2)
 ·exact .of_right (intBits_le_64 h1 h2)
theorem fc:oX X (binaryOp .Add) (Il fun i j=>.int (i + j)):=Rm fun _ _ _ _ _ _ _ q=>add_int q
theorem jY:oX X (binaryOp .Sub) (Il fun i j=>.int (i - j)):=Rm fun _ _ _ _ _ _ _ q=>sub_int q
theorem ir:oX X (binaryOp .Mod) (rI (fun _ j=>0 < j) fun i j=>.int (i % j)):=X6 fun i j _ _ _ _ _ hc q=>by
 have h1:(0:Int) < j:=hc
 exact mod_int' (by omega) (by rw [Int.fmod_eq_emod_of_nonneg i (by omega)];exact q)
theorem lR:oX X (binaryOp .Pow) (rI EC fun i j=>.int (i ^ j.toNat)):=X6 fun _ _ _ _ _ _ _ hc q=>pow_int_small hc.1 hc.2.1 hc.2.2 q
theorem unI {f:Value→Sem Value}{g:Int→Int}
  (rule:∀ (i:Int) (t:Tok) (s:Shared) (Q:Value→Shared→Prop) (E:Value→Shared→Prop),Q (.int (g i) s.toks) { s with toks:=s.toks + 1 }→wpAny (model X.prog X.w) X.A (f (.int i t)) Q E s):
  Zv X f (rU fun i=>.int (g i)):=by
 intro pins s σ H x v Q I rx h
 obtain ⟨i,rfl,q⟩:=h
 obtain ⟨t,rfl⟩:=rx
 exact rule i t s _ _ ⟨.int (g i),H,I.tok _,⟨_,rfl⟩,q⟩
theorem qJ:Zv X (unaryOp .USub) (rU fun i=>.int (-i)):=unI fun _ _ _ _ _ q=>neg_int q
end
def Ro:V→V→Bool
 | .gk,.gk=>true | .gk,.int _=>true | .int _,.gk=>true | .gk,.bl _=>true | .bl _,.gk=>true | .gk,.str _=>true | .str _,.gk=>true
 | .int _,.int _=>true | .bl _,.bl _=>true | .str _,.str _=>true | .Eo _,.Eo _=>true
 | .int _,.str _=>true | .str _,.int _=>true | .bl _,.str _=>true | .str _,.bl _=>true
 | _,_=>false
def Ob:R2:=fun x y H Q=>Ro x y = true∧Q (.bl (decide (x = y))) H
def X7:R2:=fun x y H Q=>Ro x y = true∧Q (.bl (!decide (x = y))) H
theorem Cd {i j:Int}:decide (V.int i = V.int j) = (i == j):=by
 rw [Bool.eq_iff_iff]
 simp
theorem ED {i j:Bool}:decide (V.bl i = V.bl j) = (i == j):=by
 rw [Bool.eq_iff_iff]
 simp
theorem Cf {i j:Str}:decide (V.str i = V.str j) = (i == j):=by
 rw [Bool.eq_iff_iff]
 simp
theorem Cg {i j:Array UInt8}:decide (V.Eo i = V.Eo j) = (i.toList == j.toList):=by
 rw [Bool.eq_iff_iff]
 cases i
 cases j
 simp
section
variable {X:Cx}{a b c:Expr}{ta tb tc:TE}{pos:Pos}
theorem bX {pins:List (Addr × Obj)}{σ:St}{H:Hp}{s:Shared}{Q:VK}{k k' : Bool} (I:Inv X pins σ H s) (q:Q (.bl k) H) (e:k = k'):EP X pins σ Q (.bool k') s:=by
 subst e
 exact ⟨.bl k,H,I,rfl,q⟩
theorem op_eq:oX X (compareOp .Eq) Ob:=by
 intro pins s σ H x y v u Q I rx ry h
 obtain ⟨hs,q⟩:=h
 cases x with
 | gk=>
  cases rx
  cases y with
  | gk=>cases ry;exact PySem.EqNone.eq_none_none (bX I q (by simp))
  | bl j=>cases ry;exact PySem.EqNone.eq_none_bool (bX I q (by simp))
  | int j=>obtain ⟨t',rfl⟩:=ry;exact PySem.EqNone.eq_none_int (bX I q (by simp))
  | str j=>obtain ⟨t',rfl⟩:=ry;exact PySem.EqNone.eq_none_str (bX I q (by simp))
  | _=>exact absurd (show false = true from hs) Bool.false_ne_true
 | bl i=>
  cases rx
  cases y with
  | gk=>cases ry;exact PySem.EqNone.eq_bool_none (bX I q (by simp))
  | bl j=>cases ry;exact eq_bool (bX I q ED)
  | str j=>obtain ⟨t',rfl⟩:=ry;exact PySem.EqMixed.eq_bool_str (bX I q (by simp))
  | _=>exact absurd (show false = true from hs) Bool.false_ne_true
 | int i=>
  obtain ⟨t,rfl⟩:=rx
  cases y with
  | gk=>cases ry;exact PySem.EqNone.eq_int_none (bX I q (by simp))
  | int j=>obtain ⟨t',rfl⟩:=ry;exact eq_int (bX I q Cd)
  | str j=>obtain ⟨t',rfl⟩:=ry;exact PySem.EqMixed.eq_int_str (bX I q (by simp))
  | _=>exact absurd (show false = true from hs) Bool.false_ne_true
 | str i=>
  obtain ⟨t,rfl⟩:=rx
  cases y with
  | gk=>cases ry;exact PySem.EqNone.eq_str_none (bX I q (by simp))
  | bl j=>cases ry;exact PySem.EqMixed.eq_str_bool (bX I q (by simp))
  | int j=>obtain ⟨t',rfl⟩:=ry;exact PySem.EqMixed.eq_str_int (bX I q (by simp))
  | str j=>obtain ⟨t',rfl⟩:=ry;exact eq_str (bX I q Cf)
  | _=>exact absurd (show false = true from hs) Bool.false_ne_true
 | Eo i=>
  obtain ⟨t,rfl⟩:=rx
  cases y with
  | Eo j=>obtain ⟨t',rfl⟩:=ry;exact PySem.W.eq_bytes (bX I q Cg)
  | _=>exact absurd (show false = true from hs) Bool.false_ne_true
 | _=>cases y <;> exact absurd (show false = true from hs) Bool.false_ne_true
theorem vR:oX X (compareOp .NotEq) X7:=by
 intro pins s σ H x y v u Q I rx ry h
 obtain ⟨hs,q⟩:=h
 cases x with
 | gk=>
  cases rx
  cases y with
  | gk=>cases ry;exact PySem.EqNone.ne_none_none (bX I q (by simp))
  | bl j=>cases ry;exact PySem.EqNone.ne_none_bool (bX I q (by simp))
  | int j=>obtain ⟨t',rfl⟩:=ry;exact PySem.EqNone.ne_none_int (bX I q (by simp))
  | str j=>obtain ⟨t',rfl⟩:=ry;exact PySem.EqNone.ne_none_str (bX I q (by simp))
  | _=>exact absurd (show false = true from hs) Bool.false_ne_true
 | bl i=>
  cases rx
  cases y with
  | gk=>cases ry;exact PySem.EqNone.ne_bool_none (bX I q (by simp))
  | bl j=>cases ry;exact ne_bool (bX I q (congrArg not ED))
  | str j=>obtain ⟨t',rfl⟩:=ry;exact PySem.EqMixed.ne_bool_str (bX I q (by simp))
  | _=>exact absurd (show false = true from hs) Bool.false_ne_true
 | int i=>
  obtain ⟨t,rfl⟩:=rx
  cases y with
  | gk=>cases ry;exact PySem.EqNone.ne_int_none (bX I q (by simp))
  | int j=>obtain ⟨t',rfl⟩:=ry;exact ne_int (bX I q (congrArg not Cd))
  | str j=>obtain ⟨t',rfl⟩:=ry;exact PySem.EqMixed.ne_int_str (bX I q (by simp))
  | _=>exact absurd (show false = true from hs) Bool.false_ne_true
 | str i=>
  obtain ⟨t,rfl⟩:=rx
  cases y with
  | gk=>cases ry;exact PySem.EqNone.ne_str_none (bX I q (by simp))
  | bl j=>cases ry;exact PySem.EqMixed.ne_str_bool (bX I q (by simp))
  | int j=>obtain ⟨t',rfl⟩:=ry;exact PySem.EqMixed.ne_str_int (bX I q (by simp))
  | str j=>obtain ⟨t',rfl⟩:=ry;exact ne_str (bX I q (congrArg not Cf))
  | _=>exact absurd (show false = true from hs) Bool.false_ne_true
 | Eo i=>
  obtain ⟨t,rfl⟩:=rx
  cases y with
  | Eo j=>obtain ⟨t',rfl⟩:=ry;exact PySem.W.ne_bytes (bX I q (congrArg not Cg))
  | _=>exact absurd (show false = true from hs) Bool.false_ne_true
 | _=>cases y <;> exact absurd (show false = true from hs) Bool.false_ne_true
theorem rO:oX X (compareOp .Lt) (Il fun i j=>.bl (decide (i < j))):=Oa fun _ _ _ _ _ _ _ q=>lt_int q
theorem Rp:oX X (compareOp .LtE) (Il fun i j=>.bl (decide (i≤j))):=Oa fun _ _ _ _ _ _ _ q=>le_int q
theorem yM:oX X (compareOp .Gt) (Il fun i j=>.bl (decide (j < i))):=Oa fun _ _ _ _ _ _ _ q=>gt_int q
theorem Oc:oX X (compareOp .Is) (fun x y H Q=>y = .gk∧Q (.bl (decide (x = .gk))) H):=by
 intro pins s σ H x y v u Q I rx ry h
 obtain ⟨rfl,q⟩:=h
 cases ry
 refine is_none_gen (bX I q ?_)
 cases x <;> first
  | (cases rx;rfl)
  | (obtain ⟨t,rfl⟩:=rx;rfl)
theorem oX.or {f:Value→Value→Sem Value}{r r' : R2} (h:oX X f r) (h' : oX X f r'):oX X f (fun x y H Q=>r x y H Q∨r' x y H Q):=by
 intro pins s σ H x y v u Q I rx ry q
 rcases q with q | q
 ·exact h pins s σ H x y v u Q I rx ry q
 ·exact h' pins s σ H x y v u Q I rx ry q
theorem aY (b:Expr) {op:CmpOp}(h:op≠.In:=by decide) (h2:op≠.NotIn:=by decide):behindInMarks op b = false:=by
 have e1:(op == CmpOp.In) = false:=by cases op <;> first | rfl | exact absurd rfl h
 have e2:(op == CmpOp.NotIn) = false:=by cases op <;> first | rfl | exact absurd rfl h2
 cases b <;> simp [behindInMarks,e1,e2]
theorem c8 {op:CmpOp}{r:R2}(ho:oX X (compareOp op) r) (ha:PE X a ta) (hb:PE X b tb) (hm:behindInMarks op b = false):PE X (.Compare a [op] [b] pos) (iV r ta tb):=by
 intro pins s σ H Q I h
 exact wpAny_Compare1 (N9 ha hb I h fun v u s2 x y H2 I2 rx ry q=>ho pins s2 σ H2 x y v u Q I2 rx ry q) hm
def qb (t:TE):TT:=fun σ H Q=>t σ H fun x H' => ∃ k,x = .bl k∧Q k H'
theorem aV {op:CmpOp}{r:R2}(ho:oX X (compareOp op) r) (ha:PE X a ta) (hb:PE X b tb) (hm:behindInMarks op b = false):PT X (.Compare a [op] [b] pos) (qb (iV r ta tb)):=by
 intro pins s σ H Q I h
 refine wpAny_isTrue_Compare1 (cJ (ha pins s σ H _ I h) fun v s1 ⟨x,H1,I1,r1,q1⟩=>cJ (hb pins s1 σ H1 _ I1 q1) fun u s2 ⟨y,H2,I2,r2,q2⟩=>
  cJ (ho pins s2 σ H2 x y v u _ I2 r1 r2 q2) fun c s3 ⟨z,H3,I3,r3,k,e,q3⟩=>?_) hm
 subst e
 cases r3
 exact wpAny_truthy_bool ⟨H3,I3,q3⟩
theorem qK:(sizeLine:Nat) < 2 ^ 63:=by rw [sizeLine_eq];decide
theorem pI:oX X (binaryOp .Add) (fun x y H Q=>∃ i j,x = .str i∧y = .str j∧i.length + j.length≤sizeLine∧Q (.str (i ++ j)) H):=by
 intro pins s σ H x y v u Q I rx ry h
 obtain ⟨i,j,rfl,rfl,hz,q⟩:=h
 obtain ⟨t,rfl⟩:=rx
 obtain ⟨t',rfl⟩:=ry
 exact add_str (fun t' tk=>⟨.str (i ++ j),H,I.tok _,⟨_,rfl⟩,q⟩) hz
theorem vals1 {x:V}{us:List Value}(r:Vals [x] us):∃ u,us = [u]∧RelV x u:=by
 cases r with
 | cons r1 r2=>cases r2;exact ⟨_,rfl,r1⟩
theorem vals2 {x y:V}{us:List Value}(r:Vals [x,y] us):∃ u w',us = [u,w']∧RelV x u∧RelV y w' := by
 cases r with
 | cons r1 r2=>
  cases r2 with
  | cons r3 r4=>cases r4;exact ⟨_,_,rfl,r1,r3⟩
theorem C0 (hc:X.calm = true):gU X (.builtin "max") (fun xs H Q=>∃ i j,xs = [.int i,.int j]∧Q (.int (if j > i then j else i)) H):=by
 intro pins s σ H xs us Q I r h
 obtain ⟨i,j,rfl,q⟩:=h
 obtain ⟨u,w',rfl,⟨t,rfl⟩,⟨t',rfl⟩⟩:=vals2 r
 refine max_two_ints (I.ok.hd hc) fun h' tk k=>⟨_,H,I.kept k,?_,q⟩
 by_cases hj:j > i
 ·rw [if_pos hj,if_pos hj];exact ⟨_,rfl⟩
 ·rw [if_neg hj,if_neg hj];exact ⟨_,rfl⟩
theorem iM:gU X (.type "int") (fun xs H Q=>(∃ i,xs = [.int i]∧Q (.int i) H)∨∃ k,xs = [.bl k]∧Q (.int (if k then 1 else 0)) H):=by
 intro pins s σ H xs us Q I r h
 rcases h with ⟨i,rfl,q⟩ | ⟨k,rfl,q⟩
 ·obtain ⟨u,rfl,t,rfl⟩:=vals1 r
  exact call_int_int ⟨.int i,H,I,⟨_,rfl⟩,q⟩
 ·obtain ⟨u,rfl,r1⟩:=vals1 r
  cases r1
  exact call_int_bool ⟨.int (if k then 1 else 0),H,I.tok _,⟨_,rfl⟩,q⟩
end
end L2
namespace L2
open PySem PySem.Spec PyProof.Rows
structure Od (h:Heap) (x dx C:Addr) (mA:Str→Option Value):Prop where
 obj:h.get? x = some (PySem.W.instObj C dx)
 ns:h.Ns1 dx mA
 ne:dx≠x
theorem C1 {h:Heap}{dx:Addr}{mA:Str→Option Value}(n:h.Ns1 dx mA):∃ od,h.get? dx = some od∧∀ name,PySem.W.lookIn name od = some (mA name):=by
 obtain ⟨o,es,ep,ho,hd,hk,_,hm⟩:=n
 refine ⟨o,ho,fun name=>?_⟩
 have e:=hm name
 unfold nsFind findBy at e
 rw [← Array.find?_toList] at e
 unfold PySem.W.lookIn
 rw [hd]
 dsimp only
 split
 ·rename_i y q
  rw [q] at e
  exact congrArg some e
 ·rename_i q
  rw [q] at e
  have a:es.toList.any (·.refKey) = false:=by
   rw [List.any_eq_false]
   intro y hy
   obtain ⟨z,t,hkey⟩:=hk y (Array.mem_toList_iff.mp hy)
   simp [DictEntry.refKey,hkey]
  have a' : ¬ es.toList.any (·.refKey) = true:=by rw [a];exact Bool.false_ne_true
  rw [if_neg a']
  exact congrArg some e
theorem Od.look {h:Heap}{x dx C:Addr}{mA:Str→Option Value}(I:Od h x dx C mA):∃ od,PySem.W.InstAt h x (PySem.W.instObj C dx) C (some od)∧∀ name,PySem.W.lookIn name od = some (mA name):=
 let ⟨od,ho,hl⟩:=C1 I.ns
 ⟨od,⟨I.obj,rfl,rfl,ho⟩,hl⟩
section
variable {prog:Program}{w:World}{A:Around}{E:Value→Shared→Prop}{s:Shared}{K:PySem.W.Frag}{x dx C f:Addr}{mA:Str→Option Value}{name:Str}{v:Value}
end
theorem pG.some_of {v:V}{o:Option Value}(r:pG (some v) o):∃ u,o = some u∧RelV v u:=by
 cases o with
 | none=>exact (show False from r).elim
 | some u=>exact ⟨u,rfl,r⟩
theorem pG.none_of {o:Option Value}(r:pG none o):o = none:=by
 cases o with
 | none=>rfl
 | some u=>exact (show False from r).elim
section
variable {P:Program}{w:World}{H H' : Hp} {h h' : Heap} {a C dx:Addr}{fs fs' : List (Str × V)}
theorem Im (hok:oW P w H h) (e:H a = some (.ins C dx fs)):∃ mA,Od h a dx C mA∧(∀ f,pG (fs.lookup f) (mA f))∧PySem.Within mA (fs.map (·.1))∧fs.length≤1000∧H dx = some (.own a):=by
 obtain ⟨d,z,ne,ob,mA,n,r,q⟩:=(show cC P w H h a (.ins C dx fs) from hok a _ e)
 exact ⟨mA,⟨ob,n,ne⟩,r,q,z,d⟩
end
structure Zw (K:PySem.W.Frag) (C:Addr):Prop where
 pg:PySem.W.plainGet K C Str.empty = true
 hd:PySem.W.hasDictIn K C = true
 po:PySem.W.plainOver K C = true
 sa:PySem.W.findIn K (.ref C) "__setattr__" = some (some (.builtin "object.__setattr__"))
theorem Zw.get {K:PySem.W.Frag}{C:Addr}(c:Zw K C) (f:Str):PySem.W.plainGet K C f = true:=c.pg
structure Con (K:PySem.W.Frag) (C:Addr) (f:Str) (v:V) (u:Value):Prop where
 at_:PySem.W.findIn K (.ref C) f = some (some u)
 rel:RelV v u
 get:PySem.W.specialIn K u "__get__" = some none
 cp:PySem.W.copiedNames.contains f = false
structure Meth (K:PySem.W.Frag) (C:Addr) (m:Str) (f:Addr):Prop where
 at_:PySem.W.findIn K (.ref C) m = some (some (.ref f))
 fn:PySem.W.isFn K (.ref f) = true
 kp:PySem.W.keepIn K (.ref f) = true
section
variable {X:Cx}{pins:List (Addr × Obj)}{σ:St}{H:Hp}{s:Shared}{a C dx:Addr}{fs:List (Str × V)}{f:Str}{v:V}{A:Around}{E:Value→Shared→Prop}
end
section
variable {X:Cx}{o e value:Expr}{f:Str}{pos pos' tpos:Pos} {ta tv:TE}
end
section
variable {X:Cx}{pins:List (Addr × Obj)}{σ:St}{H:Hp}{s:Shared}{A:Around}{E:Value→Shared→Prop}{Q:Value→Shared→Prop}{c:Value}{b:Bool}
inductive sE (K:PySem.W.Frag) (H:Hp):V→Value→Prop where
 | gk:sE K H .gk (.type "NoneType")
 | bl (x:Bool):sE K H (.bl x) (.type "bool")
 | int (i:Int):sE K H (.int i) (.type "int")
 | str (x:Str):sE K H (.str x) (.type "str")
 | flt (x:UInt64):sE K H (.flt x) (.type "float")
 | lst {a:Addr}{xs:List V}(e:H a = some (.lst xs)):sE K H (.ref a) (.type "list")
 | m8 {a:Addr}{o:Obj}{xs:List V}(e:H a = some (.m8 o (.lst xs))):sE K H (.ref a) (.type "list")
 | tup {a:Addr}{xs:List V}(e:H a = some (.tup xs)):sE K H (.ref a) (.type "tuple")
 | dK {a:Addr}{kvs:List (Key × V)}(e:H a = some (.dK kvs)):sE K H (.ref a) (.type "dict")
 | dT {a:Addr}{kvs:List (List Key × V)}(e:H a = some (.dT kvs)):sE K H (.ref a) (.type "dict")
 | ins {a C dx:Addr}{fs:List (Str × V)}(e:H a = some (.ins C dx fs)) (cl:Zw K C) (ha:PySem.W.findIn K (.ref C) "__class__" = some (some (.builtin "object.__class__")))
   (hn:PySem.W.specialIn K (.builtin "object.__class__") "__get__" = some (some (.builtin "getset_descriptor.__get__"))) (htk:PySem.W.takesIn K (.builtin "object.__class__") = some true)
   (hm:PySem.W.mroIn K C (.type "object") = some true):sE K H (.ref a) (.ref C)
theorem oA {x:V}{u t:Value}(I:Inv X pins σ H s) (rx:RelV x u) (ty:sE X.K H x t) (e:PySem.W.kitOne X.K t c = some b) (h:∀ tk,Q (.bool b) { s with toks:=tk }):
  wpAny (model X.prog X.w) A (call (.builtin "isinstance") [u,c]) Q E s:=by
 cases ty with
 | gk=>cases (show u = Value.none from rx);exact PySem.W.kia_one PySem.W.kitx_none I.tQ True.intro e (fun z=>nomatch z) h
 | bl y=>cases (show u = Value.bool y from rx);exact PySem.W.kia_one PySem.W.kitx_bool I.tQ True.intro e (fun z=>nomatch z) h
 | int i=>obtain ⟨t,q⟩:=(show ∃ t,u = Value.int i t from rx);cases q;exact PySem.W.kia_one PySem.W.kitx_int I.tQ True.intro e (fun z=>nomatch z) h
 | str y=>obtain ⟨t,q⟩:=(show ∃ t,u = Value.str y t from rx);cases q;exact PySem.W.kia_one PySem.W.kitx_str I.tQ True.intro e (fun z=>nomatch z) h
 | flt y=>obtain ⟨t,q⟩:=(show ∃ t,u = Value.float y t from rx);cases q;exact PySem.W.kia_one PySem.W.kitx_float I.tQ True.intro e (fun z=>nomatch z) h
 | @lst a xs ea=>
  cases (show u = Value.ref a from rx)
  obtain ⟨_,_,n,_,h1⟩:=(show cC X.prog X.w H s.heap a (.lst xs) from I.hok a _ ea)
  exact PySem.W.kia_one PySem.W.kitx_list I.tQ ⟨_,h1,rfl⟩ e (fun z=>nomatch z) h
 | @m8 a ob xs ea=>
  cases (show u = Value.ref a from rx)
  obtain ⟨_,_,_,n,_,h1⟩:=(show cC X.prog X.w H s.heap a (.m8 ob (.lst xs)) from I.hok a _ ea)
  exact PySem.W.kia_one PySem.W.kitx_list I.tQ ⟨_,h1,rfl⟩ e (fun z=>nomatch z) h
 | @tup a xs ea=>
  cases (show u = Value.ref a from rx)
  obtain ⟨_,_,_,p,_⟩:=(show cC X.prog X.w H s.heap a (.tup xs) from I.hok a _ ea)
  obtain ⟨o,h1,h2,_⟩:=p
  exact PySem.W.kia_one PySem.W.kitx_tuple I.tQ ⟨o,h1,h2⟩ e (fun z=>nomatch z) h
 | @dK a kvs ea=>
  cases (show u = Value.ref a from rx)
  obtain ⟨_,_,vs,_,p⟩:=(show cC X.prog X.w H s.heap a (.dK kvs) from I.hok a _ ea)
  obtain ⟨o,es,ep,h1,h2,_⟩:=p
  exact PySem.W.kia_one PySem.W.kitx_dict I.tQ ⟨o,h1,h2.1⟩ e (fun z=>nomatch z) h
 | @dT a kvs ea=>
  cases (show u = Value.ref a from rx)
  obtain ⟨_,_,xs,_,o,es,ep,h1,h2,_⟩:=(show cC X.prog X.w H s.heap a (.dT kvs) from I.hok a _ ea)
  exact PySem.W.kia_one PySem.W.kitx_dict I.tQ ⟨o,h1,h2.1⟩ e (fun z=>nomatch z) h
 | @ins a C dx fs ea cl ha hn htk hm=>
  cases (show u = Value.ref a from rx)
  obtain ⟨mA,O,_⟩:=Im I.hok ea
  obtain ⟨od,J,_⟩:=O.look
  exact PySem.W.kia_one (PySem.W.kitx_own (cl.get _) cl.hd ha hn htk hm) I.tQ J e (fun z=>nomatch z) h
end
end L2
namespace L2
open PySem PySem.Spec PyProof.Rows
structure fS (k:Nat) (A:Around):Prop where
 hd:A.handled = none
 dp:A.depth + 3 * k + 5 < recursionLimit
 un:A.units + 16 * k + 200 < cLine
theorem fS.mono {j k:Nat}{A:Around}(r:fS k A) (h:j≤k):fS j A:=⟨r.hd,by have:=r.dp;omega,by have:=r.un;omega⟩
theorem fS.deeper {k:Nat}{A:Around}(r:fS (k + 1) A) (env:Env):fS k (A.deeper env):=
 ⟨r.hd,by have:=r.dp;show A.depth + 1 + 3 * k + 5 < _;omega,by have:=r.un;show A.units + 3 + 16 * k + 200 < _;omega⟩
theorem fS.in1 {k:Nat}{A:Around}(r:fS (k + 1) A):fS k A.in1:=
 ⟨r.hd,by have:=r.dp;show A.depth + 3 * k + 5 < _;omega,by have:=r.un;show A.units + 1 + 16 * k + 200 < _;omega⟩
theorem fS.depth {k:Nat}{A:Around}(r:fS k A):A.depth < recursionLimit:=by have:=r.dp;omega
theorem fS.units {k:Nat}{A:Around}(r:fS k A):A.units + 64 < cLine:=by have:=r.un;omega
def kr:TA:=fun _ H Q=>Q [] H
def bV (ta:TE) (tr:TA):TA:=fun σ H Q=>ta σ H fun x H1=>tr σ H1 fun xs H2=>Q (x :: xs) H2
section
variable {X:Cx}{e:Expr}{es:List Expr}{te:TE}{t:TA}{pos:Pos}
theorem aq:PA X [] kr:=fun _ _ _ _ H Q I h=>Calls.spliced_nil ⟨[],H,I,.nil,h⟩
theorem aa (ha:PE X e te) (hr:PA X es t) (hs:starEach (e :: es) X.env = (false,eval e X.env) :: starEach es X.env:=by rfl):PA X (e :: es) (bV te t):=by
 intro pos pins s σ H Q I h
 rw [hs]
 show wpAny _ _ (spliced ((false,eval e X.env) :: backTo pos (starEach es X.env))) _ _ s
 refine Calls.spliced_cons (cJ (ha pins s σ H _ I h) fun u s1 ⟨x,H1,I1,r1,q1⟩=>?_)
 exact cJ (hr pos pins s1 σ H1 _ I1 q1) fun us s2 ⟨xs,H2,I2,r2,q2⟩=>⟨x :: xs,H2,I2,.cons r1 r2,q2⟩
def C2 (t:TA):TE:=fun σ H Q=>t σ H fun xs H1=>xs.length≤sizeLine∧∀ p,H1 p = none→Q (.ref p) (upd H1 p (.tup xs))
def Io (t:TA):TE:=fun σ H Q=>t σ H fun xs H1=>xs.length≤sizeLine∧∀ p,H1 p = none→Q (.ref p) (upd H1 p (.lst xs))
theorem dW {x1} (h:PA X es t):PE X (.Tuple es x1 pos) (C2 t):=by
 intro pins s σ H Q I hq
 refine wpAny_Tuple_spliced (cJ (h pos pins s σ H _ I hq) fun us s1 ⟨xs,H1,I1,r,z,q⟩=>⟨by rw [← r.length];exact z,?_⟩)
 have hf:H1 s1.heap.objs.size = none:=I1.hok.fresh (Nat.le_refl _)
 refine ⟨.ref s1.heap.objs.size,upd H1 s1.heap.objs.size (.tup xs),I1.laid (t' := s1.toks) (fun b u e=>Heap.get?_push_of_some _ e) (Nat.le_refl _) ?_,rfl,q _ hf⟩
 exact ⟨z,us,r,⟨_,Heap.get?_push_size _ rfl,rfl,_,rfl⟩,_,Heap.get?_push_size _ rfl,rfl⟩
theorem cL (h:PA X es t):PE X (.List es pos) (Io t):=by
 intro pins s σ H Q I hq
 refine wpAny_List_spliced (cJ (h pos pins s σ H _ I hq) fun us s1 ⟨xs,H1,I1,r,z,q⟩=>⟨by rw [← r.length];exact z,?_⟩)
 have hf:H1 s1.heap.objs.size = none:=I1.hok.fresh (Nat.le_refl _)
 refine ⟨.ref s1.heap.objs.size,upd H1 s1.heap.objs.size (.lst xs),I1.laid (t' := s1.toks) (fun b u e=>Heap.get?_push_of_some _ e) (Nat.le_refl _) ?_,rfl,q _ hf⟩
 exact ⟨z,us,0,r,Heap.get?_push_size _ rfl⟩
end
abbrev Sp:=List V→Hp→VK→XK→Prop
abbrev EE:=List Env→Hp→Shared→XK→Value→Shared→Prop
structure sI (P:Program) (w:World) (K:PySem.W.Frag) (mg:Str→Option Value) (base:Heap) (A:Around) (outer:List Env) (s:Shared) (H:Hp):Prop where
 frames:A.frames = some outer
 mod:Mod K mg base
 bs:∀ b o,base.get? b = some o→s.heap.get? b = some o∧H b = none
 Ef:base.objs.size≤s.heap.objs.size
 qa:s.heap.FunFrames base outer
 Mr:∀ b∈frs outer,H b = none
 hok:oW P w H s.heap
 bare:AllBare s.gens
def CE (outer:List Env) (P:Program) (w:World) (H:Hp) (s:Shared) (Q:VK) (u:Value) (s' : Shared):Prop:=
 ∃ v H',s'.os = s.os∧AllBare s'.gens∧Un (frs outer) [] H H' s.heap s'.heap∧oW P w H' s'.heap∧RelV v u∧Q v H'
def CR (CX:EE) (outer:List Env) (P:Program) (w:World) (H:Hp) (s:Shared) (Q:VK) (E:XK) (r:Result) (s' : Shared):Prop:=
 match r with
 | .ok (.ret u)=>CE outer P w H s Q u s'
 | .ok _=>False
 | .error e=>CX outer H s E e s'
structure bF (P:Program) (w:World) (K:PySem.W.Frag) (mg:Str→Option Value) (base:Heap) (CX:EE) (k:Nat) (f:Addr) (fd:FuncData) (ps:List Str) (sp:Sp):Prop where
 len:∀ vs H Q E,sp vs H Q E→vs.length = ps.length
 run:∀ (A:Around) (outer:List Env) (s:Shared) (H:Hp) (args:Args) (us:List Value) (vs:List V) (Q:VK) (E:XK),fS k A→sI P w K mg base A outer s H→BindsTo s fd args (ps.zip us)→Vals vs us→sp vs H Q E→
  codeAny (model P w) A (.call (.ref f) args) (CR CX outer P w H s Q E) s
theorem bF.mono {P:Program}{w:World}{K:PySem.W.Frag}{mg:Str→Option Value}{base:Heap}{CX:EE}{j k:Nat}{f:Addr}{fd:FuncData}{ps:List Str}{sp:Sp}(F:bF P w K mg base CX j f fd ps sp) (h:j≤k):
  bF P w K mg base CX k f fd ps sp:=⟨F.len,fun A outer s H args us vs Q E hr=>F.run A outer s H args us vs Q E (hr.mono h)⟩
theorem bF.imp {P:Program}{w:World}{K:PySem.W.Frag}{mg:Str→Option Value}{base:Heap}{CX:EE}{k:Nat}{f:Addr}{fd:FuncData}{ps:List Str}{sp sp' : Sp} (F:bF P w K mg base CX k f fd ps sp)
  (h:∀ vs H Q E,sp' vs H Q E→sp vs H Q E):bF P w K mg base CX k f fd ps sp' :=
 ⟨fun vs H Q E q=>F.len vs H Q E (h _ _ _ _ q),fun A outer s H args us vs Q E hr he hb hv hs=>F.run A outer s H args us vs Q E hr he hb hv (h _ _ _ _ hs)⟩
theorem sI.in1 {P:Program}{w:World}{K:PySem.W.Frag}{mg:Str→Option Value}{base:Heap}{A:Around}{outer:List Env}{s:Shared}{H:Hp}(e:sI P w K mg base A outer s H):
  sI P w K mg base A.in1 outer s H:=⟨e.frames,e.mod,e.bs,e.Ef,e.qa,e.Mr,e.hok,e.bare⟩
section
variable {X:Cx}{pins:List (Addr × Obj)}{σ:St}{H:Hp}{s s' : Shared}
theorem Inv.Ip (I:Inv X pins σ H s):sI X.prog X.w X.K X.mg X.base X.A X.stack s H:=
 ⟨I.ok.frames,I.ok.mod,I.bs,Nat.le_trans I.ok.Ef I.sz,I.stack,I.sZ,I.hok,I.bare⟩
theorem Inv.after {Q:VK}{u:Value}(I:Inv X pins σ H s) (h:CE X.stack X.prog X.w H s Q u s'):EP X pins σ Q u s' := by
 obtain ⟨v,H',os,bare,un,hok,r,q⟩:=h
 obtain ⟨hh,g,d,t,os'⟩:=s'
 obtain rfl:os' = s.os:=os
 exact ⟨v,H',I.call (h' := hh) (g' := g) (d' := d) (t' := t) (ch:=[]) un hok bare (fun b z=>absurd z (by simp)),r,q⟩
end
def lA (sp:Sp) (Mx:List V) (E:XK) (t:TA):TE:=fun σ H Q=>t σ H fun vs H1=>sp (vs ++ Mx) H1 Q E
def Binds (K:PySem.W.Frag) (fd:FuncData) (ps:List Str) (ds:List Value):Prop:=
 ∀ (s:Shared) (us:List Value),K.In s.heap→(us ++ ds).length = ps.length→BindsTo s fd ⟨us,[]⟩ (ps.zip (us ++ ds))
theorem Binds.all {K:PySem.W.Frag}{fd:FuncData}{ps:List Str}(h:∀ us:List Value,us.length = ps.length→bindArgs fd ⟨us,[]⟩ = pure (ps.zip us)):Binds K fd ps []:=fun s us _ hl=>by
 rw [List.append_nil] at hl ⊢
 exact .of_eq (h us hl)
def Passes (CX:EE) (X:Cx) (E:XK):Prop:=∀ (pins:List (Addr × Obj)) (σ:St) (H:Hp) (s:Shared) (e:Value) (s' : Shared),Inv X pins σ H s→CX X.stack H s E e s' → X.xe e s'
section
variable {X:Cx}{CX:EE}{k:Nat}{f C:Addr}{fd:FuncData}{ps:List Str}{sp:Sp}{Mx:List V}{ds:List Value}{E:XK}{x m:Str}{p pos apos:Pos}{e o:Expr}{es:List Expr}{ta:TE}{t:TA}
theorem Oe {pins:List (Addr × Obj)}{σ:St}{H:Hp}{s:Shared}{Q:VK}{us:List Value}{vs:List V}(F:bF X.prog X.w X.K X.mg X.base CX k f fd ps sp) (hr:fS k X.A) (hb:Binds X.K fd ps ds) (hd:Vals Mx ds) (hx:Passes CX X E)
  (I:Inv X pins σ H s) (r:Vals vs us) (h:sp (vs ++ Mx) H Q E):wpAny (model X.prog X.w) X.A (call (.ref f) us) (EP X pins σ Q) X.xe s:=by
 have r2:Vals (vs ++ Mx) (us ++ ds):=r.append hd
 have hl:(us ++ ds).length = ps.length:=by rw [← r2.length];exact F.len _ _ _ _ h
 refine wpAny_call (codeAny_mono (F.run X.A X.stack s H ⟨us,[]⟩ (us ++ ds) (vs ++ Mx) Q E hr I.Ip (hb s us I.tQ hl) r2 h) fun r s' hq=>?_)
 cases r with
 | error e=>exact hx pins σ H s e s' I hq
 | ok fl=>
  cases fl with
  | ret u=>exact I.after hq
  | next=>exact False.elim hq
  | brk=>exact False.elim hq
  | cont=>exact False.elim hq
theorem aP (F:bF X.prog X.w X.K X.mg X.base CX k f fd ps sp) (hr:fS k X.A) (hg:Gl X x) (hm:X.mg x = some (.ref f)) (hk:PySem.W.keepIn X.K (.ref f) = true) (hb:Binds X.K fd ps ds) (hd:Vals Mx ds) (hx:Passes CX X E)
  (ha:PA X (e :: es) t) (hdb:(x == ("__debug__" : Str)) = false:=by decide) (he:starEach (e :: es) X.env = (false,eval e X.env) :: starEach es X.env:=by rfl) (hpl:(backTo pos (starEach es X.env)).any (·.1) = false:=by rfl):
  PE X (.Call (.Name x p) (e :: es) [] pos) (lA sp Mx E t):=by
 intro pins s σ H Q I h
 refine wpAny_Call_Name_kw (tu I hg hm ?_ hdb)
 refine PySem.W.callWith_K (h₀:=X.base) I.ok.mod.Ec hk (cJ (ha pos pins s σ H _ I h) fun us s1 ⟨vs,H1,I1,r,q⟩=>⟨I1.tQ,?_⟩) he hpl
 exact Oe F hr hb hd hx I1 r q
structure Mk (K:PySem.W.Frag) (C f:Addr):Prop where
 makes:PySem.W.makesIn K C = true
 init:PySem.W.findIn K (.ref C) "__init__" = some (some (.ref f))
 fn:PySem.W.isFn K (.ref f) = true
 kp:PySem.W.keepIn K (.ref C) = true
end
section
variable {X:Cx}{CX:EE}{k:Nat}{f C:Addr}{fd:FuncData}{ps ks:List Str}{sp:Sp}{E:XK}{x m:Str}{p pos apos kpos:Pos}{e o:Expr}{es:List Expr}{kws:List Keyword}{te ta:TE}{t tk:TA}{nm:Option Str}
structure Zx (K:PySem.W.Frag) (fd:FuncData) (ps ks:List Str) (g:List Value→List Value→List Value) (gV:List V→List V→List V):Prop where
 to:∀ (s:Shared) (us ws:List Value),K.In s.heap→(g us ws).length = ps.length→BindsTo s fd ⟨us,ks.zip ws⟩ (ps.zip (g us ws))
 rel:∀ {vs:List V}{us:List Value}{zs:List V}{ws:List Value},Vals vs us→Vals zs ws→Vals (gV vs zs) (g us ws)
variable {g:List Value→List Value→List Value}{gV:List V→List V→List V}
end
structure bB (N P:List Str) (sc:Scope):Prop where
 kind:sc.kind = .function
 co:sc.isCoroutine = false
 gen:sc.isGenerator = false
 nd:N.Nodup
 pre:N.take P.length = P
 par:∀ x∈P,sc.names.lookup x = some .local∨sc.names.lookup x = some .cell
 Of:∀ y∈sc.names,y.2≠.free
theorem vU {kindOf:Str→Option NameKind}{x:Str}:∀ {binds:List (Str × Value)}{m:Str→Option Value},(∀ v,(x,v) ∉ binds)→bindL kindOf binds m x = m x
 | [],_,_=>rfl
 | (n,v) :: r,m,h=>by
  unfold bindL
  rw [vU fun w hw=>h w (List.mem_cons_of_mem _ hw)]
  split
  ·have:x≠n:=by rintro rfl;exact h v List.mem_cons_self
   simp [this]
  ·rfl
theorem vV {kindOf:Str→Option NameKind}{x:Str}:∀ {binds:List (Str × Value)}{m:Str→Option Value},(∀ v,(x,v) ∉ binds)→bindC kindOf binds m x = m x
 | [],_,_=>rfl
 | (n,v) :: r,m,h=>by
  unfold bindC
  rw [vV fun w hw=>h w (List.mem_cons_of_mem _ hw)]
  split
  ·rfl
  ·have:x≠n:=by rintro rfl;exact h v List.mem_cons_self
   simp [this]
theorem qL {kindOf:Str→Option NameKind}{x:Str}{v:Value}:∀ {P:List Str}{vs:List Value}{i:Nat}{m:Str→Option Value},P.Nodup→P[i]? = some x→vs[i]? = some v→kindOf x = some .local→
  bindL kindOf (P.zip vs) m x = some v
 | [],_,_,_,_,h,_,_=>by simp at h
 | _ :: _,[],_,_,_,_,h,_=>by simp at h
 | p :: P,w :: vs,0,m,nd,h1,h2,hk=>by
  simp at h1 h2;subst h1;subst h2
  show bindL kindOf ((p,w) :: P.zip vs) m p = _
  unfold bindL
  rw [vU fun v hv=>(List.nodup_cons.mp nd).1 (List.of_mem_zip hv).1,if_pos hk]
  simp
 | p :: P,w :: vs,i + 1,m,nd,h1,h2,hk=>by
  show bindL kindOf ((p,w) :: P.zip vs) m x = _
  unfold bindL
  exact qL (i:=i) (List.nodup_cons.mp nd).2 (by simpa using h1) (by simpa using h2) hk
theorem qM {kindOf:Str→Option NameKind}{x:Str}{v:Value}:∀ {P:List Str}{vs:List Value}{i:Nat}{m:Str→Option Value},P.Nodup→P[i]? = some x→vs[i]? = some v→kindOf x≠some .local→
  bindC kindOf (P.zip vs) m x = some v
 | [],_,_,_,_,h,_,_=>by simp at h
 | _ :: _,[],_,_,_,_,h,_=>by simp at h
 | p :: P,w :: vs,0,m,nd,h1,h2,hk=>by
  simp at h1 h2;subst h1;subst h2
  show bindC kindOf ((p,w) :: P.zip vs) m p = _
  unfold bindC
  rw [vV fun v hv=>(List.nodup_cons.mp nd).1 (List.of_mem_zip hv).1,if_neg hk]
  simp
 | p :: P,w :: vs,i + 1,m,nd,h1,h2,hk=>by
  show bindC kindOf ((p,w) :: P.zip vs) m x = _
  unfold bindC
  exact qM (i:=i) (List.nodup_cons.mp nd).2 (by simpa using h1) (by simpa using h2) hk
def start (N:List Str) (vs:List V):St:=vs.map some ++ List.replicate (N.length - vs.length) none
def sJ (CX:EE) (P:Program) (w:World) (K:PySem.W.Frag) (mg:Str→Option Value) (base:Heap) (N:List Str) (qual:Str) (scope:Scope) (f:Addr) (cd:Value) (A:Around) (outer:List Env) (s:Shared) (H:Hp) (E:XK):Cx where
 prog:=P
 w:=w
 K:=K
 mg:=mg
 base:=base
 A:=A.deeper (envOfC qual scope s.heap.objs.size f cd)
 N:=N
 s₀:=s
 H₀:=H
 env:=envOfC qual scope s.heap.objs.size f cd
 outer:=outer
 stack:=envOfC qual scope s.heap.objs.size f cd :: outer
 ex:=[]
 calm:=true
 fn:=fun _=>true
 pn:=[]
 xe:=fun e s' => wpAny (model P w) (A.deeper (envOfC qual scope s.heap.objs.size f cd)) (leaving (envOfC qual scope s.heap.objs.size f cd) e) (fun _ s'' => CX outer H s E e s'') (fun e' s'' => CX outer H s E e' s'') s'
theorem qc {sc:Scope}{n:Nat}{x:Str}(h:sc.names.lookup x = some .cell):∃ c,(cellsFrom n sc.names []).lookup x = some c:=by
 have q:=PySem.W.cellsFrom_some sc.names n [] (.inl h)
 exact Option.isSome_iff_exists.mp q
theorem vW {CX:EE}{P:Program}{w:World}{K:PySem.W.Frag}{mg:Str→Option Value}{base:Heap}{N ps:List Str}{qual:Str}{scope:Scope}{f:Addr}{cd:Value}{A:Around}{outer:List Env}{s s1:Shared}{H:Hp}{E:XK}{us:List Value}{vs:List V}
  (S:bB N ps scope) (hd:A.handled = none) (e0:sI P w K mg base A outer s H) (hl:vs.length = ps.length) (r:Vals vs us)
  (x:InCallC s s.heap.objs.size (bindL (envOfC qual scope s.heap.objs.size f cd).kindOf (ps.zip us) fun _=>none) (cellsFrom (s.heap.objs.size + 1) scope.names []) (bindC (envOfC qual scope s.heap.objs.size f cd).kindOf (ps.zip us) fun _=>none) s1):
  Inv (sJ CX P w K mg base N qual scope f cd A outer s H E) [] (start N vs) H s1:=by
 have hpl:ps.length≤N.length:=by have:=congrArg List.length S.pre;rw [List.length_take] at this;omega
 obtain ⟨h1,tk,rfl,hk⟩:=x.done
 have Iq:∀ b:Addr,b ∉ (sJ CX P w K mg base N qual scope f cd A outer s H E).ex:=fun b z=>absurd (show b∈([]:List Addr) from z) (by simp)
 refine ⟨⟨e0.mod,S.kind,rfl,rfl,Nat.le_refl _,fun y z c h1 h2=>?_,fun y hy=>?_,fun y c _ h=>?_,fun _=>hd,Around.frames_deeper e0.frames,.inr ⟨rfl,rfl⟩,fun b z=>absurd z (Iq b),e0.bs,e0.Ef,fun b _ _=>Iq b,fun b z=>absurd z (Iq b),e0.qa,e0.Mr⟩,
  rfl,e0.bare,Un.kept hk,⟨_,x.toInCall.ns,fun i y v h1 h2 h3=>?_⟩,fun y c h=>⟨_,x.cell y c h⟩,e0.hok.fresh (Nat.le_refl _),fun y c h=>?_,fun p hp=>absurd (show p∈([]:List (Addr × Obj)) from hp) (by simp),e0.hok.kept hk,?_⟩
 ·exact name_of_addr x.apart (PySem.mem_of_lookup h1) (PySem.mem_of_lookup h2)
 ·have hy:scope.names.lookup y = some .cell∨scope.names.lookup y = some .free:=hy
  rcases hy with hy | hy
  ·exact qc hy
  ·exact absurd rfl (S.Of _ (PySem.mem_of_lookup hy))
 ·exact Nat.le_of_lt (x.above y c (PySem.mem_of_lookup h))
 ·have hi:i < vs.length:=by
   unfold start at h2
   by_cases hi:i < vs.length
   ·exact hi
   ·rw [List.getElem?_append_right (by simpa using hi)] at h2
    rw [List.getElem?_replicate] at h2
    split at h2 <;> cases h2
  have ha:vs[i]? = some v:=by
   unfold start at h2
   rw [List.getElem?_append_left (by simpa using hi),List.getElem?_map] at h2
   cases e:vs[i]? with
   | none=>rw [e] at h2;cases h2
   | some a=>rw [e] at h2;cases h2;rfl
  obtain ⟨u,hu,rv⟩:=r.get ha
  have hp:ps[i]? = some y:=by
   rw [← S.pre,List.getElem?_take_of_lt (by omega)];exact h1
  have ndP:ps.Nodup:=by rw [← S.pre];exact S.nd.sublist (List.take_sublist _ _)
  refine ⟨u,rv,?_⟩
  rcases S.par y (List.mem_of_getElem? hp) with k | k
  ·exact .inl ⟨k,qL ndP hp hu k⟩
  ·obtain ⟨c,e⟩:=qc (n:=s.heap.objs.size + 1) k
   refine .inr ⟨.inl k,c,e,?_⟩
   have q:=x.cell y c e
   rw [qM ndP hp hu (by show scope.names.lookup y≠_;rw [k];decide)] at q
   exact q
 ·exact e0.hok.fresh (Nat.le_of_lt (x.above y c (PySem.mem_of_lookup h)))
 ·unfold start
  show _ = N.length
  rw [List.length_append,List.length_map,List.length_replicate]
  omega
theorem My {CX:EE}{P:Program}{w:World}{K:PySem.W.Frag}{mg:Str→Option Value}{base:Heap}{k:Nat}{f:Addr}{name qual:Str}{params:Arguments}{body:List Stmt}{scope:Scope}{dV kV doc pm cdv ct oc:Value}{an od:Option Addr}
  {osl:Array (Option Value)}{N ps:List Str}{sp:Sp}(lk:K.lookup f = some ⟨oc,od,.func (PySem.W.fnOf name qual params body scope dV kV doc pm an cdv ct),osl⟩) (hcd:PySem.W.codeIn K cdv qual = true) (S:bB N ps scope)
  (len:∀ vs H Q E,sp vs H Q E→vs.length = ps.length)
  (hbody:∀ (A:Around) (outer:List Env) (s:Shared) (H:Hp) (vs:List V) (Q:VK) (E:XK),fS k (A.deeper (envOfC qual scope s.heap.objs.size f cdv))→sp vs H Q E→
   ∃ t,vA (sJ CX P w K mg base N qual scope f cdv A outer s H E) body t∧t { nx:=fun _ H' => Q .gk H',rt:=Q } (start N vs) H):
  bF P w K mg base CX (k + 1) f (PySem.W.fnOf name qual params body scope dV kV doc pm an cdv ct) ps sp:=by
 refine ⟨len,fun A outer s H args us vs Q E hr e0 hb r yN=>?_⟩
 have hl:=len _ _ _ _ yN
 have KX:K.In s.heap:=e0.mod.Ec.keeps fun b o e=>(e0.bs b o e).1
 have lim:s.heap.NoLimit:=e0.mod.nolimit.keeps fun b o e=>(e0.bs b o e).1
 have hkind:∀ y∈ps.zip us,scope.names.lookup y.1 = some .local∨(scope.names.lookup y.1 = some .cell∧((cellsFrom (s.heap.objs.size + 1) scope.names []).lookup y.1).isSome = true):=fun ⟨n,v⟩ hy=>by
  rcases S.par n (List.of_mem_zip hy).1 with q | q
  ·exact .inl q
  ·exact .inr ⟨q,PySem.W.cellsFrom_some _ _ _ (.inl q)⟩
 refine codeAny_call_function hr.depth (KX _ _ lk) rfl S.co S.gen rfl (PySem.W.codeRec_of KX hcd) (hb _ _ _ _ ?_)
 refine wpAny_newFunctionEnv_cells S.kind hkind fun env he s1 x=>?_
 subst he
 refine ⟨lim.keeps x.toInCall.keep,codeAny_func ?_⟩
 obtain ⟨t,ht,hq⟩:=hbody A outer s H vs Q E (hr.deeper _) yN
 have I:Inv (sJ CX P w K mg base N qual scope f cdv A outer s H E) [] (start N vs) H s1:=vW S hr.hd e0 hl r x
 refine wpAny_mono (ht [] s1 (start N vs) H _ I hq) (fun fl s' hs=>?_) fun e s' hs=>hs
 have fin:∀ {σ' : St} {H' : Hp} {v:V}{u:Value},Inv (sJ CX P w K mg base N qual scope f cdv A outer s H E) [] σ' H' s' → RelV v u→Q v H' → CE outer P w H s Q u s' :=
  fun {σ' H' v u} J rv q=>⟨v,H',J.os,J.bare,J.base,J.hok,rv,q⟩
 cases fl with
 | ret u=>
  obtain ⟨v,σ',H',J,rv,q⟩:=hs
  exact fin J rv q
 | next=>
  obtain ⟨σ',H',J,q⟩:=hs
  exact fin (v:=V.gk) (u:=Value.none) J rfl q
 | brk=>
  obtain ⟨_,_,_,q⟩:=hs
  exact False.elim q
 | cont=>
  obtain ⟨_,_,_,q⟩:=hs
  exact False.elim q
end L2
namespace L2
open PySem PySem.Spec PyProof.Rows
section
variable {X:Cx}{x:Str}{p pos:Pos}{e:Expr}{es:List Expr}{t:TA}{id T:String}{r:List V→Hp→VK→Prop}
def C3 (r:List V→Hp→VK→Prop) (t:TA):TE:=fun σ H Q=>t σ H fun vs H1=>r vs H1 Q
theorem bY (hc:gU X (.builtin id) r) (hg:Gl X x) (hm:X.mg x = none) (hv:bootBuiltins x = some (.builtin id)) (ha:PA X (e :: es) t) (hn:x≠ "__name__" := by decide) (hdb:(x == ("__debug__" : Str)) = false:=by decide)
  (he:starEach (e :: es) X.env = (false,eval e X.env) :: starEach es X.env:=by rfl) (hpl:(backTo pos (starEach es X.env)).any (·.1) = false:=by rfl):PE X (.Call (.Name x p) (e :: es) [] pos) (C3 r t):=by
 intro pins s σ H Q I h
 refine wpAny_Call_Name_kw (lP I hg hm hv ?_ hn hdb)
 exact PyProof.Rows.callWith_builtin1 (cJ (ha pos pins s σ H _ I h) fun us s1 ⟨vs,H1,I1,r1,q1⟩=>hc pins s1 σ H1 vs us Q I1 r1 q1) he hpl
theorem cV (hc:gU X (.type T) r) (hg:Gl X x) (hm:X.mg x = none) (hv:bootBuiltins x = some (.type T)) (ha:PA X (e :: es) t) (hn:x≠ "__name__" := by decide) (hdb:(x == ("__debug__" : Str)) = false:=by decide)
  (he:starEach (e :: es) X.env = (false,eval e X.env) :: starEach es X.env:=by rfl) (hpl:(backTo pos (starEach es X.env)).any (·.1) = false:=by rfl):PE X (.Call (.Name x p) (e :: es) [] pos) (C3 r t):=by
 intro pins s σ H Q I h
 refine wpAny_Call_Name_kw (lP I hg hm hv ?_ hn hdb)
 exact PyProof.Rows.callWith_type1 (cJ (ha pos pins s σ H _ I h) fun us s1 ⟨vs,H1,I1,r1,q1⟩=>hc pins s1 σ H1 vs us Q I1 r1 q1) he hpl
end
end L2
namespace HT
open PySem PyProof.Rows
section
open PySem.SeqAt
open PySem.AutoSeq1 (wpAny_loadPart')
open PySem.MeetsSeq PySem.MeetsSeq2 PySem.MeetsSeq3
end
section
variable {prog:Program}{w:World}{A:Around}{E:Value→Shared→Prop}{s:Shared}
def pJ (n d:Nat):Option Int→Nat
 | none=>d
 | some v=>if v < 0 then (v + (n:Int)).toNat else min v.toNat n
theorem xm (n d k:Nat):pJ n d (some (k:Int)) = min k n:=by
 show (if (k:Int) < 0 then ((k:Int) + (n:Int)).toNat else min (k:Int).toNat n) = min k n
 rw [if_neg (by omega),Int.toNat_natCast]
end
end HT
namespace L2
open PySem PySem.Spec PyProof.Rows
abbrev TO:=St→Hp→(Option Int→Hp→Prop)→Prop
def PO (X:Cx) (e:Option Expr) (t:TO):Prop:=
 ∀ (pins:List (Addr × Obj)) (s:Shared) (σ:St) (H:Hp) (Q:Option Int→Hp→Prop),Inv X pins σ H s→t σ H Q→
  wpAny (model X.prog X.w) X.A (evalPart e X.env) (fun u s' => ∃ o H',Inv X pins σ H' s' ∧ IsPart u o∧Q o H') X.xe s
def Ci:TO:=fun _ H Q=>Q none H
def Mz (t:TE):TO:=fun σ H Q=>t σ H fun x H1=>∃ i,x = .int i∧Q (some i) H1
theorem intsAre_of {ns:List Int}:∀ {us:List Value},Vals (ns.map V.int) us→IntsAre us ns:=by
 induction ns with
 | nil=>intro us r;rw [List.map_nil] at r;cases r;exact .nil
 | cons n ns ih=>
  intro us r
  rw [List.map_cons] at r
  cases r with
  | cons r1 r2=>
   obtain ⟨t,e⟩:=r1
   subst e
   exact .cons n t (ih r2)
section
variable {X:Cx}{e:Expr}{te:TE}{lo hi:Option Expr}{tl th:TO}{pos p2:Pos}
theorem iW:PO X none Ci:=by
 intro pins s σ H Q I h
 rw [evalPart_none]
 exact wpAny_pure ⟨none,H,I,.none,h⟩
theorem iX (h:PE X e te):PO X (some e) (Mz te):=by
 intro pins s σ H Q I hw
 rw [evalPart_some]
 refine cJ (h pins s σ H _ I hw) fun u s1 ⟨x,H1,I1,r1,q1⟩=>?_
 obtain ⟨i,rfl,q⟩:=q1
 obtain ⟨t,rfl⟩:=r1
 exact ⟨some i,H1,I1,.int i t,q⟩
def MA (X:Cx) (r:V→Option Int→Option Int→Hp→VK→Prop):Prop:=
 ∀ (pins:List (Addr × Obj)) (s:Shared) (σ:St) (H:Hp) (x:V) (v vl vu:Value) (lo hi:Option Int) (sl:Addr) (Q:VK),Inv X pins σ H s→RelV x v→s.heap.IsSliceOf sl vl vu .none→IsPart vl lo→IsPart vu hi→r x lo hi H Q→
  ∃ T id,typeLookup (.type T) "__getitem__" = pure (some (.builtin id))∧s.TypeIs v T∧wpAny (model X.prog X.w) X.A (getItem v (.ref sl)) (EP X pins σ Q) X.xe s
theorem MA.or {r r' : V→Option Int→Option Int→Hp→VK→Prop} (h:MA X r) (h' : MA X r'):MA X (fun x lo hi H Q=>r x lo hi H Q∨r' x lo hi H Q):=by
 intro pins s σ H x v vl vu lo hi sl Q I rx hs pl pu q
 rcases q with q | q
 ·exact h pins s σ H x v vl vu lo hi sl Q I rx hs pl pu q
 ·exact h' pins s σ H x v vl vu lo hi sl Q I rx hs pl pu q
def Zy (r:V→Option Int→Option Int→Hp→VK→Prop) (te:TE) (tl th:TO):TE:=fun σ H Q=>te σ H fun x H1=>tl σ H1 fun l H2=>th σ H2 fun u H3=>r x l u H3 Q
theorem jZ {r:V→Option Int→Option Int→Hp→VK→Prop}(hr:MA X r) (he:PE X e te) (hl:PO X lo tl) (hu:PO X hi th):PE X (.Subscript e (.Slice lo hi none p2) pos) (Zy r te tl th):=by
 intro pins s σ H Q I h
 refine Subscript_ (cJ (he pins s σ H _ I h) fun v s1 ⟨x,H1,I1,r1,q1⟩=>?_)
 refine wpAny_Slice (cJ (hl pins s1 σ H1 _ I1 q1) fun vl s2 ⟨l,H2,I2,pl,q2⟩=>cJ (hu pins s2 σ H2 _ I2 q2) fun vu s3 ⟨u,H3,I3,pu,q3⟩=>?_)
 rw [evalPart_none]
 refine wpAny_pure ?_
 have I4:Inv X pins σ H3 { s3 with heap:=s3.heap.push { cls:=.type "slice",data:=.fields #[vl,vu,.none] } }:=I3.kept (t' := s3.toks) fun b ob q=>Heap.get?_push_of_some _ q
 obtain ⟨T,id,hT,ht,hg⟩:=hr pins { s3 with heap:=s3.heap.push { cls:=.type "slice",data:=.fields #[vl,vu,.none] } } σ H3 x v vl vu l u s3.heap.objs.size Q I4 r1 (Heap.IsSliceOf.new ..) pl pu q3
 show wpAny (model X.prog X.w) X.A (subscriptTail e (.Slice lo hi none p2) v (.ref s3.heap.objs.size)) (EP X pins σ Q) X.xe { s3 with heap:=s3.heap.push { cls:=.type "slice",data:=.fields #[vl,vu,.none] } }
 exact tail_any (ops:=[.ref s3.heap.objs.size,v]) ht hT hg (by with_unfolding_all rfl)
def m6 (xs:List V) (lo hi:Option Int):List V:=(xs.drop (HT.pJ xs.length 0 lo)).take (HT.pJ xs.length xs.length hi - HT.pJ xs.length 0 lo)
theorem yO (xs:List V) (lo hi:Option Int):(m6 xs lo hi).length≤xs.length:=by
 unfold m6
 rw [List.length_take,List.length_drop]
 omega
end
end L2
namespace L2
open PySem PySem.Spec PyProof.Rows
def yP (n:Nat) (i:Int):Option Nat:=if 0≤i then (if i < n then some i.toNat else none) else if -(n:Int)≤i then some (i + n).toNat else none
def yE {α:Type}(xs:List α) (i:Int):Option α:=(yP xs.length i).bind fun j=>xs[j]?
theorem Cj {n:Nat}{i:Int}{j:Nat}(h:yP n i = some j):seqIndex? i n = some j∧j < n∧-(n:Int)≤i∧i < n:=by
 unfold yP at h
 by_cases h0:0≤i
 ·rw [if_pos h0] at h
  by_cases h1:i < n
  ·rw [if_pos h1] at h
   have e:i.toNat = j:=Option.some.inj h
   exact ⟨by rw [seqIndex_of h0 h1,e],by omega,by omega,h1⟩
  ·rw [if_neg h1] at h;cases h
 ·rw [if_neg h0] at h
  by_cases h1:-(n:Int)≤i
  ·rw [if_pos h1] at h
   have e:(i + n).toNat = j:=Option.some.inj h
   exact ⟨by rw [seqIndex_neg (by omega) h1,e],by omega,h1,by omega⟩
  ·rw [if_neg h1] at h;cases h
theorem xq {α:Type}{xs:List α}{i:Int}{v:α}(h:yE xs i = some v):∃ j,seqIndex? i xs.length = some j∧xs[j]? = some v∧j < xs.length∧-(xs.length:Int)≤i∧i < xs.length:=by
 unfold yE at h
 cases e:yP xs.length i with
 | none=>rw [e] at h;cases h
 | some j=>
  rw [e] at h
  obtain ⟨h1,h2,h3,h4⟩:=Cj e
  exact ⟨j,h1,h,h2,h3,h4⟩
theorem lT {α:Type}{xs:List α}{j:Nat}{v:α}(h:xs[j]? = some v):yE xs (j:Int) = some v:=by
 have hj:j < xs.length:=(List.getElem?_eq_some_iff.mp h).1
 have e:yP xs.length (j:Int) = some j:=by
  unfold yP
  rw [if_pos (by omega),if_pos (by omega)];simp
 unfold yE;rw [e];exact h
def Ir (b:Expr):Prop:=∀ o i,subscripted b false o i = operate [o,i] (getItem o i)
def EF (X:Cx) (r:R2):Prop:=
 ∀ (value slice:Expr) (pins:List (Addr × Obj)) (s:Shared) (σ:St) (H:Hp) (x y:V) (v u:Value) (Q:VK),Inv X pins σ H s→RelV x v→RelV y u→r x y H Q→
  subscripted slice false v u = operate [v,u] (getItem v u)→wpAny (model X.prog X.w) X.A (subscriptTail value slice v u) (EP X pins σ Q) X.xe s
def EG (X:Cx) (id:String) (r:V→List V→Hp→VK→Prop):Prop:=
 ∀ (pins:List (Addr × Obj)) (s:Shared) (σ:St) (H:Hp) (x:V) (xs:List V) (v:Value) (us:List Value) (Q:VK),Inv X pins σ H s→RelV x v→Vals xs us→r x xs H Q→
  wpAny (model X.prog X.w) X.A (call (.builtin id) (v :: us)) (EP X pins σ Q) X.xe s
section
variable {X:Cx}{a b:Expr}{ta tb:TE}{pos:Pos}
theorem EF.or {r r' : R2} (h:EF X r) (h' : EF X r'):EF X (fun x y H Q=>r x y H Q∨r' x y H Q):=by
 intro value slice pins s σ H x y v u Q I rx ry q hs
 rcases q with q | q
 ·exact h value slice pins s σ H x y v u Q I rx ry q hs
 ·exact h' value slice pins s σ H x y v u Q I rx ry q hs
theorem EG.or {id:String}{r r' : V→List V→Hp→VK→Prop} (h:EG X id r) (h' : EG X id r'):EG X id (fun x xs H Q=>r x xs H Q∨r' x xs H Q):=by
 intro pins s σ H x xs v us Q I rx rs q
 rcases q with q | q
 ·exact h pins s σ H x xs v us Q I rx rs q
 ·exact h' pins s σ H x xs v us Q I rx rs q
theorem bf {r:R2}(hr:EF X r) (ha:PE X a ta) (hb:PE X b tb) (hs:Ir b):PE X (.Subscript a b pos) (iV r ta tb):=by
 intro pins s σ H Q I h
 exact Subscript_ (N9 ha hb I h fun v u s2 x y H2 I2 rx ry q=>hr a b pins s2 σ H2 x y v u Q I2 rx ry q (hs _ _))
def yQ (K:PySem.W.Frag):R2:=fun x y H Q=>∃ p xs i v,x = .ref p∧y = .int i∧b9 K H p xs∧yE xs i = some v∧Q v H
def ng (K:PySem.W.Frag):R2:=fun x y H Q=>∃ p xs i v,x = .ref p∧y = .int i∧eV K H p xs∧yE xs i = some v∧Q v H
def Zz:R2:=fun x y H Q=>∃ z i c,x = .str z∧y = .int i∧z.length≤sizeLine∧yE z.cps.toList i = some c∧Q (.str ⟨#[c]⟩) H
theorem iY:EF X (yQ X.K):=by
 intro value slice pins s σ H x y v u Q I rx ry h hs
 obtain ⟨p,xs,i,z,rfl,rfl,hq,he,q⟩:=h
 cases rx
 obtain ⟨t,rfl⟩:=ry
 obtain ⟨its,r,pl,hz⟩:=I.list hq
 obtain ⟨j,h1,h2,h3,h4,h5⟩:=xq he
 obtain ⟨w,ew,rw'⟩:=r.get h2
 have hl:=r.length
 have hn:=qK
 have fin:EP X pins σ Q w s:=⟨z,H,I,rw',q⟩
 by_cases h0:0≤i
 ·have hj:i.toNat = j:=by
   rw [seqIndex_of h0 h5] at h1
   exact Option.some.inj h1
  exact item_listR pl.isList h0 (by omega) (by rw [hj];simpa using ew) fin hs
 ·have hj:(i + (its.toArray.size:Int)).toNat = j:=by
   rw [seqIndex_neg (by omega) h4] at h1
   rw [List.size_toArray,← hl]
   exact Option.some.inj h1
  exact subscriptTail_builtinR (x:=w) pl.isList.typeIs slot_list_getitem.lookup
   (wpAny_getItem_list_neg (Q:=fun r s' => r = w∧EP X pins σ Q r s') pl.isList (by omega) (by rw [List.size_toArray] <;> omega) (by omega) (by rw [hj];simpa using ew) ⟨rfl,fin⟩) hs
theorem Og:EF X (ng X.K):=by
 intro value slice pins s σ H x y v u Q I rx ry h hs
 obtain ⟨p,xs,i,z,rfl,rfl,hq,he,q⟩:=h
 cases rx
 obtain ⟨t,rfl⟩:=ry
 obtain ⟨its,r,pl,hz⟩:=I.tuple hq
 obtain ⟨j,h1,h2,h3,h4,h5⟩:=xq he
 obtain ⟨w,ew,rw'⟩:=r.get h2
 have hl:=r.length
 have hn:=qK
 have fin:EP X pins σ Q w s:=⟨z,H,I,rw',q⟩
 exact subscriptTail_builtinR (x:=w) pl.typeIs slot_tuple_getitem.lookup
  (getItem_tuple (j:=j) (Q:=fun r s' => r = w∧EP X pins σ Q r s') pl (by omega) (by omega) (by rw [List.size_toArray,← hl];exact h1) (by simpa using ew) ⟨rfl,fin⟩) hs
theorem AO:EF X Zz:=by
 intro value slice pins s σ H x y v u Q I rx ry h hs
 obtain ⟨z,i,c,rfl,rfl,hz,he,q⟩:=h
 obtain ⟨t,rfl⟩:=rx
 obtain ⟨t',rfl⟩:=ry
 obtain ⟨j,h1,h2,h3,h4,h5⟩:=xq he
 have hl:z.cps.toList.length = z.length:=by simp [Str.length]
 rw [hl] at h1 h4 h5
 have hn:=qK
 exact tail_any (typeIs_str s z t) slot_str_getitem.lookup (getItem_str (c:=c) (by
  have e1:decide (i < -(2 ^ 63:Int)) = false:=decide_eq_false (by omega)
  have e2:decide (i ≥ 2 ^ 63) = false:=decide_eq_false (by omega)
  rw [e1,e2,Bool.or_false]) (by rw [h1];simpa using h2) ⟨.str ⟨#[c]⟩,H,I.tok _,⟨_,rfl⟩,q⟩) hs
theorem AQ (its:List Value) (n j:Nat) (u:Value):Obj.mapSeq (·.setIfInBounds j u) { cls:=.type "list",data:=.seq its.toArray n } = { cls:=.type "list",data:=.seq (its.set j u).toArray n }:=by
 simp [Obj.mapSeq]
theorem Inv.lst {pins:List (Addr × Obj)}{σ:St}{H:Hp}{s:Shared}{p:Addr}{xs:List V}(I:Inv X pins σ H s) (h:H p = some (.lst xs)):
  ∃ (its:List Value) (n:Nat),Vals xs its∧s.heap.get? p = some { cls:=.type "list",data:=.seq its.toArray n }∧xs.length≤sizeLine:=by
 obtain ⟨z,its,n,r,e⟩:=I.hok p _ h
 exact ⟨its,n,r,e,z⟩
theorem Inv.Oh {pins:List (Addr × Obj)}{σ:St}{H:Hp}{s:Shared}{p:Addr}{xs ys:List V}{its its' : List Value} {n n' : Nat} {f:Obj→Obj}(I:Inv X pins σ H s) (h:H p = some (.lst xs))
  (ho:s.heap.get? p = some { cls:=.type "list",data:=.seq its.toArray n }) (hf:f { cls:=.type "list",data:=.seq its.toArray n } = { cls:=.type "list",data:=.seq its'.toArray n' }) (r:Vals ys its') (hz:ys.length≤sizeLine) (t:Nat):
  Inv X pins σ (upd H p (.lst ys)) { s with heap:=s.heap.update p f,toks:=t }:=by
 have e:(s.heap.update p f).get? p = some { cls:=.type "list",data:=.seq its'.toArray n' }:=by
  rw [Heap.get?_update_self f ho (by rw [hf] <;> rfl),hf]
 refine I.write (x:=p) (e:=p) (by rw [h];trivial) (.inl rfl) (fun b u hb q=>(Heap.get?_update_other _ _ (Ne.symm hb)).trans q) ⟨_,e⟩ ?_
 exact ⟨hz,its',n',r,e⟩
def Rq:V→V→V→Hp→(Hp→Prop)→Prop:=fun o i v H Q=>∃ p xs k j,o = .ref p∧i = .int k∧H p = some (.lst xs)∧yP xs.length k = some j∧Q (upd H p (.lst (xs.set j v)))
theorem set_list:Ri X Rq:=by
 intro pins s σ H o i v ov iv u Q I ro ri rv h
 obtain ⟨p,xs,k,j,rfl,rfl,hp,hj,q⟩:=h
 cases ro
 obtain ⟨t,rfl⟩:=ri
 obtain ⟨its,n,r,ho,hz⟩:=I.lst hp
 obtain ⟨h1,h2,h3,h4⟩:=Cj hj
 have hl:=r.length
 have hn:=qK
 have I' : Inv X pins σ (upd H p (.lst (xs.set j v))) { s with heap:=s.heap.update p (Obj.mapSeq (·.setIfInBounds j u)) }:=
  I.Oh hp ho (AQ its n j u) (r.set rv j) (by rw [List.length_set];exact hz) s.toks
 by_cases h0:0≤k
 ·have hk:k.toNat = j:=by
   rw [seqIndex_of h0 h4] at h1
   exact Option.some.inj h1
  exact PySem.W.ki_setAt ho h0 (by omega) (by rw [List.size_toArray,← hl];exact h4) (by rw [hk];exact ⟨_,I',q⟩)
 ·have hk:(k + (its.toArray.size:Int)).toNat = j:=by
   rw [seqIndex_neg (by omega) h3] at h1
   rw [List.size_toArray,← hl]
   exact Option.some.inj h1
  exact PySem.W.ki_setBack ho (by omega) (by rw [List.size_toArray,← hl];exact h3) (by omega) (by rw [hk];exact ⟨_,I',q⟩)
theorem xu (lo hi:Option Int) (n:Nat):(sliceBounds lo hi none n).1 = ((HT.pJ n 0 lo:Nat):Int)∧(sliceBounds lo hi none n).2.1 = ((HT.pJ n n hi:Nat):Int)∧(sliceBounds lo hi none n).2.2 = 1:=by
 refine ⟨?_,?_,rfl⟩
 ·cases lo with
  | none=>simp [sliceBounds,HT.pJ]
  | some i=>
   simp only [sliceBounds,HT.pJ,Option.getD_none,show (1:Int) > 0 by decide,if_true]
   by_cases h:i < 0
   ·simp only [h,if_true] <;> omega
   ·simp only [h,if_false] <;> omega
 ·cases hi with
  | none=>simp [sliceBounds,HT.pJ]
  | some i=>
   simp only [sliceBounds,HT.pJ,Option.getD_none,show (1:Int) > 0 by decide,if_true]
   by_cases h:i < 0
   ·simp only [h,if_true] <;> omega
   ·simp only [h,if_false] <;> omega
theorem vE (its:List Value) (lo hi:Option Int):slicePick its.toArray lo hi none = ((its.drop (HT.pJ its.length 0 lo)).take (HT.pJ its.length its.length hi - HT.pJ its.length 0 lo)).toArray:=by
 obtain ⟨h1,h2,h3⟩:=xu lo hi its.toArray.size
 unfold slicePick
 rw [h1,h2,h3]
 simp only [sliceRange_one,pick_run,List.size_toArray] <;> rfl
def Iu (K:PySem.W.Frag):V→Option Int→Option Int→Hp→VK→Prop:=fun x lo hi H Q=>∃ a xs,x = .ref a∧b9 K H a xs∧∀ p,H p = none→Q (.ref p) (upd H p (.lst (m6 xs lo hi)))
theorem xw:MA X (Iu X.K):=by
 intro pins s σ H x v vl vu lo hi sl Q I rx hs pl pu h
 obtain ⟨a,xs,rfl,hx,q⟩:=h
 cases rx
 obtain ⟨its,r,ht,hz⟩:=I.list hx
 have hlen:=r.length
 refine ⟨"list",_,slot_list_getitem.lookup,ht.isList.typeIs,?_⟩
 refine wpAny_getItem_list_slice ht.isList hs pl pu .none (by simp) ?_ (by rw [List.size_toArray] <;> omega)
 rw [vE,← hlen]
 refine ⟨.ref s.heap.objs.size,_,I.laid (t' := s.toks) (o:=.lst (m6 xs lo hi)) (fun b ob q=>Heap.get?_push_of_some _ q) (Nat.le_refl _) ?_,rfl,q _ (I.hok.fresh (Nat.le_refl _))⟩
 exact ⟨Nat.le_trans (yO xs lo hi) hz,_,0,(r.drop (HT.pJ xs.length 0 lo)).take (HT.pJ xs.length xs.length hi - HT.pJ xs.length 0 lo),Heap.get?_push_size _ rfl⟩
def oY:V→Bool
 | .gk=>true
 | .bl _=>true
 | .int _=>true
 | .str _=>true
 | _=>false
def Eg:V→V→Bool
 | .gk,.gk=>true
 | .bl a,.bl b=>a == b
 | .bl a,.int b=>(if a then 1 else 0) == b
 | .int a,.bl b=>a == (if b then 1 else 0)
 | .int a,.int b=>a == b
 | .str a,.str b=>a == b
 | _,_=>false
theorem Oi {A:Around}{s:Shared}{y x:V}{u v:Value}(ry:RelV y u) (rx:RelV x v) (fy:oY y = true) (fx:oY x = true):SeqAt.EqAt A s u v (Eg y x):=by
 cases y with
 | gk=>
  cases ry
  cases x with
  | gk=>cases rx;exact SeqAt.EqAt.same _
  | bl b=>cases rx;exact SeqAt.EqAt.none_bool b
  | int b=>obtain ⟨t,rfl⟩:=rx;exact SeqAt.EqAt.none_int b t
  | str b=>obtain ⟨t,rfl⟩:=rx;exact SeqAt.EqAt.none_str b t
  | _=>exact absurd (show false = true from fx) Bool.false_ne_true
 | bl a=>
  cases ry
  cases x with
  | gk=>cases rx;exact SeqAt.EqAt.bool_none a
  | bl b=>cases rx;exact SeqAt.EqAt.bool_bool a b
  | int b=>obtain ⟨t,rfl⟩:=rx;exact SeqAt.EqAt.bool_int a b t
  | str b=>obtain ⟨t,rfl⟩:=rx;exact SeqAt.EqAt.bool_str a b t
  | _=>exact absurd (show false = true from fx) Bool.false_ne_true
 | int a=>
  obtain ⟨t',rfl⟩:=ry
  cases x with
  | gk=>cases rx;exact SeqAt.EqAt.int_none a t'
  | bl b=>cases rx;exact SeqAt.EqAt.int_bool a t' b
  | int b=>obtain ⟨t,rfl⟩:=rx;exact SeqAt.EqAt.int_int a t' b t
  | str b=>obtain ⟨t,rfl⟩:=rx;exact SeqAt.EqAt.int_str a t' b t
  | _=>exact absurd (show false = true from fx) Bool.false_ne_true
 | str a=>
  obtain ⟨t',rfl⟩:=ry
  cases x with
  | gk=>cases rx;exact SeqAt.EqAt.str_none a t'
  | bl b=>cases rx;exact SeqAt.EqAt.str_bool a t' b
  | int b=>obtain ⟨t,rfl⟩:=rx;exact SeqAt.EqAt.str_int a t' b t
  | str b=>obtain ⟨t,rfl⟩:=rx;exact SeqAt.EqAt.str_str a t' b t
  | _=>exact absurd (show false = true from fx) Bool.false_ne_true
 | _=>exact absurd (show false = true from fy) Bool.false_ne_true
def Iv (x:V) (u:Value):Bool:=match u with
 | .none=>Eg .gk x
 | .bool b=>Eg (.bl b) x
 | .int i _=>Eg (.int i) x
 | .str z _=>Eg (.str z) x
 | _=>false
theorem EH {x y:V}{u:Value}(r:RelV y u) (f:oY y = true):Iv x u = Eg y x:=by
 cases y with
 | gk=>cases r;rfl
 | bl b=>cases r;rfl
 | int i=>obtain ⟨t,rfl⟩:=r;rfl
 | str z=>obtain ⟨t,rfl⟩:=r;rfl
 | _=>exact absurd (show false = true from f) Bool.false_ne_true
theorem xx {x:V}:∀ {xs:List V}{us:List Value},Vals xs us→xs.all oY = true→us.any (Iv x) = xs.any fun y=>Eg y x
 | _,_,.nil,_=>rfl
 | y :: xs,u :: us,.cons r t,f=>by
  rw [List.all_cons,Bool.and_eq_true] at f
  rw [List.any_cons,List.any_cons,EH r f.1,xx t f.2]
theorem tX {A:Around}{s:Shared}{x:V}{v:Value}(rx:RelV x v) (fx:oY x = true):∀ {xs:List V}{us:List Value},Vals xs us→xs.all oY = true→∀ u∈us,SeqAt.EqAt A s u v (Iv x u)
 | _,_,.nil,_=>fun u hu=>by cases hu
 | y :: xs,u :: us,.cons r t,f=>fun u' hu=>by
  rw [List.all_cons,Bool.and_eq_true] at f
  rcases List.mem_cons.mp hu with rfl | hu
  ·rw [EH r f.1];exact Oi r rx f.1 fx
  ·exact tX rx fx t f.2 u' hu
def inV (x:V) (xs:List V):Bool:=xs.any fun y=>Eg y x
def Rr (K:PySem.W.Frag) (neg:Bool):R2:=fun x y H Q=>∃ p xs,y = .ref p∧(b9 K H p xs∨eV K H p xs)∧oY x = true∧xs.all oY = true∧Q (.bl (if neg then !inV x xs else inV x xs)) H
theorem lB:oX X (compareOp .In) (Rr X.K false):=by
 intro pins s σ H x y v u Q I rx ry h
 obtain ⟨p,xs,rfl,hq,fx,fs,q⟩:=h
 cases ry
 rcases hq with hq | hq
 ·obtain ⟨its,r,pl,hz⟩:=I.list hq
  refine SeqAt.in_listAt (Iv x) pl.isList (fun w hw=>tX rx fx r fs w (by simpa using hw)) ⟨.bl _,H,I,rfl,?_⟩
  rw [show its.toArray.any (Iv x) = its.any (Iv x) by simp,xx r fs]
  exact q
 ·obtain ⟨its,r,pl,hz⟩:=I.tuple hq
  refine SeqAt.in_tupleAt (Iv x) pl (fun w hw=>tX rx fx r fs w (by simpa using hw)) ⟨.bl _,H,I,rfl,?_⟩
  rw [show its.toArray.any (Iv x) = its.any (Iv x) by simp,xx r fs]
  exact q
theorem jF:gU X (.builtin "len") (fun xs H Q=>∃ p ys,xs = [.ref p]∧(b9 X.K H p ys∨eV X.K H p ys)∧Q (.int ys.length) H):=by
 intro pins s σ H xs us Q I r h
 obtain ⟨p,ys,rfl,hq,q⟩:=h
 obtain ⟨u,rfl,rx⟩:=vals1 r
 cases rx
 have hn:=qK
 rcases hq with hq | hq
 ·obtain ⟨its,r',pl,hz⟩:=I.list hq
  have hlen:=r'.length
  exact Calls.call_len_list pl.isList (by simp only [List.size_toArray] <;> omega) ⟨.int ys.length,H,I.tok _,⟨s.toks + 1,by rw [List.size_toArray,hlen]⟩,q⟩
 ·obtain ⟨its,r',pl,hz⟩:=I.tuple hq
  have hlen:=r'.length
  exact len_tuple pl (by simp only [List.size_toArray] <;> omega) ⟨.int ys.length,H,I.tok _,⟨s.toks + 1,by rw [List.size_toArray,hlen]⟩,q⟩
theorem xy:gU X (.builtin "len") (fun xs H Q=>∃ z,xs = [.str z]∧z.length≤sizeLine∧Q (.int z.length) H):=by
 intro pins s σ H xs us Q I r h
 obtain ⟨z,rfl,hz,q⟩:=h
 obtain ⟨u,rfl,t,rfl⟩:=vals1 r
 have hn:=qK
 exact len_str (by omega) ⟨.int z.length,H,I.tok _,⟨_,rfl⟩,q⟩
theorem gU.or {f:Value}{r r' : List V→Hp→VK→Prop} (h:gU X f r) (h' : gU X f r'):gU X f (fun xs H Q=>r xs H Q∨r' xs H Q):=by
 intro pins s σ H xs us Q I rs q
 rcases q with q | q
 ·exact h pins s σ H xs us Q I rs q
 ·exact h' pins s σ H xs us Q I rs q
theorem xA:gU X (.type "list") (fun xs H Q=>∃ p ys,xs = [.ref p]∧(b9 X.K H p ys∨eV X.K H p ys)∧∀ l,H l = none→Q (.ref l) (upd H l (.lst ys))):=by
 intro pins s σ H xs us Q I r h
 obtain ⟨p,ys,rfl,hq,q⟩:=h
 obtain ⟨u,rfl,rx⟩:=vals1 r
 cases rx
 have fin:∀ (its:List Value),Vals ys its→ys.length≤sizeLine→∀ (h' : Heap) (c' : Nat),(∀ b o',s.heap.get? b = some o' → h'.get? b = some o')→
   h'.get? s.heap.objs.size = some { cls:=.type "list",dict:=none,data:=.seq its.toArray c',slots:=#[] }→EP X pins σ Q (.ref s.heap.objs.size) { s with heap:=h' }:=fun its r' hz h' c' kp e=>
  ⟨.ref s.heap.objs.size,_,I.laid (t' := s.toks) kp (Nat.le_refl _) (show cC X.prog X.w _ h' _ (.lst ys) from ⟨hz,its,c',r',e⟩),rfl,q _ (I.hok.fresh (Nat.le_refl _))⟩
 rcases hq with hq | hq
 ·obtain ⟨its,r',pl,hz⟩:=I.list hq
  have hlen:=r'.length
  obtain ⟨o,ho,hc,n,hd⟩:=pl.isList
  exact call_list_seq p (.inl rfl) ho hc hd (fun h' c' kp e=>fin its r' hz h' c' kp e) (by simp only [List.size_toArray] <;> omega)
 ·obtain ⟨its,r',pl,hz⟩:=I.tuple hq
  have hlen:=r'.length
  obtain ⟨o,ho,hc,n,hd⟩:=pl
  exact call_list_seq p (.inr rfl) ho hc hd (fun h' c' kp e=>fin its r' hz h' c' kp e) (by simp only [List.size_toArray] <;> omega)
theorem oZ:gU X (.type "tuple") (fun xs H Q=>∃ p ys,xs = [.ref p]∧((b9 X.K H p ys∧∀ l,H l = none→Q (.ref l) (upd H l (.tup ys)))∨(eV X.K H p ys∧Q (.ref p) H))):=by
 intro pins s σ H xs us Q I r h
 obtain ⟨p,ys,rfl,h⟩:=h
 obtain ⟨u,rfl,rx⟩:=vals1 r
 cases rx
 rcases h with ⟨hq,q⟩ | ⟨hq,q⟩
 ·obtain ⟨its,r',pl,hz⟩:=I.list hq
  have hlen:=r'.length
  refine call_tuple_list pl.isList (fun h' kp=>?_) (by simp only [List.size_toArray] <;> omega)
  have I1:Inv X pins σ H { s with heap:=h' }:=I.kept (t' := s.toks) kp
  have I2:Inv X pins σ (upd H h'.objs.size (.tup ys)) { s with heap:=h'.push { cls:=.type "tuple",data:=.seq its.toArray } }:=
   I1.laid (t' := s.toks) (fun b o e=>Heap.get?_push_of_some _ e) (Nat.le_refl _) (show cC X.prog X.w _ _ _ (.tup ys) from ⟨hz,its,r',IsTup.new _ _,_,Heap.get?_push_size _ rfl,rfl⟩)
  exact ⟨.ref h'.objs.size,_,I2,rfl,q _ (I1.hok.fresh (Nat.le_refl _))⟩
 ·obtain ⟨its,r',pl,hz⟩:=I.tuple hq
  exact call_tuple_same pl ⟨.ref p,H,I,rfl,q⟩
def ZA (K:PySem.W.Frag) (T:String) (x:V) (H:Hp):Prop:=match x with
 | .str _=>T = "str"
 | .int _=>T = "int"
 | .ref p=>(T = "list" ∧ ∃ xs,b9 K H p xs)∨(T = "tuple" ∧ ∃ o,K.lookup p = some o∧o.cls = .type "tuple" ∧ o.dict = none)∨
   (T = "dict" ∧ ((∃ kvs,H p = some (.dK kvs))∨∃ kvs,H p = some (.dT kvs)))∨(T = "set" ∧ ∃ S n,H p = some (.set S n))
 | _=>False
theorem EI {pins:List (Addr × Obj)}{σ:St}{H:Hp}{s:Shared}{T:String}{x:V}{v:Value}(I:Inv X pins σ H s) (r:RelV x v) (ty:ZA X.K T x H):
  s.TypeIs v T∧∀ a,v = .ref a→∃ ob,s.heap.get? a = some ob∧ob.dict = none:=by
 cases x with
 | str z=>
  obtain ⟨t,rfl⟩:=r
  cases (show T = "str" from ty)
  exact ⟨typeIs_str s z t,fun _ e=>nomatch e⟩
 | int i=>
  obtain ⟨t,rfl⟩:=r
  cases (show T = "int" from ty)
  exact ⟨typeIs_int s i t,fun _ e=>nomatch e⟩
 | ref p=>
  cases r
  rcases ty with ⟨rfl,xs,hq⟩ | ⟨rfl,o,hk,hc,hd⟩ | ⟨rfl,hk⟩ | ⟨rfl,S,n,hk⟩
  ·obtain ⟨its,_,pl,_⟩:=I.list hq
   refine ⟨pl.isList.typeIs,fun a e=>?_⟩
   cases e
   obtain ⟨o,n,e,c,hd,_⟩:=pl
   exact ⟨o,e,hd⟩
  ·refine ⟨⟨o,I.tQ p o hk,hc⟩,fun a e=>?_⟩
   cases e
   exact ⟨o,I.tQ _ o hk,hd⟩
  ·have z:∃ o,s.heap.get? p = some o∧o.ExactDict:=by
    rcases hk with ⟨kvs,hk⟩ | ⟨kvs,hk⟩
    ·obtain ⟨_,_,_,_,o,_,_,e,ex,_⟩:=I.hok p _ hk
     exact ⟨o,e,ex⟩
    ·obtain ⟨_,_,_,_,o,_,_,e,ex,_⟩:=I.hok p _ hk
     exact ⟨o,e,ex⟩
   obtain ⟨o,e,ex⟩:=z
   refine ⟨⟨o,e,ex.1⟩,fun a e2=>?_⟩
   cases e2
   exact ⟨o,e,ex.2.1⟩
  ·obtain ⟨o,_,_,_,e,ex,_⟩:=I.hok p _ hk
   refine ⟨⟨o,e,ex.1⟩,fun a e2=>?_⟩
   cases e2
   exact ⟨o,e,ex.2.1⟩
 | _=>exact False.elim ty
def Rt (K:PySem.W.Frag) (T:String) (r:V→List V→Hp→VK→Prop) (to:TE):TE:=fun σ H Q=>to σ H fun x H1=>ZA K T x H1∧r x [] H1 Q
def tBM (K:PySem.W.Frag) (T:String) (r:V→List V→Hp→VK→Prop) (to:TE) (t:TA):TE:=fun σ H Q=>to σ H fun x H1=>ZA K T x H1∧t σ H1 fun xs H2=>r x xs H2 Q
variable {o e:Expr}{es:List Expr}{to:TE}{t:TA}{name:Str}{apos cpos:Pos}{T id:String}{r:V→List V→Hp→VK→Prop}
theorem pK (pa:PlainAttrs T) (slot:Slot T name id) (hty:typeOf (.builtin id) = pure (.type "method_descriptor")) (hm:EG X id r) (ho:PE X o to)
  (hbase:attributeBase o name X.env (eval o X.env) = eval o X.env:=by rfl) (hline:(apos.endLine == cpos.line) = true:=by rfl):PE X (.Call (.Attribute o name apos) [] [] cpos) (Rt X.K T r to):=by
 intro pins s σ H Q I h
 refine wpAny_Call_method0_late hbase hline (cJ (ho pins s σ H _ I h) fun v s1 ⟨x,H1,I1,r1,ty,q1⟩=>?_)
 obtain ⟨h1,h2⟩:=EI I1 r1 ty
 exact ⟨T,id,pa,slot,hty,h1,h2,Calls.callWith_builtin rfl (PySem.evalArgs_none (hm pins s1 σ H1 x [] v [] Q I1 r1 .nil q1))⟩
theorem ku (pa:PlainAttrs T) (slot:Slot T name id) (hty:typeOf (.builtin id) = pure (.type "method_descriptor")) (hm:EG X id r) (ho:PE X o to) (ha:PA X (e :: es) t)
  (hbase:attributeBase o name X.env (eval o X.env) = eval o X.env:=by rfl)
  (hfew:((backTo cpos (starEach (e :: es) X.env)).all (fun x=>!x.1) && (backToKw cpos (keywordEach [] X.env)).all (fun x=>x.1.isSome)
   && decide ((e :: es).length + ([]:List Keyword).length + (if ([]:List Keyword).isEmpty then 0 else 1) < 30)) = true:=by rfl)
  (hline:(apos.endLine == cpos.line) = true:=by rfl) (hs:starEach (e :: es) X.env = (false,eval e X.env) :: starEach es X.env:=by rfl) (hplain:(backTo cpos (starEach es X.env)).any (·.1) = false:=by rfl):
  PE X (.Call (.Attribute o name apos) (e :: es) [] cpos) (tBM X.K T r to t):=by
 intro pins s σ H Q I h
 refine wpAny_Call_method_late hbase hfew hline rfl (cJ (ho pins s σ H _ I h) fun v s1 ⟨x,H1,I1,r1,ty,q1⟩=>?_)
 obtain ⟨h1,h2⟩:=EI I1 r1 ty
 refine ⟨T,id,pa,slot,hty,h1,h2,?_⟩
 have hA:=ha cpos pins s1 σ H1 _ I1 q1
 rw [hs] at hA ⊢
 refine Calls.callWith_builtin (by show (false || (backTo cpos (starEach es X.env)).any (·.1)) = false;rw [hplain] <;> rfl) (Calls.evalArgs_plain ?_)
 exact cJ hA fun us s2 ⟨vs,H2,I2,r2,q2⟩=>hm pins s2 σ H2 x vs v us Q I2 r1 r2 q2
end
end L2
namespace L2
open PySem PySem.Spec PyProof.Rows
def X8 (X:Cx) (id:String) (r:V→List V→Hp→VK→Prop):Prop:=
 ∀ (pins:List (Addr × Obj)) (s:Shared) (σ:St) (H:Hp) (x:V) (xs:List V) (v:Value) (us:List Value) (Q:VK),Inv X pins σ H s→RelV x v→Vals xs us→r x xs H Q→
  wpAny (model X.prog X.w) X.A (call (.builtin id) (v :: us)) (EP X pins σ Q) X.xe s
theorem Vals.one:∀ {x:V}{us:List Value},Vals [x] us→∃ u,us = [u]∧RelV x u
 | _,_,.cons r .nil=>⟨_,rfl,r⟩
theorem Vals.two:∀ {x y:V}{us:List Value},Vals [x,y] us→∃ u v,us = [u,v]∧RelV x u∧RelV y v
 | _,_,_,.cons r (.cons q .nil)=>⟨_,_,rfl,r,q⟩
theorem Vals.zero:∀ {us:List Value},Vals [] us→us = []
 | _,.nil=>rfl
theorem Vals.dropLast {xs:List V}{us:List Value}(h:Vals xs us):Vals xs.dropLast us.dropLast:=by
 induction h with
 | nil=>exact .nil
 | cons r t ih=>
  cases t with
  | nil=>exact .nil
  | cons q t' => exact .cons r ih
theorem Vals.eraseIdx:∀ {xs:List V}{us:List Value}(i:Nat),Vals xs us→Vals (xs.eraseIdx i) (us.eraseIdx i)
 | _,_,_,.nil=>.nil
 | _,_,0,.cons _ t=>t
 | _,_,i + 1,.cons r t=>.cons r (Vals.eraseIdx i t)
theorem Vals.reverse {xs:List V}{us:List Value}(h:Vals xs us):Vals xs.reverse us.reverse:=by
 induction h with
 | nil=>exact .nil
 | cons r t ih=>rw [List.reverse_cons,List.reverse_cons];exact Vals.append ih (.cons r .nil)
theorem AR {α:Type}(l:List α):l.eraseIdx (l.length - 1) = l.dropLast:=by
 induction l with
 | nil=>rfl
 | cons a r ih=>
  cases r with
  | nil=>rfl
  | cons b r=>
   have e:(a :: b :: r).length - 1 = ((b :: r).length - 1) + 1:=by
    have h1:(a :: b :: r).length = r.length + 2:=rfl
    have h2:(b :: r).length = r.length + 1:=rfl
    omega
   rw [e,List.eraseIdx_cons_succ,ih]
   all_goals rfl
section
variable {X:Cx}{pins:List (Addr × Obj)}{σ:St}{H:Hp}{s:Shared}{l b:Addr}{xs ys zs:List V}
theorem Inv.Ru {its its' : List Value} {n:Nat}{f:Array Value→Array Value}{t' : Nat} (I:Inv X pins σ H s) (hH:H l = some (.lst xs))
  (e:s.heap.get? l = some { cls:=.type "list",data:=.seq its.toArray n }) (hf:f its.toArray = its'.toArray) (hv:Vals ys its') (hz:ys.length≤sizeLine):
  Inv X pins σ (upd H l (.lst ys)) { s with heap:=s.heap.update l (Obj.mapSeq f),toks:=t' }:=by
 have q:=PySem.IsL.update e f
 rw [hf] at q
 refine I.write (x:=l) (e:=l) (by rw [hH];exact trivial) (.inl rfl) (fun b' u hb hu=>(Heap.get?_update_other s.heap (Obj.mapSeq f) (Ne.symm hb)).trans hu) ⟨_,q⟩ ?_
 exact ⟨hz,its',_,hv,q⟩
theorem Inv.ZC {its:List Value}{t' : Nat} (I:Inv X pins σ H s) (hv:Vals ys its) (hz:ys.length≤sizeLine):
  Inv X pins σ (upd H s.heap.objs.size (.lst ys)) { s with heap:=s.heap.push { cls:=.type "list",data:=.seq its.toArray },toks:=t' }:=
 I.laid (fun _ _ q=>Heap.get?_push_of_some _ q) (Nat.le_refl _) ⟨hz,its,0,hv,Heap.get?_push_size _ rfl⟩
theorem Inv.fresh (I:Inv X pins σ H s):H s.heap.objs.size = none:=I.hok.fresh (Nat.le_refl _)
theorem Inv.Iw (I:Inv X pins σ H s) (hH:H l = some (.lst xs)):xs.length≤sizeLine∧∃ (its:List Value) (n:Nat),Vals xs its∧xs.length = its.length∧s.heap.get? l = some { cls:=.type "list",data:=.seq its.toArray n }:=by
 obtain ⟨z,its,n,r,e⟩:=I.hok l _ hH
 exact ⟨z,its,n,r,r.length,e⟩
end
section
variable {X:Cx}
def Iz:V→List V→Hp→VK→Prop:=fun x vs H Q=>∃ l xs y,x = .ref l∧vs = [y]∧H l = some (.lst xs)∧xs.length < sizeLine∧Q .gk (upd H l (.lst (xs ++ [y])))
theorem eS:X8 X "list.append" Iz:=by
 intro pins s σ H x vs v us Q I rx rv h
 obtain ⟨l,xs,y,rfl,rfl,hH,hz,q⟩:=h
 cases rx
 obtain ⟨u,rfl,ru⟩:=rv.one
 obtain ⟨z,its,n,r,hl,e⟩:=I.Iw hH
 refine call_meets F.slot_list_append ⟨_,e,rfl⟩ F.entry_list_append (F.args_list_append_2 _ _) (PySem.list_append l its.toArray n u (by rw [List.size_toArray];omega)) ⟨e,?_⟩
 refine ⟨.gk,_,I.Ru (its' := its ++ [u]) hH e (by simp) (r.append (.cons ru .nil)) ?_,rfl,q⟩
 rw [List.length_append,List.length_singleton]
 omega
def Rv:V→List V→Hp→VK→Prop:=fun x vs H Q=>∃ l xs y,x = .ref l∧vs = []∧H l = some (.lst xs)∧xs[xs.length - 1]? = some y∧Q y (upd H l (.lst xs.dropLast))
theorem pL:X8 X "list.pop" Rv:=by
 intro pins s σ H x vs v us Q I rx rv h
 obtain ⟨l,xs,y,rfl,rfl,hH,hy,q⟩:=h
 cases rx
 have Eh:=rv.zero
 subst Eh
 obtain ⟨z,its,n,r,hl,e⟩:=I.Iw hH
 obtain ⟨u,hu,ru⟩:=r.get hy
 have hy' : its.toArray[its.toArray.size - 1]? = some u:=by
  show its.toArray[its.length - 1]? = some u
  rw [← Array.getElem?_toList,← hl]
  exact hu
 refine call_meets F.slot_list_pop ⟨_,e,rfl⟩ F.entry_list_pop (F.args_list_pop_1 _) (MeetsSeq.list_pop_last l its.toArray n u hy' (by rw [List.size_toArray];omega)) ⟨e,?_⟩
 refine ⟨y,_,I.Ru (its' := its.dropLast) hH e ?_ r.dropLast ?_,ru,q⟩
 ·show its.toArray.eraseIdxIfInBounds (its.toArray.size - 1) = its.dropLast.toArray
  rw [List.size_toArray,List.eraseIdxIfInBounds_toArray,AR]
 ·rw [List.length_dropLast]
  omega
def Rw:R2:=fun x y H Q=>∃ l b xs zs,x = .ref l∧y = .ref b∧H l = some (.lst xs)∧H b = some (.lst zs)∧xs.length + zs.length≤sizeLine∧∀ p,H p = none→Q (.ref p) (upd H p (.lst (xs ++ zs)))
theorem qN:oX X (binaryOp .Add) Rw:=by
 intro pins s σ H x y v u Q I rx ry h
 obtain ⟨l,b,xs,zs,rfl,rfl,hH,hB,hz,q⟩:=h
 cases rx
 cases ry
 obtain ⟨z,its,n,r,hl,e⟩:=I.Iw hH
 obtain ⟨z2,its2,n2,r2,hl2,e2⟩:=I.Iw hB
 refine PySem.P.add_list e e2 ?_ (by rw [List.size_toArray,List.size_toArray];omega)
 have ea:its.toArray ++ its2.toArray = (its ++ its2).toArray:=by simp
 rw [ea]
 exact ⟨.ref _,_,I.ZC (t' := s.toks) (r.append r2) (by rw [List.length_append];omega),rfl,q _ I.fresh⟩
end
section
variable {prog:Program}{w:World}{A:Around}{E:Value→Shared→Prop}{s:Shared}
set_option maxRecDepth 100000 in
end
section
variable {X:Cx}
end
end L2
namespace Att
open PySem PySem.W PySem.Calls PyProof.Rows
theorem sL {P:Params}{h:Heap}:∀ (ns:List Int) (vs:List Value),WellAll P h vs (ns.map WData.int)→IntsAre vs ns:=by
 intro ns
 induction ns with
 | nil=>
  intro vs w
  rw [List.map_nil] at w
  cases w
  exact .nil
 | cons n ns ih=>
  intro vs w
  rw [List.map_cons] at w
  cases w with
  | cons a b=>
   cases a
   exact .cons _ _ (ih _ b)
theorem C4 {l:OpenLaw}{n:Nat}(hn:l.most = some n) {P:Params}{h:Heap}{args:List WData}{vals:List Value}
  (hpre:l.row.toRowW.claim.pre args = true) (hwl:WellAll P h vals args):
  ∃ a vs ns,vals = [Value.ref a]∧args = [WData.list (ns.map WData.int)]∧h.get? a = some { cls:=.type "list",data:=.seq vs.toArray }∧IntsAre vs ns∧ns.length≤n:=by
 have hsh:WShape.hasAll [] args [.list .int] = true:=(pre_splitW hpre).1
 have hc:l.pre.holds [] { args:=args } = true:=(pre_splitW hpre).2
 obtain ⟨d,r,rfl,h1,h2⟩:=hasAllW_cons hsh
 obtain rfl:=hasAllW_nil h2
 obtain ⟨xs,rfl,h3⟩:=hasW_list h1
 obtain ⟨ns,rfl⟩:=items_int h3
 have hlen:ns.length≤n:=by
  unfold OpenLaw.pre at hc
  have h4:(WTm.not (.lt (.lit (.int (n:Int))) (.len (.arg 0)))).holds [] { args:=[.list (ns.map .int)] } = true:=by
   have h4:=(holds_andW hc).1
   rw [hn] at h4
   exact h4
  have h5:=condW_of h4 (w_not (w_lt w_lit (w_len_list (w_arg rfl))))
  rw [List.length_map] at h5
  refine Nat.le_of_not_lt fun q=>?_
  have q' : (n:Int) < ((ns.length:Nat):Int):=by omega
  first
   | (rw [decide_eq_true q'] at h5;exact absurd h5 (by decide))
   | (simp at h5;omega)
 cases hwl with
 | cons w1 w2=>
  cases w2
  cases w1 with
  | list ho hall=>exact ⟨_,_,ns,rfl,rfl,ho,sL ns _ hall,hlen⟩
theorem C5 (l:OpenLaw) (args:List WData):l.row.toRowW.claim.post args (.bool true) args = true:=
 postW_of (r:=l.row.toRowW) (X:=(true == true))
  (show WShape.has [] (.bool true) .bool = true by first | rfl | decide | simp [WShape.has,WShape.arms,WShape.armsAll])
  (show (WTm.eq .res (.lit (.bool true))).value [] { args:=args,res:=some (.bool true),after:=args } = some (.bool (true == true)) from w_eq_bool (w_res rfl) w_lit) rfl
theorem yR {l:OpenLaw}{n:Nat}{q:Program}{loose:List Str}{XP:(Str→Option Value)→Heap→Prop}{YP:World→Heap→Prop}{d:DefRec}
  (hn:l.most = some n) (hdf:d.params.defaults = [])
  (call:∀ (w:World) (s₀ s₁:Shared) (mg mb:Str→Option Value) (fa:Addr) (o:Obj) (pm cd doc:Value) (a:Addr) (vs:List Value) (ns:List Int),
   Ground q loose [] XP w s₀ mg mb s₁.heap→YP w s₁.heap→
   s₁.heap.get? fa = some o→o.data = .func (docDef d.name d.params d.body d.scope pm cd doc)→s₁.heap.CodeRec cd d.name→mg d.name = some (.ref fa)→
   s₁.heap.get? a = some { cls:=.type "list",data:=.seq vs.toArray }→IntsAre vs ns→ns.length≤n→s₁.gens = #[]→
   codeAny (model l.prog w) callerA (.call (.ref fa) ⟨[.ref a],[]⟩) (fun r s' => r = .ok (.ret (.bool true))∧OldK s₁.heap s'.heap∧s'.os = s₁.os∧AllBare s'.gens) s₁):
  WalkO q loose XP YP l.row.toRowW d [] (fun f vs=>PySem.call f vs):=by
 intro w s₀ s₁ mg mb G Y fa o pm cd doc dV kV ho hd hcd hD hmg hg args vals as hpre hlay hrd hwl hlo
 obtain rfl:dV = .none:=Dflts.none hD hdf
 obtain rfl:kV = .none:=Dflts.noKw hD
 obtain ⟨a,vs,ns,rfl,rfl,hobj,hints,hlen⟩:=C4 hn hpre hwl
 refine enter_call (codeAny_mono (call w s₀ s₁ mg mb fa o pm cd doc a vs ns G Y ho (fd_plain hd) hcd hmg hobj hints hlen hg) fun r s' hq=>?_)
 obtain ⟨rfl,h2,h3,h4⟩:=hq
 exact ⟨.inl ⟨.bool true,.bool true,[],rfl,fun _=>rfl,.bool true,C5 l _,fun _=>⟨List.Pairwise.nil,fun _ hm=>(nomatch hm)⟩⟩,h2,h3,h4⟩
section
variable {prog:Program}{w:World}{A:Around}{E:Value→Shared→Prop}{s:Shared}{K:Frag}
end
end Att
namespace L2
open PySem PySem.Spec PyProof.Rows
theorem vX:∀ {vs:List Value}{ns:List Int},IntsAre vs ns→Vals (ns.map V.int) vs
 | _,_,.nil=>.nil
 | _,_,.cons n t h=>.cons ⟨t,rfl⟩ (vX h)
end L2
namespace L2
open PySem PySem.Spec PyProof.Rows
end L2
namespace L2
open PySem PySem.Spec PyProof.Rows
def bu (s:Stmt):Arguments:=match s with
 | .FunctionDef _ a _ _ _ _ _ _ _ _=>a
 | _=>{ posonlyargs:=[],args:=[],vararg:=none,kwonlyargs:=[],kw_defaults:=[],kwarg:=none,defaults:=[] }
def aZ (s:Stmt):List Stmt:=match s with
 | .FunctionDef _ _ b _ _ _ _ _ _ _=>b
 | _=>[]
def ak (s:Stmt):Scope:=match s with
 | .FunctionDef _ _ _ _ _ _ sc _ _ _=>sc
 | _=>{ kind:=.function,names:=[],isGenerator:=false,isCoroutine:=false }
abbrev cF:EE:=fun _ _ _ _ _ _=>False
abbrev E0:XK:=fun _ _ _=>False
theorem bD {X:Cx}:Passes cF X E0:=fun _ _ _ _ _ _ _ h=>h.elim
structure fR (K:PySem.W.Frag) (x qual:Str) (st:Stmt) (f:Addr) (fd:FuncData):Prop where
 ex:∃ (oc:Value) (od:Option Addr) (kV doc pm:Value) (an:Option Addr) (cdv ct:Value) (osl:Array (Option Value)),
  fd = PySem.W.fnOf x qual (bu st) (aZ st) (ak st) .none kV doc pm an cdv ct∧K.lookup f = some ⟨oc,od,.func fd,osl⟩∧PySem.W.codeIn K cdv qual = true
 kp:PySem.W.keepIn K (.ref f) = true
section
variable {P:Program}{w:World}{K:PySem.W.Frag}{mg:Str→Option Value}{base:Heap}
theorem fR.ok {x qual:Str}{st:Stmt}{f:Addr}{fd:FuncData}{N ps:List Str}{k:Nat}{sp:Sp}(F:fR K x qual st f fd) (S:bB N ps (ak st)) (len:∀ vs H Q E,sp vs H Q E→vs.length = ps.length)
  (hbody:∀ (cdv:Value) (A:Around) (outer:List Env) (s:Shared) (H:Hp) (vs:List V) (Q:VK) (E:XK),fS k (A.deeper (envOfC qual (ak st) s.heap.objs.size f cdv))→sp vs H Q E→
   ∃ t,vA (sJ cF P w K mg base N qual (ak st) f cdv A outer s H E).CW (aZ st) t∧t { nx:=fun _ H' => Q .gk H',rt:=Q } (start N vs) H):bF P w K mg base cF (k + 1) f fd ps sp:=by
 obtain ⟨oc,od,kV,doc,pm,an,cdv,ct,osl,rfl,lk,hcd⟩:=F.ex
 refine My lk hcd S len fun A outer s H vs Q E hr yN=>?_
 obtain ⟨t,h,q⟩:=hbody cdv A outer s H vs Q E hr yN
 exact ⟨t,h.CW,q⟩
theorem fR.binds {x qual:Str}{st:Stmt}{f:Addr}{fd:FuncData}{ps:List Str}(F:fR K x qual st f fd)
  (h:∀ (kV doc pm:Value) (an:Option Addr) (cdv ct:Value) (us:List Value),us.length = ps.length→bindArgs (PySem.W.fnOf x qual (bu st) (aZ st) (ak st) .none kV doc pm an cdv ct) ⟨us,[]⟩ = pure (ps.zip us)):Binds K fd ps []:=by
 obtain ⟨oc,od,kV,doc,pm,an,cdv,ct,osl,rfl,lk,hcd⟩:=F.ex
 exact .all (h kV doc pm an cdv ct)
theorem aU {x qual:Str}{st:Stmt}{f:Addr}{oc:Value}{od an:Option Addr}{osl:Array (Option Value)}{kV doc pm cdv ct:Value}(l:K.lookup f = some ⟨oc,od,.func (PySem.W.fnOf x qual (bu st) (aZ st) (ak st) .none kV doc pm an cdv ct),osl⟩)
  (c:PySem.W.codeIn K cdv qual = true) (k:PySem.W.keepIn K (.ref f) = true):fR K x qual st f (PySem.W.fnOf x qual (bu st) (aZ st) (ak st) .none kV doc pm an cdv ct):=⟨⟨oc,od,kV,doc,pm,an,cdv,ct,osl,rfl,l,c⟩,k⟩
end
section
variable {X:Cx}
theorem pv (i:Nat) {x:Str}{pos:Pos}(hN:X.N[i]? = some x:=by rfl) (hv:X3 X.env.scope x:=by first | exact Or.inl rfl | exact Or.inr (Or.inl rfl) | exact Or.inr (Or.inr rfl)) (hd:(x == ("__debug__" : Str)) = false:=by decide)
  (hcd:(x == ("__classdict__" : Str)) = false:=by decide):PE X (.Name x pos) (cE i):=Es hN hv hd hcd
end
theorem xB {A B:Prop}(h:B):if false = true then A else B:=by
 rw [if_neg Bool.false_ne_true]
 exact h
theorem xC {A B:Prop}(h:A):if true = true then A else B:=by
 rw [if_pos rfl]
 exact h
theorem Oj {c A B:Prop}[Decidable c] (h1:c→A) (h2:¬ c→B):if c then A else B:=by
 by_cases h:c
 ·rw [if_pos h]
  exact h1 h
 ·rw [if_neg h]
  exact h2 h
def aN (H H' : Hp):Prop:=∀ b o,H b = some o→H' b = some o
theorem aN.refl (H:Hp):aN H H:=fun _ _ h=>h
theorem aN.trans {H H1 H2:Hp}(a:aN H H1) (b:aN H1 H2):aN H H2:=fun c o h=>b c o (a c o h)
theorem aN.free {H H' : Hp} (e:aN H H') {l:Addr}(h:H' l = Option.none):H l = Option.none:=by
 cases q:H l with
 | none=>rfl
 | some o=>
  rw [e l o q] at h
  cases h
theorem aN.seq {K:PySem.W.Frag}{H H' : Hp} {a:Addr}{xs:List V}(e:aN H H') (h:b9 K H a xs):b9 K H' a xs:=by
 rcases h with (h | ⟨o,h⟩) | h
 ·exact .inl (.inl (e _ _ h))
 ·exact .inl (.inr ⟨o,e _ _ h⟩)
 ·exact .inr h
end L2
set_option maxHeartbeats 4000000
namespace L2
open PySem PySem.Spec PyProof.Rows
section
variable {X:Cx}
def Ck (i j:Int):Prop:=i.natAbs < 2 ^ 4000∧j.natAbs < 2 ^ 4000
theorem Ck.ok {i j:Int}(h:Ck i j):IntMulOk i j:=
 IntMulOk.of_le (m:=4000) (n:=4000) (intBits_le_iff.mpr h.1) (intBits_le_iff.mpr h.2) (by decide)
theorem dm:oX X (binaryOp .Mult) (rI Ck fun i j=>.int (i * j)):=X6 fun _ _ _ _ _ _ _ hc q=>mul_int q hc.ok
def Rx (i j:Int):Prop:=j≠0∧j.natAbs < 2 ^ 4000
theorem ZD {i j:Int}(h:Rx i j):Builtin.divisionGoesByPylong i j = false:=by
 refine PyProof.noPylong_of_log2 ?_
 have h0:j.natAbs≠0:=by have:=h.1;omega
 have:=(Nat.log2_lt h0).mpr h.2
 omega
def EJ (i j:Int):Prop:=0 < j∧j.natAbs < 2 ^ 4000
theorem tY:oX X (binaryOp .FloorDiv) (rI EJ fun i j=>.int (i / j)):=X6 fun i j _ _ _ _ _ hc q=>by
 refine floordiv_int (by have:=hc.1;omega) ?_ (.inl (ZD ⟨by have:=hc.1;omega,hc.2⟩))
 rw [Int.fdiv_eq_ediv_of_nonneg i (by have:=hc.1;omega)]
 exact q
theorem yS (hc:X.calm = true):gU X (.builtin "sum") (fun xs H Q=>∃ (p:Addr) (ns:List Int),xs = [.ref p]∧b9 X.K H p (ns.map V.int)∧Q (.int ns.sum) H):=by
 intro pins s σ H xs us Q I r h
 obtain ⟨p,ns,rfl,hq,q⟩:=h
 obtain ⟨u,rfl,r1⟩:=vals1 r
 cases r1
 obtain ⟨its,rv,pl,hz⟩:=I.list hq
 have hi:IntsAre its ns:=intsAre_of rv
 have hl:s.heap.IsList p its.toArray:=by
  obtain ⟨o,n,e,c,_,d⟩:=pl
  exact ⟨o,e,c,n,d⟩
 obtain ⟨xs,hx⟩:=hi.allInts.items
 have hl' : s.heap.IsList p (intItems xs):=hx ▸ hl
 refine sum_intListG (I.ok.hd hc) hl' fun h' tk t' hk=>?_
 have e1:ns = xs.toList.map (·.1):=by
  rw [← nums_intItems,← hx]
  exact (show numsOf its.toArray.toList = ns from hi.numsOf).symm
 have e2:preSum (numAt xs) xs.size = ns.sum:=by
  rw [preSum_eq,List.take_of_length_le (by simp),e1]
 rw [e2]
 exact ⟨.int ns.sum,H,I.kept hk,⟨_,rfl⟩,q⟩
theorem plainIs {h:Heap}{p:Addr}{its:Array Value}(pl:PlainL h p its):h.IsList p its:=by
 obtain ⟨o,n,e,c,_,d⟩:=pl
 exact ⟨o,e,c,n,d⟩
end
end L2
namespace L2
open PySem PySem.Spec PyProof.Rows
def eU (env:Env):List (Str × NameKind)→List (Str × Addr)→List (Str × Addr)
 | [],acc=>acc
 | (n,k) :: r,acc=>eU env r (if (k == NameKind.free) = true then (n,(env.cells.lookup n).getD 0) :: acc else acc)
theorem closure_eq {env:Env}:∀ (names:List (Str × NameKind)) (acc:List (Str × Addr)),(∀ p∈names,p.2 = .free→∃ c,env.cells.lookup p.1 = some c)→
  (forIn names acc fun (x:Str × NameKind) (cs:List (Str × Addr))=>(match x with
   | (name,kind)=>if (kind == NameKind.free) = true then (do let __do_lift ← cellOf env name;pure (ForInStep.yield ((name,__do_lift) :: cs))) else pure (ForInStep.yield cs):Sem (ForInStep (List (Str × Addr))))) = pure (eU env names acc):=by
 intro names
 induction names with
 | nil=>intro acc _;rfl
 | cons p r ih=>
  intro acc h
  obtain ⟨n,k⟩:=p
  rw [List.forIn_cons]
  have hr:=fun acc=>ih acc fun q hq=>h q (List.mem_cons_of_mem _ hq)
  by_cases hk:k = .free
  ·subst hk
   obtain ⟨c,hc⟩:=h (n,.free) List.mem_cons_self rfl
   have e:cellOf env n = pure c:=by unfold cellOf;rw [hc]
   simp only [beq_self_eq_true,if_true,e,pure_bind]
   rw [hr]
   simp only [eU,beq_self_eq_true,if_true,hc,Option.getD_some]
  ·have hb:(k == NameKind.free) = false:=by simpa using hk
   simp only [hb,Bool.false_eq_true,if_false,pure_bind]
   rw [hr]
   simp only [eU,hb,Bool.false_eq_true,if_false]
theorem gr {env:Env}{scope:Scope}(h:∀ p∈scope.names,p.2 = .free→∃ c,env.cells.lookup p.1 = some c):closureFor scope env = pure (eU env scope.names []):=by
 unfold closureFor
 have e:=closure_eq (env:=env) scope.names [] h
 simp only [e,pure_bind]
theorem lC {env:Env}{y:Str}{c:Addr}:∀ {names:List (Str × NameKind)}{acc:List (Str × Addr)},(∀ p∈names,p.2 = .free→∃ c,env.cells.lookup p.1 = some c)→(∀ y c,acc.lookup y = some c→env.cells.lookup y = some c)→
  (eU env names acc).lookup y = some c→env.cells.lookup y = some c
 | [],_,_,ha,e=>ha _ _ e
 | (n,k) :: r,acc,h,ha,e=>by
  refine lC (names:=r) (fun p hp=>h p (List.mem_cons_of_mem _ hp)) (fun y c q=>?_) e
  by_cases hk:(k == NameKind.free) = true
  ·rw [if_pos hk] at q
   obtain ⟨c',hc'⟩:=h (n,k) List.mem_cons_self (by simpa using hk)
   rw [List.lookup_cons] at q
   cases hy:y == n with
   | true=>
    rw [hy] at q
    have hy' : y = n:=by simpa using hy
    subst hy'
    rw [hc'] at q
    cases q
    exact hc'
   | false=>
    rw [hy] at q
    exact ha y c q
  ·rw [if_neg hk] at q
   exact ha y c q
theorem yT {env:Env}{y:Str}:∀ {names:List (Str × NameKind)}{acc:List (Str × Addr)},(acc.lookup y).isSome = true→((eU env names acc).lookup y).isSome = true
 | [],_,h=>h
 | (n,k) :: r,acc,h=>by
  refine yT (names:=r) ?_
  split
  ·rw [List.lookup_cons]
   split
   ·rfl
   ·exact h
  ·exact h
theorem iu {env:Env}{y:Str}:∀ {names:List (Str × NameKind)}{acc:List (Str × Addr)},(y,NameKind.free)∈names→((eU env names acc).lookup y).isSome = true
 | (n,k) :: r,acc,h=>by
  rcases List.mem_cons.mp h with e | h
  ·cases e
   refine yT (names:=r) ?_
   rw [if_pos (by simp),List.lookup_cons]
   simp
  ·exact iu (names:=r) h
abbrev bR (X:Cx) (scope:Scope) (Nc:List Str) (C:Addr) (s0:Shared) (H0:Hp) (ex:List Addr):Cx:=
 { X with N:=Nc,s₀:=s0,H₀:=H0,env:=compEnvC scope (eU X.env scope.names []) C X.env,outer:=X.stack,ex:=ex,fn:=fun _=>false,pn:=[],xe:=fun _ _=>False }
structure fU (fr sc:Scope) (x:Str) (cap:List Str):Prop where
 kind:sc.kind = .function
 cell:∀ p∈sc.names,p.2≠.cell
 names:∀ p∈sc.names,p.2 = .local→sc.names.lookup p.1 = some .local
 tgt:sc.names.lookup x = some .local
 free:∀ p∈sc.names,p.2 = .free→fr.names.lookup p.1 = some .cell
 caps:∀ y∈cap,(y,NameKind.free)∈sc.names
 nd:(x :: cap).Nodup
 tZ:∀ y∈cap,sc.names.lookup y≠some .local
theorem gW {sc:Scope}{env:Env}{y:Str}{k:NameKind}(h:(y,k)∈(relabel sc env).names):∃ k',(y,k')∈sc.names∧(k = k' ∨ (k' = .free∧k = .cell)):=by
 unfold relabel at h
 obtain ⟨⟨n,k'⟩,hm,e⟩:=List.mem_map.mp h
 by_cases hc:(k' == NameKind.free && env.scope.kind == .function && env.kindOf n == some .cell) = true
 ·have e:(n,NameKind.cell) = (y,k):=by simpa [hc] using e
  cases e
  refine ⟨k',hm,.inr ⟨?_,rfl⟩⟩
  rw [Bool.and_eq_true,Bool.and_eq_true] at hc
  simpa using hc.1.1
 ·have e:(n,k') = (y,k):=by simpa [hc] using e
  cases e
  exact ⟨k,hm,.inl rfl⟩
section
variable {X:Cx}{pins:List (Addr × Obj)}{σ:St}{H:Hp}{s:Shared}{sc:Scope}{x:Str}{cap:List Str}
theorem fU.cells (S:fU X.env.scope sc x cap) (ok:X.Ok):∀ p∈sc.names,p.2 = .free→∃ c,X.env.cells.lookup p.1 = some c:=
 fun p hp e=>ok.has p.1 (.inl (S.free p hp e))
theorem fU.sub (S:fU X.env.scope sc x cap) (ok:X.Ok) {y:Str}{c:Addr}(h:(eU X.env sc.names []).lookup y = some c):X.env.cells.lookup y = some c:=
 lC (S.cells ok) (fun _ _ z=>by simp at z) h
theorem iK {a b:Addr}(h:a < b):a≠b:=Nat.ne_of_lt h
theorem Ol {a b:Addr}(h:b < a):a≠b:=Nat.ne_of_gt h
def cM (σ:St) (js:List Nat):St:=js.map fun j=>(σ[j]?).join
theorem EK (S:fU X.env.scope sc x cap) {js:List Nat}(qO:js.map (fun j=>X.N[j]?) = cap.map some) (I:Inv X pins σ H s) {fp:List Addr}(hf:∀ b∈fp,lu X pins H b) (hlt:∀ b∈fp,b < s.heap.objs.size)
  {h1:Heap}{tk:Nat}{D C:Addr}{oD:Obj}{m:Str→Option Value}(hD:D = s.heap.objs.size) (hC:C = s.heap.objs.size + 1) (keep:∀ b o,s.heap.get? b = some o→h1.get? b = some o) (EL:h1.get? D = some oD) (hnc:∀ v,oD.data≠.cell v) (hns:h1.Ns C m):
  Inv (bR X sc (x :: cap) C s H fp) [(D,oD)] (none :: cM σ js) H { s with heap:=h1,toks:=tk }:=by
 subst hD hC
 have AS:js.length = cap.length:=by have:=congrArg List.length qO;simpa using this
 have ok:=I.ok
 refine ⟨⟨ok.mod,S.kind,ok.glob,ok.blt,?_,fun y z c h1 h2=>ok.inj y z c (S.sub ok h1) (S.sub ok h2),fun y hy=>?_,(fun y c h=>Bool.noConfusion h),ok.hd,ok.frames,.inl rfl,fun b hb=>⟨?_,fun y c e=>(hf b hb).2.2.2.2.1 y c (S.sub ok e)⟩,I.bs,Nat.le_trans ok.Ef I.sz,fun b o e hb=>?_,fun b hb hb' => ?_,I.stack,I.sZ⟩,
  rfl,I.bare,Un.kept keep,⟨m,hns,fun i y v e1 e2 e3=>?_⟩,fun y c e=>?_,I.hok.fresh (Nat.le_succ _),fun y c e=>I.kZ y c (S.sub ok e),fun p hp=>?_,I.hok.kept keep,?_⟩
 ·exact Nat.le_succ _
 ·have hy' : ∃ k,(y,k)∈(relabel sc X.env).names∧(k = .cell∨k = .free):=by
   rcases hy with hy | hy
   ·exact ⟨_,PySem.mem_of_lookup hy,.inl rfl⟩
   ·exact ⟨_,PySem.mem_of_lookup hy,.inr rfl⟩
  obtain ⟨k,hm,hk⟩:=hy'
  obtain ⟨k',hm',hk'⟩:=gW hm
  have hfree:k' = .free:=by
   rcases hk' with e | ⟨e,_⟩
   ·subst e
    rcases hk with e | e
    ·exact absurd e (S.cell _ hm')
    ·exact e
   ·exact e
  subst hfree
  exact Option.isSome_iff_exists.mp (iu hm')
 ·exact iK (Nat.lt_succ_of_lt (hlt b hb))
 ·obtain ⟨_,_,_,z,_⟩:=hf b hb
  rcases z with z | z
  ·exact ok.AF b o e z
  ·have:=Heap.lt_size (ok.bs b o e).1
   exact absurd (Nat.lt_of_lt_of_le this z) (Nat.lt_irrefl _)
 ·obtain ⟨_,z1,z2,_⟩:=hf b hb
  rcases List.mem_cons.mp (I.tR b hb') with z | z
  ·exact z1 z
  ·exact z2 z
 ·cases i with
  | zero=>
   have qG:(none:Option V) = some v:=by simpa using e2
   cases qG
  | succ i=>
   have MB:cap[i]? = some y:=by simpa using e1
   have qG:(cM σ js)[i]? = some (some v):=by simpa using e2
   have hy:y∈cap:=List.mem_of_getElem? MB
   unfold cM at qG
   rw [List.getElem?_map] at qG
   cases ej:js[i]? with
   | none=>rw [ej] at qG;cases qG
   | some j=>
    rw [ej] at qG
    have lU:(σ[j]?).join = some v:=Option.some.inj qG
    have eN:X.N[j]? = some y:=by
     have:=congrArg (fun l=>l[i]?) qO
     simp only [List.getElem?_map,ej,MB,Option.map_some] at this
     exact Option.some.inj this
    have eσ:σ[j]? = some (some v):=by
     cases q:σ[j]? with
     | none=>rw [q] at lU;cases lU
     | some w' =>
      rw [q] at lU
      have:w' = some v:=by simpa using lU
      rw [this]
    have kc:X.env.scope.names.lookup y = some .cell:=S.free (y,.free) (S.caps y hy) rfl
    obtain ⟨m0,hn0,Om⟩:=I.loc
    obtain ⟨u,ru,lk⟩:=Om j y v eN eσ (.inr (.inl kc))
    refine ⟨u,ru,?_⟩
    rcases lk with ⟨k,_⟩ | ⟨_,c,ec,hc⟩
    ·have k' : X.env.scope.names.lookup y = some .local:=k
     rw [kc] at k';cases k'
    ·obtain ⟨c',hc'⟩:=Option.isSome_iff_exists.mp (iu (env:=X.env) (acc:=[]) (S.caps y hy))
     have hcc:c' = c:=Option.some.inj ((S.sub ok hc').symm.trans ec)
     subst hcc
     refine .inr ⟨?_,c',hc',?_⟩
     ·rcases e3 with e3 | e3 | e3
      ·exfalso
       have hm:=PySem.mem_of_lookup e3
       obtain ⟨k',hm',hk'⟩:=gW hm
       rcases hk' with e | ⟨_,e⟩
       ·subst e
        exact S.tZ y hy (S.names _ hm' rfl)
       ·cases e
      ·exact .inl e3
      ·exact .inr e3
     ·obtain ⟨o,ho,hd⟩:=hc
      exact ⟨o,keep _ o ho,hd⟩
 ·obtain ⟨v,o,ho,hd⟩:=I.cell y c (S.sub ok e)
  exact ⟨v,o,keep _ o ho,hd⟩
 ·have oB:p = (s.heap.objs.size,oD):=by simpa using hp
  subst oB
  refine ⟨EL,I.hok.fresh (Nat.le_refl _),iK (Nat.lt_succ_self _),fun hb=>?_,hnc⟩
  obtain ⟨_,o,ho,_⟩:=I.stack.mem hb
  exact Nat.lt_irrefl _ (Heap.lt_size ho)
 ·show (none :: cM σ js).length = (x :: cap).length
  unfold cM
  simp [AS]
theorem yU (S:fU X.env.scope sc x cap) (I:Inv X pins σ H s) {fp:List Addr}(hf:∀ b∈fp,lu X pins H b) {D C:Addr}{Ry:List (Addr × Obj)}{σ' : St} {H' : Hp} {s' : Shared} {ys:List V}{its:List Value}{k:Nat}{h' : Heap}
  (hD:D = s.heap.objs.size) (hC:C = s.heap.objs.size + 1) (J:Inv (bR X sc (x :: cap) C s H fp) Ry σ' H' s') (EM:H' D = none) (EL:s'.heap.get? D = some { cls:=.type "list",data:=.seq its.toArray k }) (rv:Vals ys its) (hz:ys.length≤sizeLine)
  (hs:Heap.SameBut C s'.heap h'):Inv X pins σ (upd H' D (.lst ys)) { s' with heap:=h' }:=by
 subst hD hC
 have base:Un (frs X.stack) fp H H' s.heap s'.heap:=J.base
 have MC:H' (s.heap.objs.size + 1) = none:=J.free
 have AB:∀ {b:Addr}{o:Obj},s.heap.get? b = some o→b≠s.heap.objs.size + 1:=fun e=>iK (Nat.lt_succ_of_lt (Heap.lt_size e))
 have Rz:∀ {b:Addr}{o:Obj},s.heap.get? b = some o→b≠s.heap.objs.size:=fun e=>iK (Heap.lt_size e)
 have uc:∀ {b:Addr}{o:HO},H b = some o→b≠s.heap.objs.size:=fun e=>iK (I.hok.lt e)
 refine I.Er (s' := { s' with heap:=h' }) (ch:=fp) J.os ⟨fun b o e n hb hx=>?_,fun b o e n hb hx=>?_,fun b o e n hx=>?_,fun b o e hx=>?_,fun b xs e=>?_,fun b o u e=>?_,fun b ps e=>?_⟩ (fun b u e=>?_) J.bare fun b hb=>?_
 ·exact (hs.2 b (AB e)).trans (base.keep b o e n hb hx)
 ·obtain ⟨sl,q⟩:=base.slot b o e n hb hx
  exact ⟨sl,(hs.2 b (AB e)).trans q⟩
 ·rw [aI (Rz e)];exact base.free b o e n hx
 ·obtain ⟨o',q⟩:=base.there b o e hx
  exact ⟨o',(hs.2 b (AB e)).trans q⟩
 ·rw [aI (uc e)];exact base.tups b xs e
 ·rw [aI (uc e)];exact base.m5 b o u e
 ·rw [aI (uc e)];exact base.oU b ps e
 ·by_cases hb:b = s.heap.objs.size
  ·subst hb
   rw [aE] at e
   cases e
   exact ⟨hz,its,k,rv,(hs.2 _ (iK (Nat.lt_succ_self _))).trans EL⟩
  ·rw [aI hb] at e
   have J' : cC X.prog X.w H' s'.heap b u:=J.hok b u e
   refine J'.stay (fun c v hc q=>(hs.2 c ?_).trans q) (fun c q=>?_) (fun c xs q=>?_) fun c o u q=>?_
   ·rintro rfl
    rcases hc with rfl | hc
    ·rw [MC] at e;cases e
    ·rw [MC] at hc;cases hc
   ·rw [aI (aC q EM)];exact q
   ·rw [aI (aC q EM)];exact q
   ·rw [aI (aC q EM)];exact q
 ·obtain ⟨_,z1,_,z3,z4,z5⟩:=hf b hb
  exact ⟨z3,z1,z4,z5⟩
def IA (X:Cx) (ifs:List Expr) (t:TT):Prop:=
 ∀ (pins:List (Addr × Obj)) (s:Shared) (σ:St) (H:Hp) (Q:Bool→Hp→Prop),Inv X pins σ H s→t σ H Q→
  wpAny (model X.prog X.w) X.A (forIn ifs true fun c r=>if r = true then do let ok ← isTrue c X.env (eval c X.env);pure (ForInStep.yield ok) else pure (ForInStep.yield r)) (TP X pins σ Q) X.xe s
def vY:TT:=fun _ H Q=>Q true H
theorem nh {σ:St}{H:Hp}{A B:Hp→Prop}(h:A H):vY σ H (fun b H2=>if b = true then A H2 else B H2):=by
 unfold vY
 exact xC h
theorem eX {X:Cx}:IA X [] vY:=fun _ _ _ H _ I h=>wpAny_tests_nil ⟨H,I,h⟩
theorem Cm {X:Cx}{c:Expr}{t:TT}(h:PT X c t):IA X [c] t:=fun pins s σ H Q I q=>wpAny_tests_one (h pins s σ H Q I q)
end
section
variable {prog:Program}{w:World}{A:Around}{R:Result→Shared→Prop}{s:Shared}
theorem pM {elt target iter:Expr}{ifs:List Expr}{scope:Scope}{pos:Pos}{it acc:Value}{env:Env}(J:Nat→Shared→Prop)
  (turn:∀ n s,J n s→wpAny (model prog w) A (pyNext it) (fun r s₁=>match r with
   | none=>R (.ok .next) s₁
   | some v=>wpAny (model prog w) A (letOwnedTupleGo target it v) (fun _ s₂=>wpAny (model prog w) A (assign target env v) (fun _ s₃=>
     wpAny (model prog w) A (forIn ifs true fun c r=>if r = true then do let ok ← isTrue c env (eval c env);pure (ForInStep.yield ok) else pure (ForInStep.yield r)) (fun ok s₄=>
      if ok = true then wpAny (model prog w) A (eval elt env) (fun x s₅=>
       wpAny (model prog w) A (call (.builtin "list.append") [acc,x]) (fun _ s₆=>∃ m,m < n∧J m s₆) (fun _ _=>False) s₅) (fun _ _=>False) s₄
      else ∃ m,m < n∧J m s₄) (fun _ _=>False) s₃) (fun _ _=>False) s₂) (fun _ _=>False) s₁) (fun _ _=>False) s)
  (n:Nat) (h:J n s):codeAny (model prog w) A (.compLoop (.ListComp elt [⟨target,iter,ifs,0⟩] scope pos) 0 it acc env) R s:=by
 refine codeAny_loop rfl J (fun n s hJ=>?_) n h
 show wpAny _ A ((compTurn (.ListComp elt [⟨target,iter,ifs,0⟩] scope pos) 0 it acc env).onRaise (fun x=>do noteFrame x env;theTreesLotGoes x)) _ _ s
 refine wpAny_noted ?_
 rw [compTurn_list]
 refine wpAny_bind (wpAny_standAt (wpAny_bind (wpAny_mono (turn n s hJ) (fun r s₁ h₁=>?_) fun _ _ z=>z.elim)))
 cases r with
 | none=>exact wpAny_pure h₁
 | some v=>
  refine wpAny_bind (wpAny_mono h₁ (fun _ s₂ h₂=>?_) fun _ _ z=>z.elim)
  refine wpAny_bind (wpAny_mono h₂ (fun _ s₃ h₃=>wpAny_bind (wpAny_mono h₃ (fun ok s₄ h₄=>?_) fun _ _ z=>z.elim)) fun _ _ z=>z.elim)
  cases ok with
  | false=>exact wpAny_pure ⟨rfl,h₄⟩
  | true=>
   exact wpAny_bind (wpAny_bind (wpAny_mono h₄ (fun x s₅ h₅=>wpAny_bind (wpAny_mono h₅ (fun _ s₆ h₆=>wpAny_pure (wpAny_pure ⟨rfl,h₆⟩)) fun _ _ z=>z.elim)) fun _ _ z=>z.elim))
end
section
variable {X:Cx}{pins:List (Addr × Obj)}{σ:St}{H:Hp}{s:Shared}{sc:Scope}{x:Str}{cap:List Str}
def ZE (J:It) (js:List Nat) (σ:St) (tt:TT) (te:TE) (Q:VK) (W:Nat→Nat→List V→Hp→Prop):Prop:=
 ∀ i m ys H,W i m ys H→ys.length < sizeLine∧
  ((J.stop i H∧∀ p,H p = none→Q (.ref p) (upd H p (.lst ys)))∨
   (J.go i H∧∀ x H',J.AD i H x H' → tt (some x :: cM σ js) H' fun b H2=>if b = true then te (some x :: cM σ js) H2 fun v H3=>∃ m',m' < m∧W (i + 1) m' (ys ++ [v]) H3 else ∃ m',m' < m∧W (i + 1) m' ys H2))
def Oo (wi:TI) (js:List Nat) (tt:TT) (te:TE):TE:=fun σ H Q=>wi σ H fun J H1=>∃ W:Nat→Nat→List V→Hp→Prop,(∃ m,W 0 m [] H1)∧ZE J js σ tt te Q W
theorem yV (S:fU X.env.scope sc x cap) {js:List Nat}(qO:js.map (fun j=>X.N[j]?) = cap.map some) (hc:X.calm = true) {elt iter:Expr}{ifs:List Expr}{pos px:Pos}{tt:TT}{te:TE}
  (hb:∀ C s0 H0 ex,IA (bR X sc (x :: cap) C s0 H0 ex) ifs tt∧PE (bR X sc (x :: cap) C s0 H0 ex) elt te)
  (I:Inv X pins σ H s) {J:It}{fp:List Addr}{it:Addr}{tn:Nat→Heap→Prop}(T:Turn X.prog X.w X.K (.Name x px) J fp it tn) (st:tn 0 s.heap) (hf:∀ b∈fp,lu X pins H b)
  {Q:VK}{W:Nat→Nat→List V→Hp→Prop}(w0:∃ m,W 0 m [] H) (turn:ZE J js σ tt te Q W) {RR:Value→Addr→Result→Shared→Prop}{E:Value→Shared→Prop}
  (hR:∀ D C s' σ' H' ys its k,D = s.heap.objs.size→C = s.heap.objs.size + 1→Inv (bR X sc (x :: cap) C s H fp) [(D,{ cls:=.type "list",data:=.seq its.toArray k })] σ' H' s' → Vals ys its→ys.length≤sizeLine→(∀ p,H' p = none→Q (.ref p) (upd H' p (.lst ys)))→RR (.ref D) C (.ok .next) s'):
  wpAny (model X.prog X.w) X.A (newList []) (fun acc s₃=>wpAny (model X.prog X.w) X.A (newFunctionEnv sc X.env.globals (eU X.env sc.names []) [] X.env.qual none .none (some X.env)) (fun cenv s₄=>
   codeAny (model X.prog X.w) X.A (.compStart (.ListComp elt [⟨.Name x px,iter,ifs,0⟩] sc pos) 0 (.ref it) acc { cenv with scope:=relabel sc X.env }) (RR acc cenv.locals) s₄) E s₃) E s:=by
 refine wpAny_newObj_type (wpAny_newFunctionEnv S.cell (by intro y hy;simp at hy) (fun h₁ pN qP=>?_) S.kind)
 dsimp only at pN qP ⊢
 have hlt:∀ b∈fp,b < s.heap.objs.size:=fun b hb' => by
  obtain ⟨o,e,_⟩:=T.obj 0 _ st b hb'
  exact Heap.lt_size e
 generalize Oq:s.heap.push { cls:=.type "list",dict:=none,data:=.seq ([]:List Value).toArray } = H2 at pN qP ⊢
 have hC:H2.objs.size = s.heap.objs.size + 1:=by rw [← Oq,Heap.size_push]
 have old:∀ b o,s.heap.get? b = some o→h₁.get? b = some o:=fun b o e=>
  qP.extBut b o (by rw [hC];exact iK (Nat.lt_succ_of_lt (Heap.lt_size e))) (Heap.get?_push_of_some _ (Oq ▸ Heap.get?_push_of_some _ e))
 have hacc:h₁.get? s.heap.objs.size = some { cls:=.type "list",data:=.seq ([]:List Value).toArray }:=
  qP.extBut _ _ (by rw [hC];exact iK (Nat.lt_succ_self _)) (Heap.get?_push_of_some _ (Oq ▸ Heap.get?_push_size _ rfl))
 have MD:tn 0 h₁:=T.keep _ _ _ st fun b _ o e=>old b o e
 obtain ⟨m0,w0⟩:=w0
 rw [hC] at pN qP ⊢
 generalize Ot:s.heap.objs.size + 1 = C at pN qP hR ⊢
 generalize Ei:s.heap.objs.size = D at hacc hR ⊢
 have C6:=Ei.symm
 have QE:C = s.heap.objs.size + 1:=Ot.symm
 have EN:∀ {b:Addr},b < s.heap.objs.size→b≠D:=fun h=>by rw [← Ei];exact iK h
 have loop:∀ s₃:Shared,s₃ = { s with heap:=h₁,toks:=s.toks + ([]:List (Str × Value)).length }→
   codeAny (model X.prog X.w) X.A (.compLoop (.ListComp elt [⟨.Name x px,iter,ifs,0⟩] sc pos) 0 (.ref it) (.ref D) (compEnvC sc (eU X.env sc.names []) C X.env)) (RR (.ref D) C) s₃:=by
  rintro s₃ rfl
  have I0:Inv (bR X sc (x :: cap) C s H fp) [(D,{ cls:=.type "list",data:=.seq ([]:List Value).toArray })] (none :: cM σ js) H { s with heap:=h₁,toks:=s.toks + ([]:List (Str × Value)).length }:=
   EK S qO I hf hlt C6 QE old hacc (fun v z=>by cases z) pN
  have QF:(bR X sc (x :: cap) C s H fp).N.Nodup:=S.nd
  have tD:(bR X sc (x :: cap) C s H fp).env.scope.names.lookup x = some .local:=lookup_relabel_local S.tgt
  have EO:∀ b∈fp,b≠D:=fun b hb' => EN (hlt b hb')
  refine pM (fun n s' => ∃ i v0 H' ys its k,Inv (bR X sc (x :: cap) C s H fp) [(D,{ cls:=.type "list",data:=.seq its.toArray k })] (v0 :: cM σ js) H' s' ∧ tn i s'.heap∧(∀ b∈fp,H' b = none)∧Vals ys its∧W i n ys H')
   ?_ m0 ⟨0,none,H,[],[],0,I0,MD,fun b hb' => (hf b hb').1,.nil,w0⟩
  rintro n s3 ⟨i,v0,H3,ys,its,k,I3,st3,EB,rv,w3⟩
  obtain ⟨hlen,hor⟩:=turn i n ys H3 w3
  have pH:∀ {H' : Hp} {o:Obj},(∀ b∈fp,H' b = none)→∀ b∈fp,lu (bR X sc (x :: cap) C s H fp) [(D,o)] H' b:=fun {H' o} hn b hb' =>
   ⟨hn b hb',(I3.ok.HY b hb').1,I3.ok.AG b hb',.inl hb',(I3.ok.HY b hb').2,fun p hp=>by
    have oB:p = (D,o):=by simpa using hp
    rw [oB]
    exact Ne.symm (EO b hb')⟩
  rcases hor with ⟨stop,qn⟩ | ⟨go,step⟩
  ·refine cJ (T.done (bR X sc (x :: cap) C s H fp) rfl rfl rfl hc i _ s3 _ H3 _ I3 (pH EB) st3 stop) fun r s4 ⟨hr,I4⟩=>?_
   subst hr
   exact hR D C s4 _ H3 ys its k rfl rfl I4 rv (Nat.le_of_lt hlen) qn
  ·refine cJ (T.item (bR X sc (x :: cap) C s H fp) rfl rfl rfl hc i _ s3 _ H3 _ I3 (pH EB) st3 go) fun r s4 ⟨u,hr,h4⟩=>?_
   subst hr
   refine cJ h4 fun _ s5 ⟨xv,H5,I5,r5,y5,AN,N7⟩=>?_
   have N8:=I5.pinned (pH N7) (T.obj _ _ AN)
   have hg:PG (bR X sc (x :: cap) C s H fp) (.Name x px) (m9 0):=dj QF rfl (.inl tD) (.inr tD)
   refine cJ (hg _ s5 _ H5 xv u (fun σ2 H2=>σ2 = some xv :: cM σ js∧H2 = H5) N8 r5 ⟨rfl,rfl⟩) fun _ s6 ⟨σ6,H6,I6,e6,RA⟩=>?_
   subst e6 RA
   refine cJ ((hb C s H fp).1 _ s6 _ H6 _ I6 (step xv H6 y5)) fun ok s7 ⟨H7,I7,q7⟩=>?_
   have fin:∀ {s8:Shared}{H8:Hp}{v8:Option V},Inv (bR X sc (x :: cap) C s H fp) ([(D,{ cls:=.type "list",data:=.seq its.toArray k })] ++ gm fp s5.heap) (v8 :: cM σ js) H8 s8→tn (i + 1) s8.heap∧(∀ b∈fp,H8 b = none)∧s8.heap.get? D = some { cls:=.type "list",data:=.seq its.toArray k }∧H8 D = none∧D≠C:=fun {s8 H8 v8} I8=>by
    have iN:=I8.pin (D,{ cls:=.type "list",data:=.seq its.toArray k }) (List.mem_append_right _ (List.mem_append_left _ (List.mem_singleton.mpr rfl)))
    have yW:∀ b∈fp,∀ o,s5.heap.get? b = some o→s8.heap.get? b = some o∧H8 b = none:=fun b hb' o e=>
     have z:=I8.pin (b,o) (List.mem_append_right _ (List.mem_append_right _ (jV hb' e)))
     ⟨z.1,z.2.1⟩
    refine ⟨T.keep _ _ _ AN fun b hb' o e=>(yW b hb' o e).1,fun b hb' => ?_,iN.1,iN.2.1,iN.2.2.1⟩
    obtain ⟨o,e,_⟩:=T.obj _ _ AN b hb'
    exact (yW b hb' o e).2
   cases ok with
   | false=>
    rw [if_neg Bool.false_ne_true] at q7 ⊢
    obtain ⟨m',hm,w7⟩:=q7
    obtain ⟨f1,f2,_⟩:=fin I7
    exact ⟨m',hm,i + 1,some xv,H7,ys,its,k,I7.jW,f1,f2,rv,w7⟩
   | true=>
    rw [if_pos rfl] at q7 ⊢
    refine cJ ((hb C s H fp).2 _ s7 _ H7 _ I7 q7) fun u8 s8 ⟨v,H8,I8,r8,q8⟩=>?_
    obtain ⟨f1,f2,f3,f4,f5⟩:=fin I8
    obtain ⟨m',hm,w8⟩:=q8
    have RB:Vals (ys ++ [v]) (its ++ [u8]):=rv.append (.cons r8 .nil)
    refine wpAny_list_append_plain ⟨k,f3⟩ (fun h9 RC ME=>?_) (by rw [List.size_toArray,← rv.length];exact Nat.le_of_lt hlen)
    obtain ⟨k9,e9⟩:=RC
    have RD:h9.get? D = some { cls:=.type "list",data:=.seq (its ++ [u8]).toArray k9 }:=by rw [e9];simp
    have In:Inv (bR X sc (x :: cap) C s H fp) (gm fp s5.heap) (some xv :: cM σ js) H8 s8:=I8.iT fun p hp=>I8.pin p (List.mem_append_right _ (List.mem_append_right _ hp))
    have RE:Inv (bR X sc (x :: cap) C s H fp) (gm fp s5.heap) (some xv :: cM σ js) H8 { s8 with heap:=h9 }:=
     In.turned (it:=D) (h' := h9) (t' := s8.toks) (fun b o hb' e=>ME.extBut b o hb' e) f4 f5 (.inr (Nat.le_of_eq Ei)) (fun y c e z=>by
      obtain ⟨v',o,ho,_⟩:=I.cell y c (S.sub I.ok e)
      exact EN (Heap.lt_size ho) z) fun p hp z=>by
      have oB:p∈gm fp s5.heap:=by simpa using hp
      exact EO p.1 (ow oB).1 z
    refine ⟨m',hm,i + 1,some xv,H8,ys ++ [v],its ++ [u8],k9,RE.iT fun p hp=>?_,T.keep _ _ _ f1 fun b hb' o e=>ME.extBut b o (EO b hb') e,f2,RB,w8⟩
    have oB:p = (D,{ cls:=.type "list",data:=.seq (its ++ [u8]).toArray k9 }):=by simpa using hp
    subst oB
    refine ⟨RD,f4,f5,fun hb' => ?_,fun v z=>by cases z⟩
    obtain ⟨_,o,ho,_⟩:=I.stack.mem hb'
    exact EN (Heap.lt_size ho) rfl
 exact codeAny_compStart_list (loop _ rfl) (T.self X.A 0 _ _ _ MD (loop _ rfl))
theorem ni (S:fU X.env.scope sc x cap) {js:List Nat}(qO:js.map (fun j=>X.N[j]?) = cap.map some) (hc:X.calm = true) (ZF:∀ e s,¬ X.xe e s) {elt iter:Expr}{ifs:List Expr}{pos px:Pos}{wi:TI}{tt:TT}{te:TE}
  (hi:PI X (.Name x px) iter wi) (hb:∀ C s0 H0 ex,IA (bR X sc (x :: cap) C s0 H0 ex) ifs tt∧PE (bR X sc (x :: cap) C s0 H0 ex) elt te)
  (hs:∀ x,foldedSetIterable iter X.env x = pure x:=by intro _;rfl):PE X (.ListComp elt [⟨.Name x px,iter,ifs,0⟩] sc pos) (Oo wi js tt te):=by
 intro pins s σ H Q I h
 rw [eval_ListComp]
 refine wpAny_comprehension_free (use:=none) rfl hs (gr (S.cells I.ok)) S.kind S.names (cJ (hi pins s σ H _ I h) fun xv s₁ h₁=>cJ h₁ fun itv s₂ h₂=>?_)
 obtain ⟨it,fp,tn,J,H2,e,I2,T,st2,f2,W,w0,turn⟩:=h₂
 subst e
 refine yV (Q:=Q) (RR:=fun acc C=>compPost (model X.prog X.w) X.A X.xe none (EP X pins σ Q) acc C) S qO hc hb I2 T st2 f2 w0 turn ?_
 intro D C s' σ' H' ys its k hD hC J' rv hz q
 obtain ⟨m,hn,_⟩:=J'.loc
 have iN:=J'.pin (D,{ cls:=.type "list",data:=.seq its.toArray k }) (List.mem_append_right _ (List.mem_singleton.mpr rfl))
 exact ⟨m,hn,fun h' hs' => ⟨.ref D,_,yU S I2 f2 hD hC J' iN.2.1 iN.1 rv hz hs',rfl,q D iN.2.1⟩⟩
end
end L2
namespace L2
open PySem PySem.Spec PyProof.Rows
section
variable {X:Cx}{pins:List (Addr × Obj)}{σ:St}{H:Hp}{s:Shared}{sc:Scope}{x:Str}{cap:List Str}
def ZG (i:Nat) (wi:TI) (js:List Nat) (tt:TT) (te:TE):TS:=fun D σ H=>Oo wi js tt te σ H fun v H' => D.nx (σ.set i (some v)) H'
theorem ER (S:fU X.env.scope sc x cap) {js:List Nat}(qO:js.map (fun j=>X.N[j]?) = cap.map some) (hc:X.calm = true) (ZF:∀ e s,¬ X.xe e s) {elt iter:Expr}{ifs:List Expr}{pos px py spos:Pos}{wi:TI}{tt:TT}{te:TE}{i:Nat}{y:Str}
  (hN:X.N.Nodup) (hi' : X.N[i]? = some y) (hy:X.env.scope.names.lookup y = some .local)
  (hi:PI X (.Name x px) iter wi) (hb:∀ C s0 H0 ex,IA (bR X sc (x :: cap) C s0 H0 ex) ifs tt∧PE (bR X sc (x :: cap) C s0 H0 ex) elt te)
  (hsw:swapsWith (.ListComp elt [⟨.Name x px,iter,ifs,0⟩] sc pos) (some (.Name y py)) spos.line X.env = pure true:=by rfl)
  (hs:∀ x,foldedSetIterable iter X.env x = pure x:=by intro _;rfl):PS X (.Assign [.Name y py] (.ListComp elt [⟨.Name x px,iter,ifs,0⟩] sc pos) spos) (ZG i wi js tt te):=by
 intro pins s σ H D0 I h
 rw [exec_Assign_Name_used _ _ _ _ hsw]
 refine wpAny_bind (wpAny_standAt (wpAny_bind ?_))
 show wpAny _ X.A (do let _ ← comprehension (.ListComp elt [⟨.Name x px,iter,ifs,0⟩] sc pos) sc X.env _ (newList []) false (eval iter X.env) (some (assign (.Name y py) X.env))) _ _ s
 refine wpAny_bind (wpAny_mono (wpAny_comprehension_free (use:=some (assign (.Name y py) X.env)) (Q:=fun _ s' => SP X pins D0 .next s') rfl hs (gr (S.cells I.ok)) S.kind S.names
  (cJ (hi pins s σ H _ I h) fun xv s₁ h₁=>cJ h₁ fun itv s₂ h₂=>?_)) (fun _ s' hq=>wpAny_pure (wpAny_pure hq)) fun _ _ e=>e)
 obtain ⟨it,fp,tn,J,H2,e,I2,T,st2,f2,W,w0,turn⟩:=h₂
 subst e
 refine yV (Q:=fun v H' => D0.nx (σ.set i (some v)) H') (RR:=fun acc C=>compPost (model X.prog X.w) X.A X.xe (some (assign (.Name y py) X.env)) (fun _ s' => SP X pins D0 .next s') acc C) S qO hc hb I2 T st2 f2 w0 turn ?_
 intro D C s' σ' H' ys its k hD hC J' rv hz q
 have Yb:∀ {b:Addr},b < s₂.heap.objs.size→b≠C:=fun h=>by rw [hC];exact iK (Nat.lt_succ_of_lt h)
 have iN:=J'.pin (D,{ cls:=.type "list",data:=.seq its.toArray k }) (List.mem_append_right _ (List.mem_singleton.mpr rfl))
 obtain ⟨m,hn,_⟩:=id J'.loc
 have hn:s'.heap.Ns C m:=hn
 obtain ⟨oC,es,ep,hoC,hdC,rest⟩:=id hn
 have ZI:C ∉ X.fs∧C≠X.env.locals:=by
  constructor
  ·intro hb'
   obtain ⟨_,o,ho,_⟩:=I2.qa.mem hb'
   exact Yb (Heap.lt_size ho) rfl
  ·exact fun z=>Yb I2.lt z.symm
 have I3:Inv X pins σ (upd H' D (.lst ys)) s' := yU (h' := s'.heap) S I2 f2 hD hC J' iN.2.1 iN.1 rv hz (.refl ..)
 have hDC:C≠D:=by rw [hC,hD];exact Ol (Nat.lt_succ_self _)
 have ZJ:H' C = none:=J'.free
 have I4:Inv X [(C,oC)] σ (upd H' D (.lst ys)) s' := I3.iT fun p hp=>by
  have oB:p = (C,oC):=by simpa using hp
  subst oB
  exact ⟨hoC,by rw [aI hDC];exact ZJ,ZI.2,ZI.1,fun v z=>by rw [hdC] at z;cases z⟩
 have I5:Inv X (pins ++ [(C,oC)]) σ (upd H' D (.lst ys)) s' := I3.iT fun p hp=>by
  rcases List.mem_append.mp hp with hp | hp
  ·exact I3.pin p (List.mem_append_right _ hp)
  ·exact I4.pin p (List.mem_append_right _ hp)
 show wpAny _ X.A (assign (.Name y py) X.env (.ref D)) _ _ _
 refine wpAny_assign_Name (lg I5 hN hi' (.inl hy) (v:=.ref D) rfl (fun s6 I6=>?_) (.inr hy))
 have RG:=I6.pin (C,oC) (List.mem_append_right _ (List.mem_append_right _ (List.mem_singleton.mpr rfl)))
 refine ⟨m,⟨oC,es,ep,RG.1,hdC,rest⟩,fun h' hs' => ⟨_,_,?_,q D iN.2.1⟩⟩
 refine I6.jW.turned (it:=C) (h' := h') (t' := s6.toks) (fun b o hb' e=>hs'.extBut b o hb' e) RG.2.1 ZI.2 (.inr ?_) (fun y' c e z=>?_) fun p hp z=>?_
 ·rw [hC];exact Nat.le_succ_of_le I2.sz
 ·obtain ⟨v',o,ho,_⟩:=I2.cell y' c e
  exact Yb (Heap.lt_size ho) z
 ·exact Yb (Heap.lt_size (I2.pin p hp).1) z
end
section
variable {X:Cx}
theorem ES (hc:X.calm = true):gU X (.builtin "all") (fun xs H Q=>∃ (p:Addr) (bs:List Bool),xs = [.ref p]∧b9 X.K H p (bs.map V.bl)∧Q (.bl (bs.all id)) H):=by
 intro pins s σ H xs us Q I r h
 obtain ⟨p,bs,rfl,hq,q⟩:=h
 obtain ⟨u,rfl,r1⟩:=vals1 r
 cases r1
 obtain ⟨its,rv,pl,hz⟩:=I.list hq
 have hl:=plainIs pl
 have hlt:p < s.heap.objs.size:=by obtain ⟨_,e,_⟩:=hl;exact Heap.lt_size e
 have hlen:its.length = bs.length:=by rw [← rv.length,List.length_map]
 refine call_all_walk (wpAny_pyIter_list hl ?_)
 refine ⟨s.heap.objs.size,[s.heap.objs.size,p],[s.heap.objs.size],its.toArray.size,_,_,fun i=>(bs[i]?).getD true,rfl,Walks.list (A:=X.A.in1) (I.ok.hd hc) _ p (Nat.ne_of_lt hlt) its.toArray,
  ⟨⟨_,Heap.get?_push_size _ rfl,rfl,rfl⟩,hl.push _⟩,fun i v s' Q' E' hP hQ=>?_,fun h' tk hk=>?_⟩
 ·have hP' : its[i]? = some v:=by simpa using hP
  have hi:i < bs.length:=by rw [← hlen];exact (List.getElem?_eq_some_iff.mp hP').1
  obtain ⟨u,hu,ru⟩:=rv.get (i:=i) (x:=V.bl bs[i]) (by rw [List.getElem?_map,List.getElem?_eq_getElem hi];rfl)
  rw [hP'] at hu
  cases hu
  cases (show v = Value.bool bs[i] from ru)
  simp only [List.getElem?_eq_getElem hi,Option.getD_some] at hQ
  exact wpAny_truthy_bool hQ
 ·have e:((List.range its.toArray.size).all fun i=>(bs[i]?).getD true) = bs.all id:=by
   rw [List.size_toArray,hlen];exact PyProof.Rows.LSm.range_all bs
  rw [e]
  exact ⟨.bl (bs.all id),H,I.kept fun b o e=>hk b o (fun hm=>by rw [List.mem_singleton.mp hm] at e;exact Nat.lt_irrefl _ (Heap.lt_size e)) (Heap.get?_push_of_some _ e),rfl,q⟩
end
end L2
namespace L2
open PySem PySem.Spec PyProof.Rows
mutual
def Dat (K:PySem.W.Frag) (G:Hp):V→PyData→Prop
 | v,.none=>v = .gk
 | v,.bool b=>v = .bl b
 | v,.int i=>v = .int i
 | v,.str x=>v = .str x
 | v,.list ds=>∃ p xs,v = .ref p∧G p = some (.lst xs)∧bJ K G xs ds
 | v,.tuple ds=>∃ p xs,v = .ref p∧eV K G p xs∧bJ K G xs ds
 | _,.dict _=>False
def bJ (K:PySem.W.Frag) (G:Hp):List V→List PyData→Prop
 | xs,[]=>xs = []
 | xs,d :: ds=>∃ y ys,xs = y :: ys∧Dat K G y d∧bJ K G ys ds
end
theorem aN.tup {K:PySem.W.Frag}{H H' : Hp} {a:Addr}{xs:List V}(e:aN H H') (h:eV K H a xs):eV K H' a xs:=by
 rcases h with (h | ⟨o,h⟩) | h
 ·exact .inl (.inl (e _ _ h))
 ·exact .inl (.inr ⟨o,e _ _ h⟩)
 ·exact .inr h
section
variable {K:PySem.W.Frag}{G G' : Hp}
theorem aX (i:Int):Dat K G (.int i) (.int i):=by unfold Dat;rfl
theorem bM (x:Str):Dat K G (.str x) (.str x):=by unfold Dat;rfl
theorem bQ (b:Bool):Dat K G (.bl b) (.bool b):=by unfold Dat;rfl
theorem tE:Dat K G .gk .none:=by unfold Dat;rfl
theorem d8 {p:Addr}{xs:List V}{ds:List PyData}(h:eV K G p xs) (r:bJ K G xs ds):Dat K G (.ref p) (.tuple ds):=by unfold Dat;exact ⟨p,xs,rfl,h,r⟩
theorem cK {p:Addr}{xs:List V}{ds:List PyData}(h:G p = some (.lst xs)) (r:bJ K G xs ds):Dat K G (.ref p) (.list ds):=by unfold Dat;exact ⟨p,xs,rfl,h,r⟩
theorem bE:bJ K G [] []:=by unfold bJ;rfl
theorem bh {x:V}{xs:List V}{d:PyData}{ds:List PyData}(h:Dat K G x d) (r:bJ K G xs ds):bJ K G (x :: xs) (d :: ds):=by
 unfold bJ;exact ⟨x,xs,rfl,h,r⟩
theorem Dat.int {v:V}{i:Int}(h:Dat K G v (.int i)):v = .int i:=by unfold Dat at h;exact h
theorem Dat.str {v:V}{x:Str}(h:Dat K G v (.str x)):v = .str x:=by unfold Dat at h;exact h
theorem Dat.bl {v:V}{x:Bool}(h:Dat K G v (.bool x)):v = .bl x:=by unfold Dat at h;exact h
theorem Dat.gk {v:V}(h:Dat K G v .none):v = .gk:=by unfold Dat at h;exact h
theorem Dat.tup {v:V}{ds:List PyData}(h:Dat K G v (.tuple ds)):∃ p xs,v = .ref p∧eV K G p xs∧bJ K G xs ds:=by unfold Dat at h;exact h
theorem Dat.lst {v:V}{ds:List PyData}(h:Dat K G v (.list ds)):∃ p xs,v = .ref p∧G p = some (.lst xs)∧bJ K G xs ds:=by unfold Dat at h;exact h
theorem bJ.nil {xs:List V}(h:bJ K G xs []):xs = []:=by unfold bJ at h;exact h
theorem bJ.cons {xs:List V}{d:PyData}{ds:List PyData}(h:bJ K G xs (d :: ds)):∃ y ys,xs = y :: ys∧Dat K G y d∧bJ K G ys ds:=by unfold bJ at h;exact h
theorem bJ.length:∀ {ds:List PyData}{xs:List V},bJ K G xs ds→xs.length = ds.length
 | [],_,h=>by rw [h.nil];rfl
 | d :: ds,_,h=>by
  obtain ⟨y,ys,rfl,_,r⟩:=h.cons
  show ys.length + 1 = ds.length + 1
  rw [r.length]
theorem bJ.get:∀ {ds:List PyData}{xs:List V}{i:Nat}{d:PyData},bJ K G xs ds→ds[i]? = some d→∃ x,xs[i]? = some x∧Dat K G x d
 | [],_,_,_,_,e=>by simp at e
 | d :: ds,_,0,_,h,e=>by
  obtain ⟨y,ys,rfl,hd,r⟩:=h.cons
  simp at e;subst e;exact ⟨y,rfl,hd⟩
 | d :: ds,_,i + 1,d',h,e=>by
  obtain ⟨y,ys,rfl,hd,r⟩:=h.cons
  obtain ⟨x,h1,h2⟩:=bJ.get (i:=i) (d:=d') r (by simpa using e)
  exact ⟨x,by simpa using h1,h2⟩
theorem bJ.get' {ds:List PyData}{xs:List V}{i:Nat}{x:V}(h:bJ K G xs ds) (e:xs[i]? = some x):∃ d,ds[i]? = some d∧Dat K G x d:=by
 have hl:=h.length
 have hi:i < xs.length:=(List.getElem?_eq_some_iff.mp e).1
 obtain ⟨y,h1,h2⟩:=h.get (List.getElem?_eq_getElem (show i < ds.length by omega))
 rw [e] at h1;cases h1
 exact ⟨_,List.getElem?_eq_getElem (by omega),h2⟩
theorem gX:∀ {ds es:List PyData}{xs ys:List V},bJ K G xs ds→bJ K G ys es→bJ K G (xs ++ ys) (ds ++ es)
 | [],_,_,_,h,r=>by rw [h.nil];exact r
 | d :: ds,_,_,_,h,r=>by
  obtain ⟨y,ys,rfl,hd,r'⟩:=h.cons
  exact bh hd (gX r' r)
theorem fV {ds:List PyData}{d:PyData}{xs:List V}{x:V}(h:bJ K G xs ds) (r:Dat K G x d):bJ K G (xs ++ [x]) (ds ++ [d]):=gX h (bh r bE)
theorem qQ:∀ {ds:List PyData}{xs:List V}(n:Nat),bJ K G xs ds→bJ K G (xs.take n) (ds.take n)
 | _,_,0,_=>bE
 | [],_,n + 1,h=>by rw [h.nil];exact bE
 | d :: ds,_,n + 1,h=>by
  obtain ⟨y,ys,rfl,hd,r⟩:=h.cons
  exact bh hd (qQ n r)
theorem oE:∀ {ds:List PyData}{xs:List V}(n:Nat),bJ K G xs ds→bJ K G (xs.drop n) (ds.drop n)
 | _,_,0,h=>h
 | [],_,n + 1,h=>by rw [h.nil];exact bE
 | d :: ds,_,n + 1,h=>by
  obtain ⟨y,ys,rfl,hd,r⟩:=h.cons
  exact oE n r
theorem yX:∀ {ds:List PyData}{xs:List V}{x:V}{d:PyData}(n:Nat),bJ K G xs ds→Dat K G x d→bJ K G (xs.set n x) (ds.set n d)
 | [],_,_,_,_,h,_=>by rw [h.nil];exact bE
 | d :: ds,_,_,_,0,h,e=>by
  obtain ⟨y,ys,rfl,hd,r⟩:=h.cons
  exact bh e r
 | d :: ds,_,_,_,n + 1,h,e=>by
  obtain ⟨y,ys,rfl,hd,r⟩:=h.cons
  exact bh hd (yX n r e)
theorem nj:∀ {ds:List PyData}{xs:List V},bJ K G xs ds→bJ K G xs.reverse ds.reverse
 | [],_,h=>by rw [h.nil];exact bE
 | d :: ds,_,h=>by
  obtain ⟨y,ys,rfl,hd,r⟩:=h.cons
  rw [List.reverse_cons,List.reverse_cons]
  exact fV (nj r) hd
end
mutual
theorem Dat.same {K:PySem.W.Frag}{G G' : Hp} (e:aN G G'):∀ {d:PyData}{v:V},Dat K G v d→Dat K G' v d
 | .none,_,h=>by rw [h.gk];exact tE
 | .bool b,_,h=>by rw [h.bl];exact bQ b
 | .int i,_,h=>by rw [h.int];exact aX i
 | .str x,_,h=>by rw [h.str];exact bM x
 | .list ds,_,h=>by
  obtain ⟨p,xs,rfl,h1,h2⟩:=h.lst
  exact cK (e _ _ h1) (bJ.same e h2)
 | .tuple ds,_,h=>by
  obtain ⟨p,xs,rfl,h1,h2⟩:=h.tup
  exact d8 (e.tup h1) (bJ.same e h2)
 | .dict _,_,h=>by unfold Dat at h;exact h.elim
theorem bJ.same {K:PySem.W.Frag}{G G' : Hp} (e:aN G G'):∀ {ds:List PyData}{xs:List V},bJ K G xs ds→bJ K G' xs ds
 | [],_,h=>by rw [h.nil];exact bE
 | d :: ds,_,h=>by
  obtain ⟨y,ys,rfl,hd,r⟩:=h.cons
  exact bh (Dat.same e hd) (bJ.same e r)
end
section
variable {X:Cx}{pins:List (Addr × Obj)}{σ:St}{H G:Hp}{s:Shared}
mutual
theorem Dat.reads (I:Inv X pins σ H s) (e:aN G H):∀ {d:PyData}{v:V}{u:Value},Dat X.K G v d→RelV v u→∃ as,Reads s.heap u d as
 | .none,_,u,h,r=>by
  rw [h.gk] at r
  cases (show u = Value.none from r)
  exact ⟨_,.none⟩
 | .bool b,_,u,h,r=>by
  rw [h.bl] at r
  cases (show u = Value.bool b from r)
  exact ⟨_,.bool b⟩
 | .int i,_,u,h,r=>by
  rw [h.int] at r
  obtain ⟨t,q⟩:=(show ∃ t,u = Value.int i t from r)
  subst q
  exact ⟨_,.int i t⟩
 | .str x,_,u,h,r=>by
  rw [h.str] at r
  obtain ⟨t,q⟩:=(show ∃ t,u = Value.str x t from r)
  subst q
  exact ⟨_,.str x t⟩
 | .list ds,_,u,h,r=>by
  obtain ⟨p,xs,rfl,h1,h2⟩:=h.lst
  cases (show u = Value.ref p from r)
  obtain ⟨its,rv,⟨o,n,e1,c,_,d1⟩,_⟩:=I.list (b9.of (e _ _ h1))
  obtain ⟨as,ra⟩:=bJ.reads I e h2 rv
  exact ⟨_,Reads.list e1 c d1 (by simpa using ra)⟩
 | .tuple ds,_,u,h,r=>by
  obtain ⟨p,xs,rfl,h1,h2⟩:=h.tup
  cases (show u = Value.ref p from r)
  obtain ⟨its,rv,⟨o,e1,c,n,d1⟩,_⟩:=I.tuple (e.tup h1)
  obtain ⟨as,ra⟩:=bJ.reads I e h2 rv
  exact ⟨_,Reads.tuple e1 c d1 (by simpa using ra)⟩
 | .dict _,_,_,h,_=>by unfold Dat at h;exact h.elim
theorem bJ.reads (I:Inv X pins σ H s) (e:aN G H):∀ {ds:List PyData}{xs:List V}{us:List Value},bJ X.K G xs ds→Vals xs us→∃ as,ReadsAll s.heap us ds as
 | [],_,us,h,r=>by
  rw [h.nil] at r
  cases r
  exact ⟨_,.nil⟩
 | d :: ds,_,us,h,r=>by
  obtain ⟨y,ys,rfl,hd,hr⟩:=h.cons
  cases r with
  | cons r1 r2=>
   obtain ⟨as,ra⟩:=Dat.reads I e hd r1
   obtain ⟨bs,rb⟩:=bJ.reads I e hr r2
   exact ⟨_,.cons ra rb⟩
end
end
mutual
def noBool:PyData→Bool
 | .bool _=>false
 | .dict _=>false
 | .list xs=>iw xs
 | .tuple xs=>iw xs
 | .none | .int _ | .str _=>true
def iw:List PyData→Bool
 | []=>true
 | x :: xs=>noBool x && iw xs
end
mutual
theorem yY:∀ a b:PyData,noBool a = true→noBool b = true→SeqAt.noMix a b = true
 | .list xs,.list ys,h,k=>by rw [SeqAt.noMix];exact qR xs ys (by simpa [noBool] using h) (by simpa [noBool] using k)
 | .tuple xs,.tuple ys,h,k=>by rw [SeqAt.noMix];exact qR xs ys (by simpa [noBool] using h) (by simpa [noBool] using k)
 | .bool _,_,h,_=>by simp [noBool] at h
 | .dict _,_,h,_=>by simp [noBool] at h
 | .none,.bool _,_,k | .int _,.bool _,_,k | .str _,.bool _,_,k | .list _,.bool _,_,k | .tuple _,.bool _,_,k=>by simp [noBool] at k
 | .none,.dict _,_,k | .int _,.dict _,_,k | .str _,.dict _,_,k | .list _,.dict _,_,k | .tuple _,.dict _,_,k=>by simp [noBool] at k
 | .none,.none,_,_ | .none,.int _,_,_ | .none,.str _,_,_ | .none,.list _,_,_ | .none,.tuple _,_,_=>by simp [SeqAt.noMix]
 | .int _,.none,_,_ | .int _,.int _,_,_ | .int _,.str _,_,_ | .int _,.list _,_,_ | .int _,.tuple _,_,_=>by simp [SeqAt.noMix]
 | .str _,.none,_,_ | .str _,.int _,_,_ | .str _,.str _,_,_ | .str _,.list _,_,_ | .str _,.tuple _,_,_=>by simp [SeqAt.noMix]
 | .list _,.none,_,_ | .list _,.int _,_,_ | .list _,.str _,_,_ | .list _,.tuple _,_,_=>by simp [SeqAt.noMix]
 | .tuple _,.none,_,_ | .tuple _,.int _,_,_ | .tuple _,.str _,_,_ | .tuple _,.list _,_,_=>by simp [SeqAt.noMix]
theorem qR:∀ a b:List PyData,iw a = true→iw b = true→SeqAt.noMixAll a b = true
 | [],[],_,_ | [],_ :: _,_,_ | _ :: _,[],_,_=>by simp [SeqAt.noMixAll]
 | x :: xs,y :: ys,h,k=>by
  have h' : noBool x = true∧iw xs = true:=by simpa [iw] using h
  have k' : noBool y = true∧iw ys = true:=by simpa [iw] using k
  rw [SeqAt.noMixAll,yY x y h'.1 k'.1,qR xs ys h'.2 k'.2];rfl
end
structure Pl (n:Nat) (d:PyData):Prop where
 lay:d.canLay0 = true
 dep:d.depth≤n
 nb:noBool d = true
theorem Pl.mono {n m:Nat}{d:PyData}(h:Pl n d) (k:n≤m):Pl m d:=⟨h.lay,Nat.le_trans h.dep k,h.nb⟩
theorem Pl.shaped {n:Nat}{d:PyData}(h:Pl n d) (k:n≤64):SeqAt.shaped d = true:=by
 show (PyData.canLay0 d && decide (PyData.depth d≤64)) = true
 rw [Bool.and_eq_true]
 exact ⟨h.lay,decide_eq_true (Nat.le_trans h.dep k)⟩
theorem Pl.mix {n:Nat}{a b:PyData}(h:Pl n a) (k:Pl n b):SeqAt.noMix a b = true:=yY a b h.nb k.nb
mutual
theorem same_eq:∀ {a b:PyData},PySem.Spec.same a b = true→a = b
 | .none,b,h=>by cases b <;> first | rfl | simp [PySem.Spec.same] at h
 | .bool x,b,h=>by cases b <;> simp [PySem.Spec.same] at h <;> rw [h]
 | .int x,b,h=>by cases b <;> simp [PySem.Spec.same] at h <;> rw [h]
 | .str x,b,h=>by cases b <;> simp [PySem.Spec.same] at h <;> rw [h]
 | .list x,b,h=>by
  cases b <;> simp [PySem.Spec.same] at h
  rw [pO h]
 | .tuple x,b,h=>by
  cases b <;> simp [PySem.Spec.same] at h
  rw [pO h]
 | .dict x,b,h=>by
  cases b <;> simp [PySem.Spec.same] at h
  rw [qd h]
theorem pO:∀ {a b:List PyData},PySem.Spec.sameAll a b = true→a = b
 | [],[],_=>rfl
 | [],_ :: _,h=>by simp [PySem.Spec.sameAll] at h
 | _ :: _,[],h=>by simp [PySem.Spec.sameAll] at h
 | x :: xs,y :: ys,h=>by
  have h' : PySem.Spec.same x y = true∧PySem.Spec.sameAll xs ys = true:=by simpa [PySem.Spec.sameAll] using h
  rw [same_eq h'.1,pO h'.2]
theorem qd:∀ {a b:List (PyData × PyData)},PySem.Spec.samePairs a b = true→a = b
 | [],[],_=>rfl
 | [],_ :: _,h=>by simp [PySem.Spec.samePairs] at h
 | _ :: _,[],h=>by simp [PySem.Spec.samePairs] at h
 | (x,z) :: xs,(y,w) :: ys,h=>by
  have h' : (PySem.Spec.same x y = true∧PySem.Spec.same z w = true)∧PySem.Spec.samePairs xs ys = true:=by simpa [PySem.Spec.samePairs] using h
  rw [same_eq h'.1.1,same_eq h'.1.2,qd h'.2]
end
theorem IB {a b:PyData}(h:a≠b):PySem.Spec.same a b = false:=by
 cases e:PySem.Spec.same a b with
 | false=>rfl
 | true=>exact absurd (same_eq e) h
section
variable {X:Cx}
def C7 (K:PySem.W.Frag) (g:Bool→Bool):R2:=fun x y H Q=>∃ (G:Hp) (a b:PyData),aN G H∧Dat K G x a∧Dat K G y b∧(SeqAt.shaped a = true∧SeqAt.shaped b = true∧SeqAt.noMix a b = true)∧Q (.bl (g (PySem.Spec.same a b))) H
theorem Ou (hu:X.A.units + 64 < cLine):oX X (compareOp .Eq) (C7 X.K fun b=>b):=by
 intro pins s σ H x y v u Q I rx ry h
 obtain ⟨G,a,b,e,ha,hb,⟨sa,sb,nm⟩,q⟩:=h
 obtain ⟨as,ra⟩:=Dat.reads I e ha rx
 obtain ⟨bs,rb⟩:=Dat.reads I e hb ry
 exact eq_dataH_same ra rb sa sb hu nm ⟨.bl (PySem.Spec.same a b),H,I,rfl,q⟩
theorem Ov (hu:X.A.units + 64 < cLine):oX X (compareOp .NotEq) (C7 X.K fun b=>!b):=by
 intro pins s σ H x y v u Q I rx ry h
 obtain ⟨G,a,b,e,ha,hb,⟨sa,sb,nm⟩,q⟩:=h
 obtain ⟨as,ra⟩:=Dat.reads I e ha rx
 obtain ⟨bs,rb⟩:=Dat.reads I e hb ry
 exact ne_dataH_same ra rb sa sb hu nm ⟨.bl (!PySem.Spec.same a b),H,I,rfl,q⟩
end
theorem Ow (i:Int) {n:Nat}:Pl n (.int i):=⟨by unfold PyData.canLay0;rfl,by unfold PyData.depth;omega,by unfold noBool;rfl⟩
theorem kR:∀ {ds:List PyData},(∀ d∈ds,d.canLay0 = true)→PyData.canLayAll0 ds = true
 | [],_=>rfl
 | d :: ds,h=>by
  unfold PyData.canLayAll0
  rw [h d (by simp),kR fun e he=>h e (by simp [he])];rfl
theorem nk:∀ {ds:List PyData}{n:Nat},(∀ d∈ds,d.depth≤n)→PyData.depthAll ds≤n
 | [],_,_=>by unfold PyData.depthAll;omega
 | d :: ds,n,h=>by
  have h1:=h d (by simp)
  have h2:=nk (ds:=ds) (n:=n) fun e he=>h e (by simp [he])
  unfold PyData.depthAll
  omega
theorem pP:∀ {ds:List PyData},(∀ d∈ds,noBool d = true)→iw ds = true
 | [],_=>rfl
 | d :: ds,h=>by
  unfold iw
  rw [h d (by simp),pP fun e he=>h e (by simp [he])];rfl
theorem ET {n:Nat}{ds:List PyData}(h:∀ d∈ds,Pl n d):Pl (n + 1) (.tuple ds):=by
 refine ⟨?_,?_,?_⟩
 ·unfold PyData.canLay0;exact kR fun d hd=>(h d hd).lay
 ·have:=nk fun d hd=>(h d hd).dep
  unfold PyData.depth;omega
 ·unfold noBool;exact pP fun d hd=>(h d hd).nb
theorem xD {n:Nat}{ds:List PyData}(h:∀ d∈ds,Pl n d):Pl (n + 1) (.list ds):=by
 refine ⟨?_,?_,?_⟩
 ·unfold PyData.canLay0;exact kR fun d hd=>(h d hd).lay
 ·have:=nk fun d hd=>(h d hd).dep
  unfold PyData.depth;omega
 ·unfold noBool;exact pP fun d hd=>(h d hd).nb
end L2
namespace L2
open PySem PySem.Spec PyProof.Rows
structure bO (G H G' H' : Hp):Prop where
 gg:aN G G'
 gh:aN G' H'
 hh:aN H H'
 fr:∀ b o,G' b = some o→G b = some o∨H b = none
theorem bO.refl {G H:Hp}(s:aN G H):bO G H G H:=⟨aN.refl _,s,aN.refl _,fun _ _ h=>.inl h⟩
theorem bO.trans {G H G1 H1 G2 H2:Hp}(a:bO G H G1 H1) (b:bO G1 H1 G2 H2):bO G H G2 H2:=
 ⟨a.gg.trans b.gg,b.gh,a.hh.trans b.hh,fun x o h=>by
  rcases b.fr x o h with h | h
  ·exact a.fr x o h
  ·exact .inr (a.hh.free h)⟩
theorem b8 {G H:Hp}{p:Addr}{o:HO}(s:aN G H) (hp:H p = none):bO G H (upd G p o) (upd H p o):=by
 have hg:G p = none:=s.free hp
 refine ⟨fun b u e=>?_,fun b u e=>?_,fun b u e=>?_,fun b u e=>?_⟩
 ·rw [aI (aC e hg)];exact e
 ·by_cases h:b = p
  ·subst h;rw [aE] at e ⊢;exact e
  ·rw [aI h] at e ⊢;exact s b u e
 ·rw [aI (aC e hp)];exact e
 ·by_cases h:b = p
  ·subst h;exact .inr hp
  ·rw [aI h] at e;exact .inl e
theorem EU {G H H' : Hp} (s:aN G H) (h:aN H H'):bO G H G H' := ⟨aN.refl _,s.trans h,h,fun _ _ e=>.inl e⟩
theorem bO.out {G H G' H' : Hp} (a:bO G H G' H') {p:Addr}{o:HO}(hp:H p = some o) (hg:G p = none):G' p = none:=by
 cases e:G' p with
 | none=>rfl
 | some u=>
  rcases a.fr p u e with h | h
  ·rw [hg] at h;cases h
  ·rw [hp] at h;cases h
def Ev (K:PySem.W.Frag) (t:TE) (σ:St) (G:Hp) (d:PyData):Prop:=
 ∀ G1 H,aN G G1→aN G1 H→∀ Q:VK,(∀ v G' H',bO G1 H G' H' → Dat K G' v d→Q v H')→t σ H Q
def qe (t:TT) (σ:St) (G:Hp) (b:Bool):Prop:=
 ∀ G1 H,aN G G1→aN G1 H→∀ Q:Bool→Hp→Prop,(∀ G' H',bO G1 H G' H' → Q b H')→t σ H Q
def xE (K:PySem.W.Frag) (t:TA) (σ:St) (G:Hp) (ds:List PyData):Prop:=
 ∀ G1 H,aN G G1→aN G1 H→∀ Q:List V→Hp→Prop,(∀ vs G' H',bO G1 H G' H' → bJ K G' vs ds→Q vs H')→t σ H Q
section
variable {K:PySem.W.Frag}{σ:St}{G:Hp}{ta tb tc:TE}{a b d:PyData}
theorem Ev.mono {t:TE}{G' : Hp} (h:Ev K t σ G d) (s:aN G G'):Ev K t σ G' d:=fun G1 H s1 s2 Q k=>h G1 H (s.trans s1) s2 Q k
theorem Ev.use {t:TE}{H:Hp}{Q:VK}(h:Ev K t σ G d) (s:aN G H) (k:∀ v G' H',bO G H G' H' → Dat K G' v d→Q v H'):t σ H Q:=h G H (aN.refl _) s Q k
theorem qe.use {t:TT}{c:Bool}{H:Hp}{Q:Bool→Hp→Prop}(h:qe t σ G c) (s:aN G H) (k:∀ G' H',bO G H G' H' → Q c H'):t σ H Q:=h G H (aN.refl _) s Q k
theorem ah {i:Nat}{v:V}(h:σ[i]? = some (some v)) (hd:Dat K G v d):Ev K (cE i) σ G d:=fun G1 H s1 s2 Q k=>⟨v,h,k v G1 H (bO.refl s2) (hd.same s1)⟩
theorem yZ {v:V}(hd:Dat K G v d):Ev K (tC v) σ G d:=fun G1 H s1 s2 Q k=>k v G1 H (bO.refl s2) (hd.same s1)
theorem aR {i:Int}:Ev K (tC (.int i)) σ G (.int i):=yZ (aX i)
theorem aF {x:Str}:Ev K (tC (.str x)) σ G (.str x):=yZ (bM x)
theorem jx {x:Bool}:Ev K (tC (.bl x)) σ G (.bool x):=yZ (bQ x)
theorem jy {r:R2}(ha:Ev K ta σ G a) (hb:Ev K tb σ G b) (hr:∀ G1 H x y (Q:VK),aN G G1→aN G1 H→Dat K G1 x a→Dat K G1 y b→(∀ v G' H',bO G1 H G' H' → Dat K G' v d→Q v H')→r x y H Q):Ev K (iV r ta tb) σ G d:=
 fun G1 H s1 s2 Q k=>ha G1 H s1 s2 _ fun x G2 H2 g2 hx=>hb G2 H2 (s1.trans g2.gg) g2.gh _ fun y G3 H3 g3 hy=>
  hr G3 H3 x y Q ((s1.trans g2.gg).trans g3.gg) g3.gh (hx.same g3.gg) hy fun v G' H' g hv=>k v G' H' ((g2.trans g3).trans g) hv
theorem gu {g:Int→Int→V}{i j:Int}(ha:Ev K ta σ G (.int i)) (hb:Ev K tb σ G (.int j)) (hg:Dat K G (g i j) d):Ev K (iV (Il g) ta tb) σ G d:=
 jy ha hb fun G1 H x y Q s1 s2 hx hy k=>by
  rw [hx.int,hy.int]
  exact ⟨i,j,rfl,rfl,k _ G1 H (bO.refl s2) (hg.same s1)⟩
theorem rP {C:Int→Int→Prop}{g:Int→Int→V}{i j:Int}(ha:Ev K ta σ G (.int i)) (hb:Ev K tb σ G (.int j)) (hc:C i j) (hg:Dat K G (g i j) d):Ev K (iV (rI C g) ta tb) σ G d:=
 jy ha hb fun G1 H x y Q s1 s2 hx hy k=>by
  rw [hx.int,hy.int]
  exact ⟨i,j,rfl,rfl,hc,k _ G1 H (bO.refl s2) (hg.same s1)⟩
theorem cz {ds:List PyData}{i:Int}{n:Nat}(ha:Ev K ta σ G (.tuple ds)) (hb:Ev K tb σ G (.int i)) (hn:yP ds.length i = some n) (hd:ds[n]? = some d):Ev K (iV (ng K) ta tb) σ G d:=
 jy ha hb fun G1 H x y Q s1 s2 hx hy k=>by
  obtain ⟨p,xs,rfl,hp,hxs⟩:=hx.tup
  obtain ⟨z,hz,ZK⟩:=hxs.get hd
  rw [hy.int]
  exact ⟨p,xs,i,z,rfl,rfl,s2.tup hp,by unfold yE;rw [hxs.length,hn];exact hz,k z G1 H (bO.refl s2) ZK⟩
theorem cg {ds:List PyData}{i:Int}{n:Nat}(ha:Ev K ta σ G (.list ds)) (hb:Ev K tb σ G (.int i)) (hn:yP ds.length i = some n) (hd:ds[n]? = some d):Ev K (iV (yQ K) ta tb) σ G d:=
 jy ha hb fun G1 H x y Q s1 s2 hx hy k=>by
  obtain ⟨p,xs,rfl,hp,hxs⟩:=hx.lst
  obtain ⟨z,hz,ZK⟩:=hxs.get hd
  rw [hy.int]
  exact ⟨p,xs,i,z,rfl,rfl,b9.of (s2 _ _ hp),by unfold yE;rw [hxs.length,hn];exact hz,k z G1 H (bO.refl s2) ZK⟩
theorem EV {g:Bool→Bool}{n:Nat}(ha:Ev K ta σ G a) (hb:Ev K tb σ G b) (pa:Pl n a) (pb:Pl n b) (hn:n≤64):Ev K (iV (C7 K g) ta tb) σ G (.bool (g (PySem.Spec.same a b))):=
 jy ha hb fun G1 H x y Q s1 s2 hx hy k=>⟨G1,a,b,s2,hx,hy,⟨pa.shaped hn,pb.shaped hn,pa.mix pb⟩,k _ G1 H (bO.refl s2) (bQ _)⟩
theorem aJ:xE K kr σ G []:=fun G1 H s1 s2 Q k=>k [] G1 H (bO.refl s2) bE
theorem aj {t:TA}{ds:List PyData}(ha:Ev K ta σ G a) (hb:xE K t σ G ds):xE K (bV ta t) σ G (a :: ds):=
 fun G1 H s1 s2 Q k=>ha G1 H s1 s2 _ fun x G2 H2 g2 hx=>hb G2 H2 (s1.trans g2.gg) g2.gh _ fun ys G3 H3 g3 hy=>k (x :: ys) G3 H3 (g2.trans g3) (bh (hx.same g3.gg) hy)
theorem j3 {t:TA}{ds:List PyData}(h:xE K t σ G ds) (hl:ds.length≤sizeLine):Ev K (C2 t) σ G (.tuple ds):=
 fun G1 H s1 s2 Q k=>h G1 H s1 s2 _ fun vs G2 H2 g2 hv=>⟨by rw [hv.length];exact hl,fun p hp=>by
  have g:=b8 (o:=.tup vs) g2.gh hp
  exact k _ _ _ (g2.trans g) (d8 (eV.of aE) (hv.same g.gg))⟩
theorem d9 {t:TA}{ds:List PyData}(h:xE K t σ G ds) (hl:ds.length≤sizeLine):Ev K (Io t) σ G (.list ds):=
 fun G1 H s1 s2 Q k=>h G1 H s1 s2 _ fun vs G2 H2 g2 hv=>⟨by rw [hv.length];exact hl,fun p hp=>by
  have g:=b8 (o:=.lst vs) g2.gh hp
  exact k _ _ _ (g2.trans g) (cK aE (hv.same g.gg))⟩
theorem ud {r:List V→Hp→VK→Prop}{t:TA}{ds:List PyData}(h:xE K t σ G ds) (hr:∀ G1 H xs (Q:VK),aN G G1→aN G1 H→bJ K G1 xs ds→(∀ v G' H',bO G1 H G' H' → Dat K G' v d→Q v H')→r xs H Q):Ev K (C3 r t) σ G d:=
 fun G1 H s1 s2 Q k=>h G1 H s1 s2 _ fun vs G2 H2 g2 hv=>hr G2 H2 vs Q (s1.trans g2.gg) g2.gh hv fun v G' H' g hd=>k v G' H' (g2.trans g) hd
theorem xF {t:TA}{ds:List PyData}(h:xE K t σ G [.list ds]):Ev K (C3 (fun xs H Q=>∃ p ys,xs = [.ref p]∧(b9 K H p ys∨eV K H p ys)∧Q (.int ys.length) H) t) σ G (.int ds.length):=
 ud h fun G1 H xs Q s1 s2 hx k=>by
  obtain ⟨y,ys,rfl,hy,r⟩:=hx.cons
  rw [r.nil]
  obtain ⟨p,zs,rfl,hp,hz⟩:=hy.lst
  refine ⟨p,zs,rfl,.inl (b9.of (s2 _ _ hp)),?_⟩
  rw [hz.length]
  exact k _ G1 H (bO.refl s2) (aX _)
theorem IC {t:TA}{ds:List PyData}(h:xE K t σ G [.tuple ds]):Ev K (C3 (fun xs H Q=>∃ p ys,xs = [.ref p]∧(b9 K H p ys∨eV K H p ys)∧Q (.int ys.length) H) t) σ G (.int ds.length):=
 ud h fun G1 H xs Q s1 s2 hx k=>by
  obtain ⟨y,ys,rfl,hy,r⟩:=hx.cons
  rw [r.nil]
  obtain ⟨p,zs,rfl,hp,hz⟩:=hy.tup
  refine ⟨p,zs,rfl,.inr (s2.tup hp),?_⟩
  rw [hz.length]
  exact k _ G1 H (bO.refl s2) (aX _)
theorem C8 {t:TA}{ds:List PyData}(h:xE K t σ G [.list ds]):Ev K (C3 (fun xs H Q=>∃ p ys,xs = [.ref p]∧((b9 K H p ys∧∀ l,H l = none→Q (.ref l) (upd H l (.tup ys)))∨(eV K H p ys∧Q (.ref p) H))) t) σ G (.tuple ds):=
 ud h fun G1 H xs Q s1 s2 hx k=>by
  obtain ⟨y,ys,rfl,hy,r⟩:=hx.cons
  rw [r.nil]
  obtain ⟨p,zs,rfl,hp,hz⟩:=hy.lst
  refine ⟨p,zs,rfl,.inl ⟨b9.of (s2 _ _ hp),fun l hl=>?_⟩⟩
  have g:=b8 (o:=.tup zs) s2 hl
  exact k _ _ _ g (d8 (eV.of aE) (hz.same g.gg))
theorem bG {t:TE}{c:Bool}(h:Ev K t σ G (.bool c)):qe (qb t) σ G c:=fun G1 H s1 s2 Q k=>h G1 H s1 s2 _ fun v G' H' g hv=>⟨c,hv.bl,k G' H' g⟩
theorem nq {t:TE}{c:Bool}(h:Ev K t σ G (.bool c)):qe (tB t) σ G c:=fun G1 H s1 s2 Q k=>h G1 H s1 s2 _ fun v G' H' g hv=>⟨c,hv.bl,k G' H' g⟩
theorem qg {t:TT}{c:Bool}(h:qe t σ G c):qe (Q9 t) σ G (!c):=fun G1 H s1 s2 Q k=>h G1 H s1 s2 _ fun G' H' g=>k G' H' g
theorem gO {t u:TT}{c e:Bool}(h:qe t σ G c) (h' : c = false→qe u σ G e):qe (tOr t u) σ G (c || e):=fun G1 H s1 s2 Q k=>h G1 H s1 s2 _ fun G' H' g=>by
 cases c with
 | true=>rw [if_pos rfl];exact k G' H' g
 | false=>
  rw [if_neg Bool.false_ne_true]
  exact h' rfl G' H' (s1.trans g.gg) g.gh _ fun G2 H2 g2=>k G2 H2 (g.trans g2)
theorem gY {t:TT}{c e:Bool}(h:qe t σ G c) (q:c = e):qe t σ G e:=q ▸ h
theorem oV {t:TE}{e:PyData}(h:Ev K t σ G d) (q:d = e):Ev K t σ G e:=q ▸ h
theorem nu {t:TT}{c:Bool}(h:qe t σ G c) (h1:c = true→Ev K ta σ G d) (h2:c = false→Ev K tb σ G d):Ev K (tIf t ta tb) σ G d:=fun G1 H s1 s2 Q k=>h G1 H s1 s2 _ fun G' H' g=>by
 cases c with
 | true=>rw [if_pos rfl];exact h1 rfl G' H' (s1.trans g.gg) g.gh _ fun v G2 H2 g2 hv=>k v G2 H2 (g.trans g2) hv
 | false=>rw [if_neg Bool.false_ne_true];exact h2 rfl G' H' (s1.trans g.gg) g.gh _ fun v G2 H2 g2 hv=>k v G2 H2 (g.trans g2) hv
theorem AU {c e:Bool}(h:Ev K ta σ G (.bool c)) (h' : c = true→Ev K tb σ G (.bool e)):Ev K (Mt ta tb) σ G (.bool (c && e)):=fun G1 H s1 s2 Q k=>h G1 H s1 s2 _ fun v G' H' g hv=>⟨c,hv.bl,by
 cases c with
 | false=>rw [if_neg Bool.false_ne_true];exact k _ G' H' g (bQ _)
 | true=>rw [if_pos rfl];exact h' rfl G' H' (s1.trans g.gg) g.gh _ fun w G2 H2 g2 hw=>k w G2 H2 (g.trans g2) hw⟩
def jS (K:PySem.W.Frag) (R:List PyData→PyData→Prop):Sp:=fun vs H Q _=>∃ (G:Hp) (ds:List PyData) (d:PyData),aN G H∧bJ K G vs ds∧R ds d∧∀ v G' H',bO G H G' H' → Dat K G' v d→Q v H'
theorem bH {R:List PyData→PyData→Prop}{E:XK}{t:TA}{ds:List PyData}(h:xE K t σ G ds) (hR:R ds d):Ev K (lA (jS K R) [] E t) σ G d:=
 fun G1 H s1 s2 Q k=>h G1 H s1 s2 _ fun vs G2 H2 g2 hv=>by
  refine ⟨G2,ds,d,g2.gh,?_,hR,fun v G' H' g hd=>k v G' H' (g2.trans g) hd⟩
  rw [List.append_nil];exact hv
theorem pQ {α β:Type}(f:α→Option β):∀ ds:List α,(List.range ds.length).filterMap (fun i=>(ds[i]?).bind f) = ds.filterMap f
 | []=>rfl
 | d :: ds=>by
  rw [List.length_cons,List.range_succ_eq_map,List.filterMap_cons,List.filterMap_map]
  have e:(fun i=>((d :: ds)[i]?).bind f) ∘ Nat.succ = fun i=>(ds[i]?).bind f:=by
   funext i;simp
  rw [e,pQ f ds]
  rw [List.filterMap_cons]
  simp
structure Walk (J:It) (n:Nat) (H:Hp) (items:Nat→V→Prop):Prop where
 go:∀ i H',aN H H' → i < n→J.go i H'
 stop:∀ i H',aN H H' → n≤i→J.stop i H'
 AD:∀ i H' x pR,aN H H' → J.AD i H' x pR→pR = H' ∧ items i x
theorem EW {a:Addr}{xs:List V}{H:Hp}(h:eV K H a xs):Walk (QC K a) xs.length H (fun i x=>xs[i]? = some x):=
 ⟨fun i H' s hi=>⟨xs,_,s.tup h,List.getElem?_eq_getElem hi⟩,fun i H' s hi=>⟨xs,s.tup h,hi⟩,fun i H' x pR s y=>⟨y.1,y.2 xs (s.tup h)⟩⟩
theorem EX {a:Addr}{xs:List V}{H:Hp}(h:b9 K H a xs):Walk (QB K a) xs.length H (fun i x=>xs[i]? = some x):=
 ⟨fun i H' s hi=>⟨xs,_,s.seq h,List.getElem?_eq_getElem hi⟩,fun i H' s hi=>⟨xs,s.seq h,hi⟩,fun i H' x pR s y=>⟨y.1,y.2 xs (s.seq h)⟩⟩
theorem MF {wi:TI}{js:List Nat}{tt:TT}{te:TE}{H:Hp}{Q:VK}{n:Nat}(f:Nat→Option PyData) (items:Hp→Nat→V→Prop) {G1:Hp}(s2:aN G1 H)
  (hw:∀ R:It→Hp→Prop,(∀ J G2 H2,bO G1 H G2 H2→Walk J n H2 (items G2)→R J H2)→wi σ H R)
  (hn:n < sizeLine)
  (hc:∀ G2 i x,aN G1 G2→i < n→items G2 i x→(∃ d,f i = some d∧qe tt (some x :: cM σ js) G2 true∧Ev K te (some x :: cM σ js) G2 d)∨(f i = none∧qe tt (some x :: cM σ js) G2 false))
  (k:∀ v G' H',bO G1 H G' H' → Dat K G' v (.list ((List.range n).filterMap f))→Q v H'):Oo wi js tt te σ H Q:=by
 refine hw _ fun J G2 H2 g2 W=>?_
 refine ⟨fun i m ys H' => m = n - i∧i≤n∧ys.length≤i∧∃ G',bO G2 H2 G' H' ∧ bJ K G' ys ((List.range i).filterMap f),⟨n,by omega,by omega,by simp,G2,bO.refl g2.gh,by simpa using bE⟩,?_⟩
 rintro i m ys H' ⟨rfl,hi,hl,G',g',hys⟩
 refine ⟨by omega,?_⟩
 by_cases h:i = n
 ·subst h
  refine .inl ⟨W.stop i H' g'.hh (Nat.le_refl _),fun p hp=>?_⟩
  have g3:=b8 (o:=.lst ys) g'.gh hp
  exact k _ _ _ ((g2.trans g').trans g3) (cK aE (hys.same g3.gg))
 ·refine .inr ⟨W.go i H' g'.hh (by omega),fun x pR hy=>?_⟩
  obtain ⟨rfl,hit⟩:=W.AD i H' x pR g'.hh hy
  rcases hc G2 i x g2.gg (by omega) hit with ⟨d,hf,ht,he⟩ | ⟨hf,ht⟩
  ·refine ht G' pR g'.gg g'.gh _ fun G4 H4 g4=>?_
   rw [if_pos rfl]
   refine he G4 H4 (g'.gg.trans g4.gg) g4.gh _ fun v G5 H5 g5 hv=>⟨n - (i + 1),by omega,rfl,by omega,by rw [List.length_append];show ys.length + 1≤i + 1;omega,G5,(g'.trans g4).trans g5,?_⟩
   rw [List.range_succ,List.filterMap_append]
   simp only [List.filterMap_cons,hf,List.filterMap_nil]
   exact fV (hys.same (g4.gg.trans g5.gg)) hv
  ·refine ht G' pR g'.gg g'.gh _ fun G4 H4 g4=>?_
   rw [if_neg Bool.false_ne_true]
   refine ⟨n - (i + 1),by omega,rfl,by omega,by omega,G4,g'.trans g4,?_⟩
   rw [List.range_succ,List.filterMap_append]
   simp only [List.filterMap_cons,hf,List.filterMap_nil,List.append_nil]
   exact hys.same g4.gg
def Ox (K:PySem.W.Frag) (tt:TT) (te:TE) (σ' : St) (G:Hp) (o:Option PyData):Prop:=
 (∃ d,o = some d∧qe tt σ' G true∧Ev K te σ' G d)∨(o = none∧qe tt σ' G false)
theorem Oz {α:Type}{tl:TE}{js:List Nat}{tt:TT}{te:TE}(as:List α) (enc:α→PyData) (f:α→Option PyData) (h:Ev K tl σ G (.tuple (as.map enc))) (hj:as.length < sizeLine)
  (hc:∀ G2 (i:Nat) (a:α) x,aN G G2→as[i]? = some a→Dat K G2 x (enc a)→Ox K tt te (some x :: cM σ js) G2 (f a)):Ev K (Oo (Rl K tl) js tt te) σ G (.list (as.filterMap f)):=
 fun G1 H s1 s2 Q k=>MF (n:=as.length) (fun i=>(as[i]?).bind f) (fun G2 i x=>∃ a,as[i]? = some a∧Dat K G2 x (enc a)) s2 (fun R hR=>h G1 H s1 s2 _ fun v G2 H2 g2 hv=>by
  obtain ⟨p,xs,rfl,hp,hxs⟩:=hv.tup
  refine ⟨p,rfl,⟨xs,g2.gh.tup hp⟩,hR _ G2 H2 g2 ?_⟩
  have W:=EW (K:=K) (H:=H2) (g2.gh.tup hp)
  rw [hxs.length,List.length_map] at W
  refine ⟨W.go,W.stop,fun i H' x pR s y=>⟨(W.AD i H' x pR s y).1,?_⟩⟩
  obtain ⟨d,hd,hx⟩:=hxs.get' (W.AD i H' x pR s y).2
  rw [List.getElem?_map] at hd
  cases e:as[i]? with
  | none=>rw [e] at hd;cases hd
  | some a=>rw [e] at hd;cases hd;exact ⟨a,rfl,hx⟩) hj
  (fun G2 i x s3 hi ⟨a,ha,hx⟩=>by
   show Ox K tt te (some x :: cM σ js) G2 ((as[i]?).bind f)
   rw [ha];exact hc G2 i a x (s1.trans s3) ha hx) (by rw [pQ];exact k)
theorem j4 {α:Type}{tl:TE}{js:List Nat}{tt:TT}{te:TE}(as:List α) (enc:α→PyData) (f:α→Option PyData) (h:Ev K tl σ G (.list (as.map enc))) (hj:as.length < sizeLine)
  (hc:∀ G2 (i:Nat) (a:α) x,aN G G2→as[i]? = some a→Dat K G2 x (enc a)→Ox K tt te (some x :: cM σ js) G2 (f a)):Ev K (Oo (Ey K tl) js tt te) σ G (.list (as.filterMap f)):=
 fun G1 H s1 s2 Q k=>MF (n:=as.length) (fun i=>(as[i]?).bind f) (fun G2 i x=>∃ a,as[i]? = some a∧Dat K G2 x (enc a)) s2 (fun R hR=>h G1 H s1 s2 _ fun v G2 H2 g2 hv=>by
  obtain ⟨p,xs,rfl,hp,hxs⟩:=hv.lst
  refine ⟨p,rfl,⟨xs,b9.of (g2.gh _ _ hp)⟩,hR _ G2 H2 g2 ?_⟩
  have W:=EX (K:=K) (H:=H2) (b9.of (g2.gh _ _ hp))
  rw [hxs.length,List.length_map] at W
  refine ⟨W.go,W.stop,fun i H' x pR s y=>⟨(W.AD i H' x pR s y).1,?_⟩⟩
  obtain ⟨d,hd,hx⟩:=hxs.get' (W.AD i H' x pR s y).2
  rw [List.getElem?_map] at hd
  cases e:as[i]? with
  | none=>rw [e] at hd;cases hd
  | some a=>rw [e] at hd;cases hd;exact ⟨a,rfl,hx⟩) hj
  (fun G2 i x s3 hi ⟨a,ha,hx⟩=>by
   show Ox K tt te (some x :: cM σ js) G2 ((as[i]?).bind f)
   rw [ha];exact hc G2 i a x (s1.trans s3) ha hx) (by rw [pQ];exact k)
theorem HZ {tt:TT}{te:TE}{σ' : St} (ht:qe tt σ' G true) (he:Ev K te σ' G d):Ox K tt te σ' G (some d):=.inl ⟨d,rfl,ht,he⟩
theorem lc0 {tt:TT}{te:TE}{σ' : St} (ht:qe tt σ' G false):Ox K tt te σ' G none:=.inr ⟨rfl,ht⟩
theorem lcB {tt:TT}{te:TE}{σ' : St} {c:Bool}(ht:qe tt σ' G c) (he:c = true→Ev K te σ' G d):Ox K tt te σ' G (if c then some d else none):=by
 cases c with
 | true=>exact HZ ht (he rfl)
 | false=>exact lc0 ht
theorem gv:qe vY σ G true:=fun G1 H s1 s2 Q k=>k G1 H (bO.refl s2)
end
end L2
namespace L2
open PySem PySem.Spec PyProof.Rows
section
variable {K:PySem.W.Frag}{σ:St}{G H:Hp}{te:TE}{d:PyData}{D:Ends}
theorem bw (h:Ev K te σ G d) (s:aN G H) (k:∀ v G' H',bO G H G' H' → Dat K G' v d→D.rt v H'):Ij te D σ H:=h.use s k
theorem dN {i:Nat}(h:Ev K te σ G d) (s:aN G H) (k:∀ v G' H',bO G H G' H' → Dat K G' v d→D.nx (σ.set i (some v)) H'):AK te (m9 i) D σ H:=h.use s k
theorem iL {tc:TT}{t u:TS}{c:Bool}(h:qe tc σ G c) (s:aN G H) (k1:c = true→∀ G' H',bO G H G' H' → t D σ H') (k2:c = false→∀ G' H',bO G H G' H' → u D σ H'):yL tc t u D σ H:=
 h.use s fun G' H' g=>by
  cases c with
  | true=>rw [if_pos rfl];exact k1 rfl G' H' g
  | false=>rw [if_neg Bool.false_ne_true];exact k2 rfl G' H' g
theorem aM {tc:TT}{t u:TS}(h:qe tc σ G false) (s:aN G H) (k:∀ G' H',bO G H G' H' → u D σ H'):yL tc t u D σ H:=iL h s (fun z=>nomatch z) fun _=>k
theorem kB {α β:Type}(f:α→β):∀ l:List α,l.filterMap (fun x=>some (f x)) = l.map f
 | []=>rfl
 | x :: l=>by rw [List.filterMap_cons,List.map_cons,kB f l]
theorem vZ:∀ ns:List Nat,bJ K G (ns.map fun n=>V.int (n:Nat)) (ns.map fun n=>PyData.int (n:Nat))
 | []=>bE
 | n :: ns=>bh (aX _) (vZ ns)
theorem b9.kept {H' : Hp} {a:Addr}{xs:List V}(h:b9 K H a xs) (k:∀ o,H a = some o→H' a = some o):b9 K H' a xs:=by
 rcases h with (h | ⟨u,h⟩) | h
 ·exact .inl (.inl (k _ h))
 ·exact .inl (.inr ⟨u,k _ h⟩)
 ·exact .inr h
theorem cI {n i:Nat}(h:i < n):yP n (i:Int) = some i:=by unfold yP;rw [if_pos (by omega),if_pos (by omega)];simp
end
end L2
namespace L2
open PySem PySem.Spec PyProof.Rows
section
variable {K:PySem.W.Frag}{σ:St}{G H:Hp}{ta tb:TE}
theorem MG {i j:Int}(ha:Ev K ta σ G (.int i)) (hb:Ev K tb σ G (.int j)):Ev K (iV X7 ta tb) σ G (.bool (!decide (i = j))):=
 jy ha hb fun G1 H x y Q s1 s2 hx hy k=>by
  rw [hx.int,hy.int]
  refine ⟨rfl,?_⟩
  have e:decide (V.int i = V.int j) = decide (i = j):=by
   by_cases h:i = j
   ·rw [decide_eq_true h,decide_eq_true (by rw [h])]
   ·rw [decide_eq_false h,decide_eq_false fun z=>h (by injection z)]
  rw [e]
  exact k _ G1 H (bO.refl s2) (bQ _)
theorem iO {i j:Int}(ha:Ev K ta σ G (.int i)) (hb:Ev K tb σ G (.int j)):Ev K (iV Ob ta tb) σ G (.bool (decide (i = j))):=
 jy ha hb fun G1 H x y Q s1 s2 hx hy k=>by
  rw [hx.int,hy.int]
  refine ⟨rfl,?_⟩
  have e:decide (V.int i = V.int j) = decide (i = j):=by
   by_cases h:i = j
   ·rw [decide_eq_true h,decide_eq_true (by rw [h])]
   ·rw [decide_eq_false h,decide_eq_false fun z=>h (by injection z)]
  rw [e]
  exact k _ G1 H (bO.refl s2) (bQ _)
theorem dY {d:Addr}{o:HO}(s:aN G H) (n:G d = none):aN G (upd H d o):=fun b u e=>by
 rw [aI (aC e n)];exact s b u e
theorem y9 {p d:Addr}{o:HO}(h:G d = none) (n:d≠p):upd G p o d = none:=by rw [aI n];exact h
end
end L2
namespace L2
open PySem PySem.Spec PyProof.Rows
section
variable {X:Cx}{pins:List (Addr × Obj)}{σ:St}{H:Hp}{s:Shared}{h' : Heap}
theorem Inv.zc {t' : Nat} {fp:List Addr}{T:Addr}{o:HO}(I:Inv X pins σ H s) (k:∀ b u,b ∉ fp→s.heap.get? b = some u→h'.get? b = some u) (hf:∀ b∈fp,lu X pins H b)
  (hT:s.heap.objs.size≤T) (new:cC X.prog X.w (upd H T o) h' T o):Inv X pins σ (upd H T o) { s with heap:=h',toks:=t' }:=by
 have RI:∀ b u,H b = some u→b ∉ fp:=fun b u e z=>by rw [(hf b z).1] at e;cases e
 have nT:∀ b u,H b = some u→b≠T:=fun b u e=>Nat.ne_of_lt (Nat.lt_of_lt_of_le (I.hok.lt e) hT)
 have nT' : ∀ b u,s.heap.get? b = some u→b≠T:=fun b u e=>Nat.ne_of_lt (Nat.lt_of_lt_of_le (Heap.lt_size e) hT)
 refine I.step (g' := s.gens) (d' := s.drawn) (ch:=fp) (fun b hb=>?_) (fun b u _ _ hc e _=>k b u hc e) (fun b u _ _ hc e _=>⟨u.slots,k b u hc e⟩) (fun b u _ e n=>by rw [aI (nT' b u e)];exact n)
  (fun b u hc e=>⟨u,k b u hc e⟩) (fun b xs e=>by rw [aI (nT b _ e)];exact e) (fun b u v e=>by rw [aI (nT b _ e)];exact e) (fun b cr e=>by rw [aI (nT b _ e)];exact e) (fun m hm=>?_) (fun b u e=>?_) I.bare
 ·obtain ⟨f0,f1,f2,f3,f4,f5⟩:=hf b hb
  exact ⟨f3,f1,f4,f5⟩
 ·obtain ⟨ob,es,ep,ho,r⟩:=hm
  exact ⟨ob,es,ep,k _ ob (fun z=>(hf _ z).2.1 rfl) ho,r⟩
 ·by_cases hb:b = T
  ·subst hb;rw [aE] at e;cases e;exact new
  ·rw [aI hb] at e
   refine (I.hok b u e).stay (fun c v hc q=>k c v ?_ q) (fun c q=>by rw [aI (nT c _ q)];exact q) (fun c xs q=>by rw [aI (nT c _ q)];exact q) fun c o u q=>by rw [aI (nT c _ q)];exact q
   rcases hc with z | z
   ·rw [z];exact RI b u e
   ·exact RI c _ z
theorem Inv.turns {t' : Nat} {fp:List Addr}(I:Inv X pins σ H s) (k:∀ b u,b ∉ fp→s.heap.get? b = some u→h'.get? b = some u) (hf:∀ b∈fp,lu X pins H b):Inv X pins σ H { s with heap:=h',toks:=t' }:=by
 have RI:∀ b u,H b = some u→b ∉ fp:=fun b u e z=>by rw [(hf b z).1] at e;cases e
 refine I.step (g' := s.gens) (d' := s.drawn) (ch:=fp) (fun b hb=>?_) (fun b u _ _ hc e _=>k b u hc e) (fun b u _ _ hc e _=>⟨u.slots,k b u hc e⟩) (fun b u _ e n=>n)
  (fun b u hc e=>⟨u,k b u hc e⟩) (fun b xs e=>e) (fun b u v e=>e) (fun _ _ e=>e) (fun m hm=>?_) (fun b u e=>?_) I.bare
 ·obtain ⟨f0,f1,f2,f3,f4,f5⟩:=hf b hb
  exact ⟨f3,f1,f4,f5⟩
 ·obtain ⟨ob,es,ep,ho,r⟩:=hm
  exact ⟨ob,es,ep,k _ ob (fun z=>(hf _ z).2.1 rfl) ho,r⟩
 ·refine (I.hok b u e).stay (fun c v hc q=>k c v ?_ q) (fun c q=>q) (fun c xs q=>q) fun c o u q=>q
  rcases hc with z | z
  ·rw [z];exact RI b u e
  ·exact RI c _ z
end
section
variable {prog:Program}{w:World}{A:Around}{E:Value→Shared→Prop}{s:Shared}
theorem AV {it t:Addr}{i:Nat}{items:Array Value}{x:Value}{Q:Value→Shared→Prop}(q1:s.heap.IsTupleIter it t i) (q2:s.heap.IsTuple t items) (q3:items[i]? = some x)
  (k:∀ h',h'.IsTupleIter it t (i + 1)→Heap.SameBut it s.heap h' → Q x { s with heap:=h' }):wpAny (model prog w) A (Builtin.SmallTypes.nextOf (.ref it)) Q E s:=by
 obtain ⟨oi,e1,e2,e3⟩:=id q1
 obtain ⟨ot,e4,_,nt,e5⟩:=q2
 unfold Builtin.SmallTypes.nextOf
 refine wpAny_bind (wpAny_callSpecial?_slot (name:=Str.ofString "__next__") q1.typeIs F.slot_tuple_iterator_next (wpAny_call_entry F.slot_tuple_iterator_next q1.typeIs F.entry_tuple_iterator_next ?_ (F.args_tuple_iterator_next_1 _)))
 show wpAny (model prog w) _ (field (.ref it) 0 >>= _) _ _ s
 refine wpAny_bind (wpAny_field e1 e3 (x:=.ref t) rfl ?_)
 rw [if_neg (show ¬ ((Value.ref t == Value.none) = true) from Bool.false_ne_true)]
 refine wpAny_bind (wpAny_field e1 e3 (x:=.int i 0) rfl ?_)
 refine wpAny_bind (wpAny_seqItems e4 e5 ?_)
 simp only [Int.toNat_natCast,q3]
 refine wpAny_bind (wpAny_setField e1 e3 (by simp) (wpAny_pure ⟨x,rfl,wpAny_pure (k _ ⟨_,Heap.get?_update_self _ e1 (Obj.isFreed_of_fields (Obj.data_mapFields e3 _)),(Obj.cls_mapFields ..).trans e2,by rw [Obj.data_mapFields e3];simp [rawInt]⟩ (Heap.SameBut.update ..))⟩))
theorem ue {it t:Addr}{i:Nat}{items:Array Value}{Q:Value→Shared→Prop}(q0:A.handled = none) (q1:s.heap.IsTupleIter it t i) (q2:s.heap.IsTuple t items) (q3:items[i]? = none)
  (k:∀ h' e,Heap.ExtBut it s.heap h' → (∃ o,h'.get? e = some o∧o.cls = .type "StopIteration")→E (.ref e) { s with heap:=h' }):wpAny (model prog w) A (Builtin.SmallTypes.nextOf (.ref it)) Q E s:=by
 obtain ⟨oi,e1,e2,e3⟩:=id q1
 obtain ⟨ot,e4,_,nt,e5⟩:=q2
 unfold Builtin.SmallTypes.nextOf
 refine wpAny_bind (wpAny_callSpecial?_slot (name:=Str.ofString "__next__") q1.typeIs F.slot_tuple_iterator_next (wpAny_call_entry F.slot_tuple_iterator_next q1.typeIs F.entry_tuple_iterator_next ?_ (F.args_tuple_iterator_next_1 _)))
 show wpAny (model prog w) _ (field (.ref it) 0 >>= _) _ _ s
 refine wpAny_bind (wpAny_field e1 e3 (x:=.ref t) rfl ?_)
 rw [if_neg (show ¬ ((Value.ref t == Value.none) = true) from Bool.false_ne_true)]
 refine wpAny_bind (wpAny_field e1 e3 (x:=.int i 0) rfl ?_)
 refine wpAny_bind (wpAny_seqItems e4 e5 ?_)
 simp only [Int.toNat_natCast,q3]
 refine wpAny_bind (wpAny_rule (wpAny_bind (wpAny_setField e1 e3 (by simp) (wpAny_bind ?_))))
 simp only [newExc,newTuple]
 refine wpAny_bind (wpAny_newObj_type (wpAny_bind (m:=firstArgMember _ _) (wpAny_of_eq (a:=Value.none) (by first | rfl | (simp only [firstArgMember];rfl)) (wpAny_newObj_type ?_ (by size_fits)))) (by size_fits))
 simp only [raiseNew]
 refine wpAny_bind (wpAny_handled (?_:wpAny _ _ _ _ _ _))
 first | rw [show A.in1.handled = none from q0] | rw [q0]
 exact wpAny_bind (wpAny_pure (wpAny_throw (k _ _ (((Heap.SameBut.update ..).extBut.push _).push _) ⟨_,Heap.get?_push_size _ rfl,rfl⟩)))
theorem oF (hh:A.handled = none) (it l:Addr) (hne:l≠it) (items:Array Value):
  Draws prog w A it [it,l] items.size (fun i v=>items[i]? = some v) (fun i h=>h.IsTupleIter it l i∧h.IsTuple l items) where
 live:=fun _ _ st=>let ⟨o,ho,_⟩:=st.1;⟨o,ho⟩
 frame:=fun _ _ _ st hk=>⟨let ⟨o,ho,r⟩:=st.1;⟨o,hk it (by simp) o ho,r⟩,let ⟨o,ho,r⟩:=st.2;⟨o,hk l (by simp) o ho,r⟩⟩
 item:=fun i s Q E hi st hQ=>AV st.1 st.2 (x:=items[i]) (by simp [hi]) fun h' C9 hs' => hQ _ h' s.toks (by simp [hi]) ⟨C9,let ⟨o,ho,r⟩:=st.2;⟨o,(hs'.2 l hne).trans ho,r⟩⟩ hs'
 done:=fun s Q E st hE=>ue hh st.1 st.2 (by simp) hE
end
def EY (K:PySem.W.Frag) (a:Addr):It:=
 ⟨fun i H=>∃ xs x,b9 K H a xs∧xs[i]? = some x,fun i H v H' => ∃ p x,H p = none∧v = .ref p∧H' = upd H p (.tup [.int i,x])∧∀ xs,b9 K H a xs→xs[i]? = some x,fun i H=>∃ xs,b9 K H a xs∧xs.length≤i⟩
theorem AW {h:Heap}{a b:Addr}{o u:Obj}(e:h.get? a = some o) (e' : h.get? b = some u) (n:o.cls≠u.cls):a≠b:=by
 rintro rfl;rw [e] at e';cases e';exact n rfl
theorem AX {P:Program}{w:World}{K:PySem.W.Frag}{elts:List Expr}{tk:Nat}{tpos:Pos}(a e it:Addr):Turn P w K (.Tuple elts tk tpos) (EY K a) [e,it] e (fun i h=>(∃ old,IsEnum h e it i old)∧h.IsListIter it a i) where
 mem:=by simp
 obj:=fun i h st b hb=>by
  obtain ⟨⟨old,he⟩,o,ho,hc,hd⟩:=st
  rcases List.mem_cons.mp hb with rfl | hb
  ·exact ⟨_,he,fun v z=>by cases z⟩
  ·have eb:b = it:=by simpa using hb
   subst eb
   exact ⟨o,ho,fun v z=>by rw [hd] at z;cases z⟩
 keep:=fun i h h' st k=>by
  obtain ⟨⟨old,he⟩,o,ho,r⟩:=st
  exact ⟨⟨old,k e (by simp) _ he⟩,o,k it (by simp) o ho,r⟩
 item:=by
  intro X hP hw hK hc i pins s σ H E I hf st hg
  subst hP hw hK
  obtain ⟨xs,x,hq,hx⟩:=hg
  obtain ⟨its,rv,pl,hz⟩:=I.list hq
  obtain ⟨u,hu,ru⟩:=rv.get hx
  obtain ⟨⟨old,he⟩,hit⟩:=st
  obtain ⟨oi,ZL,hci,hdi⟩:=id hit
  have p:s.heap.IsList a its.toArray:=pl.isList
  obtain ⟨ot,hot,hct,nt,hdt⟩:=id p
  have hei:e≠it:=AW he ZL (by rw [hci];show Value.type "enumerate" ≠ Value.type "list_iterator";decide)
  have hea:e≠a:=AW he hot (by rw [hct];show Value.type "enumerate" ≠ Value.type "list";decide)
  have hai:a≠it:=AW hot ZL (by rw [hci,hct];decide)
  have hlt:i < its.toArray.size:=by
   have:=(List.getElem?_eq_some_iff.mp hu).1
   simpa using this
  refine wpAny_pyNext_enum_itemD (Draws.list (show X.A.in1.handled = none from I.ok.hd hc) it a hai its.toArray) he ⟨hit,p⟩ hlt hei (by simp [hei,hea]) fun x' h' tk' hP ho hs' hT hsz hk=>?_
  have ex:x' = u:=by
   have hP' : its.toArray[i]? = some x' := hP
   have:its[i]? = some x' := by simpa using hP'
   rw [hu] at this;exact (Option.some.inj this).symm
  subst ex
  refine ⟨_,rfl,wpAny_letOwnedTupleGo_enum ho fun h2 he2 hs2=>?_⟩
  have het:e≠s.heap.objs.size:=Nat.ne_of_lt (Heap.lt_size he)
  have new:cC X.prog X.w (upd H s.heap.objs.size (.tup [.int i,x])) h2 s.heap.objs.size (.tup [.int i,x]):=
   ⟨by show 2≤sizeLine;decide,[.int i tk',x'],.cons ⟨tk',rfl⟩ (.cons ru .nil),⟨_,(hs2.2 _ (Ne.symm het)).trans hT,rfl,_,rfl⟩,_,(hs2.2 _ (Ne.symm het)).trans hT,rfl⟩
  have kk:∀ b o,b ∉ [e,it]→s.heap.get? b = some o→h2.get? b = some o:=fun b o hb q=>by
   have h1:b≠e:=fun z=>hb (by simp [z])
   have h2' : b≠it:=fun z=>hb (by simp [z])
   exact (hs2.2 b h1).trans (hk b o h1 h2' q)
  have fresh:=I.hok.fresh (Nat.le_refl s.heap.objs.size)
  refine ⟨.ref s.heap.objs.size,_,I.zc (t' := tk' + 1) kk hf (Nat.le_refl _) new,rfl,⟨_,x,fresh,rfl,rfl,fun ys hy=>by rw [I.yK hy hq];exact hx⟩,⟨⟨_,he2⟩,?_⟩,fun b hb=>?_⟩
  ·obtain ⟨o3,g1,g2,g3⟩:=hs'.1
   exact ⟨o3,(hs2.2 it (Ne.symm hei)).trans g1,g2,g3⟩
  ·have hb' : b≠s.heap.objs.size:=by
    rcases List.mem_cons.mp hb with rfl | hb
    ·exact het
    ·rw [List.mem_singleton.mp hb];exact Nat.ne_of_lt (Heap.lt_size ZL)
   rw [aI hb'];exact (hf b hb).1
 done:=by
  intro X hP hw hK hc i pins s σ H E I hf st hg
  subst hP hw hK
  obtain ⟨xs,hq,hx⟩:=hg
  obtain ⟨its,rv,pl,hz⟩:=I.list hq
  obtain ⟨⟨old,he⟩,hit⟩:=st
  have p:s.heap.IsList a its.toArray:=pl.isList
  have hl:=rv.length
  unfold pyNext
  have hTy:s.TypeIs (.ref e) "enumerate" := ⟨_,he,rfl⟩
  refine wpAny_bind (wpAny_attempt (wpAny_callSpecial?_slot (name:=Str.ofString "__next__") hTy F.slot_enumerate_next (wpAny_call_entry F.slot_enumerate_next hTy F.entry_enumerate_next ?_ (F.args_enumerate_next_1 _))))
  show wpAny (model X.prog X.w) X.A.in1 (field (.ref e) 2 >>= _) _ _ s
  refine wpAny_bind (wpAny_field he rfl (x:=.ref it) rfl (wpAny_bind (wpAny_nextOf_list_end (I.ok.hd hc) hit p (by simp;omega) fun h' y g1 g2=>?_)))
  obtain ⟨o,ho,hcl⟩:=g2
  refine wpAny_bind (wpAny_isInstance (T:= "StopIteration") (b:=true) ⟨o,ho,hcl⟩ isSubtype_stop (wpAny_pure ?_))
  exact ⟨rfl,I.turns (t' := s.toks) (fun b u hb q=>g1 b u (fun z=>hb (by simp [z])) q) hf⟩
 self:=fun _ _ _ _ _ st h=>by
  obtain ⟨⟨old,he⟩,_⟩:=st
  exact wpAny_pyIter_enum he h
section
variable {prog:Program}{w:World}{A:Around}{E:Value→Shared→Prop}{s:Shared}
end
section
variable {X:Cx}
def ZM (K:PySem.W.Frag) (ta:TA):TI:=fun σ H R=>ta σ H fun vs H1=>∃ a,vs = [.ref a]∧(∃ xs,b9 K H1 a xs)∧R (EY K a) H1
theorem Dc:bootBuiltins "enumerate" = some (.type "enumerate"):=by decide +kernel
theorem zd {a:Expr}{ta:TA}{p pos:Pos}{elts:List Expr}{tk:Nat}{tpos:Pos}(hg:Gl X "enumerate") (hm:X.mg "enumerate" = none) (ha:PA X [a] ta) (hs:starEach [a] X.env = [(false,eval a X.env)]:=by rfl):PI X (.Tuple elts tk tpos) (.Call (.Name "enumerate" p) [a] [] pos) (ZM X.K ta):=by
 intro pins s σ H R I h
 refine Call_ (lP I hg hm Dc (PyProof.Rows.callWith_type1 (cJ (ha pos pins s σ H _ I h) fun us s1 ⟨vs,H1,I1,r1,q1⟩=>?_) hs rfl))
 obtain ⟨l,e,⟨xs,hq⟩,q⟩:=q1
 subst e
 obtain ⟨u,rfl,r⟩:=Vals.one r1
 cases (show u = Value.ref l from r)
 obtain ⟨its,rv,pt,hz⟩:=I1.list hq
 refine call_enumerate_list pt.isList fun h' he hi _ hk=>?_
 refine wpAny_pyIter_enum he ⟨s1.heap.objs.size + 1,[s1.heap.objs.size + 1,s1.heap.objs.size],_,_,H1,rfl,I1.kept (t' := s1.toks) hk,AX l _ _,⟨⟨_,he⟩,hi⟩,fun b hb=>?_,q⟩
 have hb' : s1.heap.objs.size≤b:=by
  rcases List.mem_cons.mp hb with rfl | hb
  ·exact Nat.le_succ _
  ·rw [List.mem_singleton.mp hb];exact Nat.le_refl _
 exact I1.CY hb' (I1.hok.fresh hb')
end
end L2
namespace L2
open PySem PySem.Spec PyProof.Rows
section
variable {X:Cx}
def ZN:V→Option Int→Option Int→Hp→VK→Prop:=fun x lo hi H Q=>∃ a,x = .str a∧a.length≤sizeLine∧Q (.str (Txt.slice a lo hi)) H
theorem part_of {v:Value}{o:Option Int}(p:IsPart v o):∃ q:Option (Int × Tok),v = partValue q∧q.map (·.1) = o:=by
 cases p with
 | none=>exact ⟨none,rfl,rfl⟩
 | int i t=>exact ⟨some (i,t),rfl,rfl⟩
theorem AY:MA X ZN:=by
 intro pins s σ H x v vl vu lo hi sl Q I rx hs pl pu h
 obtain ⟨a,rfl,hz,q⟩:=h
 obtain ⟨t,rfl⟩:=rx
 obtain ⟨l,rfl,rfl⟩:=part_of pl
 obtain ⟨u,rfl,rfl⟩:=part_of pu
 obtain ⟨ob,ho,hc,hd⟩:=hs
 exact ⟨"str",_,F.slot_str_getitem.lookup,typeIs_str _ _ _,wpAny_getItem_str_slice (l:=l) (u:=u) (st:=none) ⟨ob,ho,hc,hd⟩ rfl
  (post_val_or_str ⟨Nat.le_trans (Txt.slice_le a _ _) hz,fun t' k=>⟨.str (Txt.slice a (l.map (·.1)) (u.map (·.1))),H,I.tok _,⟨_,rfl⟩,q⟩⟩)⟩
theorem wc:∀ (l:List (Str × Tok)),Vals (l.map fun p=>V.str p.1) (strValues l)
 | []=>.nil
 | _ :: r=>.cons ⟨_,rfl⟩ (wc r)
def OA:V→List V→Hp→VK→Prop:=fun x vs H Q=>∃ a c,x = .str a∧vs = [.str ⟨#[c]⟩]∧a.length + 2≤sizeLine∧∀ l,H l = none→Q (.ref l) (upd H l (.lst ((Txt.split a ⟨#[c]⟩).map V.str)))
theorem Dd (a y:Str):(Builtin.Str.partsBetween a (Builtin.Str.occurrences a y 0 a.length (a.length + 1)) y.length).length≤a.length + 2:=by
 have h:=PySem.StrLaws.occ_length_le a y 0 a.length (a.length + 1)
 unfold Builtin.Str.partsBetween
 simp only [List.length_map,List.length_zip,List.length_cons,List.length_append,List.length_nil]
 omega
theorem EZ:EG X "str.split" OA:=by
 intro pins s σ H x vs v us Q I rx rv h
 obtain ⟨a,c,rfl,rfl,hz,q⟩:=h
 obtain ⟨t,rfl⟩:=rx
 obtain ⟨w1,rfl,u,rfl⟩:=rv.one
 have hx:a.length≤sizeLine:=by omega
 have hn:(Builtin.Str.partsBetween a (Builtin.Str.occurrences a ⟨#[c]⟩ 0 a.length (a.length + 1)) (⟨#[c]⟩:Str).length).length≤sizeLine:=Nat.le_trans (Dd a _) hz
 have fin:∀ (l:List (Str × Tok)) (k:Nat),l.map (·.1) = Txt.split a ⟨#[c]⟩→l.length≤sizeLine→EP X pins σ Q (.ref s.heap.objs.size) { s with toks:=k,heap:=s.heap.push { cls:=.type "list",data:=.seq (strValues l).toArray } }:=fun l k e hl=>by
  have ev:(Txt.split a ⟨#[c]⟩).map V.str = l.map fun p=>V.str p.1:=by rw [← e,List.map_map];rfl
  refine ⟨.ref s.heap.objs.size,_,I.laid (t' := k) (o:=.lst ((Txt.split a ⟨#[c]⟩).map V.str)) (fun b ob z=>Heap.get?_push_of_some _ z) (Nat.le_refl _) ?_,rfl,q _ (I.hok.fresh (Nat.le_refl _))⟩
  refine ⟨by rw [ev,List.length_map];exact hl,strValues l,0,by rw [ev];exact wc l,Heap.get?_push_size _ rfl⟩
 have hy:((⟨#[c]⟩:Str).length == 0) = false:=rfl
 cases hk:(decide (a.length < (⟨#[c]⟩:Str).length) || decide (Builtin.Str.strKind a < Builtin.Str.strKind ⟨#[c]⟩))
 ·cases hf:(Builtin.Str.occurrences a ⟨#[c]⟩ 0 a.length (a.length + 1)).isEmpty
  ·refine call_meets F.slot_str_split (typeIs_str _ _ _) F.entry_str_split (F.args_str_split_2 _ _) (meets_str_split_sep a ⟨#[c]⟩ t u hk hy hf hx hn) ?_
   show wants (EP X pins σ Q) X.xe _ { s with toks:=_,heap:=s.heap.push { cls:=.type "list",data:=.seq (strsFrom s.toks _).toArray } }
   rw [strsFrom_eq]
   refine fin (numbered s.toks _) _ ((numbered_texts _ _).trans ((if_neg (ne_true_of_eq_false hk)).trans (if_neg (ne_true_of_eq_false hf))).symm) ?_
   have:=congrArg List.length (numbered_texts s.toks (Builtin.Str.partsBetween a (Builtin.Str.occurrences a ⟨#[c]⟩ 0 a.length (a.length + 1)) (⟨#[c]⟩:Str).length))
   rw [List.length_map] at this
   rw [this]
   exact hn
  ·exact call_meets F.slot_str_split (typeIs_str _ _ _) F.entry_str_split (F.args_str_split_2 _ _) (meets_str_split_not_found a ⟨#[c]⟩ t u hk hy hf)
    (fin [(a,t)] s.toks ((if_neg (ne_true_of_eq_false hk)).trans (if_pos hf)).symm (by show 1≤sizeLine;decide))
 ·exact call_meets F.slot_str_split (typeIs_str _ _ _) F.entry_str_split (F.args_str_split_2 _ _) (meets_str_split_cannot_occur a ⟨#[c]⟩ t u hk)
   (fin [(a,t)] s.toks (if_pos hk).symm (by show 1≤sizeLine;decide))
theorem uf {ys:List Str}:∀ {us:List Value},Vals (ys.map V.str) us→StrsAre us ys:=by
 induction ys with
 | nil=>intro us r;rw [List.map_nil] at r;cases r;exact .nil
 | cons n ns ih=>
  intro us r
  rw [List.map_cons] at r
  cases r with
  | cons r1 r2=>
   obtain ⟨t,e⟩:=r1
   subst e
   exact .cons n t (ih r2)
theorem ID {K:PySem.W.Frag}(hK:X.K = K):EG X "str.join" (fun x vs H Q=>∃ (a:Str) (p:Addr) (ys:List Str),x = .str a∧vs = [.ref p]∧b9 K H p (ys.map V.str)∧(ys.map (·.length)).sum + ys.length * a.length≤16777216∧Q (.str (Txt.join a ys)) H):=by
 subst hK
 intro pins s σ H x vs v us Q I rx rv h
 obtain ⟨a,p,ys,rfl,rfl,hq,hz,q⟩:=h
 obtain ⟨t,rfl⟩:=rx
 obtain ⟨w1,rfl,r1⟩:=rv.one
 cases r1
 obtain ⟨its,r2,pl,_⟩:=I.list hq
 exact join_list (plainIs pl) (uf r2) hz fun t' k=>⟨.str (Txt.join a ys),H,I.tok _,⟨_,rfl⟩,q⟩
end
end L2
namespace L2
open PySem PySem.Spec PyProof.Rows
section
variable {X:Cx}{tg:Expr}
end
section
variable {X:Cx}{tg:Expr}
end
section
variable {prog:Program}{w:World}{A:Around}{E:Value→Shared→Prop}{s:Shared}
variable {I:Addr}{fp wr:List Addr}{G:Array GenState→Array GenState→Prop}{n:Nat}{P:Nat→Value→Prop}{St:Nat→Shared→Prop}
end
section
variable {X:Cx}
theorem E1:bootBuiltins "reversed" = some (.type "reversed"):=by decide +kernel
theorem ug:bootBuiltins "list" = some (.type "list"):=by decide +kernel
end
end L2
namespace L2
open PySem PySem.Spec PyProof.Rows
theorem b9.upd {K:PySem.W.Frag}{H:Hp}{a b:Addr}{xs:List V}{o:HO}(h:b9 K H a xs) (n:a≠b):b9 K (upd H b o) a xs:=by
 rcases h with (h | ⟨u,h⟩) | h
 ·exact .inl (.inl (by rw [aI n];exact h))
 ·exact .inl (.inr ⟨u,by rw [aI n];exact h⟩)
 ·exact .inr h
theorem eV.upd {K:PySem.W.Frag}{H:Hp}{a b:Addr}{xs:List V}{o:HO}(h:eV K H a xs) (n:a≠b):eV K (upd H b o) a xs:=by
 rcases h with (h | ⟨u,h⟩) | h
 ·exact .inl (.inl (by rw [aI n];exact h))
 ·exact .inl (.inr ⟨u,by rw [aI n];exact h⟩)
 ·exact .inr h
section
variable {X:Cx}{K:PySem.W.Frag}
theorem bU (e:X.K = K):EF X (ng K):=by subst e;exact Og
theorem aT (e:X.K = K):EF X (yQ K):=by subst e;exact iY
theorem ze (e:X.K = K):MA X (Iu K):=by subst e;exact xw
theorem Cn (e:X.K = K) (hu:X.A.units + 64 < cLine):oX X (compareOp .Eq) (C7 K fun b=>b):=by subst e;exact Ou hu
theorem xG (e:X.K = K) (hu:X.A.units + 64 < cLine):oX X (compareOp .NotEq) (C7 K fun b=>!b):=by subst e;exact Ov hu
theorem eT (e:X.K = K):gU X (.builtin "len") (fun xs H Q=>∃ p ys,xs = [.ref p]∧(b9 K H p ys∨eV K H p ys)∧Q (.int ys.length) H):=by subst e;exact jF
theorem nv (e:X.K = K):gU X (.type "tuple") (fun xs H Q=>∃ p ys,xs = [.ref p]∧((b9 K H p ys∧∀ l,H l = none→Q (.ref l) (upd H l (.tup ys)))∨(eV K H p ys∧Q (.ref p) H))):=by subst e;exact oZ
end
theorem we {op:BoolOp}{vs:List Expr}{p:Pos}{es:List Expr}{env:Env}:starEach (.BoolOp op vs p :: es) env = (false,eval (.BoolOp op vs p) env) :: starEach es env:=rfl
theorem ji {a:Expr}{op:Operator}{b:Expr}{p:Pos}{es:List Expr}{env:Env}:starEach (.BinOp a op b p :: es) env = (false,eval (.BinOp a op b p) env) :: starEach es env:=rfl
theorem uh {op:UnaryOp}{a:Expr}{p:Pos}{es:List Expr}{env:Env}:starEach (.UnaryOp op a p :: es) env = (false,eval (.UnaryOp op a p) env) :: starEach es env:=rfl
theorem rQ {a:Expr}{g:List Comprehension}{sc:Scope}{p:Pos}{es:List Expr}{env:Env}:starEach (.ListComp a g sc p :: es) env = (false,eval (.ListComp a g sc p) env) :: starEach es env:=rfl
theorem gP {a:Expr}{ops:List CmpOp}{cs:List Expr}{p:Pos}{es:List Expr}{env:Env}:starEach (.Compare a ops cs p :: es) env = (false,eval (.Compare a ops cs p) env) :: starEach es env:=rfl
theorem c9 {f:Expr}{as:List Expr}{kw:List Keyword}{p:Pos}{es:List Expr}{env:Env}:starEach (.Call f as kw p :: es) env = (false,eval (.Call f as kw p) env) :: starEach es env:=rfl
theorem aK {c:Const}{k:Nat}{p:Pos}{es:List Expr}{env:Env}:starEach (.Constant c k p :: es) env = (false,eval (.Constant c k p) env) :: starEach es env:=rfl
theorem aL {a b:Expr}{p:Pos}{es:List Expr}{env:Env}:starEach (.Subscript a b p :: es) env = (false,eval (.Subscript a b p) env) :: starEach es env:=rfl
theorem aD {n:Str}{p:Pos}{es:List Expr}{env:Env}:starEach (.Name n p :: es) env = (false,eval (.Name n p) env) :: starEach es env:=rfl
theorem IE {as:List Expr}{p:Pos}{es:List Expr}{env:Env}:starEach (.List as p :: es) env = (false,eval (.List as p) env) :: starEach es env:=rfl
theorem jj {as:List Expr}{k:Nat}{p:Pos}{es:List Expr}{env:Env}:starEach (.Tuple as k p :: es) env = (false,eval (.Tuple as k p) env) :: starEach es env:=rfl
section
variable {X:Cx}
def MH (ta:TA):TE:=fun σ H Q=>ta σ H fun vs H1=>∃ j:Int,vs = [.int j]∧0≤j∧j.toNat≤2 ^ 24∧∀ l,H1 l = none→Q (.ref l) (upd H1 l (.lst ((List.range j.toNat).map fun (i:Nat)=>V.int i)))
theorem De {a:Expr}{ta:TA}{p1 p2 q1 q2:Pos}(hc:X.calm = true) (Yc:Gl X "list") (hm1:X.mg "list" = none) (ZO:Gl X "range") (hm2:X.mg "range" = none) (ha:PA X [a] ta)
  (hs1:starEach [.Call (.Name "range" p2) [a] [] q2] X.env = [(false,eval (.Call (.Name "range" p2) [a] [] q2) X.env)]:=by rfl) (hs2:starEach [a] X.env = [(false,eval a X.env)]:=by rfl):
  PE X (.Call (.Name "list" p1) [.Call (.Name "range" p2) [a] [] q2] [] q1) (MH ta):=by
 intro pins s σ H Q I h
 refine wpAny_Call_Name_kw (lP I Yc hm1 ug (PyProof.Rows.callWith_type1 ?_ hs1 rfl))
 rw [hs1]
 show wpAny _ _ (spliced [(false,eval (.Call (.Name "range" p2) [a] [] q2) X.env)]) _ _ s
 refine Calls.spliced_cons (wpAny_Call_Name_kw (lP I ZO hm2 boot_range (PyProof.Rows.callWith_type1 (cJ (ha q2 pins s σ H _ I h) fun us s1 ⟨vs,H1,I1,r1,q1⟩=>?_) hs2 rfl)))
 obtain ⟨j,e,j0,j1,q⟩:=q1
 subst e
 obtain ⟨u,rfl,r⟩:=Vals.one r1
 obtain ⟨t,rfl⟩:=r
 refine call_range_1 (Calls.spliced_nil ?_)
 have hsz:∀ o:Obj,(s1.heap.push o).objs.size = s1.heap.objs.size + 1:=fun o=>Heap.size_push ..
 refine call_list_range (n:=j.toNat) (I.ok.hd hc) (IsRange.new ..) (small_one (by omega) (by omega) (by omega) (by omega)) (by rw [rangeSize_one];split <;> omega) j1 fun h' tk acc c' hk hS hacc=>?_
 dsimp only at hk hS
 rw [hsz] at hS ⊢
 have hold:∀ b o,s1.heap.get? b = some o→h'.get? b = some o:=fun b o e=>hk b o (Heap.get?_push_of_some _ e)
 have hv:Vals ((List.range j.toNat).map fun (i:Nat)=>V.int i) acc.toList:=by
  obtain ⟨z1,z2⟩:=hacc
  have key:∀ (n:Nat) (l:List Value),l.length = n→(∀ i v,l[i]? = some v→∃ t,v = Value.int (i:Nat) t)→Vals ((List.range n).map fun (i:Nat)=>V.int i) l:=by
   intro n
   induction n with
   | zero=>intro l hl _;cases l with
    | nil=>exact .nil
    | cons _ _=>cases hl
   | succ n ih=>
    intro l hl hi
    have e1:l = l.dropLast ++ [l[n]'(by omega)]:=by
     have hne:l≠[]:=by intro z;subst z;cases hl
     have:=(List.dropLast_concat_getLast hne).symm
     rw [List.getLast_eq_getElem] at this
     simpa [hl] using this
    rw [e1,List.range_succ,List.map_append]
    refine Vals.append (ih l.dropLast (by simp [hl]) fun i v hv=>?_) ?_
    ·refine hi i v ?_
     have hlt:=(List.getElem?_eq_some_iff.mp hv).1
     rw [List.getElem?_dropLast] at hv
     split at hv
     ·exact hv
     ·cases hv
    ·obtain ⟨t,e⟩:=hi n (l[n]'(by omega)) (List.getElem?_eq_getElem (by omega))
     exact .cons ⟨t,e⟩ .nil
  refine key j.toNat acc.toList (by simp [z1]) fun i v hv=>?_
  obtain ⟨t,e⟩:=z2 i v (by simpa using hv)
  exact ⟨t,by rw [e];simp⟩
 have hn:=I1.hok.fresh (Nat.le_succ s1.heap.objs.size)
 have z24:(2:Nat) ^ 24≤sizeLine:=by decide
 exact ⟨.ref (s1.heap.objs.size + 1),_,I1.laid (h' := h') (t' := tk) (o:=.lst ((List.range j.toNat).map fun (i:Nat)=>V.int i)) hold (Nat.le_succ _) ⟨by simp;omega,acc.toList,c',hv,hS⟩,rfl,q _ hn⟩
end
def tyN:PyData→String
 | .none=> "NoneType"
 | .bool _=> "bool"
 | .int _=> "int"
 | .str _=> "str"
 | .list _=> "list"
 | .tuple _=> "tuple"
 | .dict _=> "dict"
def RJ (K:PySem.W.Frag):List V→Hp→VK→Prop:=fun xs H Q=>∃ G x d n b,xs = [x,.ty n]∧aN G H∧Dat K G x d∧PySem.W.kitOne K (.type (tyN d)) (.type n) = some b∧Q (.bl b) H
theorem um {X:Cx}{K:PySem.W.Frag}(eK:X.K = K):gU X (.builtin "isinstance") (RJ K):=by
 subst eK
 intro pins s σ H xs us Q I r h
 obtain ⟨G,x,d,n,b,rfl,sg,hd,e,q⟩:=h
 obtain ⟨u,w',rfl,rx,ry⟩:=vals2 r
 cases (show w' = Value.type n from ry)
 have fin:∀ tk,EP X pins σ Q (.bool b) { s with toks:=tk }:=fun tk=>⟨.bl b,H,I.tok _,rfl,q⟩
 cases d with
 | none=>rw [hd.gk] at rx;exact oA I rx .gk e fin
 | bool y=>rw [hd.bl] at rx;exact oA I rx (.bl y) e fin
 | int i=>rw [hd.int] at rx;exact oA I rx (.int i) e fin
 | str y=>rw [hd.str] at rx;exact oA I rx (.str y) e fin
 | list ds=>
  obtain ⟨p,ys,rfl,hp,_⟩:=hd.lst
  cases (show u = Value.ref p from rx)
  obtain ⟨its,_,⟨o,n',e1,c,_⟩,_⟩:=I.list (b9.of (sg _ _ hp))
  exact PySem.W.kia_one PySem.W.kitx_list I.tQ ⟨o,e1,c⟩ e (fun z=>nomatch z) fin
 | tuple ds=>
  obtain ⟨p,ys,rfl,hp,_⟩:=hd.tup
  cases (show u = Value.ref p from rx)
  obtain ⟨its,_,⟨o,e1,c,_⟩,_⟩:=I.tuple (sg.tup hp)
  exact PySem.W.kia_one PySem.W.kitx_tuple I.tQ ⟨o,e1,c⟩ e (fun z=>nomatch z) fin
 | dict _=>unfold Dat at hd;exact hd.elim
theorem qT {K:PySem.W.Frag}{σ:St}{G:Hp}{ta:TE}{d:PyData}{n:String}{b:Bool}(ha:Ev K ta σ G d) (e:PySem.W.kitOne K (.type (tyN d)) (.type n) = some b):Ev K (C3 (RJ K) (bV ta (bV (tC (.ty n)) kr))) σ G (.bool b):=
 fun G1 H s1 s2 Q k=>ha G1 H s1 s2 _ fun x G2 H2 g2 hx=>⟨G2,x,d,n,b,rfl,g2.gh,hx,e,k _ G2 H2 g2 (bQ b)⟩
section
variable {X:Cx}
end
end L2
namespace L2
open PySem PySem.Spec PyProof.Rows
def E2:Const→Option PyData
 | .int i=>some (.int i)
 | .str x=>some (.str x)
 | .bool b=>some (.bool b)
 | .none=>some .none
 | _=>none
def lits (f:Expr→Option PyData):Nat→List Expr→Option (List PyData)
 | _,[]=>some []
 | 0,_ :: _=>none
 | k + 1,e :: es=>match f e with
  | some d=>match lits f k es with
   | some ds=>some (d :: ds)
   | none=>none
  | none=>none
def lV:Nat→Expr→Option PyData
 | 0,_=>none
 | n + 1,e=>match e with
  | .Constant c _ _=>E2 c
  | .List es _=>match lits (lV n) 60 es with
   | some ds=>some (.list ds)
   | none=>none
  | .Tuple es _ _=>match lits (lV n) 60 es with
   | some ds=>some (.tuple ds)
   | none=>none
  | _=>none
theorem uo {f:Expr→Option PyData}:∀ {k:Nat}{es:List Expr}{ds:List PyData},lits f k es = some ds→ds.length≤k
 | _,[],_,h=>by unfold lits at h;cases h;exact Nat.zero_le _
 | 0,_ :: _,_,h=>by unfold lits at h;cases h
 | k + 1,e :: es,ds,h=>by
  unfold lits at h
  cases h1:f e with
  | none=>rw [h1] at h;cases h
  | some d=>
   rw [h1] at h
   cases h2:lits f k es with
   | none=>rw [h2] at h;cases h
   | some ds' =>
    rw [h2] at h;cases h
    have:=uo h2
    show ds'.length + 1≤k + 1
    omega
def IF (K:PySem.W.Frag) (d:PyData):TE:=fun _ H Q=>∃ G,aN G H∧∀ v G' H',bO G H G' H' → Dat K G' v d→Q v H'
def RK (K:PySem.W.Frag) (ds:List PyData):TA:=fun _ H Q=>∃ G,aN G H∧∀ vs G' H',bO G H G' H' → bJ K G' vs ds→Q vs H'
section
variable {X:Cx}
theorem PE.imp {e:Expr}{t t' : TE} (h:PE X e t) (i:∀ σ H Q,t' σ H Q→t σ H Q):PE X e t' := fun pins s σ H Q I q=>h pins s σ H Q I (i σ H Q q)
theorem PA.imp {es:List Expr}{t t' : TA} (h:PA X es t) (i:∀ σ H Q,t' σ H Q→t σ H Q):PA X es t' := fun pos pins s σ H Q I q=>h pos pins s σ H Q I (i σ H Q q)
theorem Df {n:Nat}{e:Expr}{d:PyData}(h:lV n e = some d) (es:List Expr) (env:Env):starEach (e :: es) env = (false,eval e env) :: starEach es env:=by
 cases n with
 | zero=>cases h
 | succ n=>
  cases e with
  | Constant c k p=>exact aK
  | List as p=>exact IE
  | Tuple as k p=>exact jj
  | _=>cases h
theorem uq {n:Nat}{e:Expr}{d:PyData}(h:lV n e = some d) {t:Option Expr}{l:Nat}{env:Env}:swapsWith e t l env = pure false:=by
 cases n with
 | zero=>cases h
 | succ n=>
  cases e with
  | Constant c k p=>rfl
  | List as p=>rfl
  | Tuple as k p=>rfl
  | _=>cases h
theorem xH {n:Nat}(ih:∀ e d,lV n e = some d→PE X e (IF X.K d)):∀ (k:Nat) (es:List Expr) (ds:List PyData),lits (lV n) k es = some ds→PA X es (RK X.K ds)
 | _,[],ds,h=>by
  unfold lits at h;cases h
  exact PA.imp aq fun σ H Q ⟨G,s,k⟩=>k [] G H (bO.refl s) bE
 | 0,_ :: _,_,h=>by unfold lits at h;cases h
 | k + 1,e :: es,ds,h=>by
  unfold lits at h
  cases h1:lV n e with
  | none=>rw [h1] at h;cases h
  | some d=>
   rw [h1] at h
   cases h2:lits (lV n) k es with
   | none=>rw [h2] at h;cases h
   | some ds' =>
    rw [h2] at h
    cases h
    refine PA.imp (aa (ih e d h1) (xH ih k es ds' h2) (Df h1 es X.env)) fun σ H Q ⟨G,s,k⟩=>?_
    exact ⟨G,s,fun v G1 H1 g1 hv=>⟨G1,g1.gh,fun vs G2 H2 g2 hvs=>k (v :: vs) G2 H2 (g1.trans g2) (bh (hv.same g2.gg) hvs)⟩⟩
theorem xJ:∀ (n:Nat) (e:Expr) (d:PyData),lV n e = some d→PE X e (IF X.K d)
 | 0,_,_,h=>by cases h
 | n + 1,e,d,h=>by
  have z:(60:Nat)≤sizeLine:=by decide
  cases e with
  | Constant c k p=>
   have h' : E2 c = some d:=h
   cases c with
   | int i=>cases h';exact PE.imp au fun σ H Q ⟨G,s,k⟩=>k _ G H (bO.refl s) (aX i)
   | str x=>cases h';exact PE.imp bg fun σ H Q ⟨G,s,k⟩=>k _ G H (bO.refl s) (bM x)
   | bool b=>cases h';exact PE.imp jg fun σ H Q ⟨G,s,k⟩=>k _ G H (bO.refl s) (bQ b)
   | none=>cases h';exact PE.imp AH fun σ H Q ⟨G,s,k⟩=>k _ G H (bO.refl s) tE
   | _=>cases h'
  | List as p=>
   have h' : (match lits (lV n) 60 as with | some ds=>some (PyData.list ds) | none=>none) = some d:=h
   cases h1:lits (lV n) 60 as with
   | none=>rw [h1] at h';cases h'
   | some ds=>
    rw [h1] at h'
    cases h'
    have hl:=uo h1
    refine PE.imp (cL (xH (xJ n) 60 as ds h1)) fun σ H Q ⟨G,s,k⟩=>⟨G,s,fun vs G1 H1 g1 hv=>⟨by rw [hv.length];omega,fun p hp=>?_⟩⟩
    have g:=b8 (o:=.lst vs) g1.gh hp
    exact k _ _ _ (g1.trans g) (cK aE (hv.same g.gg))
  | Tuple as kk p=>
   have h' : (match lits (lV n) 60 as with | some ds=>some (PyData.tuple ds) | none=>none) = some d:=h
   cases h1:lits (lV n) 60 as with
   | none=>rw [h1] at h';cases h'
   | some ds=>
    rw [h1] at h'
    cases h'
    have hl:=uo h1
    refine PE.imp (dW (xH (xJ n) 60 as ds h1)) fun σ H Q ⟨G,s,k⟩=>⟨G,s,fun vs G1 H1 g1 hv=>⟨by rw [hv.length];omega,fun p hp=>?_⟩⟩
    have g:=b8 (o:=.tup vs) g1.gh hp
    exact k _ _ _ (g1.trans g) (d8 (eV.of aE) (hv.same g.gg))
  | _=>cases h
theorem ur {e:Expr}{d:PyData}(h:lV 6 e = some d):PE X e (IF X.K d):=xJ 6 e d h
theorem uu {K:PySem.W.Frag}{σ:St}{G:Hp}{d:PyData}:Ev K (IF K d) σ G d:=fun G1 H s1 s2 Q k=>⟨G1,s2,k⟩
end
end L2
namespace L2
open PySem PySem.Spec PyProof.Rows
def jz {α:Type}(xs:List α) (lo hi st:Option Int):List α:=
 (sliceRange (sliceBounds lo hi st xs.length).1 (sliceBounds lo hi st xs.length).2.1 (sliceBounds lo hi st xs.length).2.2).filterMap (xs[·]?)
theorem qU {xs:List V}{us:List Value}(r:Vals xs us):∀ is:List Nat,Vals (is.filterMap (xs[·]?)) (is.filterMap (us[·]?))
 | []=>.nil
 | i :: is=>by
  rw [List.filterMap_cons,List.filterMap_cons]
  cases h:xs[i]? with
  | none=>rw [r.none_of h];exact qU r is
  | some x=>
   obtain ⟨u,hu,ru⟩:=r.get h
   rw [hu];exact .cons ru (qU r is)
section
variable {X:Cx}{e st:Expr}{lo hi:Option Expr}{te:TE}{tl th ts:TO}{p2 pos:Pos}
def RL (K:PySem.W.Frag) (te:TE) (tl th ts:TO):TE:=fun σ H Q=>te σ H fun x H1=>tl σ H1 fun l H2=>th σ H2 fun u H3=>ts σ H3 fun c H4=>∃ a xs,x = .ref a∧b9 K H4 a xs∧c≠some 0∧(jz xs l u c).length≤sizeLine∧∀ p,H4 p = none→Q (.ref p) (upd H4 p (.lst (jz xs l u c)))
theorem wg (he:PE X e te) (hl:PO X lo tl) (hu:PO X hi th) (hst:PO X (some st) ts):PE X (.Subscript e (.Slice lo hi (some st) p2) pos) (RL X.K te tl th ts):=by
 intro pins s σ H Q I h
 refine Subscript_ (cJ (he pins s σ H _ I h) fun v s1 ⟨x,H1,I1,r1,q1⟩=>?_)
 refine wpAny_Slice (cJ (hl pins s1 σ H1 _ I1 q1) fun vl s2 ⟨l,H2,I2,pl,q2⟩=>cJ (hu pins s2 σ H2 _ I2 q2) fun vu s3 ⟨u,H3,I3,pu,q3⟩=>cJ (hst pins s3 σ H3 _ I3 q3) fun vs s4 ⟨c,H4,I4,ps,q4⟩=>?_)
 obtain ⟨a,xs,rfl,hx,hc,hz',q⟩:=q4
 cases r1
 have I5:Inv X pins σ H4 { s4 with heap:=s4.heap.push { cls:=.type "slice",data:=.fields #[vl,vu,vs] } }:=I4.kept (t' := s4.toks) fun b ob q=>Heap.get?_push_of_some _ q
 obtain ⟨its,r,ht,hz⟩:=I5.list hx
 have hlen:=r.length
 refine tail_any (ops:=[.ref a,.ref s4.heap.objs.size]) (T:= "list") ht.isList.typeIs slot_list_getitem.lookup ?_ (by with_unfolding_all rfl)
 refine wpAny_getItem_list_slice ht.isList (Heap.IsSliceOf.new ..) pl pu ps hc ?_ (by rw [List.size_toArray] <;> omega)
 have e1:slicePick its.toArray l u c = (jz its l u c).toArray:=by
  unfold slicePick jz
  simp only [List.size_toArray,List.getElem?_toArray]
 rw [e1]
 have rv:Vals (jz xs l u c) (jz its l u c):=by
  unfold jz;rw [hlen];exact qU r _
 refine ⟨.ref _,_,I5.laid (t' := s4.toks) (o:=.lst (jz xs l u c)) (fun b ob q=>Heap.get?_push_of_some _ q) (Nat.le_refl _) ⟨hz',_,0,rv,Heap.get?_push_size _ rfl⟩,rfl,q _ ?_⟩
 exact I5.hok.fresh (Nat.le_refl _)
end
end L2
namespace Frac
theorem E3 (a b:Int) (hb:0 < b):Int.gcd b (a % b) = Int.gcd a b:=by
 rw [Int.gcd_comm a b]
 have h:a % b = a - b * (a / b):=by
  have:=Int.emod_add_mul_ediv a b
  omega
 rw [h,show a - b * (a / b) = a + b * (-(a / b)) by rw [Int.mul_neg];omega]
 exact Int.gcd_add_mul_left_right b a (-(a / b))
theorem gcd_zero (a:Int) (ha:0≤a):(Int.gcd a 0:Int) = a:=by
 rw [Int.gcd_zero_right];omega
def norm (a b:Int):Int × Int:=if b < 0 then ((-a) / (Int.gcd a b:Int),(-b) / (Int.gcd a b:Int)) else (a / (Int.gcd a b:Int),b / (Int.gcd a b:Int))
theorem OB {a b:Int}(hb:b≠0):(0:Int) < (Int.gcd a b:Int):=by
 have:=Int.gcd_pos_of_ne_zero_right a hb
 omega
theorem RM (a b:Int):(Int.gcd a b:Int) ∣ a:=Int.gcd_dvd_left a b
theorem MI (a b:Int):(Int.gcd a b:Int) ∣ b:=Int.gcd_dvd_right a b
theorem wj (a b:Int) (hb:b < 0):norm a b = norm (-a) (-b):=by
 unfold norm
 rw [if_pos hb,if_neg (by omega),Int.gcd_neg,Int.neg_gcd]
theorem zf (a b:Int) (hb:0 < b):norm a b = (a / (Int.gcd a b:Int),b / (Int.gcd a b:Int)):=by
 unfold norm;rw [if_neg (by omega)]
theorem xK (a b:Int) (hb:b≠0):1≤(norm a b).2∧(norm a b).1 * b = a * (norm a b).2∧Int.gcd (norm a b).1 (norm a b).2 = 1:=by
 have main:∀ a b:Int,0 < b→1≤(norm a b).2∧(norm a b).1 * b = a * (norm a b).2∧Int.gcd (norm a b).1 (norm a b).2 = 1:=fun a b hb=>by
  have hg:=OB (a:=a) (show b≠0 by omega)
  rw [zf a b hb]
  obtain ⟨x,hx⟩:=RM a b
  obtain ⟨y,hy⟩:=MI a b
  have e1:a / (Int.gcd a b:Int) = x:=by
   conv=>lhs;lhs;rw [hx]
   exact Int.mul_ediv_cancel_left _ (by omega)
  have e2:b / (Int.gcd a b:Int) = y:=by
   conv=>lhs;lhs;rw [hy]
   exact Int.mul_ediv_cancel_left _ (by omega)
  have hy0:0 < y:=by
   rw [hy] at hb
   exact Int.pos_of_mul_pos_right hb (by omega) |> fun h=>h
  refine ⟨?_,?_,?_⟩
  ·show 1≤b / _
   rw [e2];omega
  ·show a / _ * b = a * (b / _)
   rw [e1,e2]
   conv=>lhs;rw [hy]
   conv=>rhs;rw [hx]
   rw [← Int.mul_assoc,Int.mul_comm x,Int.mul_assoc]
  ·show Int.gcd (a / _) (b / _) = 1
   exact Int.gcd_ediv_gcd_ediv_gcd (by omega)
 by_cases h:0 < b
 ·exact main a b h
 ·have h' : b < 0:=by omega
  obtain ⟨h1,h2,h3⟩:=main (-a) (-b) (by omega)
  rw [wj a b h']
  refine ⟨h1,?_,h3⟩
  rw [Int.mul_neg,Int.neg_mul] at h2
  omega
theorem qV (a b:Int) (hb:b≠0):(norm a b).1.natAbs≤a.natAbs∧(norm a b).2.natAbs≤b.natAbs:=by
 have hg:=OB (a:=a) hb
 have key:∀ x:Int,(x / (Int.gcd a b:Int)).natAbs≤x.natAbs:=fun x=>by
  have h:=Int.natAbs_ediv_le_natAbs x (Int.gcd a b:Int)
  exact h
 unfold norm
 split
 ·exact ⟨by have:=key (-a);rw [Int.natAbs_neg] at this;exact this,by have:=key (-b);rw [Int.natAbs_neg] at this;exact this⟩
 ·exact ⟨key a,key b⟩
end Frac
namespace Frac
def cmp (a b:Int × Int):Int:=if a.1 * b.2 < b.1 * a.2 then -1 else if a.1 * b.2 > b.1 * a.2 then 1 else 0
structure QG (a:Int × Int):Prop where
 pos:1≤a.2
 one:Int.gcd a.1 a.2 = 1
theorem zg (a b:Int) (hb:b≠0):QG (norm a b):=⟨(xK a b hb).1,(xK a b hb).2.2⟩
end Frac
namespace Dig
open PySem PySem.NumText
def dig (m:Nat):List Nat:=(Nat.toDigits 10 m).map Char.toNat
def pk:Nat→Nat→List Nat
 | 0,_=>[]
 | k + 1,r=>pk k (r / 10) ++ [48 + r % 10]
structure Fig (cs:List Nat):Prop where
 dg:AllDigits cs
 ne:cs≠[]
 hd:∀ r,cs = 48 :: r→r = []
end Dig
namespace Dig
open PySem PySem.NumText PySem.Builtin.Str
theorem fX (x:Str):x.length = x.cps.toList.length:=by simp [Str.length]
theorem kC (x:Str) {a b:Nat}(hab:a≤b) (hb:b≤x.length):(Txt.slice x (some (a:Int)) (some (b:Int))).cps.toList = (x.cps.toList.drop a).take (b - a):=by
 unfold Txt.slice
 split
 ·rename_i h
  rw [PySem.StrLaws.strSliceIndices_plain hab hb] at h
  have h' : b - a = x.length:=by simpa using h
  have ha:a = 0:=by omega
  subst ha
  rw [fX] at h'
  rw [List.drop_zero,List.take_of_length_le (by omega)]
 ·show (List.toArray _).toList = _
  rw [PySem.StrLaws.sliced_plain x hab hb]
theorem uv (x:Str) (b:Int):Txt.slice x none (some b) = Txt.slice x (some ((0:Nat):Int)) (some b):=by
 have e:strSliceIndices none (some b) 1 x.length = strSliceIndices (some ((0:Nat):Int)) (some b) 1 x.length:=by
  unfold strSliceIndices
  have h1:max (0:Int) (min ((0:Nat):Int) (x.length:Int)) = 0:=by omega
  have h2:¬ (((0:Nat):Int) < 0):=by omega
  simp only [h1,h2,show ((1:Int) > 0) = True from by simp,if_true,if_false]
 unfold Txt.slice
 rw [e]
theorem E4 (x:Str) (a:Int):Txt.slice x (some a) none = Txt.slice x (some a) (some ((x.length:Nat):Int)):=by
 have e:strSliceIndices (some a) none 1 x.length = strSliceIndices (some a) (some ((x.length:Nat):Int)) 1 x.length:=by
  unfold strSliceIndices
  have h1:¬ ((x.length:Nat):Int) < 0:=by omega
  have h2:max (0:Int) (min ((x.length:Nat):Int) ((x.length:Nat):Int)) = ((x.length:Nat):Int):=by omega
  simp only [h1,h2,show ((1:Int) > 0) = True from by simp,if_true,if_false]
 unfold Txt.slice
 rw [e]
theorem AZ:∀ ys:List Str,(Txt.join ⟨#[]⟩ ys).cps.toList = (ys.map fun y=>y.cps.toList).flatten:=by
 intro ys
 unfold Txt.join
 rw [PySem.StrLaws.glued_eq_join]
 induction ys with
 | nil=>rfl
 | cons y r ih=>
  cases r with
  | nil=>simp [Str.join]
  | cons z q=>
   have e:Str.join ⟨#[]⟩ (y :: z :: q) = y ++ ⟨#[]⟩ ++ Str.join ⟨#[]⟩ (z :: q):=rfl
   rw [e,PySem.Str.cps_append,PySem.Str.cps_append]
   simp only [Array.toList_append,ih,List.map_cons,List.flatten_cons]
   simp
end Dig
namespace Dig
open PySem PySem.NumText PySem.Builtin.Str
def J:List (List Nat)→List Nat
 | []=>[]
 | [a]=>a
 | a :: b :: r=>a ++ 47 :: J (b :: r)
def tp (x:Int):List Nat:=if x < 0 then 45 :: dig x.natAbs else dig x.natAbs
def nt (a:Int × Int):List Nat:=tp a.1 ++ (if a.2 = 1 then [] else 47 :: dig a.2.natAbs)
end Dig
namespace Frac
theorem kE (a b:Int × Int):(cmp a b = -1∧a.1 * b.2 < b.1 * a.2)∨(cmp a b = 0∧a.1 * b.2 = b.1 * a.2)∨(cmp a b = 1∧a.1 * b.2 > b.1 * a.2):=by
 unfold cmp
 split
 ·exact .inl ⟨rfl,by assumption⟩
 ·split
  ·exact .inr (.inr ⟨rfl,by assumption⟩)
  ·exact .inr (.inl ⟨rfl,by omega⟩)
theorem E5 {a b c:Int × Int}(ha:1≤a.2) (hb:1≤b.2) (hc:1≤c.2) (h1:cmp a b < 1) (h2:cmp b c < 1):cmp a c = if cmp b c < cmp a b then cmp b c else cmp a b:=by
 have l1:a.1 * b.2≤b.1 * a.2:=by rcases kE a b with ⟨e,h⟩ | ⟨e,h⟩ | ⟨e,h⟩ <;> omega
 have l2:b.1 * c.2≤c.1 * b.2:=by rcases kE b c with ⟨e,h⟩ | ⟨e,h⟩ | ⟨e,h⟩ <;> omega
 have m1:=Int.mul_le_mul_of_nonneg_right l1 (show 0≤c.2 by omega)
 have m2:=Int.mul_le_mul_of_nonneg_right l2 (show 0≤a.2 by omega)
 have e1:a.1 * b.2 * c.2 = b.2 * (a.1 * c.2):=by ac_rfl
 have e2:b.1 * a.2 * c.2 = b.1 * c.2 * a.2:=by ac_rfl
 have e3:c.1 * b.2 * a.2 = b.2 * (c.1 * a.2):=by ac_rfl
 rw [e1,e2] at m1
 rw [e3] at m2
 have RN:0 < b.2:=by omega
 have lt1:a.1 * b.2 < b.1 * a.2→b.2 * (a.1 * c.2) < b.1 * c.2 * a.2:=fun h=>by
  have:=Int.mul_lt_mul_of_pos_right h (show 0 < c.2 by omega)
  rw [e1,e2] at this;exact this
 have lt2:b.1 * c.2 < c.1 * b.2→b.1 * c.2 * a.2 < b.2 * (c.1 * a.2):=fun h=>by
  have:=Int.mul_lt_mul_of_pos_right h (show 0 < a.2 by omega)
  rw [e3] at this;exact this
 have back:b.2 * (a.1 * c.2) < b.2 * (c.1 * a.2)→a.1 * c.2 < c.1 * a.2:=fun h=>Int.lt_of_mul_lt_mul_left h (by omega)
 have RO:b.2 * (a.1 * c.2) = b.2 * (c.1 * a.2)→a.1 * c.2 = c.1 * a.2:=fun h=>Int.eq_of_mul_eq_mul_left (by omega) h
 rcases kE a b with ⟨x1,y1⟩ | ⟨x1,y1⟩ | ⟨x1,y1⟩
 ·have:=lt1 y1
  have l:=back (by omega)
  rcases kE a c with ⟨x3,y3⟩ | ⟨x3,y3⟩ | ⟨x3,y3⟩
  ·rw [x3,x1];rcases kE b c with ⟨x2,_⟩ | ⟨x2,_⟩ | ⟨x2,_⟩ <;> rw [x2] <;> first | decide | omega
  ·omega
  ·omega
 ·rcases kE b c with ⟨x2,y2⟩ | ⟨x2,y2⟩ | ⟨x2,y2⟩
  ·have:=lt2 y2
   have l:=back (by omega)
   rcases kE a c with ⟨x3,y3⟩ | ⟨x3,y3⟩ | ⟨x3,y3⟩
   ·rw [x3,x1,x2];decide
   ·omega
   ·omega
  ·have q1:a.1 * b.2 * c.2 = b.1 * a.2 * c.2:=by rw [y1]
   have q2:b.1 * c.2 * a.2 = c.1 * b.2 * a.2:=by rw [y2]
   rw [e1,e2] at q1
   rw [e3] at q2
   have l:=RO (by omega)
   rcases kE a c with ⟨x3,y3⟩ | ⟨x3,y3⟩ | ⟨x3,y3⟩
   ·omega
   ·rw [x3,x1,x2];decide
   ·omega
  ·omega
 ·omega
end Frac
namespace Lw
open PySem L2 Frac
theorem OD:bootBuiltins "isinstance" = some (.builtin "isinstance"):=by decide +kernel
theorem E6:bootBuiltins "tuple" = some (.type "tuple"):=by decide +kernel
theorem RP:bootBuiltins "bool" = some (.type "bool"):=by decide +kernel
theorem A0:bootBuiltins "int" = some (.type "int"):=by decide +kernel
theorem RQ:bootBuiltins "max" = some (.builtin "max"):=by decide +kernel
theorem RS:bootBuiltins "sum" = some (.builtin "sum"):=by decide +kernel
theorem ZP:bootBuiltins "all" = some (.builtin "all"):=by decide +kernel
theorem w0 {i:Int}(h:i.natAbs < 10 ^ 100):i.natAbs < 2 ^ 4000:=Nat.lt_of_lt_of_le h (by decide +kernel)
theorem mw {i j:Int}(h:i.natAbs < 10 ^ 100) (h' : j.natAbs < 10 ^ 100):Ck i j:=⟨w0 h,w0 h'⟩
theorem RT {i j:Int}{a b:Nat}(h:i.natAbs≤a) (h' : j.natAbs≤b):(i * j).natAbs≤a * b:=by
 rw [Int.natAbs_mul];exact Nat.mul_le_mul h h'
structure bq (H:Hp) (d c:Addr):Prop where
 ex:∃ (k:Int) (ns:List Int),H d = some (.lst [.ref c,.int k])∧H c = some (.lst (ns.map V.int))∧1≤ns.length∧ns.length≤64∧0≤k
def bK (d c:Addr) (H H' : Hp):Prop:=∀ b o,H b = some o→b≠d→b≠c→H' b = some o
theorem bK.refl (d c:Addr) (H:Hp):bK d c H H:=fun _ _ e _ _=>e
theorem bK.trans {d c:Addr}{H H1 H2:Hp}(a:bK d c H H1) (b:bK d c H1 H2):bK d c H H2:=fun x o e h1 h2=>b x o (a x o e h1 h2) h1 h2
theorem aN.but {d c:Addr}{H H' : Hp} (h:aN H H'):bK d c H H' := fun b o e _ _=>h b o e
theorem bq.same {H H' : Hp} {d c:Addr}(D:bq H d c) (h:aN H H'):bq H' d c:=by
 obtain ⟨k,ns,h1,h2,r⟩:=D.ex
 exact ⟨k,ns,h _ _ h1,h _ _ h2,r⟩
theorem bq.new {H:Hp}{d c p:Addr}{o:HO}(D:bq H d c) (hp:H p = none):bq (upd H p o) d c:=by
 refine D.same fun b u e=>?_
 rw [aI (aC e hp)];exact e
theorem bI {H:Hp}{p:Addr}{o:HO}(hp:H p = none):aN H (upd H p o):=fun b u e=>by
 rw [aI (aC e hp)];exact e
theorem bq.ne {H:Hp}{d c:Addr}(D:bq H d c):d≠c:=by
 obtain ⟨k,ns,h1,h2,r⟩:=D.ex
 refine tO h1 h2 fun z=>?_
 have z' : [V.ref c,V.int k] = ns.map V.int:=by injection z
 cases ns with
 | nil=>cases z'
 | cons n r=>injection z' with z1 _;cases z1
theorem bq.free {H:Hp}{d c p:Addr}(D:bq H d c) (hp:H p = none):p≠d∧p≠c:=by
 obtain ⟨k,ns,h1,h2,r⟩:=D.ex
 exact ⟨Ne.symm (aC h1 hp),Ne.symm (aC h2 hp)⟩
theorem zh {ns:List Int}{i:Int}(h0:0≤i) (h1:i < ns.length):∃ z j,yE (ns.map V.int) i = some (V.int z)∧yP (ns.map V.int).length i = some j∧j < ns.length:=by
 have hj:i.toNat < ns.length:=by omega
 have e:i = (i.toNat:Int):=by omega
 refine ⟨ns[i.toNat],i.toNat,?_,?_,hj⟩
 ·have q:=lT (xs:=ns.map V.int) (j:=i.toNat) (v:=V.int ns[i.toNat]) (by rw [List.getElem?_map,List.getElem?_eq_getElem hj];rfl)
  rw [← e] at q
  exact q
 ·unfold yP
  rw [if_pos h0,if_pos (by rw [List.length_map];exact h1)]
theorem at0 {x:V}{xs:List V}:yE (x :: xs) 0 = some x:=lT (xs:=x :: xs) (j:=0) rfl
theorem zj (ns:List Int) (j:Nat) (z:Int):(ns.map V.int).set j (V.int z) = (ns.set j z).map V.int:=by rw [List.map_set]
theorem E7 {ns:List Int}(h:ns.length≤63):m6 (ns.map V.int) none (some 63) = ns.map V.int:=by
 unfold m6
 have e1:HT.pJ (ns.map V.int).length 0 none = 0:=rfl
 have e2:HT.pJ (ns.map V.int).length (ns.map V.int).length (some (63:Int)) = ns.length:=by
  have:=HT.xm (ns.map V.int).length (ns.map V.int).length 63
  rw [List.length_map] at this ⊢
  rw [show ((63:Nat):Int) = 63 from rfl] at this
  rw [this];omega
 rw [e1,e2,List.drop_zero,Nat.sub_zero]
 exact List.take_of_length_le (by rw [List.length_map];exact Nat.le_refl _)
def lW:Sp:=fun vs H Q _=>∃ (d c:Addr) (many:Int),vs = [.ref d,.int many]∧bq H d c∧(1≤many∧many.natAbs < 10 ^ 100)∧
 ∀ (r:Int) (H' : Hp),0≤r→r < many→bq H' d c→bK d c H H' → Q (.int r) H'
def E8 (K:PySem.W.Frag):Sp:=fun vs H Q _=>∃ (a:Addr) (ns:List Int),vs = [.ref a]∧b9 K H a (ns.map V.int)∧ns.length≤63∧
 ∀ (d c:Addr) (H' : Hp),bq H' d c→H d = none→H c = none→aN H H' → Q (.ref d) H'
def uw:Sp:=fun vs H Q _=>∃ a b:Int,vs = [.int a,.int b]∧0≤a∧0≤b∧Q (.int (Int.gcd a b)) H
def qh:Sp:=fun vs H Q _=>∃ a b:Int,vs = [.int a,.int b]∧b≠0∧(a.natAbs < 10 ^ 100∧b.natAbs < 10 ^ 100)∧
 ∀ p,H p = none→Q (.ref p) (upd H p (.tup [.int (norm a b).1,.int (norm a b).2]))
def Co:Sp:=fun vs H Q _=>∃ (d c:Addr),vs = [.ref d]∧bq H d c∧
 ∀ (r:Int) (H' : Hp),0≤r→r < 10 ^ 20→bq H' d c→bK d c H H' → Q (.int r) H'
def qi:Sp:=fun vs H Q _=>∃ (d c:Addr),vs = [.ref d]∧bq H d c∧
 ∀ (x y:Int) (p:Addr) (H' : Hp),1≤y→Int.gcd x y = 1→x.natAbs < 10 ^ 20→y.natAbs≤10 ^ 20→H p = none→H' p = some (.tup [.int x,.int y])→bq H' d c→bK d c H H' → Q (.ref p) H'
end Lw
namespace L2
open PySem PySem.Spec PyProof.Rows
section
variable {X:Cx}
theorem E9:EG X "str.index" (fun x vs H Q=>∃ a b,x = .str a∧vs = [.str b]∧Txt.contains a b = true∧Q (.int (Txt.find a b)) H):=by
 intro pins s σ H x vs v us Q I rx rv h
 obtain ⟨a,b,rfl,rfl,hc,q⟩:=h
 obtain ⟨t,rfl⟩:=rx
 obtain ⟨w1,rfl,u,rfl⟩:=rv.one
 cases ho:Builtin.Str.occurrences a b 0 a.length 1 with
 | nil=>simp [Txt.contains,ho] at hc
 | cons i rest=>
  have e:Txt.find a b = (i:Int):=by simp [Txt.find,ho]
  rw [e] at q
  exact SC.index ho ⟨.int i,H,I.tok _,⟨_,rfl⟩,q⟩
end
end L2
namespace Nm
open PySem L2 Lw Dig
abbrev gG:Str:=Str.ofString "abcdefghijklmnopqrstuvwxyz"
abbrev A1:Str:=Str.ofString "like up down then turn pick same both either not and or under is"
def xM:List Str:=Txt.split A1 ⟨#[32]⟩
theorem Dg:xM = ["like", "up", "down", "then", "turn", "pick", "same", "both", "either", "not", "and", "or", "under", "is"].map Str.ofString:=by decide +kernel
theorem ZQ:(Str.ofString " " : Str) = ⟨#[32]⟩:=by decide +kernel
theorem em' : (Str.ofString "" : Str) = ⟨#[]⟩:=by decide +kernel
def xN (cs:List Nat):Prop:=∀ c∈cs,97≤c∧c≤122
theorem xN.app {a b:List Nat}(h:xN a) (h' : xN b):xN (a ++ b):=fun c m=>(List.mem_append.mp m).elim (h c) (h' c)
theorem xN.take {a:List Nat}(h:xN a) (n:Nat):xN (a.take n):=fun c m=>h c (List.mem_of_mem_take m)
theorem xN.drop {a:List Nat}(h:xN a) (n:Nat):xN (a.drop n):=fun c m=>h c (List.mem_of_mem_drop m)
theorem xN.one {c:Nat}(h:97≤c∧c≤122):xN [c]:=fun d m=>by
 have:d = c:=by simpa using m
 subst this;exact h
structure ux (x:Str):Prop where
 ne:1≤x.cps.toList.length
 le:x.cps.toList.length≤8
 low:xN x.cps.toList
 now:x ∉ xM
theorem Dh:gG.cps.toList = (List.range 26).map (97 + ·):=by decide +kernel
theorem Cp:gG.length = 26:=by decide +kernel
theorem Fb {i:Int}(h0:0≤i) (h1:i < 26):yE gG.cps.toList i = some (97 + i.toNat):=by
 have e:i = (i.toNat:Int):=by omega
 have q:=lT (xs:=gG.cps.toList) (j:=i.toNat) (v:=97 + i.toNat) (by
  rw [Dh,List.getElem?_map,List.getElem?_range (by omega)];rfl)
 rw [← e] at q
 exact q
theorem Fc:∀ k:Fin 26,Txt.contains gG ⟨#[97 + k.val]⟩ = true:=by decide +kernel
theorem OE {c:Nat}(h:97≤c∧c≤122):Txt.contains gG ⟨#[c]⟩ = true:=by
 have:=Fc ⟨c - 97,by omega⟩
 rw [show 97 + (c - 97) = c by omega] at this
 exact this
theorem join_ones (cs:List Nat):(Txt.join ⟨#[]⟩ (cs.map fun c=>(⟨#[c]⟩:Str))).cps.toList = cs:=by
 rw [AZ,List.map_map]
 induction cs with
 | nil=>rfl
 | cons c r ih=>rw [List.map_cons,List.flatten_cons,ih];rfl
theorem Fd (cs:List Nat):((cs.map fun c=>(⟨#[c]⟩:Str)).map (·.length)).sum = cs.length:=by
 induction cs with
 | nil=>rfl
 | cons c r ih=>rw [List.map_cons,List.map_cons,List.sum_cons,ih,List.length_cons];show 1 + _ = _;omega
theorem Fe (x:Str) (xs:List Str):inV (.str x) (xs.map V.str) = decide (x∈xs):=by
 unfold inV
 induction xs with
 | nil=>simp
 | cons y r ih=>
  rw [List.map_cons,List.any_cons,ih]
  by_cases h:y = x
  ·subst h
   simp [Eg]
  ·have h2:¬ x = y:=fun e=>h e.symm
   simp [Eg,h,h2]
theorem Di (xs:List Str):(xs.map V.str).all oY = true:=by
 rw [List.all_eq_true]
 intro v m
 obtain ⟨s,_,rfl⟩:=List.mem_map.mp m
 rfl
theorem zm:(Str.ofString "zz" : Str).cps.toList = [122,122]:=by decide +kernel
theorem RU:∀ x∈xM,x.cps.toList.take 2≠[122,122]:=by decide +kernel
theorem IG {x y:Str}(h:y.cps.toList = 122 :: 122 :: x.cps.toList.take 6) (l:xN x.cps.toList):ux y:=by
 refine ⟨by rw [h];simp,by rw [h];simp only [List.length_cons,List.length_take];omega,?_,fun m=>RU y m (by rw [h];rfl)⟩
 rw [h]
 exact xN.app (a:=[122,122]) (fun c m=>by simp at m;omega) (l.take 6)
theorem A2 (x:Str) {b:Nat}(h:x.length≤b):Txt.slice x none (some (b:Int)) = Txt.slice x none (some ((x.length:Nat):Int)):=by
 have e:Builtin.Str.strSliceIndices none (some (b:Int)) 1 x.length = Builtin.Str.strSliceIndices none (some ((x.length:Nat):Int)) 1 x.length:=by
  unfold Builtin.Str.strSliceIndices
  have h1:¬ ((x.length:Nat):Int) < 0:=by omega
  have h2:¬ (b:Int) < 0:=by omega
  have h3:max (0:Int) (min ((x.length:Nat):Int) ((x.length:Nat):Int)) = ((x.length:Nat):Int):=by omega
  have h4:max (0:Int) (min (b:Int) ((x.length:Nat):Int)) = ((x.length:Nat):Int):=by omega
  simp only [h1,h2,h3,h4,show ((1:Int) > 0) = True from by simp,if_true,if_false]
 unfold Txt.slice
 rw [e]
theorem Ff (x:Str) (b:Nat):(Txt.slice x none (some (b:Int))).cps.toList = x.cps.toList.take b:=by
 rcases Nat.le_total b x.length with h | h
 ·rw [uv,kC x (a:=0) (b:=b) (by omega) h];simp
 ·rw [A2 x h,uv,kC x (a:=0) (b:=x.length) (by omega) (Nat.le_refl _),fX] 
  rw [fX] at h
  rw [List.drop_zero,Nat.sub_zero,List.take_of_length_le (Nat.le_refl _),List.take_of_length_le h]
theorem bK.free {d c p:Addr}{H H' : Hp} (k:bK d c H H') (D:bq H' d c) (h:H' p = none):H p = none:=by
 cases e:H p with
 | none=>rfl
 | some o=>
  have f:=D.free h
  have:=k p o e f.1 f.2
  rw [h] at this
  cases this
theorem bq.upd {d c p:Addr}{H:Hp}{o:HO}(D:bq H d c) (h1:p≠d) (h2:p≠c):bq (L2.upd H p o) d c:=by
 obtain ⟨k,ns,a1,a2,r⟩:=D.ex
 exact ⟨k,ns,by rw [aI (Ne.symm h1)];exact a1,by rw [aI (Ne.symm h2)];exact a2,r⟩
def Fg:Sp:=fun vs H Q _=>∃ (d c:Addr),vs = [.ref d]∧bq H d c∧
 ∀ (xs:List Str) (p:Addr) (H' : Hp),1≤xs.length→xs.length≤4→(∀ x∈xs,ux x)→H p = none→H' p = some (.tup (xs.map V.str))→bq H' d c→bK d c H H' → Q (.ref p) H'
end Nm
namespace Ord
open PySem
abbrev S (x:String):Str:=Str.ofString x
def ff (want:Str):List (List Str):=
 if want = S "order" then [[S "like"],[S "up",S "field"],[S "down",S "field"],[S "then",S "order",S "order"],[S "turn",S "order"],[S "pick",S "case",S "order",S "order"]]
 else if want = S "case" then [[S "same",S "field"],[S "both",S "mark"],[S "either",S "mark"],[S "not",S "case"],[S "and",S "case",S "case"],[S "or",S "case",S "case"]]
 else [[S "under",S "field",S "number"],[S "is",S "field",S "number"]]
def roomOf (w:Str):Int:=if w = S "case" then 2 else if w = S "mark" then 3 else 1
def rooms (ws:List Str):Int:=(ws.map roomOf).sum
theorem wk (w:Str):1≤roomOf w∧roomOf w≤3:=by unfold roomOf;split <;> (try split) <;> omega
theorem pS (w:Str) (ws:List Str):rooms (w :: ws) = roomOf w + rooms ws:=rfl
theorem wm (a b:List Str):rooms (a ++ b) = rooms a + rooms b:=by unfold rooms;rw [List.map_append,List.sum_append]
theorem Dj (a:List Str):rooms a.reverse = rooms a:=by
 induction a with
 | nil=>rfl
 | cons x r ih=>rw [List.reverse_cons,wm,ih,pS x r];show rooms r + (roomOf x + 0) = _;omega
theorem zo (ws:List Str):(ws.length:Int)≤rooms ws:=by
 induction ws with
 | nil=>simp [rooms]
 | cons w r ih=>rw [pS,List.length_cons];have:=wk w;omega
inductive Wd where
 | t (x:Str)
 | n (a b:Int)
def Wd.d:Wd→PyData
 | .t x=>.str x
 | .n a b=>.tuple [.int a,.int b]
inductive Step (fld:Str→Prop) (num:Int→Int→Prop):List Str→Wd→List Str→Prop
 | field {x:Str}{st:List Str}:fld x→Step fld num (S "field" :: st) (.t x) st
 | number {a b:Int}{st:List Str}:num a b→Step fld num (S "number" :: st) (.n a b) st
 | word {want x:Str}{ps st:List Str}:want≠S "field" → want≠S "number" → (x :: ps)∈ff want→Step fld num (want :: st) (.t x) (ps ++ st)
inductive Run (fld:Str→Prop) (num:Int→Int→Prop):List Str→List Wd→List Str→Prop
 | nil {st:List Str}:Run fld num st [] st
 | cons {st st1 st2:List Str}{w:Wd}{ws:List Wd}:Step fld num st w st1→Run fld num st1 ws st2→Run fld num st (w :: ws) st2
theorem Run.snoc {fld:Str→Prop}{num:Int→Int→Prop}{st st1 st2:List Str}{ws:List Wd}{w:Wd}(h:Run fld num st ws st1) (s:Step fld num st1 w st2):Run fld num st (ws ++ [w]) st2:=by
 induction h with
 | nil=>exact .cons s .nil
 | cons a _ ih=>exact .cons a (ih s)
def nB (fld:Str→Prop) (num:Int→Int→Prop) (ws:List Wd):Prop:=Run fld num [S "order"] ws []
theorem A3 (want:Str) (h:want = S "order" ∨ want = S "case" ∨ want = S "mark"):∃ o∈ff want,1 + rooms (o.drop 1)≤roomOf want:=by
 rcases h with rfl | rfl | rfl
 ·exact ⟨[S "like"],by decide +kernel,by decide +kernel⟩
 ·exact ⟨[S "same",S "field"],by decide +kernel,by decide +kernel⟩
 ·exact ⟨[S "under",S "field",S "number"],by decide +kernel,by decide +kernel⟩
theorem qW (want:Str):∀ o∈ff want,∃ x ps,o = x :: ps∧ps.length≤3∧∀ p∈ps,p = S "order" ∨ p = S "case" ∨ p = S "mark" ∨ p = S "field" ∨ p = S "number" := by
 unfold ff
 intro o ho
 have:o.length≤4∧o≠[]∧∀ p∈o.drop 1,p = S "order" ∨ p = S "case" ∨ p = S "mark" ∨ p = S "field" ∨ p = S "number" := by
  split at ho
  ·revert o;decide +kernel
  ·split at ho
   ·revert o;decide +kernel
   ·revert o;decide +kernel
 cases o with
 | nil=>exact absurd rfl this.2.1
 | cons x ps=>exact ⟨x,ps,rfl,by have:=this.1;simp at this;omega,this.2.2⟩
end Ord
namespace L2
open PySem PySem.Spec PyProof.Rows
section
variable {X:Cx}{pins:List (Addr × Obj)}{σ:St}{H G:Hp}{s:Shared}
open Classical in
end
section
variable {prog:Program}{w:World}{A:Around}{E:Value→Shared→Prop}{s:Shared}
end
end L2
namespace L2
open PySem PySem.Spec PyProof.Rows
structure rR (K:PySem.W.Frag) (P:Params) (a:Addr) (g:Str→Option (V × Value)):Prop where
 ex:∃ (es:Array DictEntry) (n:Nat),K.lookup a = some ⟨.type "dict",none,.dict es n,#[]⟩∧PySem.W.KeysLit P es.toList
 lo:(a == sysModules) = false
 at_:∀ x,PySem.W.nsIn K a x = some ((g x).map (·.2))
 rel:∀ x v u,g x = some (v,u)→RelV v u
section
variable {X:Cx}
theorem OF:oX X (compareOp .In) (fun x y H Q=>∃ z a g,x = .str z∧y = .ref a∧rR X.K X.w.params a g∧Q (.bl (g z).isSome) H):=by
 intro pins s σ H x y v u Q I rx ry h
 obtain ⟨z,a,g,rfl,rfl,D,q⟩:=h
 obtain ⟨t,rfl⟩:=rx
 cases ry
 obtain ⟨es,n,hl,hk⟩:=D.ex
 obtain ⟨m,F⟩:=I.fr
 refine PySem.W.topIn_K F I.mod.Ec hl hk (D.at_ z) D.lo ⟨.bl _,H,I.tok _,rfl,?_⟩
 rw [Option.isSome_map];exact q
theorem uy:EF X (fun x y H Q=>∃ z a g v u,x = .ref a∧y = .str z∧rR X.K X.w.params a g∧g z = some (v,u)∧Q v H):=by
 intro value slice pins s σ H x y v u Q I rx ry h hs
 obtain ⟨z,a,g,v',u',rfl,rfl,D,e,q⟩:=h
 cases rx
 obtain ⟨t,rfl⟩:=ry
 obtain ⟨es,n,hl,hk⟩:=D.ex
 obtain ⟨m,F⟩:=I.fr
 exact PySem.W.topItem_K F I.mod.Ec hl hk (by rw [D.at_ z,e];rfl) ⟨v',H,I.tok _,D.rel z v' u' e,q⟩ hs
end
end L2
namespace L2
open PySem PySem.Spec PyProof.Rows
theorem Dl:typeLookup (.type "tuple") "__reversed__" = pure none:=by rw [typeLookup_type,builtinLookup_eq_fast];kernel_rfl
theorem Cq:typeLookup (.type "tuple") "__getitem__" = pure (some (.builtin "tuple.__getitem__")):=by rw [typeLookup_type,builtinLookup_eq_fast];kernel_rfl
theorem A4:isSubtype (.type "tuple") (.type "dict") = pure false:=by rw [isSubtype_type];kernel_rfl
theorem vF (t:Addr) (items:Array Value) (n:Nat) (dct:Option Addr) (sl:Array (Option Value)) (hsz:items.size≤sizeLine):
  Meets (Builtin.«reversed.__new__» ⟨[.type "reversed",.ref t],[]⟩) (fun _ R s=>s.heap.get? t = some { cls:=.type "tuple",dict:=dct,data:=.seq items n,slots:=sl }∧
   R (.ok (.ret (Value.ref s.heap.objs.size))) { s with heap:=s.heap.push { cls:=.type "reversed",data:=.fields #[.ref t,rawInt ((items.size:Int) - 1)] },toks:=s.toks + 1 + 1 }):=
 .of_wp fun prog w A R s h=>by
  obtain ⟨hp,g,d,tk,os⟩:=s;obtain ⟨q1,h⟩:=h
  have hT:Shared.TypeIs ⟨hp,g,d,tk,os⟩ (.ref t) "tuple" := ⟨_,q1,rfl⟩
  unfold Builtin.«reversed.__new__»
  refine wpAny_bind (wpAny_of_eq (newClass_reversed _) ?_)
  try dsimp only
  refine wpAny_bind (wpAny_of_eq (a:=()) (by first | rfl | kernel_rfl) ?_)
  refine wpAny_bind (wpAny_of_eq (a:=()) (by first | rfl | kernel_rfl) ?_)
  try dsimp only
  refine wpAny_bind (wpAny_specialOf hT Dl ?_)
  try dsimp only
  have hz:IsTup hp t items:=⟨_,q1,rfl,n,rfl⟩
  have z62:sizeLine < 2 ^ 62:=by decide
  have hf:(items.size:Int) < 2 ^ 63:=by omega
  wp_walk using wpAny_isInstance (b:=false) hT A4,wpAny_specialOf hT Cq,len_tuple (s:=⟨hp,g,d,tk,os⟩) hz hf
  exact ⟨_,rfl,h⟩
theorem Fi:Slot "reversed" "__init__" "object.__init__" :=
 .of (owner:= "object") (n:= "__init__") (by rw [typeLookup_type,builtinLookup_eq_fast];kernel_rfl) (by decide +kernel) (by decide +kernel) (by decide +kernel)
  (by first | exact .inl (by decide +kernel) | exact .inr (by decide +kernel)) (by rw [isSubtype_type];kernel_rfl)
theorem A5:TypeCalled "reversed" "reversed.__new__" "object.__init__" :=
 ⟨by decide +kernel,by decide +kernel,⟨_,_,F.mro_reversed⟩,F.made_reversed,by decide +kernel,by rw [isSubtype_type];kernel_rfl,Fi⟩
def Fj (t:Addr) (i:Int):Obj:={ cls:=.type "reversed",data:=.fields #[.ref t,rawInt i] }
section
variable {prog:Program}{w:World}{A:Around}{E:Value→Shared→Prop}{s:Shared}
theorem xO {t:Addr}{items:Array Value}{Q:Value→Shared→Prop}(ht:IsTup s.heap t items) (hsz:items.size≤sizeLine)
  (h:Q (.ref s.heap.objs.size) { s with heap:=s.heap.push (Fj t ((items.size:Int) - 1)),toks:=s.toks + 1 + 1 }):wpAny (model prog w) A (call (.type "reversed") [.ref t]) Q E s:=by
 obtain ⟨⟨c,dct,dt,sl⟩,e1,e2,n,e3⟩:=ht
 replace e2:c = .type "tuple" := e2
 replace e3:dt = .seq items n:=e3
 subst e2 e3
 exact callType_new A5 (by decide) (F.typeCall_reversed_1 _) (F.newCall_reversed_1 _) (fun obj=>F.args_object_init_2 obj _) F.entry_reversed_new (vF t items n dct sl hsz) ⟨e1,⟨_,Heap.get?_push_size _ rfl,rfl⟩,h⟩
end
end L2
namespace L2
open PySem PySem.Spec PyProof.Rows
theorem zq:Manifest.owners.lookup (String.ofList ['d', 'e', 's', 'r', 'e', 'v', 'e', 'r'].reverse) = some Manifest.sig_reversed:=by kernel_rfl
theorem qj:Slot "reversed" "__next__" "reversed.__next__" :=
 .of (owner:= "reversed") (n:= "__next__") (by rw [typeLookup_type,builtinLookup_eq_fast];kernel_rfl) (by decide +kernel) (by decide +kernel) (by decide +kernel)
  (by first | exact .inl (by decide +kernel) | exact .inr (by decide +kernel)) (by rw [isSubtype_type];kernel_rfl)
theorem zu:entryFor table "reversed.__next__" = some Builtin.«reversed.__next__» := entryFor_of_tree (by kernel_rfl)
theorem Cr (a:Value):argsOk "reversed.__next__" ⟨[a],[]⟩:=by
 unfold argsOk
 rw [signature?_of (id:= "reversed.__next__") (n:=['_', '_', 't', 'x', 'e', 'n', '_', '_']) (o:=['d', 'e', 's', 'r', 'e', 'v', 'e', 'r']) (by kernel_rfl) zq];kernel_rfl
theorem zw:Slot "reversed" "__iter__" "reversed.__iter__" :=
 .of (owner:= "reversed") (n:= "__iter__") (by rw [typeLookup_type,builtinLookup_eq_fast];kernel_rfl) (by decide +kernel) (by decide +kernel) (by decide +kernel)
  (by first | exact .inl (by decide +kernel) | exact .inr (by decide +kernel)) (by rw [isSubtype_type];kernel_rfl)
theorem Fl (a:Value):argsOk "reversed.__iter__" ⟨[a],[]⟩:=by
 unfold argsOk
 rw [signature?_of (id:= "reversed.__iter__") (n:=['_', '_', 'r', 'e', 't', 'i', '_', '_']) (o:=['d', 'e', 's', 'r', 'e', 'v', 'e', 'r']) (by kernel_rfl) zq];kernel_rfl
theorem Dm:entryFor table "reversed.__iter__" = some Builtin.«dict_keyiterator.__iter__» :=
 entryFor_alias (id' := "dict_keyiterator.__iter__") (by kernel_rfl) (by first | rfl | decide +kernel | (unfold String.splitOn;simp +decide [String.splitOnAux])) (by decide +kernel) (by kernel_rfl)
def uz (h:Heap) (a t:Addr) (i:Int):Prop:=∃ o,h.get? a = some o∧o.cls = .type "reversed" ∧ o.data = .fields #[.ref t,rawInt i]
theorem uz.ty {s:Shared}{a t:Addr}{i:Int}(x:uz s.heap a t i):s.TypeIs (.ref a) "reversed" := let ⟨o,ho,hc,_⟩:=x;⟨o,ho,hc⟩
section
variable {prog:Program}{w:World}{A:Around}{E:Value→Shared→Prop}{s:Shared}
theorem II {it t:Addr}{i:Nat}{items:Array Value}{x:Value}{Q:Option Value→Shared→Prop}(hit:uz s.heap it t (i:Int)) (ht:IsTup s.heap t items) (hx:items[i]? = some x) (hi:(i:Int) < 2 ^ 62)
  (hQ:∀ h' tk,uz h' it t ((i:Int) - 1)→Heap.SameBut it s.heap h' → Q (some x) { s with heap:=h',toks:=tk }):wpAny (model prog w) A (pyNext (.ref it)) Q E s:=by
 obtain ⟨o,ho,hc,hd⟩:=id hit
 have hlt:i < items.size:=by
  rcases Nat.lt_or_ge i items.size with z | z
  ·exact z
  ·rw [Array.getElem?_eq_none z] at hx;cases hx
 unfold pyNext
 refine wpAny_bind (wpAny_attempt (wpAny_callSpecial?_slot (name:=Str.ofString "__next__") hit.ty qj (wpAny_call_entry qj hit.ty zu ?_ (Cr _))))
 unfold Builtin.«reversed.__next__»
 refine wpAny_bind (wpAny_of_eq (a:=(Value.ref it,[])) rfl ?_)
 try dsimp only
 refine wpAny_bind (wpAny_field ho hd (x:=.ref t) rfl ?_)
 refine wpAny_bind (wpAny_field ho hd (x:=rawInt (i:Int)) rfl ?_)
 show wpAny _ _ (if (i:Int) < 0 then _ else _) _ _ s
 rw [if_neg (by omega)]
 refine wpAny_bind (wpAny_specialOf ht.typeIs Cq ?_)
 show wpAny _ _ (if (some (Value.builtin "tuple.__getitem__")).isNone = true then _ else _) _ _ _
 rw [if_neg (by decide)]
 refine wpAny_bind (wpAny_mkInt ?_)
 refine wpAny_bind (wpAny_attempt (getItem_tuple (s:={ s with toks:=s.toks + 1 }) ht (by omega) (by omega) (j:=i) (by unfold seqIndex?;simp;omega) hx ?_))
 refine wpAny_bind (wpAny_field (s:={ s with toks:=s.toks + 1 }) ho hd (x:=rawInt (i:Int)) rfl ?_)
 try dsimp only
 refine wpAny_bind (wpAny_setField (s:={ s with toks:=s.toks + 1 }) ho hd (by simp) ?_)
 refine wpAny_pure ⟨x,rfl,wpAny_pure (hQ _ _ ?_ (Heap.SameBut.update ..))⟩
 exact ⟨_,Heap.get?_update_self _ ho (Obj.isFreed_of_fields (Obj.data_mapFields hd _)),(Obj.cls_mapFields ..).trans hc,by
  rw [Obj.data_mapFields hd];simp⟩
theorem OG {it t:Addr}{Q:Option Value→Shared→Prop}(hh:A.handled = none) (hit:uz s.heap it t (-1))
  (hQ:∀ h',Heap.ExtBut it s.heap h' → Q none { s with heap:=h' }):wpAny (model prog w) A (pyNext (.ref it)) Q E s:=by
 obtain ⟨o,ho,hc,hd⟩:=id hit
 unfold pyNext
 refine wpAny_bind (wpAny_attempt (wpAny_callSpecial?_slot (name:=Str.ofString "__next__") hit.ty qj (wpAny_call_entry qj hit.ty zu ?_ (Cr _))))
 unfold Builtin.«reversed.__next__»
 refine wpAny_bind (wpAny_of_eq (a:=(Value.ref it,[])) rfl ?_)
 try dsimp only
 refine wpAny_bind (wpAny_field ho hd (x:=.ref t) rfl ?_)
 refine wpAny_bind (wpAny_field ho hd (x:=rawInt (-1)) rfl ?_)
 show wpAny _ _ (if (-1:Int) < 0 then _ else _) _ _ s
 rw [if_pos (by decide)]
 refine wpAny_bind (wpAny_rule ?_)
 refine wpAny_bind ?_
 show wpAny _ _ (setField (.ref it) 1 (rawInt (-1)) >>= fun _=>setField (.ref it) 0 .none) _ _ s
 refine wpAny_bind (wpAny_setField ho hd (by simp) ?_)
 have ho2:=Heap.get?_update_self (Obj.mapFields fun f=>f.setIfInBounds 1 (rawInt (-1))) ho (Obj.isFreed_of_fields (Obj.data_mapFields hd _))
 refine wpAny_setField ho2 (Obj.data_mapFields hd _) (by simp) ?_
 refine wpAny_bind ?_
 show wpAny _ _ (newExc (.type "StopIteration") [] >>= _) _ _ _
 refine wpAny_bind ?_
 simp only [newExc,newTuple]
 refine wpAny_bind (wpAny_newObj_type ?_ (by size_fits))
 refine wpAny_bind (m:=firstArgMember _ _) (wpAny_of_eq (a:=Value.none) (by first | rfl | (simp only [firstArgMember];rfl)) ?_)
 refine wpAny_newObj_type ?_ (by size_fits)
 simp only [raiseNew]
 refine wpAny_bind (wpAny_handled ?_)
 rw [show A.in1.handled = none from hh]
 refine wpAny_bind (wpAny_pure (wpAny_throw ?_))
 refine wpAny_bind (wpAny_isInstance (T:= "StopIteration") (b:=true) ⟨_,Heap.get?_push_size _ rfl,rfl⟩ isSubtype_stop ?_)
 refine wpAny_pure (hQ _ ((Heap.ExtBut.push (Heap.ExtBut.push (fun b o hb e=>?_) _) _)))
 exact (Heap.get?_update_other _ _ (Ne.symm hb)).trans ((Heap.get?_update_other _ _ (Ne.symm hb)).trans e)
theorem Cs {it t:Addr}{i:Int}{Q:Value→Shared→Prop}(hit:uz s.heap it t i) (h:Q (.ref it) s):wpAny (model prog w) A (pyIter (.ref it)) Q E s:=by
 refine wpAny_pyIter_slot hit.ty zw (wpAny_call_entry zw hit.ty Dm ?_ (Fl _))
 show wpAny _ _ (ret (.ref it)) _ _ s
 exact wpAny_pure ⟨_,rfl, "reversed",_,hit.ty,qj.lookup,h⟩
end
theorem uz.at {h h' : Heap} {a l:Addr}{i:Int}(x:uz h a l i) (e:∀ o,h.get? a = some o→h'.get? a = some o):uz h' a l i:=let ⟨o,ho,r⟩:=x;⟨o,e _ ho,r⟩
section
variable {prog:Program}{w:World}{A:Around}{E:Value→Shared→Prop}{s:Shared}
variable {I:Addr}{fp wr:List Addr}{G:Array GenState→Array GenState→Prop}{n:Nat}{P:Nat→Value→Prop}{St:Nat→Shared→Prop}
end
section
variable {X:Cx}
def RV (K:PySem.W.Frag) (a:Addr) (n:Nat):It:=
 ⟨fun i H=>i < n∧∃ xs,eV K H a xs∧xs.length = n,fun i H x H' => H' = H∧∀ xs,eV K H a xs→xs.reverse[i]? = some x,fun i H=>i = n∧∃ xs,eV K H a xs⟩
theorem Fo {P:Program}{w:World}{K:PySem.W.Frag}{tg:Expr}(a it:Addr) (n:Nat):Turn P w K tg (RV K a n) [it] it (fun i h=>uz h it a ((n:Int) - 1 - (i:Int))) where
 mem:=by simp
 obj:=fun i h st b hb=>by
  have e:b = it:=by simpa using hb
  subst e
  obtain ⟨o,e,c,d⟩:=st
  exact ⟨o,e,fun v z=>by rw [d] at z;cases z⟩
 keep:=fun i h h' st k=>st.at fun o e=>k it (by simp) o e
 item:=by
  intro X hP hw hK hc i pins s σ H E I hf st hg
  subst hP hw hK
  obtain ⟨hi,xs,hq,hl⟩:=hg
  obtain ⟨its,rv,p,hz⟩:=I.tuple hq
  have z62:sizeLine < 2 ^ 62:=by decide
  have hx:xs.reverse[i]? = some (xs.reverse[i]'(by rw [List.length_reverse];omega)):=List.getElem?_eq_getElem _
  obtain ⟨u,hu,ru⟩:=rv.reverse.get hx
  obtain ⟨f0,f1,f2,f3,f4,f5⟩:=hf it (by simp)
  have e1:(n:Int) - 1 - (i:Int) = ((n - 1 - i:Nat):Int):=by omega
  have st1:=st
  rw [e1] at st1
  have hl' : its.length = n:=by rw [← rv.length];exact hl
  have RW:its.toArray[n - 1 - i]? = some u:=by
   rw [List.getElem?_reverse (by omega)] at hu
   simpa [hl'] using hu
  refine II st1 p RW (by omega) fun h' tk st' sb=>?_
  have I1:Inv X pins σ H { s with heap:=h',toks:=tk }:=I.turned (fun b o hb e=>(sb.2 b hb).trans e) f0 f1 f3 f4 f5
  have e2:((n - 1 - i:Nat):Int) - 1 = (n:Int) - 1 - ((i + 1:Nat):Int):=by omega
  rw [e2] at st'
  obtain ⟨o,e,c,d⟩:=id st'
  exact ⟨u,rfl,Cc (s:={ s with heap:=h',toks:=tk }) e c d (by decide) ⟨_,H,I1,ru,⟨rfl,fun ys hy=>by rw [I.ou hy hq];exact hx⟩,st',fun b hb=>(hf b hb).1⟩⟩
 done:=by
  intro X hP hw hK hc i pins s σ H E I hf st hg
  subst hP hw hK
  obtain ⟨rfl,xs,hq⟩:=hg
  obtain ⟨f0,f1,f2,f3,f4,f5⟩:=hf it (by simp)
  have e1:(i:Int) - 1 - (i:Int) = -1:=by omega
  rw [e1] at st
  exact OG (I.ok.hd hc) st fun h' eb=>⟨rfl,I.turned (t' := s.toks) (fun b o hb e=>eb b o hb e) f0 f1 f3 f4 f5⟩
 self:=fun _ _ _ _ _ st h=>Cs st h
def ZR (K:PySem.W.Frag) (tl:TE):TI:=fun σ H R=>tl σ H fun x H1=>∃ a xs,x = .ref a∧eV K H1 a xs∧R (RV K a xs.length) H1
theorem Fp {tg l:Expr}{tl:TE}{p2 q2:Pos}(ZO:Gl X "reversed") (hm2:X.mg "reversed" = none) (hl:PE X l tl) (hs2:starEach [l] X.env = [(false,eval l X.env)]:=by rfl):PI X tg (.Call (.Name "reversed" p2) [l] [] q2) (ZR X.K tl):=by
 intro pins s σ H R I h
 refine wpAny_Call_Name_kw (lP I ZO hm2 E1 (PyProof.Rows.callWith_type1 ?_ hs2 rfl))
 rw [hs2]
 show wpAny _ _ (spliced [(false,eval l X.env)]) _ _ s
 refine Calls.spliced_cons (cJ (hl pins s σ H _ I h) fun v s1 ⟨x,H1,I1,r1,q1⟩=>Calls.spliced_nil ?_)
 obtain ⟨a,xs,e,hq,q⟩:=q1
 subst e
 cases r1
 obtain ⟨its,rv,p,hz⟩:=I1.tuple hq
 have hsz:its.toArray.size≤sizeLine:=by rw [List.size_toArray,← rv.length];exact hz
 refine xO p hsz ?_
 have it1:uz (s1.heap.push (Fj a ((its.toArray.size:Int) - 1))) s1.heap.objs.size a ((xs.length:Int) - 1 - ((0:Nat):Int)):=by
  refine ⟨_,Heap.get?_push_size _ rfl,rfl,?_⟩
  show Data.fields #[.ref a,rawInt ((its.toArray.size:Int) - 1)] = _
  rw [List.size_toArray,← rv.length];simp
 refine Cs (s:={ s1 with heap:=s1.heap.push (Fj a ((its.toArray.size:Int) - 1)),toks:=s1.toks + 1 + 1 }) it1 ?_
 refine ⟨s1.heap.objs.size,[s1.heap.objs.size],_,_,H1,rfl,I1.kept (t' := s1.toks + 1 + 1) fun b o e=>Heap.get?_push_of_some _ e,Fo a _ xs.length,it1,fun b hb=>?_,q⟩
 have e:b = s1.heap.objs.size:=by simpa using hb
 subst e
 exact I1.CY (Nat.le_refl _) (I1.hok.fresh (Nat.le_refl _))
end
end L2
namespace L2
open PySem PySem.Spec PyProof.Rows
def Ct (K:PySem.W.Frag):Value→Option (List Value)
 | .ref a=>(match K.lookup a with
  | some o=>(match o.cls,o.data with
   | .type n,.seq its _=>if n == "tuple" && its.size≤8 then some its.toList else none
   | _,_=>none)
  | none=>none)
 | _=>none
def qX:List Value→Option (List Str)
 | []=>some []
 | .str x _ :: r=>(qX r).map (x :: ·)
 | _=>none
def IJ (K:PySem.W.Frag) (e:DictEntry) (r:Str × Str × List Str):Bool:=
 match e.key with
 | .str x _=>x == r.1 && (match Ct K e.val with
  | some [.str k _,v2]=>k == r.2.1 && (match Ct K v2 with
   | some its=>qX its == some r.2.2
   | none=>false)
  | _=>false)
 | _=>false
def rS (K:PySem.W.Frag):List DictEntry→List (Str × Str × List Str)→Bool
 | [],[]=>true
 | e :: es,r :: rs=>IJ K e r && rS K es rs
 | _,_=>false
def Fq (es:List DictEntry) (z:Str):Option (V × Value):=(es.find? (·.key.isStr z)).map fun e=>((Rf e.val).getD .gk,e.val)
theorem wu {K:PySem.W.Frag}{v:Value}{its:List Value}(h:Ct K v = some its):∃ a,v = .ref a∧∀ (H:Hp) (xs:List V),Vals xs its→eV K H a xs:=by
 unfold Ct at h
 cases v with
 | ref a=>
  dsimp only at h
  refine ⟨a,rfl,fun H xs hv=>?_⟩
  cases hk:K.lookup a with
  | none=>rw [hk] at h;cases h
  | some o=>
   rw [hk] at h
   dsimp only at h
   split at h
   ·rename_i n its' m hc hd
    split at h
    ·rename_i hz
     injection h with h
     subst h
     simp only [Bool.and_eq_true,beq_iff_eq,decide_eq_true_eq] at hz
     exact .inr ⟨o,its',m,hk,by rw [hc,hz.1],hd,Nat.le_trans hz.2 (by decide),hv⟩
    ·cases h
   ·cases h
 | _=>cases h
theorem rT:∀ {l:List Value}{xs:List Str},qX l = some xs→Vals (xs.map V.str) l
 | [],xs,h=>by
  unfold qX at h
  injection h with h;subst h;exact .nil
 | v :: r,xs,h=>by
  unfold qX at h
  split at h
  ·rename_i e;cases e
  ·rename_i x t r' e
   injection e with e1 e2
   subst e1 e2
   cases hr:qX r with
   | none=>rw [hr] at h;cases h
   | some ys=>
    rw [hr] at h
    injection h with h
    subst h
    exact .cons ⟨_,rfl⟩ (rT hr)
  ·cases h
theorem qk {K:PySem.W.Frag}{e:DictEntry}{r:Str × Str × List Str}(h:IJ K e r = true):(∃ t,e.key = .str r.1 t)∧∃ a,e.val = .ref a∧∀ G:Hp,Dat K G (.ref a) (.tuple [.str r.2.1,.tuple (r.2.2.map PyData.str)]):=by
 unfold IJ at h
 split at h
 ·rename_i x t hk
  rw [Bool.and_eq_true,beq_iff_eq] at h
  obtain ⟨rfl,h⟩:=h
  refine ⟨⟨t,hk⟩,?_⟩
  split at h
  ·rename_i k t2 v2 ht
   rw [Bool.and_eq_true,beq_iff_eq] at h
   obtain ⟨rfl,h⟩:=h
   split at h
   ·rename_i its hi
    rw [beq_iff_eq] at h
    obtain ⟨a,ha,sa⟩:=wu ht
    obtain ⟨b,hb,sb⟩:=wu hi
    refine ⟨a,ha,fun G=>d8 (sa G [.str r.2.1,.ref b] (.cons ⟨_,rfl⟩ (.cons (by rw [hb];rfl) .nil))) (bh (bM _) (bh (d8 (sb G _ (rT h)) ?_) bE))⟩
    exact dats_strs' _
   ·cases h
  ·cases h
 ·cases h
where
 dats_strs' {K:PySem.W.Frag}{G:Hp}:∀ ws:List Str,bJ K G (ws.map V.str) (ws.map PyData.str)
  | []=>bE
  | w :: ws=>bh (bM w) (dats_strs' ws)
theorem wz {x z:Str}{t:Tok}:(Value.str x t).isStr z = decide (x = z):=by
 unfold Value.isStr
 by_cases h:x = z
 ·subst h;simp
 ·simp [h]
theorem ql {K:PySem.W.Frag}(z:Str):∀ {es:List DictEntry}{rs:List (Str × Str × List Str)},rS K es rs = true→
  (es.find? (·.key.isStr z) = none∧rs.find? (fun r=>decide (r.1 = z)) = none)∨∃ e r,es.find? (·.key.isStr z) = some e∧rs.find? (fun r=>decide (r.1 = z)) = some r∧IJ K e r = true
 | [],[],_=>.inl ⟨rfl,rfl⟩
 | [],_ :: _,h=>by cases h
 | _ :: _,[],h=>by cases h
 | e :: es,r :: rs,h=>by
  unfold rS at h
  rw [Bool.and_eq_true] at h
  obtain ⟨⟨t,hk⟩,_⟩:=qk h.1
  have q:e.key.isStr z = decide (r.1 = z):=by rw [hk];exact wz
  rw [List.find?_cons,List.find?_cons,q]
  by_cases hz:r.1 = z
  ·rw [decide_eq_true hz]
   exact .inr ⟨e,r,rfl,rfl,h.1⟩
  ·rw [decide_eq_false hz]
   exact ql z h.2
theorem wA {K:PySem.W.Frag}:∀ {es:List DictEntry}{rs:List (Str × Str × List Str)},rS K es rs = true→es.any (·.refKey) = false
 | [],[],_=>rfl
 | [],_ :: _,h=>by cases h
 | _ :: _,[],h=>by cases h
 | e :: es,r :: rs,h=>by
  unfold rS at h
  rw [Bool.and_eq_true] at h
  obtain ⟨⟨t,hk⟩,_⟩:=qk h.1
  rw [List.any_cons,wA h.2,Bool.or_false]
  unfold DictEntry.refKey
  rw [hk]
theorem Ft {K:PySem.W.Frag}{P:Params}{a:Addr}{es:Array DictEntry}{n:Nat}{rs:List (Str × Str × List Str)}(hl:K.lookup a = some ⟨.type "dict",none,.dict es n,#[]⟩) (hk:PySem.W.KeysLit P es.toList) (lo:(a == sysModules) = false)
  (h:rS K es.toList rs = true):rR K P a (Fq es.toList)∧∀ z,(rs.find? (fun r=>decide (r.1 = z)) = none∧Fq es.toList z = none)∨∃ r v u,rs.find? (fun r=>decide (r.1 = z)) = some r∧Fq es.toList z = some (v,u)∧∀ G:Hp,Dat K G v (.tuple [.str r.2.1,.tuple (r.2.2.map PyData.str)]):=by
 refine ⟨⟨⟨es,n,hl,hk⟩,lo,fun x=>?_,fun x v u e=>?_⟩,fun z=>?_⟩
 ·unfold PySem.W.nsIn
  rw [hl]
  dsimp only
  unfold Fq
  rcases ql x h with ⟨e1,_⟩ | ⟨e,r,e1,_,_⟩
  ·rw [e1,wA h];rfl
  ·rw [e1];rfl
 ·unfold Fq at e
  rcases ql x h with ⟨e1,_⟩ | ⟨e',r,e1,_,ok⟩
  ·rw [e1] at e;cases e
  ·rw [e1] at e
   obtain ⟨_,a',ha,_⟩:=qk ok
   rw [Option.map_some] at e
   injection e with e
   injection e with e1 e2
   subst e1 e2
   rw [ha];rfl
 ·rcases ql z h with ⟨e1,e2⟩ | ⟨e,r,e1,e2,ok⟩
  ·exact .inl ⟨e2,by unfold Fq;rw [e1];rfl⟩
  ·obtain ⟨_,a',ha,hd⟩:=qk ok
   refine .inr ⟨r,.ref a',e.val,e2,?_,hd⟩
   unfold Fq
   rw [e1,Option.map_some,ha];rfl
end L2
namespace Ord
open PySem L2
def pT:List (Str × Str × List Str):=
 [(S "like",S "order",[]),(S "up",S "order",[S "field"]),(S "down",S "order",[S "field"]),(S "then",S "order",[S "order",S "order"]),(S "turn",S "order",[S "order"]),(S "pick",S "order",[S "case",S "order",S "order"]),
  (S "same",S "case",[S "field"]),(S "both",S "case",[S "mark"]),(S "either",S "case",[S "mark"]),(S "not",S "case",[S "case"]),(S "and",S "case",[S "case",S "case"]),(S "or",S "case",[S "case",S "case"]),
  (S "under",S "mark",[S "field",S "number"]),(S "is",S "mark",[S "field",S "number"])]
def cD (z:Str):Option (Str × Str × List Str):=pT.find? (fun r=>decide (r.1 = z))
structure MJ (K:PySem.W.Frag) (P:Params) (mg:Str→Option Value) where
 a:Addr
 g:Str→Option (V × Value)
 m:mg "WORDS" = some (.ref a)
 D:rR K P a g
 no:∀ z,cD z = none→g z = none
 yes:∀ z r,cD z = some r→∃ v u,g z = some (v,u)∧∀ G:Hp,Dat K G v (.tuple [.str r.2.1,.tuple (r.2.2.map PyData.str)])
theorem OH {K:PySem.W.Frag}{P:Params}{mg:Str→Option Value}{a:Addr}{es:Array DictEntry}{n:Nat}(hm:mg "WORDS" = some (.ref a)) (hl:K.lookup a = some ⟨.type "dict",none,.dict es n,#[]⟩) (hk:PySem.W.KeysLit P es.toList) (lo:(a == sysModules) = false)
  (h:rS K es.toList pT = true):Nonempty (MJ K P mg):=by
 obtain ⟨D,q⟩:=Ft hl hk lo h
 refine ⟨⟨a,_,hm,D,fun z e=>?_,fun z r e=>?_⟩⟩
 ·rcases q z with ⟨_,e1⟩ | ⟨r,v,u,e1,_⟩
  ·exact e1
  ·rw [show cD z = _ from e1] at e;cases e
 ·rcases q z with ⟨e1,_⟩ | ⟨r',v,u,e1,e2,hd⟩
  ·rw [show cD z = _ from e1] at e;cases e
  ·rw [show cD z = _ from e1] at e
   injection e with e;subst e
   exact ⟨v,u,e2,hd⟩
theorem A6:∀ want∈[S "order",S "case",S "mark"],∀ o∈ff want,∃ x ps,o = x :: ps∧cD x = some (x,want,ps):=by
 intro want hw
 simp only [List.mem_cons,List.not_mem_nil,or_false] at hw
 have key:∀ want∈[S "order",S "case",S "mark"],∀ o∈ff want,o≠[]∧cD (o.headD (S "")) = some (o.headD (S ""),want,o.tail):=by decide +kernel
 intro o ho
 have q:=key want (by simpa using hw) o ho
 cases o with
 | nil=>exact absurd rfl q.1
 | cons x ps=>exact ⟨x,ps,rfl,q.2⟩
theorem A7 {z:Str}(h:z ∉ ["like", "up", "down", "then", "turn", "pick", "same", "both", "either", "not", "and", "or", "under", "is"].map Str.ofString):cD z = none:=by
 unfold cD
 rw [List.find?_eq_none]
 intro r hr
 simp only [decide_eq_true_eq]
 intro e
 subst e
 apply h
 revert r
 decide +kernel
end Ord
namespace Rdo
open PySem Dig Ord Nm L2 Frac
theorem wB {z:Str}{r:Str × Str × List Str}(h:cD z = some r):r∈pT∧r.1 = z:=by
 unfold cD at h
 exact ⟨List.mem_of_find?_eq_some h,by have:=List.find?_some h;simpa using this⟩
theorem oG {fld:Str→Prop}{num:Int→Int→Prop}{st st1:List Str}{w:Wd}(h:Step fld num st w st1) (hs:∀ x∈st,x∈[S "order",S "case",S "mark",S "field",S "number"]):
  (∃ x vB,st = S "field" :: vB∧w = .t x∧fld x∧st1 = vB)∨(∃ a b vB,st = S "number" :: vB∧w = .n a b∧num a b∧st1 = vB)∨
  ∃ want x ps vB,st = want :: vB∧w = .t x∧want≠S "field" ∧ want≠S "number" ∧ cD x = some (x,want,ps)∧ps.length≤3∧st1 = ps ++ vB:=by
 cases h with
 | field hx=>exact .inl ⟨_,_,rfl,rfl,hx,rfl⟩
 | number hx=>exact .inr (.inl ⟨_,_,_,rfl,rfl,hx,rfl⟩)
 | @word want x ps vB n1 n2 ho=>
  have hw:=hs want List.mem_cons_self
  have hw3:want∈[S "order",S "case",S "mark"]:=by
   simp only [List.mem_cons,List.not_mem_nil,or_false] at hw ⊢
   rcases hw with z | z | z | z | z
   ·exact .inl z
   ·exact .inr (.inl z)
   ·exact .inr (.inr z)
   ·exact absurd z n1
   ·exact absurd z n2
  obtain ⟨y,qs,e,hy⟩:=A6 want hw3 _ ho
  injection e with e1 e2
  subst e1 e2
  obtain ⟨x',ps',e,hl,_⟩:=qW want _ ho
  injection e with e1 e2
  subst e1 e2
  exact .inr (.inr ⟨want,x,ps,vB,rfl,rfl,n1,n2,hy,hl,rfl⟩)
end Rdo
namespace L2
open PySem PySem.Spec PyProof.Rows
section
variable {κ:Type}[DecidableEq κ]
def m7 (kvs:List (κ × V)) (k:κ):Option V:=(kvs.find? fun kv=>decide (kv.1 = k)).map (·.2)
def putK (kvs:List (κ × V)) (k:κ) (v:V):List (κ × V):=
 if (kvs.any fun kv=>decide (kv.1 = k)) = true then kvs.map (fun kv=>if kv.1 = k then (kv.1,v) else kv) else kvs ++ [(k,v)]
def MK (kvs:List (κ × V)) (k:κ):List (κ × V):=kvs.filter fun kv=>decide (kv.1≠k)
theorem qm {p:κ × V}{r:List (κ × V)}{k:κ}(e:p.1 = k):m7 (p :: r) k = some p.2:=by simp [m7,List.find?_cons,e]
theorem uA {p:κ × V}{r:List (κ × V)}{k:κ}(e:¬ p.1 = k):m7 (p :: r) k = m7 r k:=by simp [m7,List.find?_cons,e]
theorem zx (k:κ):∀ kvs:List (κ × V),(kvs.any fun kv=>decide (kv.1 = k)) = (m7 kvs k).isSome
 | []=>rfl
 | p :: r=>by
  rw [List.any_cons]
  by_cases e:p.1 = k
  ·simp only [qm e,decide_eq_true e,Bool.true_or,Option.isSome_some]
  ·rw [uA e,decide_eq_false e,Bool.false_or];exact zx k r
theorem zy (kvs:List (κ × V)) (k:κ) (v:V):(putK kvs k v).length≤kvs.length + 1:=by
 unfold putK
 split
 ·rw [List.length_map];omega
 ·rw [List.length_append,List.length_cons,List.length_nil];omega
theorem pG.Dn {o:Option V}{u:Option Value}(r:pG o u):o.isSome = u.isSome:=by
 cases o with
 | none=>cases u with
  | none=>rfl
  | some _=>exact (show False from r).elim
 | some _=>cases u with
  | none=>exact (show False from r).elim
  | some _=>rfl
theorem pG.getD {o:Option V}{u:Option Value}{d:V}{d' : Value} (r:pG o u) (rd:RelV d d'):RelV (o.getD d) (u.getD d'):=by
 cases o with
 | none=>cases u with
  | none=>exact rd
  | some _=>exact (show False from r).elim
 | some _=>cases u with
  | none=>exact (show False from r).elim
  | some _=>exact r
theorem KV.val {kvs:List (κ × V)}{vs:List (κ × Value)}(r:KV kvs vs) (k:κ):pG (m7 kvs k) (valueAt vs k):=by
 unfold KV at r
 induction r with
 | nil=>exact True.intro
 | @cons p q ps qs h t ih=>
  obtain ⟨h1,h2⟩:=h
  by_cases e:p.1 = k
  ·have e' : q.1 = k:=h1.symm.trans e
   have b:valueAt (q :: qs) k = some q.2:=by simp [valueAt,List.find?_cons,e']
   rw [qm e,b];exact h2
  ·have e' : ¬ q.1 = k:=fun z=>e (h1.trans z)
   have b:valueAt (q :: qs) k = valueAt qs k:=by simp [valueAt,List.find?_cons,e']
   rw [uA e,b];exact ih
theorem KV.any {kvs:List (κ × V)}{vs:List (κ × Value)}(r:KV kvs vs) (k:κ):(kvs.any fun kv=>decide (kv.1 = k)) = vs.any fun kv=>decide (kv.1 = k):=by
 unfold KV at r
 induction r with
 | nil=>rfl
 | cons h t ih=>rw [List.any_cons,List.any_cons,ih,h.1]
theorem KV.repl {kvs:List (κ × V)}{vs:List (κ × Value)}(r:KV kvs vs) (k:κ) {y:V}{u:Value}(ry:RelV y u):
  KV (kvs.map fun kv=>if kv.1 = k then (kv.1,y) else kv) (vs.map fun kv=>if kv.1 = k then (kv.1,u) else kv):=by
 unfold KV at r ⊢
 induction r with
 | nil=>exact .nil
 | @cons p q ps qs h t ih=>
  rw [List.map_cons,List.map_cons]
  refine .cons ?_ ih
  obtain ⟨h1,h2⟩:=h
  by_cases e:p.1 = k
  ·rw [if_pos e,if_pos (h1.symm.trans e)];exact ⟨h1,ry⟩
  ·rw [if_neg e,if_neg (fun z=>e (h1.trans z))];exact ⟨h1,h2⟩
theorem KV.put {kvs:List (κ × V)}{vs:List (κ × Value)}(r:KV kvs vs) (k:κ) {y:V}{u:Value}(ry:RelV y u):KV (putK kvs k y) (stored vs k u):=by
 unfold putK stored
 rw [r.any k]
 by_cases e:(vs.any fun kv=>decide (kv.1 = k)) = true
 ·rw [if_pos e,if_pos e];exact r.repl k ry
 ·rw [if_neg e,if_neg e];exact Paired.snoc r ⟨rfl,ry⟩
theorem KV.drop {kvs:List (κ × V)}{vs:List (κ × Value)}(r:KV kvs vs) (k:κ):KV (MK kvs k) (without vs k):=by
 unfold KV at r ⊢
 unfold MK without
 induction r with
 | nil=>exact .nil
 | @cons p q ps qs h t ih=>
  obtain ⟨h1,h2⟩:=h
  rw [List.filter_cons,List.filter_cons]
  by_cases e:p.1 = k
  ·have a:¬ decide (p.1≠k) = true:=by simp [e]
   have b:¬ decide (q.1≠k) = true:=by simp [h1.symm.trans e]
   rw [if_neg a,if_neg b];exact ih
  ·have e' : ¬ q.1 = k:=fun z=>e (h1.trans z)
   have a:decide (p.1≠k) = true:=by simp [e]
   have b:decide (q.1≠k) = true:=by simp [e']
   rw [if_pos a,if_pos b];exact .cons ⟨h1,h2⟩ ih
theorem KV.keys {kvs:List (κ × V)}{vs:List (κ × Value)}(r:KV kvs vs):kvs.map (·.1) = vs.map (·.1):=by
 unfold KV at r
 induction r with
 | nil=>rfl
 | cons h t ih=>rw [List.map_cons,List.map_cons,ih,h.1]
theorem KV.length {kvs:List (κ × V)}{vs:List (κ × Value)}(r:KV kvs vs):kvs.length = vs.length:=Paired.length r
end
theorem wC {P:Program}{w:World}{k:Key}{u:Value}(r:RelV (kV k) u):(cy P w).is k u = true:=by
 cases k with
 | inl i=>obtain ⟨t,e⟩:=(show ∃ t,u = Value.int i t from r);subst e;exact yH P w i t
 | inr x=>obtain ⟨t,e⟩:=(show ∃ t,u = Value.str x t from r);subst e;exact yI P w x t
theorem qY {P:Program}{w:World}:∀ {ks:List Key}{us:List Value},Vals (ks.map kV) us→ItemsAre (cy P w) ks us
 | [],_,r=>by rw [List.map_nil] at r;cases r;exact .nil
 | k :: ks,_,r=>by
  rw [List.map_cons] at r
  cases r with
  | cons h t=>exact .cons (wC h) (qY t)
abbrev KT (H:Hp):List (List Key × V)→List (List Key × Addr × Value)→Prop:=Paired fun p q=>p.1 = q.1∧H q.2.1 = some (.tup (p.1.map kV))∧RelV p.2 q.2.2
theorem KT.val {H:Hp}{kvs:List (List Key × V)}{xs:List (List Key × Addr × Value)}(r:KT H kvs xs) (k:List Key):pG (m7 kvs k) ((atKey xs k).map (·.2)):=by
 induction r with
 | nil=>exact True.intro
 | @cons p q ps qs h t ih=>
  obtain ⟨h1,_,h2⟩:=h
  by_cases e:p.1 = k
  ·have e' : q.1 = k:=h1.symm.trans e
   have b:atKey (q :: qs) k = some q.2:=by simp [atKey,List.find?_cons,e']
   rw [qm e,b];exact h2
  ·have e' : ¬ q.1 = k:=fun z=>e (h1.trans z)
   have b:atKey (q :: qs) k = atKey qs k:=by simp [atKey,List.find?_cons,e']
   rw [uA e,b];exact ih
theorem KT.repl {H:Hp}{kvs:List (List Key × V)}{xs:List (List Key × Addr × Value)}(r:KT H kvs xs) (k:List Key) {y:V}{u:Value}(ry:RelV y u):
  KT H (kvs.map fun kv=>if kv.1 = k then (kv.1,y) else kv) (xs.map (putAt k u)):=by
 induction r with
 | nil=>exact .nil
 | @cons p q ps qs h t ih=>
  rw [List.map_cons,List.map_cons]
  refine .cons ?_ ih
  obtain ⟨h1,h2,h3⟩:=h
  unfold putAt
  by_cases e:p.1 = k
  ·rw [if_pos e,if_pos (h1.symm.trans e)];exact ⟨h1,h2,ry⟩
  ·rw [if_neg e,if_neg (fun z=>e (h1.trans z))];exact ⟨h1,h2,h3⟩
theorem KT.put {H:Hp}{kvs:List (List Key × V)}{xs:List (List Key × Addr × Value)}(r:KT H kvs xs) (k:List Key) {b:Addr}{y:V}{u:Value}(hb:H b = some (.tup (k.map kV))) (ry:RelV y u):
  KT H (putK kvs k y) (storedH xs k b u):=by
 have e:(kvs.any fun kv=>decide (kv.1 = k)) = (atKey xs k).isSome:=by
  rw [zx,(r.val k).Dn,Option.isSome_map]
 unfold putK storedH
 rw [e]
 by_cases q:(atKey xs k).isSome = true
 ·rw [if_pos q,if_pos q];exact r.repl k ry
 ·rw [if_neg q,if_neg q];exact Paired.snoc r ⟨rfl,hb,ry⟩
theorem KT.keeps {H H' : Hp} {kvs:List (List Key × V)}{xs:List (List Key × Addr × Value)}(r:KT H kvs xs) (ht:∀ b ys,H b = some (.tup ys)→H' b = some (.tup ys)):KT H' kvs xs:=
 Paired.NX r fun _ _ z=>⟨z.1,ht _ _ z.2.1,z.2.2⟩
section
variable {P:Program}{w:World}{H:Hp}{h:Heap}{a:Addr}
theorem ML {u:HO}(ok:oW P w H h) (e:Rd H a u):cC P w H h a u:=e.ok ok
theorem zA {kvs:List (Key × V)}(ok:oW P w H h) (e:Rd H a (.dK kvs)):kvs.length≤sizeLine∧(a == sysModules) = false∧∃ vs,KV kvs vs∧h.DictOf (cy P w) a vs:=
 show cC P w H h a (.dK kvs) from ML ok e
theorem RX {kvs:List (Key × V)}(ok:oW P w H h) (e:H a = some (.dK kvs)):kvs.length≤sizeLine∧(a == sysModules) = false∧∃ vs,KV kvs vs∧h.DictOf (cy P w) a vs:=zA ok (.inl e)
theorem A8 {ks:List Key}(ok:oW P w H h) (e:H a = some (.tup (ks.map kV))):(tupleKind (cy P w)).is h ks a:=by
 obtain ⟨_,its,r,⟨o,h1,h2,n,h3⟩,_⟩:=(show cC P w H h a (.tup (ks.map kV)) from ok a _ e)
 exact ⟨o,its.toArray,n,h1,h2,h3,by simpa using qY r⟩
theorem Cu {kvs:List (List Key × V)}(ok:oW P w H h) (e:Rd H a (.dT kvs)):kvs.length≤sizeLine∧(a == sysModules) = false∧
  ∃ xs,KT H kvs xs∧h.DictOfH (tupleKind (cy P w)) a xs:=by
 obtain ⟨z,y,xs,r,o,es,ep,h1,h2,h3,h4,h5⟩:=(show cC P w H h a (.dT kvs) from ML ok e)
 refine ⟨z,y,xs,r,o,es,ep,h1,h2,h3,h4,fun x hx=>?_,h5⟩
 have all:∀ {l:List (List Key × V)}{m:List (List Key × Addr × Value)},KT H l m→∀ x∈m,(tupleKind (cy P w)).is h x.1 x.2.1:=by
  intro l m q
  induction q with
  | nil=>intro x hx;exact nomatch hx
  | @cons p q ps qs hq t ih=>
   intro x hx
   rcases List.mem_cons.mp hx with e | hx
   ·subst e
    exact A8 ok (by rw [← hq.1];exact hq.2.1)
   ·exact ih x hx
 exact all r x hx
end
def uB (H:Hp) (a:Addr) (y:V) (r:Option V):Prop:=
 (∃ kvs k,Rd H a (.dK kvs)∧y = kV k∧r = m7 kvs k)∨∃ kvs k b,Rd H a (.dT kvs)∧y = .ref b∧H b = some (.tup (k.map kV))∧r = m7 kvs k
def IK (H:Hp) (a:Addr) (y v:V) (H' : Hp):Prop:=
 (∃ kvs k,H a = some (.dK kvs)∧y = kV k∧kvs.length < sizeLine∧H' = upd H a (.dK (putK kvs k v)))∨
 ∃ kvs k b,H a = some (.dT kvs)∧y = .ref b∧H b = some (.tup (k.map kV))∧kvs.length < sizeLine∧H' = upd H a (.dT (putK kvs k v))
theorem uB.k {H:Hp}{a:Addr}{kvs:List (Key × V)}{k:Key}(e:H a = some (.dK kvs)):uB H a (kV k) (m7 kvs k):=.inl ⟨kvs,k,.inl e,rfl,rfl⟩
theorem uB.t {H:Hp}{a b:Addr}{kvs:List (List Key × V)}{k:List Key}(e:H a = some (.dT kvs)) (eb:H b = some (.tup (k.map kV))):uB H a (.ref b) (m7 kvs k):=.inr ⟨kvs,k,b,.inl e,rfl,eb,rfl⟩
theorem IK.k {H:Hp}{a:Addr}{kvs:List (Key × V)}{k:Key}{v:V}(e:H a = some (.dK kvs)) (hl:kvs.length < sizeLine):IK H a (kV k) v (upd H a (.dK (putK kvs k v))):=.inl ⟨kvs,k,e,rfl,hl,rfl⟩
theorem IK.t {H:Hp}{a b:Addr}{kvs:List (List Key × V)}{k:List Key}{v:V}(e:H a = some (.dT kvs)) (eb:H b = some (.tup (k.map kV))) (hl:kvs.length < sizeLine):
  IK H a (.ref b) v (upd H a (.dT (putK kvs k v))):=.inr ⟨kvs,k,b,e,rfl,eb,hl,rfl⟩
section
variable {X:Cx}{pins:List (Addr × Obj)}{σ:St}{H:Hp}{s:Shared}{a:Addr}{y v:V}{u r:Value}{o:Option V}{A:Around}{E:Value→Shared→Prop}
theorem Inv.big (I:Inv X pins σ H s):sysModules < s.heap.objs.size:=by
 have h:mainGlobals < s.heap.objs.size:=(I.mod.glob.keeps I.bk).lt
 exact Nat.lt_trans (by decide) h
theorem Dp {Q:Value→Shared→Prop}(hu:A.units + 1 < cLine) (I:Inv X pins σ H s) (g:uB H a y (some v)) (ry:RelV y u) (h:∀ w' s',Inv X pins σ H s' → RelV v w' → Q w' s'):
  wpAny (model X.prog X.w) A (getItem (.ref a) u) Q E s:=by
 rcases g with ⟨kvs,k,e,ey,l⟩ | ⟨kvs,k,b,e,ey,eb,l⟩
 ·subst ey
  obtain ⟨z,hd,vs,rel,dd⟩:=zA I.hok e
  obtain ⟨w',hw,rw'⟩:=pG.some_of (v:=v) (o:=valueAt vs k) (by rw [l];exact rel.val k)
  exact wpAny_getItem_of (wC ry) dd.mapOf hw (h w' _ (I.tok _) rw')
 ·subst ey
  cases (show u = Value.ref b from ry)
  obtain ⟨z,hd,xs,rel,dd⟩:=Cu I.hok e
  obtain ⟨w',hw,rw'⟩:=pG.some_of (v:=v) (o:=(atKey xs k).map (·.2)) (by rw [l];exact rel.val k)
  obtain ⟨p,hp,hp2⟩:=Option.map_eq_some_iff.mp hw
  refine wpAny_getItem_heap (tupleKind_room_in1 hu) (A8 I.hok eb) dd hp ?_
  rw [hp2]
  exact h w' _ (I.tok _) rw'
theorem Cv {h' : Heap} {t' : Nat} {ob:HO}(I:Inv X pins σ H s) (mu:Q4 (H a)) (hs:Heap.SameBut a s.heap h') (he:∃ q,h'.get? a = some q) (new:cC X.prog X.w (upd H a ob) h' a ob):
  Inv X pins σ (upd H a ob) { s with heap:=h',toks:=t' }:=
 I.write (x:=a) (e:=a) mu (.inl rfl) (fun b q hb z=>(hs.2 b hb).trans z) he new
theorem OI {P:Program}{w:World}{H' : Hp} {h' : Heap} {kvs:List (Key × V)}{vs:List (Key × Value)}(z:kvs.length≤sizeLine) (hd:(a == sysModules) = false) (rel:KV kvs vs) (dd:h'.DictOf (cy P w) a vs):
  cC P w H' h' a (.dK kvs):=⟨z,hd,vs,rel,dd⟩
end
section
variable {X:Cx}{pins:List (Addr × Obj)}{σ:St}{H:Hp}{s:Shared}{a:Addr}{kvs:List (Key × V)}{k:Key}{u:Value}{A:Around}{E:Value→Shared→Prop}
end
def RY (i:Expr):Prop:=∀ ov iv,subscripted i false ov iv = operate [ov,iv] (getItem ov iv)
theorem IL {prog:Program}{w:World}{A:Around}{E:Value→Shared→Prop}{s:Shared}{env:Env}{value slice:Expr}{pos:Pos}{T id:String}{Q:Value→Shared→Prop}
  (hl:typeLookup (.type T) "__getitem__" = pure (some (.builtin id))) (hs:RY slice)
  (h:wpAny (model prog w) A (eval value env) (fun o s₁=>wpAny (model prog w) A (eval slice env) (fun i s₂=>s₂.TypeIs o T∧wpAny (model prog w) A (getItem o i) Q E s₂) E s₁) E s):
  wpAny (model prog w) A (eval (.Subscript value slice pos) env) Q E s:=by
 refine Subscript_ (wpAny_mono h (fun o s₁ h₁=>wpAny_mono h₁ (fun i s₂ h₂=>?_) fun _ _ x=>x) fun _ _ x=>x)
 obtain ⟨hT,h₂⟩:=h₂
 unfold subscriptTail
 refine wpAny_bind ?_
 rw [getitemInPython_of_ne hT.not_modules]
 refine wpAny_bind (wpAny_specialOf hT hl ?_)
 have fin:wpAny (model prog w) A (subscripted slice false o i) (fun r s₃=>wpAny (model prog w) A (letTemporaryGo value o r >>= fun _=>pure r) Q E s₃) E s₂:=by
  rw [hs o i]
  exact wpAny_operating (wpAny_mono h₂ (fun r s₃ h₃=>wpAny_bind (wpAny_letTemporaryGo (wpAny_pure h₃))) fun _ _ x=>x)
 first
  | exact wpAny_pure (wpAny_bind fin)
  | exact wpAny_bind (wpAny_pure (wpAny_bind fin))
  | exact wpAny_bind fin
theorem zB {X:Cx}{pins:List (Addr × Obj)}{σ:St}{H:Hp}{s:Shared}{a:Addr}{y:V}{o:Option V}(I:Inv X pins σ H s) (g:uB H a y o):s.TypeIs (.ref a) "dict" := by
 rcases g with ⟨kvs,k,e,_,_⟩ | ⟨kvs,k,b,e,_,_,_⟩
 ·obtain ⟨_,_,vs,_,dd⟩:=zA I.hok e
  exact dd.typeIs
 ·obtain ⟨_,_,xs,_,dd⟩:=Cu I.hok e
  exact dd.typeIs
def MM (td ty:TE):TE:=fun σ H Q=>td σ H fun x H1=>ty σ H1 fun y H2=>∃ a v,x = .ref a∧uB H2 a y (some v)∧Q v H2
section
variable {X:Cx}{o i e value:Expr}{pos pos' tpos:Pos} {td ty tv:TE}
theorem IM (hu:X.A.units + 1 < cLine) (ho:PE X o td) (hi:PE X i ty) (hs:RY i):PE X (.Subscript o i pos) (MM td ty):=by
 intro pins s σ H Q I h
 refine IL PySem.F.slot_dict_getitem.lookup hs (cJ (ho pins s σ H _ I h) fun u s1 ⟨x,H1,I1,rx,q1⟩=>cJ (hi pins s1 σ H1 _ I1 q1) fun iv s2 ⟨y,H2,I2,ry,a,v,ex,g,q2⟩=>?_)
 subst ex
 obtain rfl:u = Value.ref a:=rx
 exact ⟨zB I2 g,Dp hu I2 g ry fun w' s3 I3 rw' => ⟨v,H2,I3,rw',q2⟩⟩
end
theorem Fv {P:Program}{w:World}{H:Hp}(h:Heap) (hb:sysModules < h.objs.size):cC P w H (h.push { cls:=.type "dict",data:=.dict #[] }) h.objs.size (.dK []):=
 ⟨Nat.zero_le _,beq_eq_false_iff_ne.mpr (Ne.symm (Nat.ne_of_lt hb)),[],.nil,Heap.DictOf.new h⟩
section
variable {X:Cx}{pos:Pos}
end
def xP:List (TE × TE)→St→Hp→(List (V × V)→Hp→Prop)→Prop
 | [],_,H,Q=>Q [] H
 | (tk,tv) :: r,σ,H,Q=>tk σ H fun x H1=>tv σ H1 fun y H2=>xP r σ H2 fun ps H3=>Q ((x,y) :: ps) H3
abbrev VV:List (V × V)→List (Value × Value)→Prop:=Paired fun p q=>RelV p.1 q.1∧RelV p.2 q.2
def Yd (X:Cx) (pos:Pos) (keys:List (Option Expr)) (values:List Expr) (AE:List (TE × TE)):Prop:=
 ∀ (pins:List (Addr × Obj)) (s:Shared) (σ:St) (H:Hp) (Q:List (V × V)→Hp→Prop),Inv X pins σ H s→xP AE σ H Q→
  wpAny (model X.prog X.w) X.A (evalPairs (pairTrees keys values X.env pos)) (fun vs s' => ∃ ps H',Inv X pins σ H' s' ∧ VV ps vs∧Q ps H') X.xe s
theorem Cw {X:Cx}{pos:Pos}:Yd X pos [] [] []:=fun pins s σ H Q I h=>pairTrees_nil_walk ⟨[],H,I,.nil,h⟩
theorem lD {X:Cx}{pos:Pos}{k v:Expr}{ks:List (Option Expr)}{vs:List Expr}{tk tv:TE}{AE:List (TE × TE)}(hk:PE X k tk) (hv:PE X v tv) (hr:Yd X pos ks vs AE):
  Yd X pos (some k :: ks) (v :: vs) ((tk,tv) :: AE):=fun pins s σ H Q I h=>
 pairTrees_cons_walk (cJ (hk pins s σ H _ I h) fun u s1 ⟨x,H1,I1,rx,q1⟩=>cJ (hv pins s1 σ H1 _ I1 q1) fun w2 s2 ⟨y,H2,I2,ry,q2⟩=>
  cJ (hr pins s2 σ H2 _ I2 q2) fun ws s3 ⟨ps,H3,I3,rel,q3⟩=>⟨(x,y) :: ps,H3,I3,.cons ⟨rx,ry⟩ rel,q3⟩)
def gQ (kvs more:List (Key × V)):List (Key × V):=more.foldl (fun acc kv=>putK acc kv.1 kv.2) kvs
theorem KV.merge:∀ {more:List (Key × V)}{rs:List (Key × Value)}{kvs:List (Key × V)}{vs:List (Key × Value)},KV more rs→KV kvs vs→KV (gQ kvs more) (merged vs rs):=by
 intro more rs kvs vs r
 unfold KV at r
 induction r generalizing kvs vs with
 | nil=>intro q;exact q
 | @cons p q ps qs h t ih=>
  intro r0
  have e:KV (putK kvs p.1 p.2) (stored vs q.1 q.2):=by
   have:=r0.put p.1 h.2
   rw [← h.1];exact this
  exact ih e
theorem o7:∀ (more kvs:List (Key × V)),(gQ kvs more).length≤kvs.length + more.length
 | [],kvs=>by show kvs.length≤kvs.length + 0;omega
 | p :: r,kvs=>by
  have h1:=o7 r (putK kvs p.1 p.2)
  have h2:=zy kvs p.1 p.2
  show (gQ (putK kvs p.1 p.2) r).length≤_
  rw [List.length_cons];omega
theorem uC {P:Program}{w:World}:∀ {kvs:List (Key × V)}{ws:List (Value × Value)},VV (kvs.map fun kv=>(kV kv.1,kv.2)) ws→∃ rs,Carries (cy P w) ws rs∧KV kvs rs
 | [],_,r=>by rw [List.map_nil] at r;cases r;exact ⟨[],True.intro,.nil⟩
 | p :: kvs,_,r=>by
  rw [List.map_cons] at r
  cases r with
  | @cons a b as bs h t=>
   obtain ⟨rs,c,q⟩:=uC (P:=P) (w:=w) t
   obtain ⟨b1,b2⟩:=b
   exact ⟨(p.1,b2) :: rs,⟨wC h.1,rfl,c⟩,.cons ⟨rfl,h.2⟩ q⟩
def MN (AE:List (TE × TE)):TE:=fun σ H Q=>∀ p,H p = none→xP AE σ (upd H p (.dK [])) fun ps H2=>H2 p = some (.dK [])∧∃ kvs:List (Key × V),ps = kvs.map (fun kv=>(kV kv.1,kv.2))∧kvs.length≤15∧Q (.ref p) (upd H2 p (.dK (gQ [] kvs)))
theorem Cy {X:Cx}{pos:Pos}{keys:List (Option Expr)}{values:List Expr}{AE:List (TE × TE)}(h:Yd X pos keys values AE) (hall:keys.all (·.isSome) = true) (hl:keys.length = values.length) (h0:keys≠[])
  (h15:keys.length≤15):PE X (.Dict keys values pos) (MN AE):=by
 intro pins s σ H Q I q
 have hn:=I.hok.fresh (Nat.le_refl s.heap.objs.size)
 have I1:=I.laid (a:=s.heap.objs.size) (o:=.dK []) (h' := s.heap.push { cls:=.type "dict",data:=.dict #[] }) (t' := s.toks) (fun _ _ q=>Heap.get?_push_of_some _ q) (Nat.le_refl _) (Fv s.heap I.big)
 refine wpAny_Dict_walk (knd:=cy X.prog X.w) hall hl h0 h15 (cJ (h pins _ σ _ _ I1 (q _ hn)) fun ws s2 ⟨ps,H2,I2,rel,e,kvs,ep,lk,q2⟩=>?_)
 subst ep
 obtain ⟨rs,c,rk⟩:=uC (P:=X.prog) (w:=X.w) rel
 obtain ⟨z,hd,vs0,r0,dd⟩:=RX I2.hok e
 cases r0
 refine ⟨rs,c,dd,fun h' RZ hs=>⟨.ref s.heap.objs.size,_,?_,rfl,q2⟩⟩
 have hz:(gQ [] kvs).length≤sizeLine:=by
  have h1:=o7 kvs []
  rw [List.length_nil] at h1
  rw [sizeLine_eq];omega
 have he:∃ q,h'.get? s.heap.objs.size = some q:=let ⟨q,_,_,hq,_⟩:=RZ;⟨q,hq⟩
 exact Cv I2 (by rw [e];exact True.intro) hs he (OI hz hd (rk.merge .nil) RZ)
structure M1 (X:Cx) (o:Expr) (m:Str) (apos:Pos) (e:Expr) (cpos:Pos):Prop where
 base:attributeBase o m X.env (eval o X.env) = eval o X.env
 few:((backTo cpos (starEach [e] X.env)).all (fun x=>!x.1) && (backToKw cpos (keywordEach [] X.env)).all (fun x=>x.1.isSome)
  && decide (([e]:List Expr).length + ([]:List Keyword).length + (if ([]:List Keyword).isEmpty then 0 else 1) < 30)) = true
 line:(apos.endLine == cpos.line) = true
 trees:backTo cpos (starEach [e] X.env) = [(false,eval e X.env)]
structure M2 (X:Cx) (o:Expr) (m:Str) (apos:Pos) (e f:Expr) (cpos:Pos):Prop where
 base:attributeBase o m X.env (eval o X.env) = eval o X.env
 few:((backTo cpos (starEach [e,f] X.env)).all (fun x=>!x.1) && (backToKw cpos (keywordEach [] X.env)).all (fun x=>x.1.isSome)
  && decide (([e,f]:List Expr).length + ([]:List Keyword).length + (if ([]:List Keyword).isEmpty then 0 else 1) < 30)) = true
 line:(apos.endLine == cpos.line) = true
 trees:backTo cpos (starEach [e,f] X.env) = [(false,eval e X.env),(false,eval f X.env)]
def IsD (H:Hp) (a:Addr):Prop:=(∃ kvs,Rd H a (.dK kvs))∨∃ kvs,Rd H a (.dT kvs)
theorem OJ {X:Cx}{pins:List (Addr × Obj)}{σ:St}{H:Hp}{s:Shared}{a:Addr}(I:Inv X pins σ H s) (d:IsD H a):
  s.TypeIs (.ref a) "dict" ∧ (∀ b,Value.ref a = .ref b→∃ ob,s.heap.get? b = some ob∧ob.dict = none)∧(a == sysModules) = false:=by
 rcases d with ⟨kvs,e⟩ | ⟨kvs,e⟩
 ·obtain ⟨_,hd,vs,_,dd⟩:=zA I.hok e
  refine ⟨dd.typeIs,fun b q=>?_,hd⟩
  cases q
  obtain ⟨ob,_,_,h1,h2,_⟩:=dd
  exact ⟨ob,h1,h2.2.1⟩
 ·obtain ⟨_,hd,xs,_,dd⟩:=Cu I.hok e
  refine ⟨dd.typeIs,fun b q=>?_,hd⟩
  cases q
  obtain ⟨ob,_,_,h1,h2,_⟩:=dd
  exact ⟨ob,h1,h2.2.1⟩
section
variable {X:Cx}{pins:List (Addr × Obj)}{σ:St}{H:Hp}{s:Shared}{a:Addr}{y d:V}{u r:Value}{o:Option V}{A:Around}{E:Value→Shared→Prop}
theorem OL {Q:Value→Shared→Prop}(hu:A.units + 1 < cLine) (I:Inv X pins σ H s) (g:uB H a y o) (ry:RelV y u) (rd:RelV d r) (h:∀ w' s',Inv X pins σ H s' → RelV (o.getD d) w' → Q w' s'):
  wpAny (model X.prog X.w) A (call (.builtin "dict.get") [.ref a,u,r]) Q E s:=by
 rcases g with ⟨kvs,k,e,ey,l⟩ | ⟨kvs,k,b,e,ey,eb,l⟩
 ·subst ey
  obtain ⟨z,hd,vs,rel,dd⟩:=zA I.hok e
  refine call_meetsIn PySem.F.slot_dict_get dd.typeIs PySem.F.entry_dict_get (PySem.F.args_dict_get_3 _ _ _) (meets_dict_get_default (cy X.prog X.w) a (wC ry) hd r) ⟨_,dd.mapOf,h _ _ (I.tok _) ?_⟩
  rw [l]
  exact (rel.val k).getD rd
 ·subst ey
  cases (show u = Value.ref b from ry)
  obtain ⟨z,hd,xs,rel,dd⟩:=Cu I.hok e
  refine call_meetsIn PySem.F.slot_dict_get dd.typeIs PySem.F.entry_dict_get (PySem.F.args_dict_get_3 _ _ _) (meetsH_dict_get_default (tupleKind (cy X.prog X.w)) a b hd r) ⟨tupleKind_room_in1 hu,k,xs,A8 I.hok eb,dd,h _ _ (I.tok _) ?_⟩
  rw [l]
  exact (rel.val k).getD rd
end
def OM (td ty tx:TE):TE:=fun σ H Q=>td σ H fun x H1=>∃ a,x = .ref a∧IsD H1 a∧ty σ H1 fun y H2=>tx σ H2 fun z H3=>∃ o,uB H3 a y o∧Q (o.getD z) H3
section
variable {X:Cx}{o e f:Expr}{apos cpos:Pos}{td ty tx:TE}
theorem Fw (hu:X.A.units + 1 < cLine) (ho:PE X o td) (he:PE X e ty) (hf:PE X f tx) (m:M2 X o "get" apos e f cpos):PE X (.Call (.Attribute o "get" apos) [e,f] [] cpos) (OM td ty tx):=by
 intro pins s σ H Q I h
 refine wpAny_Call_method m.base m.few m.line PySem.F.plainAttrs_dict PySem.F.slot_dict_get PySem.F.type_dict_get (cJ (ho pins s σ H _ I h) fun u s1 ⟨x,H1,I1,rx,a,ex,d,q1⟩=>?_)
 subst ex
 obtain rfl:u = Value.ref a:=rx
 obtain ⟨t1,t2,_⟩:=OJ I1 d
 refine ⟨t1,t2,?_⟩
 rw [m.trees]
 refine Calls.callWith_builtin rfl (Calls.evalArgs_plain (Calls.spliced_cons (cJ (he pins s1 σ H1 _ I1 q1) fun iv s2 ⟨y,H2,I2,ry,q2⟩=>
  Calls.spliced_cons (cJ (hf pins s2 σ H2 _ I2 q2) fun fv s3 ⟨z,H3,I3,rz,ov,g,q3⟩=>Calls.spliced_nil ?_))))
 exact OL hu I3 g ry rz fun w' s4 I4 rw' => ⟨_,H3,I4,rw',q3⟩
end
section
variable {X:Cx}{pins:List (Addr × Obj)}{σ:St}{H:Hp}{s:Shared}{a:Addr}{kvs:List (Key × V)}{A:Around}{E:Value→Shared→Prop}
end
section
variable {X:Cx}{pins:List (Addr × Obj)}{σ:St}{H:Hp}{s:Shared}{a:Addr}{y:V}{u:Value}{A:Around}{E:Value→Shared→Prop}
end
end L2
namespace Nm
open PySem L2 Lw Dig
def uD (w:Str):Int:=((m7 (gQ [] [(Sum.inr (Str.ofString "order"),V.int 1),(Sum.inr (Str.ofString "case"),V.int 2),(Sum.inr (Str.ofString "mark"),V.int 3)]) (Sum.inr w)).getD (V.int 1)) |> fun v=>match v with | .int i=>i | _=>1
def room (ws:List Str):Int:=(ws.map uD).sum
theorem IP (w:Str):(m7 (gQ [] [(Sum.inr (Str.ofString "order"),V.int 1),(Sum.inr (Str.ofString "case"),V.int 2),(Sum.inr (Str.ofString "mark"),V.int 3)]) (Sum.inr w)).getD (V.int 1) = V.int (uD w):=by
 have e:gQ [] [((Sum.inr (Str.ofString "order"):Key),V.int 1),(Sum.inr (Str.ofString "case"),V.int 2),(Sum.inr (Str.ofString "mark"),V.int 3)] = [(Sum.inr (Str.ofString "order"),V.int 1),(Sum.inr (Str.ofString "case"),V.int 2),(Sum.inr (Str.ofString "mark"),V.int 3)]:=by rfl
 unfold uD
 rw [e]
 unfold m7
 by_cases h1:Str.ofString "order" = w
 ·subst h1;simp
 ·by_cases h2:Str.ofString "case" = w
  ·subst h2;simp [h1]
  ·by_cases h3:Str.ofString "mark" = w
   ·subst h3;simp [h1,h2]
   ·simp [h1,h2,h3]
def A9 (K:PySem.W.Frag):Sp:=fun vs H Q _=>∃ (p:Addr) (ws:List Str),vs = [.ref p]∧H p = some (.lst (ws.map V.str))∧ws.length≤1000∧∀ H',aN H H' → Q (.int (room ws)) H'
structure qo (H:Hp) (p:Addr) (b:Int × Int):Prop where
 tup:H p = some (.tup [.int b.1,.int b.2])
 pos:1≤b.2
 gcd:Int.gcd b.1 b.2 = 1
 s1:b.1.natAbs < 10 ^ 20
 s2:b.2.natAbs≤10 ^ 20
theorem qo.kept {d c p:Addr}{b:Int × Int}{H H' : Hp} (n:qo H p b) (D:bq H d c) (k:bK d c H H'):qo H' p b:=by
 obtain ⟨i,ns,h1,h2,_⟩:=D.ex
 exact ⟨k _ _ n.tup (tO n.tup h1 (by intro z;cases z)) (tO n.tup h2 (by intro z;cases z)),n.pos,n.gcd,n.s1,n.s2⟩
theorem qo.same {p:Addr}{b:Int × Int}{H H' : Hp} (n:qo H p b) (k:aN H H'):qo H' p b:=⟨k _ _ n.tup,n.pos,n.gcd,n.s1,n.s2⟩
def wD:Sp:=fun vs H Q _=>∃ (d c:Addr),vs = [.ref d]∧bq H d c∧
 ∀ (ps:List Addr) (l:Addr) (H' : Hp),1≤ps.length→ps.length≤4→(∀ p∈ps,∃ b,qo H' p b)→H l = none→H' l = some (.lst (ps.map V.ref))→bq H' d c→bK d c H H' → Q (.ref l) H'
def xQ (H:Hp):List Addr→List (List Str)→Prop
 | [],[]=>True
 | a :: as,o :: os=>H a = some (.lst (o.map V.str))∧xQ H as os
 | _,_=>False
theorem xQ.same {H H' : Hp} (s:aN H H'):∀ {as:List Addr}{os:List (List Str)},xQ H as os→xQ H' as os
 | [],[],_=>True.intro
 | _ :: _,_ :: _,h=>⟨s _ _ h.1,h.2.same s⟩
end Nm
namespace L2
open PySem PySem.Spec PyProof.Rows
section
variable {prog:Program}{w:World}{A:Around}{E:Value→Shared→Prop}{s:Shared}
theorem IQ {a:Addr}{stored:List Value}{Q:Bool→Shared→Prop}(hq:∀ Q:Bool→Shared→Prop,Q true s→wpAny (model prog w) A (eqIsQuiet 8 (.ref a)) Q E s) (hst:∀ v∈stored,∃ x t,v = .str x t) (h:Q false s):wpAny (model prog w) A (tableMayTell (.ref a) stored) Q E s:=by
 unfold tableMayTell
 split
 ·exact wpAny_pure h
 ·refine wpAny_bind (hq _ ?_)
  simp only [Bool.not_true,Bool.false_eq_true,if_false]
  refine wpAny_bind ?_
  refine wpAny_forIn_list _ (fun rest r s' => s' = s∧r = (none,())∧∀ v∈rest,∃ x t,v = .str x t) _ ?_ ?_ _ _ ⟨rfl,rfl,hst⟩
  ·rintro x rest r s' ⟨rfl,rfl,hr⟩
   obtain ⟨z,t,rfl⟩:=hr x List.mem_cons_self
   refine wpAny_bind ?_
   unfold eqIsQuiet
   refine wpAny_pure ?_
   simp only [Bool.not_true,Bool.false_eq_true,if_false]
   exact wpAny_pure ⟨rfl,rfl,fun v hv=>hr v (List.mem_cons_of_mem _ hv)⟩
  ·rintro r s' ⟨rfl,rfl,_⟩
   exact wpAny_pure h
theorem IT {d a:Addr}{o:Obj}{es:Array DictEntry}{ep:Nat}{hh:Int}{Q:Option Nat→Shared→Prop}(ho:s.heap.get? d = some o) (hd:o.data = .dict es ep) (hk:∀ e∈es,∃ x t,e.key = .str x t)
  (hq:∀ Q:Bool→Shared→Prop,Q true s→wpAny (model prog w) A (eqIsQuiet 8 (.ref a)) Q E s) (heq:∀ (x:Str) (t:Tok) (Q:Bool→Shared→Prop),Q false s→wpAny (model prog w) A (eqBool (.str x t) (.ref a)) Q E s) (h:Q none s):
  wpAny (model prog w) A (dictFind d (.ref a) hh) Q E s:=by
 have hany:¬ (es.any fun e=>e.key == Value.ref a && e.hash != hh) = true:=by
  rw [← Array.any_toList,List.any_eq_true]
  rintro ⟨e,hin,hc⟩
  obtain ⟨x,t,ek⟩:=hk e (Array.mem_toList_iff.mp hin)
  rw [ek] at hc
  simp at hc
 have hst:∀ v∈(placesWithHash es.size (fun i=>es[i]?.map (·.hash)) hh).filterMap (fun i=>es[i]?.map (·.key)),∃ x t,v = .str x t:=by
  intro v hv
  obtain ⟨i,_,hi⟩:=List.mem_filterMap.mp hv
  cases hei:es[i]? with
  | none=>rw [hei] at hi;cases hi
  | some e=>
   rw [hei] at hi
   obtain rfl:e.key = v:=by simpa using hi
   exact hk e (Array.mem_of_getElem? hei)
 unfold dictFind
 try with_reducible refine wpAny_holding ?_
 refine wpAny_bind (wpAny_dictEntries ho hd ?_)
 dsimp only
 rw [if_neg (show ¬ ((Value.ref a :: (placesWithHash es.size (fun i=>es[i]?.map (·.hash)) hh).filterMap (fun i=>es[i]?.map (·.key))).all carriedByValue) = true by simp [carriedByValue])]
 rw [if_neg hany]
 by_cases hone:(((placesWithHash es.size (fun i=>es[i]?.map (·.hash)) hh).filterMap (fun i=>es[i]?.map (·.key))) == [Value.ref a]) = true <;>
 (first | rw [if_pos hone] | rw [if_neg hone]) <;> (first | refine wpAny_bind (wpAny_pure ?_) | refine wpAny_bind (IQ hq hst ?_)) <;> (
  rw [if_neg (by simp)]
  refine wpAny_bind ?_
  refine wpAny_forIn_list _ (fun rest b s' => s' = s∧b = (none,none)) _ ?_ ?_ _ _ ⟨rfl,rfl⟩
  ·rintro x rest b s' ⟨rfl,rfl⟩
   cases hex:es[x]? with
   | none=>exact wpAny_pure ⟨rfl,rfl⟩
   | some e=>
    obtain ⟨z,t,ek⟩:=hk e (Array.mem_of_getElem? hex)
    dsimp only
    by_cases hh' : (e.hash == hh) = true
    ·rw [if_pos hh']
     rw [ek]
     refine wpAny_bind (wpAny_dictEpoch ho hd (wpAny_bind (heq z t _ (wpAny_bind (wpAny_dictEpoch ho hd ?_)))))
     show wpAny _ _ (if (ep != ep) = true then _ else _) _ E _
     rw [if_neg (by simp)]
     simp only [Bool.false_eq_true,if_false]
     refine wpAny_bind (wpAny_rule ?_)
     first | rw [if_neg (by simp)] | skip
     first
      | exact wpAny_pure ⟨rfl,rfl⟩
      | exact wpAny_bind (wpAny_pure (wpAny_pure ⟨rfl,rfl⟩))
    ·rw [if_neg hh']
     exact wpAny_pure ⟨rfl,rfl⟩
  ·rintro b s' ⟨rfl,rfl⟩
   exact wpAny_pure h)
theorem R0 {d a:Addr}{o:Obj}{es:Array DictEntry}{ep:Nat}{ks:List Key}{Q:Value→Shared→Prop}(hu:A.units + 1 < cLine) (hkey:IsTupleKey (cy prog w) s.heap ks a) (ho:s.heap.get? d = some o) (hc:o.cls = .type "dict") (hd:o.data = .dict es ep) (hs:(d == sysModules) = false)
  (hk:∀ e∈es,∃ x t,e.key = .str x t) (heq:∀ (x:Str) (t:Tok) (s' : Shared),s'.heap = s.heap→SeqAt.EqAt A.in1 s' (.str x t) (.ref a) false) (h:Q (.bool false) { s with toks:=s.toks + (ks.length + 1) }):wpAny (model prog w) A (compareOp .In (.ref a) (.ref d)) Q E s:=by
 have hty:s.TypeIs (.ref d) "dict" := ⟨o,ho,hc⟩
 show wpAny _ _ (do return .bool (← contains (.ref d) (.ref a))) Q E s
 refine wpAny_bind ?_
 unfold contains
 try with_reducible refine wpAny_holding ?_
 refine wpAny_bind (wpAny_specialOf hty slot_dict_contains.lookup ?_)
 show wpAny _ _ (if (some (Value.builtin "dict.__contains__") == some Value.none) = true then _ else _) _ E s
 rw [if_neg (by rw [beq_builtin_none];exact Bool.false_ne_true)]
 refine wpAny_bind (wpAny_callSpecialUnlessNone?_slot (name:=Str.ofString "__contains__") hty slot_dict_contains
  (wpAny_call_entry slot_dict_contains hty entry_dict_contains ?_ (args_dict_contains _ _)))
 show wpAny _ _ (dictGet d (.ref a) >>= _) _ _ s
 refine wpAny_bind ?_
 unfold dictGet
 try with_reducible refine wpAny_holding ?_
 refine wpAny_bind (wpAny_pyHash_tuple (knd:=cy prog w) (A:=A.in1) (show A.units + 1 < cLine from hu) hkey (wpAny_bind (IT (s:={ s with toks:=s.toks + (ks.length + 1) }) ho hd hk (fun Q h=>wpAny_eqIsQuiet_tuple (knd:=cy prog w) hkey h) (fun x t Q h=>heq x t { s with toks:=s.toks + (ks.length + 1) } rfl prog w _ Q h) ?_)))
 refine wpAny_pure ?_
 show wpAny _ _ (Builtin.Dict.pendingKey? d (.ref a) >>= _) _ _ _
 exact wpAny_bind (wpAny_pendingKey_other hs (wpAny_pure ⟨_,rfl,wpAny_truthy_bool (wpAny_pure h)⟩))
end
section
variable {X:Cx}
def R1 (K:PySem.W.Frag) (P:Params):R2:=fun x y H Q=>∃ a g,y = .ref a∧rR K P a g∧((∃ z,x = .str z∧Q (.bl (g z).isSome) H)∨∃ (p:Addr) (b c:Int),x = .ref p∧eV K H p [.int b,.int c]∧Q (.bl false) H)
theorem IU (hu:X.A.units + 64 < cLine):oX X (compareOp .In) (R1 X.K X.w.params):=by
 intro pins s σ H x y v u Q I rx ry h
 obtain ⟨a,g,rfl,D,h⟩:=h
 rcases h with ⟨z,rfl,q⟩ | ⟨p,b,c,rfl,hp,q⟩
 ·exact OF pins s σ H _ _ v u Q I rx ry ⟨z,a,g,rfl,rfl,D,q⟩
 ·cases rx
  cases ry
  obtain ⟨es,n,hl,hk⟩:=D.ex
  obtain ⟨its,rv,pt,hz⟩:=I.tuple hp
  obtain ⟨o,ho,hc,nn,hdt⟩:=id pt
  have ZS:ItemsAre (cy X.prog X.w) [.inl b,.inl c] its:=by
   cases rv with
   | cons r1 r2=>cases r2 with
    | cons r2 r3=>cases r3;exact .cons (wC (k:=.inl b) r1) (.cons (wC (k:=.inl c) r2) .nil)
  refine R0 (by omega) (ks:=[.inl b,.inl c]) ⟨o,its.toArray,nn,ho,hc,hdt,by simpa using ZS⟩ (I.mod.Ec.keeps I.bk _ _ hl) rfl rfl D.lo (fun e he=>?_) (fun x t s' hs' => ?_) ⟨.bl false,H,I.tok _,rfl,q⟩
  ·obtain ⟨x,t,e1,_⟩:=hk.all e (Array.mem_toList_iff.mpr he)
   exact ⟨x,t,e1⟩
  ·refine SeqAt.EqAt.str_tuple (items:=its.toArray) x t (hs'.symm ▸ pt) ?_
   show X.A.units + 1 < cLine
   omega
end
end L2
namespace L2
open PySem PySem.Spec PyProof.Rows
section
variable {prog:Program}{w:World}{A:Around}{E:Value→Shared→Prop}{s:Shared}
end
section
variable {X:Cx}
end
end L2
namespace L2
open PySem PySem.Spec PyProof.Rows
section
variable {prog:Program}{w:World}{A:Around}{E:Value→Shared→Prop}{s:Shared}
end
section
variable {X:Cx}{K:PySem.W.Frag}{e st:Expr}{te:TE}{ts:TO}{p2 pos:Pos}
end
end L2
namespace HT
open PySem PySem.Spec PyProof.Rows
section
variable {prog:Program}{w:World}{A:Around}{E:Value→Shared→Prop}{s:Shared}
end
end HT
namespace L2
open PySem PySem.Spec PyProof.Rows
section
variable {X:Cx}{K:PySem.W.Frag}
theorem ON {σ:St}{G:Hp}{te:TE}{tl th:TO}{ds:List PyData}{lo hi:Option Int}(h:Ev K te σ G (.list ds)) (hl:∀ H (Q:Option Int→Hp→Prop),Q lo H→tl σ H Q) (hh:∀ H (Q:Option Int→Hp→Prop),Q hi H→th σ H Q):
  Ev K (Zy (Iu K) te tl th) σ G (.list ((ds.drop (HT.pJ ds.length 0 lo)).take (HT.pJ ds.length ds.length hi - HT.pJ ds.length 0 lo))):=
 fun G1 H s1 s2 Q k=>h G1 H s1 s2 _ fun v G2 H2 g2 hv=>by
  obtain ⟨p,xs,rfl,hp,hxs⟩:=hv.lst
  have hlen:=hxs.length
  refine hl _ _ (hh _ _ ⟨p,xs,rfl,b9.of (g2.gh _ _ hp),fun q hq=>?_⟩)
  have g:=b8 (o:=.lst (m6 xs lo hi)) g2.gh hq
  refine k _ _ _ (g2.trans g) (cK aE ?_)
  have q:=qQ (HT.pJ ds.length ds.length hi - HT.pJ ds.length 0 lo) (oE (HT.pJ ds.length 0 lo) (hxs.same g.gg))
  rw [← hlen] at q ⊢
  exact q
end
end L2
namespace L2
open PySem PySem.Spec PyProof.Rows
section
variable {K:PySem.W.Frag}{σ:St}{G:Hp}{ta tb:TE}
theorem iZ {t:TA}{b:Bool}(h:xE K t σ G [.bool b]):Ev K (C3 (fun xs H Q=>(∃ i,xs = [.int i]∧Q (.int i) H)∨∃ k,xs = [.bl k]∧Q (.int (if k then 1 else 0)) H) t) σ G (.int (if b then 1 else 0)):=
 ud h fun G1 H xs Q s1 s2 hx k=>by
  obtain ⟨y,r,rfl,hy,hr⟩:=hx.cons
  cases hr.nil
  cases hy.bl
  exact .inr ⟨b,rfl,k _ G1 H (bO.refl s2) (aX _)⟩
end
end L2
namespace Rdo
open PySem L2 Ord Nm
end Rdo
namespace L2
open PySem PySem.Spec PyProof.Rows
structure qp (fr sc:Scope) (ps cap:List Str):Prop where
 kind:sc.kind = .function
 co:sc.isCoroutine = false
 gen:sc.isGenerator = false
 cell:∀ p∈sc.names,p.2≠.cell
 par:∀ y∈ps,sc.names.lookup y = some .local
 free:∀ p∈sc.names,p.2 = .free→fr.names.lookup p.1 = some .cell
 caps:∀ y∈cap,(y,NameKind.free)∈sc.names
 OO:∀ y∈cap,sc.names.lookup y = some .free
 nd:(ps ++ cap).Nodup
def Fx (H:Hp) (f:Addr) (q:Str) (params:Arguments) (body:Expr) (sc:Scope) (cl:List (Str × Addr)):Prop:=
 ∃ (pm ctv:Value) (c' : Addr) (oc:Obj),H f = some (.m8 (PySem.W.kla_obj "<lambda>" q params body sc cl pm c' ctv) (.own f))∧H c' = some (.m8 oc (.own c'))∧wX oc q
structure CellsAre (s:Shared) (H:Hp) (cl:List (Str × Addr)) (cap:List Str) (vals:St):Prop where
 inj:∀ x y c,cl.lookup x = some c→cl.lookup y = some c→x = y
 R3:∀ x c,cl.lookup x = some c→(∃ v,s.heap.IsCell c v)∧H c = none
 val:∀ (i:Nat) (y:Str) (v:V),cap[i]? = some y→vals[i]? = some (some v)→∃ c u,cl.lookup y = some c∧s.heap.IsCell c (some u)∧RelV v u
theorem zC {P:Program}{w:World}{H:Hp}{h:Heap}{c:Addr}{oc:Obj}{q:Str}(ok:oW P w H h) (e:H c = some (.m8 oc (.own c))) (hc:wX oc q):h.CodeRec (.ref c) q:=by
 obtain ⟨e1,_⟩:=ok c _ e
 obtain ⟨vs,t,d1,d2⟩:=hc
 exact ⟨c,oc,vs,t,rfl,e1,d1,d2⟩
theorem CellsAre.un {s s' : Shared} {H H' : Hp} {cl:List (Str × Addr)}{cap:List Str}{vals:St}{fs:List Addr}(C:CellsAre s H cl cap vals) (u:Un fs [] H H' s.heap s'.heap):CellsAre s' H' cl cap vals:=by
 have kc:∀ c v,H c = none→s.heap.IsCell c v→s'.heap.IsCell c v:=fun c v n ⟨o,ho,hd⟩=>by
  obtain ⟨sl,e⟩:=u.any ho n (by simp)
  exact ⟨_,e,hd⟩
 refine ⟨C.inj,fun x c h=>?_,fun i y v h1 h2=>?_⟩
 ·obtain ⟨⟨v,hv⟩,n⟩:=C.R3 x c h
  obtain ⟨o,ho,hd⟩:=id hv
  exact ⟨⟨v,kc c v n hv⟩,u.free c o ho n (by simp)⟩
 ·obtain ⟨c,w,e1,e2,r⟩:=C.val i y v h1 h2
  exact ⟨c,w,e1,kc c _ (C.R3 y c e1).2 e2,r⟩
theorem Fx.same {H H' : Hp} {f:Addr}{q:Str}{params:Arguments}{body:Expr}{sc:Scope}{cl:List (Str × Addr)}(L:Fx H f q params body sc cl) (k:∀ b o u,H b = some (.m8 o u)→H' b = some (.m8 o u)):Fx H' f q params body sc cl:=
 let ⟨pm,ctv,c',oc,h1,h2,h3⟩:=L;⟨pm,ctv,c',oc,k _ _ _ h1,k _ _ _ h2,h3⟩
theorem lookup_mem {α:Type}{y:Str}{u:α}:∀ {l:List (Str × α)},(l.map (·.1)).Nodup→(y,u)∈l→l.lookup y = some u
 | [],_,h=>by simp at h
 | (z,v) :: l,nd,h=>by
  rw [List.lookup_cons]
  rw [List.map_cons,List.nodup_cons] at nd
  rcases List.mem_cons.mp h with e | h
  ·cases e;simp
  ·have:y≠z:=fun e=>nd.1 (e ▸ List.mem_map_of_mem (f:=(·.1)) h)
   have hb:(y == z) = false:=by simpa using this
   rw [hb]
   exact lookup_mem nd.2 h
section
variable {P:Program}{w:World}{K:PySem.W.Frag}{mg:Str→Option Value}{base:Heap}{A:Around}{outer:List Env}{s:Shared}{H:Hp}{f:Addr}{q:Str}{params:Arguments}{body:Expr}{fr sc:Scope}{cl:List (Str × Addr)}{ps cap:List Str}
end
end L2
namespace L2
open PySem PySem.Spec PyProof.Rows
def BM (mg:Str→Option Value) (h:Heap):Prop:=∃ bm ob,mg "__builtins__" = some (.ref bm)∧bm≠builtinsNs∧h.get? bm = some ob∧ob.cls = .type "module" ∧ ob.dict = some builtinsNs∧ob.data = .plain
theorem Ba {pos pos' : Pos} {c v:Value}:∀ (l:List Value),TriplesOk l→codeAmong pos' (l ++ [rawInt pos.line,rawInt pos.col,c]) = some v→codeAmong pos' l = some v∨(pos'.line = pos.line∧pos'.col = pos.col∧v = c):=by
 intro l h
 fun_induction TriplesOk l
  with
 | case1=>
  intro e
  simp only [List.nil_append,rawInt,codeAmong] at e
  split at e
  ·rename_i hc
   simp at hc
   cases e
   exact .inr ⟨by omega,by omega,rfl⟩
  ·cases e
 | case2 a t b u x rest ih=>
  intro e
  simp only [List.cons_append,codeAmong] at e ⊢
  split at e
  ·rename_i hc;rw [if_pos hc];exact .inl e
  ·rename_i hc;rw [if_neg hc];exact ih h e
 | case3 l z1 z2=>exact False.elim h
section
variable {X:Cx}{pins:List (Addr × Obj)}{σ:St}{H:Hp}{s:Shared}{sc:Scope}{ps cap:List Str}{P c:Addr}{cr:Nat→Nat→Option Str}{q:Str}{params:Arguments}{body:Expr}{pos:Pos}
theorem qp.cells (S:qp X.env.scope sc ps cap) (ok:X.Ok):∀ p∈sc.names,p.2 = .free→∃ c,X.env.cells.lookup p.1 = some c:=
 fun p hp e=>ok.has p.1 (.inl (S.free p hp e))
theorem qp.sub (S:qp X.env.scope sc ps cap) (ok:X.Ok) {y:Str}{c:Addr}(h:(eU X.env sc.names []).lookup y = some c):X.env.cells.lookup y = some c:=
 lC (S.cells ok) (fun _ _ z=>by simp at z) h
end
end L2
namespace L2
open PySem PySem.Spec PyProof.Rows
abbrev Ye:=Shared→List V→Hp→VK→Prop
structure o8 (P:Program) (w:World) (K:PySem.W.Frag) (mg:Str→Option Value) (base:Heap) (k:Nat) (f:Addr) (fd:FuncData) (ps:List Str) (sp:Ye):Prop where
 len:∀ s vs H Q,sp s vs H Q→vs.length = ps.length
 run:∀ (A:Around) (outer:List Env) (s:Shared) (H:Hp) (args:Args) (us:List Value) (vs:List V) (Q:VK),fS k A→sI P w K mg base A outer s H→BindsTo s fd args (ps.zip us)→Vals vs us→sp s vs H Q→
  codeAny (model P w) A (.call (.ref f) args) (CR cF outer P w H s Q E0) s
theorem o8.mono {P:Program}{w:World}{K:PySem.W.Frag}{mg:Str→Option Value}{base:Heap}{j k:Nat}{f:Addr}{fd:FuncData}{ps:List Str}{sp:Ye}(F:o8 P w K mg base j f fd ps sp) (h:j≤k):
  o8 P w K mg base k f fd ps sp:=⟨F.len,fun A outer s H args us vs Q hr=>F.run A outer s H args us vs Q (hr.mono h)⟩
theorem OP {P:Program}{w:World}{K:PySem.W.Frag}{mg:Str→Option Value}{base:Heap}{k:Nat}{f:Addr}{name qual:Str}{params:Arguments}{body:List Stmt}{scope:Scope}{dV kV doc pm cdv ct oc:Value}{an od:Option Addr}
  {osl:Array (Option Value)}{N ps:List Str}{sp:Ye}(lk:K.lookup f = some ⟨oc,od,.func (PySem.W.fnOf name qual params body scope dV kV doc pm an cdv ct),osl⟩) (hcd:PySem.W.codeIn K cdv qual = true) (S:bB N ps scope)
  (len:∀ s vs H Q,sp s vs H Q→vs.length = ps.length)
  (hbody:∀ (A:Around) (outer:List Env) (s:Shared) (H:Hp) (vs:List V) (Q:VK),fS k (A.deeper (envOfC qual scope s.heap.objs.size f cdv))→sp s vs H Q→
   ∃ t,vA (sJ cF P w K mg base N qual scope f cdv A outer s H E0) body t∧t { nx:=fun _ H' => Q .gk H',rt:=Q } (start N vs) H):
  o8 P w K mg base (k + 1) f (PySem.W.fnOf name qual params body scope dV kV doc pm an cdv ct) ps sp:=by
 refine ⟨len,fun A outer s H args us vs Q hr e0 hb r yN=>?_⟩
 have hl:=len _ _ _ _ yN
 have KX:K.In s.heap:=e0.mod.Ec.keeps fun b o e=>(e0.bs b o e).1
 have lim:s.heap.NoLimit:=e0.mod.nolimit.keeps fun b o e=>(e0.bs b o e).1
 have hkind:∀ y∈ps.zip us,scope.names.lookup y.1 = some .local∨(scope.names.lookup y.1 = some .cell∧((cellsFrom (s.heap.objs.size + 1) scope.names []).lookup y.1).isSome = true):=fun ⟨n,v⟩ hy=>by
  rcases S.par n (List.of_mem_zip hy).1 with q | q
  ·exact .inl q
  ·exact .inr ⟨q,PySem.W.cellsFrom_some _ _ _ (.inl q)⟩
 refine codeAny_call_function hr.depth (KX _ _ lk) rfl S.co S.gen rfl (PySem.W.codeRec_of KX hcd) (hb _ _ _ _ ?_)
 refine wpAny_newFunctionEnv_cells S.kind hkind fun env he s1 x=>?_
 subst he
 refine ⟨lim.keeps x.toInCall.keep,codeAny_func ?_⟩
 obtain ⟨t,ht,hq⟩:=hbody A outer s H vs Q (hr.deeper _) yN
 have I:Inv (sJ cF P w K mg base N qual scope f cdv A outer s H E0) [] (start N vs) H s1:=vW S hr.hd e0 hl r x
 refine wpAny_mono (ht [] s1 (start N vs) H _ I hq) (fun fl s' hs=>?_) fun e s' hs=>hs
 have fin:∀ {σ' : St} {H' : Hp} {v:V}{u:Value},Inv (sJ cF P w K mg base N qual scope f cdv A outer s H E0) [] σ' H' s' → RelV v u→Q v H' → CE outer P w H s Q u s' :=
  fun {σ' H' v u} J rv q=>⟨v,H',J.os,J.bare,J.base,J.hok,rv,q⟩
 cases fl with
 | ret u=>
  obtain ⟨v,σ',H',J,rv,q⟩:=hs
  exact fin J rv q
 | next=>
  obtain ⟨σ',H',J,q⟩:=hs
  exact fin (v:=V.gk) (u:=Value.none) J rfl q
 | brk=>
  obtain ⟨_,_,_,q⟩:=hs
  exact False.elim q
 | cont=>
  obtain ⟨_,_,_,q⟩:=hs
  exact False.elim q
section
variable {P:Program}{w:World}{K:PySem.W.Frag}{mg:Str→Option Value}{base:Heap}
theorem fR.okS {x qual:Str}{st:Stmt}{f:Addr}{fd:FuncData}{N ps:List Str}{k:Nat}{sp:Ye}(F:fR K x qual st f fd) (S:bB N ps (ak st)) (len:∀ s vs H Q,sp s vs H Q→vs.length = ps.length)
  (hbody:∀ (cdv:Value) (A:Around) (outer:List Env) (s:Shared) (H:Hp) (vs:List V) (Q:VK),fS k (A.deeper (envOfC qual (ak st) s.heap.objs.size f cdv))→sp s vs H Q→
   ∃ t,vA (sJ cF P w K mg base N qual (ak st) f cdv A outer s H E0).CW (aZ st) t∧t { nx:=fun _ H' => Q .gk H',rt:=Q } (start N vs) H):o8 P w K mg base (k + 1) f fd ps sp:=by
 obtain ⟨oc,od,kV,doc,pm,an,cdv,ct,osl,rfl,lk,hcd⟩:=F.ex
 refine OP lk hcd S len fun A outer s H vs Q hr yN=>?_
 obtain ⟨t,h,q⟩:=hbody cdv A outer s H vs Q hr yN
 exact ⟨t,h.CW,q⟩
theorem fR.okC {x qual:Str}{st:Stmt}{f:Addr}{fd:FuncData}{N ps:List Str}{k:Nat}{sp:Sp}(F:fR K x qual st f fd) (S:bB N ps (ak st)) (len:∀ vs H Q E,sp vs H Q E→vs.length = ps.length)
  (hbody:∀ (cdv:Value) (A:Around) (outer:List Env) (s:Shared) (H:Hp) (vs:List V) (Q:VK) (E:XK),cdv = fd.code→fS k (A.deeper (envOfC qual (ak st) s.heap.objs.size f cdv))→sp vs H Q E→
   ∃ t,vA (sJ cF P w K mg base N qual (ak st) f cdv A outer s H E).CW (aZ st) t∧t { nx:=fun _ H' => Q .gk H',rt:=Q } (start N vs) H):bF P w K mg base cF (k + 1) f fd ps sp:=by
 obtain ⟨oc,od,kV,doc,pm,an,cdv,ct,osl,rfl,lk,hcd⟩:=F.ex
 refine My lk hcd S len fun A outer s H vs Q E hr yN=>?_
 obtain ⟨t,h,q⟩:=hbody cdv A outer s H vs Q E rfl hr yN
 exact ⟨t,h.CW,q⟩
end
section
variable {X:Cx}{k i:Nat}{x:Str}{f:Addr}{q:Str}{params:Arguments}{body:Expr}{fr sc:Scope}{cl:List (Str × Addr)}{ps cap:List Str}{vals:St}{te:TE}{e:Expr}{es:List Expr}{t:TA}{p pos:Pos}
end
def hv (g:Nat→Bool) (lo hi:Nat):Nat:=if h:lo < hi then (if g ((lo + hi) / 2) then hv g ((lo + hi) / 2 + 1) hi else hv g lo ((lo + hi) / 2)) else lo
termination_by hi - lo
decreasing_by all_goals omega
section
variable {X:Cx}{kk:Nat}{x y:Str}{f c P:Addr}{fd:FuncData}{cr:Nat→Nat→Option Str}{q:Str}{params:Arguments}{body e0:Expr}{sc:Scope}{cap:List Str}{t0 te:TE}{p pos abW:Pos}
end
end L2
namespace L2
open PySem PySem.Spec PyProof.Rows
theorem nC {β:Type}{a:Addr}{b:β}:∀ {l:List (Addr × β)},l.lookup a = some b→(a,b)∈l
 | [],h=>by simp at h
 | (z,v) :: l,h=>by
  rw [List.lookup_cons] at h
  cases hb:a == z with
  | true=>
   rw [hb] at h
   have:a = z:=by simpa using hb
   cases h;subst this;exact List.mem_cons_self
  | false=>rw [hb] at h;exact List.mem_cons_of_mem _ (nC h)
theorem zD {β:Type}{a:Addr}{b:β}:∀ {l:List (Addr × β)},(l.map (·.1)).Nodup→(a,b)∈l→l.lookup a = some b
 | [],_,h=>by simp at h
 | (z,v) :: l,nd,h=>by
  rw [List.lookup_cons]
  rw [List.map_cons,List.nodup_cons] at nd
  rcases List.mem_cons.mp h with e | h
  ·cases e;simp
  ·have:a≠z:=fun e=>nd.1 (e ▸ List.mem_map_of_mem (f:=(·.1)) h)
   have hb:(a == z) = false:=by simpa using this
   rw [hb]
   exact zD nd.2 h
structure Bs (K:PySem.W.Frag) (mg:Str→Option Value) (base:Heap):Prop where
 Ec:K.In base
 bm:BM mg base
abbrev Fy:=List (Addr × (Nat→Nat→Option Str))
def xR (H:Hp) (tabs:Fy):Prop:=∀ p∈tabs,H p.1 = some (.sY p.2)
theorem Dq {P:Program}{w:World}{K:PySem.W.Frag}{mg mb:Str→Option Value}{k:Nat}{fa a:Addr}{fd:FuncData}{x:Str}{sp:Sp}{s₁:Shared}{vs:List Value}{ns:List Int}(tabs:Fy)
  (KX:K.In s₁.heap) (hns:s₁.heap.Ns mainGlobals mg) (hb:s₁.heap.Ns builtinsNs mb) (R4:∀ x:Str,x≠ "__name__" → mb x = bootBuiltins x) (hlim:s₁.heap.NoLimit) (hg:s₁.gens = #[])
  (ha:s₁.heap.get? a = some { cls:=.type "list",data:=.seq vs.toArray }) (hi:IntsAre vs ns) (hl:ns.length≤sizeLine) (hr:fS k callerA)
  (hbm:BM mg s₁.heap) (hT:∀ p∈tabs,s₁.heap.get? p.1 = some { cls:=.none,data:=.fields #[] }) (hIs:∀ p∈tabs,isCodeTable s₁.heap p.1) (hKt:∀ p∈tabs,K.lookup p.1 = none) (hnd:(tabs.map (·.1)).Nodup)
  (F:∀ base:Heap,K.In base→base.Ns mainGlobals mg→Bs K mg base→bF P w K mg base cF k fa fd [x] sp) (hbind:∀ (s:Shared) (u:Value),BindsTo s fd ⟨[u],[]⟩ [(x,u)])
  (yN:∀ H:Hp,xR H tabs→b9 K H a (ns.map V.int)→sp [.ref a] H (fun v _=>v = .bl true) fun _ _ _=>False):
  codeAny (model P w) callerA (.call (.ref fa) ⟨[.ref a],[]⟩) (fun r s' => r = .ok (.ret (.bool true))∧OldK s₁.heap s'.heap∧s'.os = s₁.os∧AllBare s'.gens) s₁:=by
 have rv:=vX hi
 have lenV:=hi.length
 have core:∀ H:Hp,xR H tabs→b9 K H a (ns.map V.int)→oW P w H s₁.heap→(∀ b,H b≠none→(b = a∧∃ o xs,H b = some (.m8 o (.lst xs)))∨∃ p∈tabs,p.1 = b)→(H a≠none→K.lookup a = none)→
   codeAny (model P w) callerA (.call (.ref fa) ⟨[.ref a],[]⟩) (fun r s' => r = .ok (.ret (.bool true))∧OldK s₁.heap s'.heap∧s'.os = s₁.os∧AllBare s'.gens) s₁:=by
  intro H hTb hS hok hA hK
  have xS:∀ {b:Addr}{o:Obj},s₁.heap.get? b = some o→H b = none→(vD s₁.heap H).get? b = some o:=fun e n=>Ep e n
  have noT:∀ {b:Addr}{o:Obj},s₁.heap.get? b = some o→(∀ vs n,o.data≠.seq vs n)→(∀ vs,o.data≠.fields vs)→H b = none:=fun {b o} e d1 d2=>by
   cases q:H b with
   | none=>rfl
   | some u=>
    rcases hA b (by rw [q];simp) with ⟨e',_⟩ | ⟨p,hp,e'⟩
    ·subst e'
     rw [ha] at e;cases e
     exact absurd rfl (d1 _ _)
    ·subst e'
     rw [hT p hp] at e;cases e
     exact absurd rfl (d2 _)
  have Iq:∀ {b:Addr}{o:Obj}{es:Array DictEntry}{ep:Nat},s₁.heap.get? b = some o→o.data = .dict es ep→H b = none:=fun {b o es ep} e d=>noT e (fun vs n z=>by rw [d] at z;cases z) fun vs z=>by rw [d] at z;cases z
  have Yg:∀ {b:Addr}{m:Str→Option Value},s₁.heap.Ns b m→(vD s₁.heap H).Ns b m:=fun {b m} ⟨o,es,ep,e,d,r⟩=>⟨o,es,ep,xS e (Iq e d),d,r⟩
  have ZT:K.In (vD s₁.heap H):=fun b o e=>xS (KX b o e) (by
   cases q:H b with
   | none=>rfl
   | some u=>
    rcases hA b (by rw [q];simp) with ⟨e',_⟩ | ⟨p,hp,e'⟩
    ·subst e'
     rw [hK (by rw [q];simp)] at e;cases e
    ·subst e'
     rw [hKt p hp] at e;cases e)
  have hBs:Bs K mg (vD s₁.heap H):=⟨ZT,by
   obtain ⟨bm,ob,b1,b2,b3,b4,b5,b6⟩:=hbm
   exact ⟨bm,ob,b1,b2,xS b3 (noT b3 (fun vs n z=>by rw [b6] at z;cases z) fun vs z=>by rw [b6] at z;cases z),b4,b5,b6⟩⟩
  have hM:Mod K mg (vD s₁.heap H):=⟨ZT,Yg hns,⟨mb,Yg hb,R4⟩,let ⟨mc,h1,h2⟩:=hlim;⟨mc,Yg h1,h2⟩⟩
  have e0:sI P w K mg (vD s₁.heap H) callerA [] s₁ H:=⟨rfl,hM,fun b o e=>Ig e,Nat.le_of_eq (CU _ _),trivial,fun b hb=>absurd (show b∈([]:List Addr) from hb) (by simp),hok,.of_eq hg⟩
  refine codeAny_mono ((F _ ZT (Yg hns) hBs).run callerA [] s₁ H ⟨[.ref a],[]⟩ [.ref a] [.ref a] _ _ hr e0 (hbind s₁ (.ref a)) (.cons rfl .nil) (yN H hTb hS)) fun r s' h=>?_
  cases r with
  | error e=>exact False.elim h
  | ok fl=>
   cases fl with
   | next=>exact False.elim h
   | brk=>exact False.elim h
   | cont=>exact False.elim h
   | ret u=>
    obtain ⟨v,H',os,bare,un,R5,r',q⟩:=h
    have q' : v = .bl true:=q
    subst q'
    obtain rfl:u = Value.bool true:=r'
    refine ⟨rfl,⟨fun b o e=>?_,fun b o e=>un.there b o e (by simp)⟩,os,bare⟩
    cases q:H b with
    | none=>exact .inl (un.keep b o e q (by intro z;exact absurd (show b∈([]:List Addr) from z) (by simp)) (by simp))
    | some u=>
     rcases hA b (by rw [q];simp) with ⟨e',ob,xs,z⟩ | ⟨p,hp,e'⟩
     ·have z2:=un.m5 b ob _ z
      obtain ⟨e1,_⟩:=hok b _ z
      obtain ⟨e2,_⟩:=R5 b _ z2
      rw [e] at e1;cases e1
      exact .inl e2
     ·subst e'
      have z:=un.oU _ _ (hTb p hp)
      obtain ⟨ps,e1,_⟩:=R5 _ _ z
      rw [hT p hp] at e;cases e
      exact .inr (.inl ⟨hIs p hp,rfl,#[],ps,rfl,by rw [Array.empty_append];exact e1⟩)
 have hpa:∀ p∈tabs,p.1≠a:=fun p hp z=>by
  have:=hT p hp
  rw [z,ha] at this;cases this
 have tl:∀ p∈tabs,tabs.lookup p.1 = some p.2:=fun p hp=>zD hnd hp
 have okT:∀ (H:Hp) (b:Addr) (cr:Nat→Nat→Option Str),tabs.lookup b = some cr→cC P w H s₁.heap b (.sY cr):=fun H b cr e=>
  ⟨#[],hT (b,cr) (nC e),trivial,fun pos v z=>by cases z⟩
 cases hk:K.lookup a with
 | some o=>
  have e:=KX a o hk
  rw [ha] at e
  cases e
  refine core (fun b=>(tabs.lookup b).map HO.sY) (fun p hp=>by show (tabs.lookup p.1).map HO.sY = _;rw [tl p hp];rfl) (.inr ⟨_,vs.toArray,_,hk,rfl,rfl,rfl,by rw [List.size_toArray,lenV];exact hl,by simpa using rv⟩) (fun b u z=>?_) (fun b z=>?_) fun z=>?_
  ·obtain ⟨cr,e1,e2⟩:=Option.map_eq_some_iff.mp z
   subst e2
   exact okT _ b cr e1
  ·replace z:(tabs.lookup b).map HO.sY≠none:=z
   cases e:tabs.lookup b with
   | none=>rw [e] at z;exact absurd rfl z
   | some cr=>exact .inr ⟨_,nC e,rfl⟩
  ·replace z:(tabs.lookup a).map HO.sY≠none:=z
   cases e:tabs.lookup a with
   | none=>rw [e] at z;exact absurd rfl z
   | some cr=>exact absurd rfl (hpa _ (nC e))
 | none=>
  refine core (fun b=>if b = a then some (.m8 { cls:=.type "list",data:=.seq vs.toArray } (.lst (ns.map V.int))) else (tabs.lookup b).map HO.sY) (fun p hp=>?_) (.inl (.inr ⟨{ cls:=.type "list",data:=.seq vs.toArray },if_pos rfl⟩)) (fun b u z=>?_) (fun b z=>?_) fun _=>hk
  ·show (if p.1 = a then _ else (tabs.lookup p.1).map HO.sY) = _
   rw [if_neg (hpa p hp),tl p hp];rfl
  ·by_cases hb:b = a
   ·have z' := (if_pos hb).symm.trans z
    cases z'
    subst hb
    exact ⟨ha,by rw [List.length_map];exact hl,vs,_,rv,ha⟩
   ·have z' := (if_neg hb).symm.trans z
    obtain ⟨cr,e1,e2⟩:=Option.map_eq_some_iff.mp z'
    subst e2
    exact okT _ b cr e1
  ·by_cases hb:b = a
   ·exact .inl ⟨hb,_,_,if_pos hb⟩
   ·replace z:(if b = a then _ else (tabs.lookup b).map HO.sY)≠none:=z
    rw [if_neg hb] at z
    cases e:tabs.lookup b with
    | none=>rw [e] at z;exact absurd rfl z
    | some cr=>exact .inr ⟨_,nC e,rfl⟩
theorem Fz {l:PySem.W.OpenLaw}{n k:Nat}{q:Program}{loose:List Str}{XP:(Str→Option Value)→Heap→Prop}{YP:World→Heap→Prop}{d:DefRec}{K:Params→PySem.W.Frag}{sp:World→Sp}{x:Str}(tabs:World→Fy)
  (hn:l.most = some n) (hn2:n≤sizeLine) (hdf:d.params.defaults = []) (hr:fS k callerA)
  (hY:∀ (w:World) (h:Heap),YP w h→(K w.params).In h∧∀ p∈tabs w,h.get? p.1 = some { cls:=.none,data:=.fields #[] })
  (F:∀ (w:World) (mg:Str→Option Value) (fa:Addr) (h:Heap),(K w.params).In h→h.Ns mainGlobals mg→mg d.name = some (.ref fa)→
   ∃ fd:FuncData,(∀ (s:Shared) (u:Value),BindsTo s fd ⟨[u],[]⟩ [(x,u)])∧((∀ p∈tabs w,(K w.params).lookup p.1 = none)∧(∀ p∈tabs w,isCodeTable h p.1)∧((tabs w).map (·.1)).Nodup)∧
    ∀ base:Heap,(K w.params).In base→base.Ns mainGlobals mg→Bs (K w.params) mg base→bF l.prog w (K w.params) mg base cF k fa fd [x] (sp w))
  (yN:∀ (w:World) (H:Hp) (a:Addr) (ns:List Int),ns.length≤n→xR H (tabs w)→b9 (K w.params) H a (ns.map V.int)→sp w [.ref a] H (fun v _=>v = .bl true) fun _ _ _=>False):
  PySem.W.WalkO q loose XP YP l.row.toRowW d [] (fun f vs=>PySem.call f vs):=by
 refine Att.yR hn hdf fun w s₀ s₁ mg mb fa o pm cd doc a vs ns G Y ho hd hcd hmg hobj hints hlen hg=>?_
 obtain ⟨KX,hT⟩:=hY w _ Y
 obtain ⟨fd,hb,⟨h1,h2,h3⟩,hF⟩:=F w mg fa _ KX G.T.g hmg
 exact Dq (tabs w) KX G.T.g G.T.b G.T.builtins G.T.nolimit hg hobj hints (Nat.le_trans hlen hn2) hr G.T.bmain hT h2 h1 h3 hF hb (fun H hO hS=>yN w H a ns hlen hO hS)
def xT (K:PySem.W.Frag) (tabs:Fy):Sp:=fun vs H Q _=>∃ (a:Addr) (ns:List Int),vs = [.ref a]∧b9 K H a (ns.map V.int)∧ns.length≤63∧xR H tabs∧∀ H',Q (.bl true) H'
theorem FA {K:PySem.W.Frag}{h:Heap}{c P:Addr}(X:K.In h) (e:PySem.W.codeHdIn K c P = true):isCodeTable h P:=by
 obtain ⟨o,vs,file,tf,flags,tg,inF,text,tt,e1,e2,e3,e4,_⟩:=PySem.W.codeHd_of_K X e
 exact ⟨c,o,vs,e1,e2,e3,e4⟩
end L2
namespace L2
open PySem PySem.Spec PyProof.Rows
theorem kT:∀ (names:List (Str × NameKind)) (n:Nat) (a b:List (Str × Addr)),cellsFrom n names (a ++ b) = cellsFrom n names a ++ b
 | [],_,_,_=>rfl
 | (x,k) :: r,n,a,b=>by
  unfold cellsFrom
  split
  ·rw [← List.cons_append];exact kT r (n + 1) _ b
  ·exact kT r n a b
theorem j5 {α:Type}{y:Str}{l m:List (Str × α)}:(l ++ m).lookup y = (l.lookup y).or (m.lookup y):=by
 induction l with
 | nil=>simp
 | cons p r ih=>
  obtain ⟨z,v⟩:=p
  rw [List.cons_append,List.lookup_cons,List.lookup_cons]
  split
  ·simp
  ·exact ih
theorem uE {α:Type}{f g:α→PUnit→Sem (ForInStep PUnit)}:∀ (l:List α),(∀ x∈l,f x ⟨⟩ = g x ⟨⟩)→forIn l PUnit.unit f = forIn l PUnit.unit g
 | [],_=>rfl
 | x :: l,h=>by
  rw [List.forIn_cons,List.forIn_cons,h x List.mem_cons_self]
  congr 1
  funext r
  cases r with
  | done b=>rfl
  | yield b=>exact uE l fun y hy=>h y (List.mem_cons_of_mem _ hy)
theorem Bb {e e' : Env} {n:Str}{v:Value}(h1:e.scope = e'.scope) (h2:e.locals = e'.locals) (h3:e.globals = e'.globals) (h4:e.cells.lookup n = e'.cells.lookup n):storeName e n v = storeName e' n v:=by
 unfold storeName
 have k1:e.kindOf n = e'.kindOf n:=by unfold Env.kindOf;rw [h1]
 have k2:e.blockKind = e'.blockKind:=by unfold Env.blockKind;rw [h1]
 have k3:cellOf e n = cellOf e' n:=by unfold cellOf;rw [h4]
 have k4:localSet e n v = localSet e' n v:=by unfold localSet;rw [h2]
 rw [k1,k2,k3,k4,h1,h2,h3]
section
variable {M:Model}{A:Around}{E:Value→Shared→Prop}{s:Shared}
theorem zE {scope:Scope}{globals:Addr}{cl:List (Str × Addr)}{binds:List (Str × Value)}{qual:Str}{func:Option Addr}{code:Value}{builtins:Addr}{Q:Env→Shared→Prop}(hk:scope.kind = .function)
  (hkind:∀ x∈binds,scope.names.lookup x.1 = some .local∨(scope.names.lookup x.1 = some .cell∧((cellsFrom (s.heap.objs.size + 1) scope.names []).lookup x.1).isSome = true))
  (hcl:∀ x∈binds,scope.names.lookup x.1 = some .local→cl.lookup x.1 = none)
  (hQ:∀ env',env' = newEnv scope s.heap.objs.size globals (cellsFrom (s.heap.objs.size + 1) scope.names []) qual func code none builtins→∀ s',InCallC s env'.locals (bindL env'.kindOf binds fun _=>none) env'.cells (bindC env'.kindOf binds fun _=>none) s' →
   Q (newEnv scope s.heap.objs.size globals (cellsFrom (s.heap.objs.size + 1) scope.names [] ++ cl) qual func code none builtins) s'):
  wpAny M A (newFunctionEnv scope globals cl binds qual func code none builtins) Q E s:=by
 simp only [newFunctionEnv,Option.isSome_none,Bool.false_eq_true,if_false]
 refine wpAny_bind (wpAny_alloc ?_)
 refine wpAny_bind (wpAny_layCells _ (fun name kind cells=>by cases hkc:kind == NameKind.cell <;> simp [hkc]) _ _ _ _ ?_)
 have ok:=cellsFrom_ok scope.names (s.heap.push { cls:=.type "frame",data:=.dict #[] }) (s.heap.objs.size + 1) [] ⟨fun _ _ hm=>(nomatch hm),List.Pairwise.nil⟩ (by rw [Heap.size_push];exact Nat.le_refl _)
 rw [Heap.size_push] at ok
 rw [show ({ s with heap:=s.heap.push { cls:=.type "frame",data:=.dict #[] } }:Shared).heap.objs.size = s.heap.objs.size + 1 from Heap.size_push ..]
 rw [show cellsFrom (s.heap.objs.size + 1) scope.names cl = cellsFrom (s.heap.objs.size + 1) scope.names [] ++ cl from kT _ _ [] cl]
 refine wpAny_bind ?_
 rw [uE (g:=fun (x:Str × Value) _=>do storeName (newEnv scope s.heap.objs.size globals (cellsFrom (s.heap.objs.size + 1) scope.names []) qual func code none builtins) x.1 x.2;pure (.yield ⟨⟩)) binds fun x hx=>?_]
 ·refine wpAny_bindParams (s₀:=s) (env:=newEnv scope s.heap.objs.size globals (cellsFrom (s.heap.objs.size + 1) scope.names []) qual func code none builtins)
   _ (fun _ _ _=>rfl) hk binds (fun _=>none) (fun _=>none) _ _
   ⟨⟨⟨_,_,rfl⟩,(Heap.Ns.new s.heap (.type "frame")).keeps (pushCells_keeps _ _),fun b o e=>pushCells_keeps _ _ b o (Heap.get?_push_of_some _ e),Nat.le_refl _⟩,
    fun n c hc=>(ok.empty n c (mem_of_lookup hc)).1,ok.apart,fun n c hm=>(ok.empty n c hm).2⟩
   hkind fun s' x=>wpAny_pure (hQ _ rfl s' x)
 ·have e:storeName (newEnv scope s.heap.objs.size globals (cellsFrom (s.heap.objs.size + 1) scope.names [] ++ cl) qual func code none builtins) x.1 x.2 = storeName (newEnv scope s.heap.objs.size globals (cellsFrom (s.heap.objs.size + 1) scope.names []) qual func code none builtins) x.1 x.2:=by
   refine Bb rfl rfl rfl ?_
   show (cellsFrom (s.heap.objs.size + 1) scope.names [] ++ cl).lookup x.1 = (cellsFrom (s.heap.objs.size + 1) scope.names []).lookup x.1
   rw [j5]
   rcases hkind x hx with h | ⟨_,h⟩
   ·rw [hcl x hx h];simp
   ·obtain ⟨c,hc⟩:=Option.isSome_iff_exists.mp h
    rw [hc];rfl
  exact congrArg (fun m:Sem Unit=>m >>= fun _=>(pure (ForInStep.yield PUnit.unit):Sem (ForInStep PUnit))) e
end
theorem pU {y:Str}{c:Addr}:∀ {names:List (Str × NameKind)}{n:Nat}{acc:List (Str × Addr)},(y,c)∈cellsFrom n names acc→(y,NameKind.cell)∈names∨(y,c)∈acc
 | [],_,_,h=>.inr h
 | (x,k) :: r,n,acc,h=>by
  unfold cellsFrom at h
  split at h
  ·rename_i hk
   have hk' : k = .cell:=by simpa using hk
   rcases pU h with a | a
   ·exact .inl (List.mem_cons_of_mem _ a)
   ·rcases List.mem_cons.mp a with e | a
    ·cases e;rw [hk'];exact .inl List.mem_cons_self
    ·exact .inr a
  ·rcases pU h with a | a
   ·exact .inl (List.mem_cons_of_mem _ a)
   ·exact .inr a
structure eL (fr sc:Scope) (ps loc cap:List Str):Prop where
 kind:sc.kind = .function
 co:sc.isCoroutine = false
 gen:sc.isGenerator = false
 par:∀ y∈ps,sc.names.lookup y = some .local∨sc.names.lookup y = some .cell
 free:∀ p∈sc.names,p.2 = .free→fr.names.lookup p.1 = some .cell
 caps:∀ y∈cap,(y,NameKind.free)∈sc.names
 OO:∀ y∈cap,sc.names.lookup y = some .free
 nd:(ps ++ loc ++ cap).Nodup
 ndn:(sc.names.map (·.1)).Nodup
def lE (H:Hp) (f:Addr) (name q:Str) (params:Arguments) (body:List Stmt) (sc:Scope) (cl:List (Str × Addr)):Prop:=
 ∃ (doc pm ctv:Value) (c' : Addr) (oc:Obj),H f = some (.m8 (PySem.W.fnMade name q params body sc cl doc pm c' ctv) (.own f))∧H c' = some (.m8 oc (.own c'))∧wX oc q
theorem lE.same {H H' : Hp} {f:Addr}{name q:Str}{params:Arguments}{body:List Stmt}{sc:Scope}{cl:List (Str × Addr)}(L:lE H f name q params body sc cl) (k:∀ b o u,H b = some (.m8 o u)→H' b = some (.m8 o u)):lE H' f name q params body sc cl:=
 let ⟨doc,pm,ctv,c',oc,h1,h2,h3⟩:=L;⟨doc,pm,ctv,c',oc,k _ _ _ h1,k _ _ _ h2,h3⟩
theorem lE.fnAt {P:Program}{w:World}{H:Hp}{h:Heap}{f:Addr}{name q:Str}{params:Arguments}{body:List Stmt}{sc:Scope}{cl:List (Str × Addr)}(ok:oW P w H h) (L:lE H f name q params body sc cl):PySem.W.FnAt f h:=by
 obtain ⟨doc,pm,ctv,c',oc,h1,_⟩:=L
 obtain ⟨ho,_⟩:=ok f _ h1
 exact ⟨_,_,_,_,ho⟩
def Bc (q:Str) (sc:Scope) (L f:Addr) (cd:Value) (cl:List (Str × Addr)):Env:=PySem.W.envX q sc L f cd (cellsFrom (L + 1) sc.names [] ++ cl)
def o9 (P:Program) (w:World) (K:PySem.W.Frag) (mg:Str→Option Value) (base:Heap) (N:List Str) (q:Str) (sc:Scope) (f c' : Addr) (cl:List (Str × Addr)) (A:Around) (outer:List Env) (s:Shared) (H:Hp):Cx where
 prog:=P
 w:=w
 K:=K
 mg:=mg
 base:=base
 A:=A.deeper (Bc q sc s.heap.objs.size f (.ref c') cl)
 N:=N
 s₀:=s
 H₀:=H
 env:=Bc q sc s.heap.objs.size f (.ref c') cl
 outer:=outer
 stack:=Bc q sc s.heap.objs.size f (.ref c') cl :: outer
 ex:=[]
 calm:=true
 fn:=fun y=>match sc.names.lookup y with | some .free=>false | _=>true
 pn:=[]
 xe:=fun _ _=>False
section
variable {P:Program}{w:World}{K:PySem.W.Frag}{mg:Str→Option Value}{base:Heap}{A:Around}{outer:List Env}{s:Shared}{H:Hp}{f:Addr}{name q:Str}{params:Arguments}{body:List Stmt}{fr sc:Scope}{cl:List (Str × Addr)}{ps loc cap:List Str}
theorem IV {c' : Addr} {us:List Value}{vs:List V}{vals:St}{s1:Shared}(S:eL fr sc ps loc cap) (hcap:∀ y,sc.names.lookup y = some .free→∃ c,cl.lookup y = some c) (IW:∀ y c,cl.lookup y = some c→sc.names.lookup y = some .free) (hd:A.handled = none) (e0:sI P w K mg base A outer s H) (hl:vs.length = ps.length) (hv:vals.length = cap.length) (r:Vals vs us) (C:CellsAre s H cl cap vals)
  (x:InCallC s s.heap.objs.size (bindL (envOfC q sc s.heap.objs.size f (.ref c')).kindOf (ps.zip us) fun _=>none) (cellsFrom (s.heap.objs.size + 1) sc.names []) (bindC (envOfC q sc s.heap.objs.size f (.ref c')).kindOf (ps.zip us) fun _=>none) s1):
  Inv (o9 P w K mg base (ps ++ loc ++ cap) q sc f c' cl A outer s H) [] (vs.map some ++ List.replicate loc.length none ++ vals) H s1:=by
 obtain ⟨h1,tk,rfl,hk⟩:=x.done
 have Iq:∀ b:Addr,b ∉ (o9 P w K mg base (ps ++ loc ++ cap) q sc f c' cl A outer s H).ex:=fun b z=>absurd (show b∈([]:List Addr) from z) (by simp)
 have ndp:ps.Nodup:=(List.nodup_append.mp (List.nodup_append.mp S.nd).1).1
 have clt:∀ y c,cl.lookup y = some c→c < s.heap.objs.size:=fun y c h=>by
  obtain ⟨⟨v,o,ho,_⟩,_⟩:=C.R3 y c h
  exact Heap.lt_size ho
 have Yh:∀ y c,(cellsFrom (s.heap.objs.size + 1) sc.names []).lookup y = some c→s.heap.objs.size < c:=fun y c h=>x.above y c (PySem.mem_of_lookup h)
 have two:∀ y c,(o9 P w K mg base (ps ++ loc ++ cap) q sc f c' cl A outer s H).env.cells.lookup y = some c→(cellsFrom (s.heap.objs.size + 1) sc.names []).lookup y = some c∨((cellsFrom (s.heap.objs.size + 1) sc.names []).lookup y = none∧cl.lookup y = some c):=fun y c h=>by
  have h:(cellsFrom (s.heap.objs.size + 1) sc.names [] ++ cl).lookup y = some c:=h
  rw [j5] at h
  cases e:(cellsFrom (s.heap.objs.size + 1) sc.names []).lookup y with
  | some c2=>rw [e] at h;exact .inl h
  | none=>rw [e] at h;exact .inr ⟨rfl,by simpa using h⟩
 refine ⟨⟨e0.mod,S.kind,rfl,rfl,Nat.le_refl _,fun y z c h1 h2=>?_,fun y hy=>?_,fun y c hf h=>?_,fun _=>hd,Around.frames_deeper e0.frames,.inr ⟨rfl,rfl⟩,fun b z=>absurd z (Iq b),e0.bs,e0.Ef,fun b _ _=>Iq b,fun b z=>absurd z (Iq b),e0.qa,e0.Mr⟩,
  rfl,e0.bare,Un.kept hk,⟨_,x.toInCall.ns,fun i y v h1 h2 h3=>?_⟩,fun y c h=>?_,e0.hok.fresh (Nat.le_refl _),fun y c h=>?_,fun p hp=>absurd (show p∈([]:List (Addr × Obj)) from hp) (by simp),e0.hok.kept hk,?_⟩
 ·rcases two y c h1 with a | ⟨_,a⟩ <;> rcases two z c h2 with b | ⟨_,b⟩
  ·exact name_of_addr x.apart (PySem.mem_of_lookup a) (PySem.mem_of_lookup b)
  ·exact absurd (Nat.lt_trans (Yh y c a) (clt z c b)) (Nat.lt_irrefl _)
  ·exact absurd (Nat.lt_trans (Yh z c b) (clt y c a)) (Nat.lt_irrefl _)
  ·exact C.inj y z c a b
 ·have hy:sc.names.lookup y = some .cell∨sc.names.lookup y = some .free:=hy
  show ∃ c,(cellsFrom (s.heap.objs.size + 1) sc.names [] ++ cl).lookup y = some c
  rw [j5]
  rcases hy with hy | hy
  ·obtain ⟨c,e⟩:=qc (n:=s.heap.objs.size + 1) hy
   exact ⟨c,by rw [e];rfl⟩
  ·obtain ⟨c,e⟩:=hcap y hy
   cases e2:(cellsFrom (s.heap.objs.size + 1) sc.names []).lookup y with
   | some c2=>exact ⟨c2,rfl⟩
   | none=>exact ⟨c,by rw [e];rfl⟩
 ·have hf:(match sc.names.lookup y with | some .free=>false | _=>true) = true:=hf
  rcases two y c h with a | ⟨_,a⟩
  ·exact Nat.le_of_lt (Yh y c a)
  ·rw [IW y c a] at hf;cases hf
 ·have h1:(ps ++ loc ++ cap)[i]? = some y:=h1
  have lr:(List.replicate loc.length (none:Option V)).length = loc.length:=List.length_replicate
  by_cases hi:i < ps.length
  ·have hp:ps[i]? = some y:=by
    rw [List.append_assoc,List.getElem?_append_left hi] at h1;exact h1
   have ha:vs[i]? = some v:=by
    rw [List.append_assoc,List.getElem?_append_left (by rw [List.length_map];omega),List.getElem?_map] at h2
    cases e:vs[i]? with
    | none=>rw [e] at h2;cases h2
    | some a=>rw [e] at h2;cases h2;rfl
   obtain ⟨u,hu,rv⟩:=r.get ha
   refine ⟨u,rv,?_⟩
   rcases S.par y (List.mem_of_getElem? hp) with k | k
   ·exact .inl ⟨k,qL ndp hp hu k⟩
   ·obtain ⟨c,e⟩:=qc (n:=s.heap.objs.size + 1) k
    refine .inr ⟨.inl k,c,?_,?_⟩
    ·show (cellsFrom (s.heap.objs.size + 1) sc.names [] ++ cl).lookup y = some c
     rw [j5,e];rfl
    ·have q' := x.cell y c e
     rw [qM ndp hp hu (by show sc.names.lookup y≠_;rw [k];decide)] at q'
     exact q'
  ·by_cases hi2:i < ps.length + loc.length
   ·rw [List.getElem?_append_left (by rw [List.length_append,List.length_map,lr];omega),List.getElem?_append_right (by rw [List.length_map];omega),List.getElem?_replicate] at h2
    split at h2 <;> cases h2
   ·have hc:cap[i - (ps ++ loc).length]? = some y:=by
     rw [List.getElem?_append_right (by rw [List.length_append];omega)] at h1;exact h1
    have ha:vals[i - (ps ++ loc).length]? = some (some v):=by
     rw [List.getElem?_append_right (by rw [List.length_append,List.length_map,lr];omega)] at h2
     rw [List.length_append,List.length_map,lr,hl] at h2
     rw [List.length_append];exact h2
    obtain ⟨c,u,e1,e2,rv⟩:=C.val _ y v hc ha
    obtain ⟨o,ho,hd'⟩:=e2
    refine ⟨u,rv,.inr ⟨.inr (S.OO y (List.mem_of_getElem? hc)),c,?_,o,hk _ _ ho,hd'⟩⟩
    show (cellsFrom (s.heap.objs.size + 1) sc.names [] ++ cl).lookup y = some c
    have hn:(cellsFrom (s.heap.objs.size + 1) sc.names []).lookup y = none:=by
     cases e3:(cellsFrom (s.heap.objs.size + 1) sc.names []).lookup y with
     | none=>rfl
     | some c3=>
      have:=(pU (PySem.mem_of_lookup e3)).resolve_right (by simp)
      have k:=S.OO y (List.mem_of_getElem? hc)
      have k2:=lookup_mem S.ndn this
      rw [k] at k2;cases k2
    rw [j5,hn,e1];rfl
 ·rcases two y c h with a | ⟨_,a⟩
  ·exact ⟨_,x.cell y c a⟩
  ·obtain ⟨⟨v,o,ho,hd'⟩,_⟩:=C.R3 y c a
   exact ⟨v,o,hk _ _ ho,hd'⟩
 ·rcases two y c h with a | ⟨_,a⟩
  ·exact e0.hok.fresh (Nat.le_of_lt (Yh y c a))
  ·exact (C.R3 y c a).2
 ·show (vs.map some ++ List.replicate loc.length none ++ vals).length = (ps ++ loc ++ cap).length
  rw [List.length_append,List.length_append,List.length_append,List.length_append,List.length_map,List.length_replicate,hl,hv]
end
end L2
namespace L2
open PySem PySem.Spec PyProof.Rows
section
variable {P:Program}{w:World}{K:PySem.W.Frag}{mg:Str→Option Value}{base:Heap}{A:Around}{outer:List Env}{s:Shared}{H:Hp}{f:Addr}{name q:Str}{params:Arguments}{body:List Stmt}{fr sc:Scope}{cl:List (Str × Addr)}{ps loc cap:List Str}
theorem IX {k:Nat}{us:List Value}{vs:List V}{vals:St}{Q:VK}(S:eL fr sc ps loc cap) (hcap:∀ y,sc.names.lookup y = some .free→∃ c,cl.lookup y = some c) (IW:∀ y c,cl.lookup y = some c→sc.names.lookup y = some .free) (hr:fS (k + 1) A) (e0:sI P w K mg base A outer s H) (L:lE H f name q params body sc cl) (C:CellsAre s H cl cap vals)
  (hbind:∀ (doc pm ctv:Value) (c' : Addr),bindArgs (PySem.W.fnX name q params body sc cl .none .none doc pm none (.ref c') ctv) ⟨us,[]⟩ = pure (ps.zip us)) (hl:vs.length = ps.length) (hv:vals.length = cap.length) (r:Vals vs us)
  (hbody:∀ c',fS k (A.deeper (Bc q sc s.heap.objs.size f (.ref c') cl))→∃ t,vA (o9 P w K mg base (ps ++ loc ++ cap) q sc f c' cl A outer s H) body t∧t { nx:=fun _ H' => Q .gk H',rt:=Q } (vs.map some ++ List.replicate loc.length none ++ vals) H):
  codeAny (model P w) A (.call (.ref f) ⟨us,[]⟩) (CR cF outer P w H s Q E0) s:=by
 obtain ⟨doc,pm,ctv,c',oc,h1,h2,h3⟩:=L
 obtain ⟨ho,_⟩:=e0.hok f _ h1
 have lim:s.heap.NoLimit:=e0.mod.nolimit.keeps fun b o e=>(e0.bs b o e).1
 refine codeAny_call_function hr.depth ho rfl S.co S.gen rfl (zC e0.hok h2 h3) ?_
 rw [hbind doc pm ctv c']
 have hkind:∀ y∈ps.zip us,sc.names.lookup y.1 = some .local∨(sc.names.lookup y.1 = some .cell∧((cellsFrom (s.heap.objs.size + 1) sc.names []).lookup y.1).isSome = true):=fun ⟨n,v⟩ hy=>by
  rcases S.par n (List.of_mem_zip hy).1 with q | q
  ·exact .inl q
  ·exact .inr ⟨q,PySem.W.cellsFrom_some _ _ _ (.inl q)⟩
 refine wpAny_pure (zE S.kind hkind (fun y hy hloc=>?_) fun env he s1 x=>?_)
 ·cases e:cl.lookup y.1 with
  | none=>rfl
  | some c=>rw [IW _ _ e] at hloc;cases hloc
 subst he
 refine ⟨lim.keeps x.toInCall.keep,codeAny_func ?_⟩
 obtain ⟨t,ht,hq⟩:=hbody c' (hr.deeper _)
 have I:=IV (f:=f) (q:=q) (c' := c') S hcap IW hr.hd e0 hl hv r C x
 refine wpAny_mono (ht [] s1 _ H _ I hq) (fun fl s' hs=>?_) fun e s' z=>z.elim
 have fin:∀ {σ' : St} {H' : Hp} {v:V}{u:Value},Inv (o9 P w K mg base (ps ++ loc ++ cap) q sc f c' cl A outer s H) [] σ' H' s' → RelV v u→Q v H' → CE outer P w H s Q u s' :=
  fun {σ' H' v u} J rv q=>⟨v,H',J.os,J.bare,J.base,J.hok,rv,q⟩
 cases fl with
 | ret u=>
  obtain ⟨v,σ',H',J,rv,q⟩:=hs
  exact fin J rv q
 | next=>
  obtain ⟨σ',H',J,q⟩:=hs
  exact fin (v:=V.gk) (u:=Value.none) J rfl q
 | brk=>
  obtain ⟨_,_,_,q⟩:=hs
  exact False.elim q
 | cont=>
  obtain ⟨_,_,_,q⟩:=hs
  exact False.elim q
end
section
variable {X:Cx}{pins:List (Addr × Obj)}{σ:St}{H:Hp}{s:Shared}{sc:Scope}{ps loc cap:List Str}{P c:Addr}{cr:Nat→Nat→Option Str}{name q:Str}{params:Arguments}{body:List Stmt}{pos:Pos}
theorem eL.cells {fr:Scope}(S:eL X.env.scope sc ps loc cap) (ok:X.Ok):∀ p∈sc.names,p.2 = .free→∃ c,X.env.cells.lookup p.1 = some c:=
 fun p hp e=>ok.has p.1 (.inl (S.free p hp e))
theorem eL.sub (S:eL X.env.scope sc ps loc cap) (ok:X.Ok) {y:Str}{c:Addr}(h:(eU X.env sc.names []).lookup y = some c):X.env.cells.lookup y = some c:=
 lC (S.cells (fr:=sc) ok) (fun _ _ z=>by simp at z) h
theorem wF {env:Env}{y:Str}{c:Addr}:∀ {names:List (Str × NameKind)}{acc:List (Str × Addr)},(eU env names acc).lookup y = some c→(y,NameKind.free)∈names∨acc.lookup y = some c
 | [],_,h=>.inr h
 | (x,k) :: r,acc,h=>by
  unfold eU at h
  rcases wF h with a | a
  ·exact .inl (List.mem_cons_of_mem _ a)
  ·by_cases hk:(k == NameKind.free) = true
   ·rw [if_pos hk,List.lookup_cons] at a
    by_cases e:(y == x) = true
    ·have e' : y = x:=by simpa using e
     have k' : k = .free:=by simpa using hk
     subst e' k'
     exact .inl List.mem_cons_self
    ·have e' : (y == x) = false:=by simpa using e
     rw [e'] at a;exact .inr a
   ·rw [if_neg hk] at a;exact .inr a
theorem Inv.cellsOf (I:Inv X pins σ H s) (S:eL X.env.scope sc ps loc cap) {js:List Nat}(qO:js.map (fun j=>X.N[j]?) = cap.map some):CellsAre s H (eU X.env sc.names []) cap (cM σ js):=by
 have ok:=I.ok
 refine ⟨fun x y c h1 h2=>ok.inj x y c (S.sub ok h1) (S.sub ok h2),fun x c h=>⟨I.cell x c (S.sub ok h),I.kZ x c (S.sub ok h)⟩,fun i y v e1 e2=>?_⟩
 have hy:y∈cap:=List.mem_of_getElem? e1
 unfold cM at e2
 rw [List.getElem?_map] at e2
 cases ej:js[i]? with
 | none=>rw [ej] at e2;cases e2
 | some j=>
  rw [ej] at e2
  have lU:(σ[j]?).join = some v:=Option.some.inj e2
  have eN:X.N[j]? = some y:=by
   have:=congrArg (fun l=>l[i]?) qO
   simp only [List.getElem?_map,ej,e1,Option.map_some] at this
   exact Option.some.inj this
  have eσ:σ[j]? = some (some v):=by
   cases z:σ[j]? with
   | none=>rw [z] at lU;cases lU
   | some w' =>
    rw [z] at lU
    have:w' = some v:=by simpa using lU
    rw [this]
  have kc:X.env.scope.names.lookup y = some .cell:=S.free (y,.free) (S.caps y hy) rfl
  obtain ⟨m0,hn0,Om⟩:=I.loc
  obtain ⟨u,ru,lk⟩:=Om j y v eN eσ (.inr (.inl kc))
  rcases lk with ⟨k,_⟩ | ⟨_,c,ec,hc⟩
  ·have k' : X.env.scope.names.lookup y = some .local:=k
   rw [kc] at k';cases k'
  ·obtain ⟨c',hc'⟩:=Option.isSome_iff_exists.mp (iu (env:=X.env) (acc:=[]) (S.caps y hy))
   have hcc:c' = c:=Option.some.inj ((S.sub ok hc').symm.trans ec)
   subst hcc
   exact ⟨c',u,hc',hc,ru⟩
theorem OQ (S:eL X.env.scope sc ps loc cap) (hcode:X.env.code = .ref c) (C:PySem.W.CodeHd X.base c P) (hbm:BM X.mg X.base) (Yi:cr pos.line pos.col = some q) (I:Inv X pins σ H s) (hP:H P = some (.sY cr)) {E:Value→Shared→Prop}:
  wpAny (model X.prog X.w) X.A (makeFunction name q params (.stmts body) sc X.env [] [] [] pos pos.line) (fun v s' => ∃ f H',Inv X pins σ H' s' ∧ v = Value.ref f∧H f = none∧aN H H' ∧ lE H' f name q params body sc (eU X.env sc.names [])) E s:=by
 obtain ⟨tb,hget,Qz,FD⟩:=I.hok P _ hP
 have hg:s.heap.Ns mainGlobals X.mg:=I.mod.glob.keeps I.bk
 have hgP:mainGlobals≠P:=fun z=>by
  obtain ⟨o,es,ep,e,hd,_⟩:=hg
  rw [z,hget] at e;cases e;cases hd
 have hb:s.heap.BuiltinsAt X.mg P:=by
  obtain ⟨bm,ob,b1,b2,b3,b4,b5,b6⟩:=hbm
  have e:=I.bk _ _ b3
  refine ⟨bm,ob,b1,b2,fun z=>?_,fun z=>?_,e,b4,b5,b6⟩
  ·obtain ⟨o,es,ep,e',hd,_⟩:=hg
   rw [← z,e] at e';cases e';rw [b6] at hd;cases hd
  ·rw [z,hget] at e;cases e;cases b4
 have hcl:closureFor sc X.env = pure (eU X.env sc.names []):=gr (S.cells (fr:=sc) I.ok)
 cases hf:codeAmong pos tb.toList with
 | some cv=>
  obtain ⟨c',oc,q',rfl,e2,e3,e4⟩:=FD pos cv hf
  rw [Yi] at e2;cases e2
  refine PySem.W.makeFunction_hit hcl I.ok.glob hg hcode (C.keeps I.bk) hget Qz hf hb fun ctv doc h' tk hk hsz=>?_
  have hfr:H h'.objs.size = none:=I.hok.fresh hsz
  refine ⟨h'.objs.size,upd H h'.objs.size (.m8 (PySem.W.fnMade name q params body sc (eU X.env sc.names []) doc ((X.mg "__name__").getD .none) c' ctv) (.own h'.objs.size)),I.laid (t' := tk) (fun b u e=>Heap.get?_push_of_some _ (hk b u e)) hsz ⟨Heap.get?_push_size _ rfl,_,Heap.get?_push_size _ rfl⟩,rfl,hfr,(fun b u e=>by rw [aI (aC e hfr)];exact e),⟨_,_,_,c',oc,aE,?_,e4⟩⟩
  rw [aI (aC e3 hfr)];exact e3
 | none=>
  refine PySem.W.makeFunction_K hcl I.ok.glob hg hcode (C.keeps I.bk) hget Qz hf hgP hb fun c' ctv doc h' tk hx hge hlt hrec htb=>?_
  obtain ⟨c2,oc,vs,tt,e2,hoc,hd,hv⟩:=hrec
  cases e2
  have hcn:H c' = none:=I.hok.fresh hge
  have hsz:s.heap.objs.size≤h'.objs.size:=Nat.le_of_lt (Nat.lt_of_le_of_lt hge hlt)
  have hfr:H h'.objs.size = none:=I.hok.fresh hsz
  have hcf:c' ≠ h'.objs.size:=Nat.ne_of_lt hlt
  have hPc:P≠c' := aC hP hcn
  have hPf:P≠h'.objs.size:=aC hP hfr
  have sm:∀ b u,H b = some u→upd (upd H c' (.m8 oc (.own c'))) h'.objs.size (.m8 (PySem.W.fnMade name q params body sc (eU X.env sc.names []) doc ((X.mg "__name__").getD .none) c' ctv) (.own h'.objs.size)) b = some u:=fun b u e=>by
   rw [aI (aC e hfr),aI (aC e hcn)];exact e
  have cc:upd (upd H c' (.m8 oc (.own c'))) h'.objs.size (.m8 (PySem.W.fnMade name q params body sc (eU X.env sc.names []) doc ((X.mg "__name__").getD .none) c' ctv) (.own h'.objs.size)) c' = some (.m8 oc (.own c')):=by
   rw [aI hcf,aE]
  have hk:∀ b o,b≠P→s.heap.get? b = some o→(h'.push (PySem.W.fnMade name q params body sc (eU X.env sc.names []) doc ((X.mg "__name__").getD .none) c' ctv)).get? b = some o:=fun b o hb e=>Heap.get?_push_of_some _ (hx b o hb e)
  refine ⟨h'.objs.size,_,I.un (t' := tk) ⟨fun b o e n _ _=>hk b o (fun z=>by rw [z,hP] at n;cases n) e,fun b o e n _ _=>⟨o.slots,hk b o (fun z=>by rw [z,hP] at n;cases n) e⟩,fun b o e n _=>?_,fun b o e _=>?_,fun b xs e=>sm b _ e,fun b o u e=>sm b _ e,fun b r e=>sm b _ e⟩ ?_,rfl,hfr,sm,⟨_,_,_,c',oc,aE,cc,vs,tt,hd,hv⟩⟩
  ·have h1:b≠c' := Nat.ne_of_lt (Nat.lt_of_lt_of_le (Heap.lt_size e) hge)
   have h2:b≠h'.objs.size:=Nat.ne_of_lt (Nat.lt_of_lt_of_le (Heap.lt_size e) hsz)
   rw [aI h2,aI h1];exact n
  ·by_cases hb:b = P
   ·subst hb;exact ⟨_,Heap.get?_push_of_some _ htb⟩
   ·exact ⟨o,hk b o hb e⟩
  ·intro b u e
   by_cases h1:b = h'.objs.size
   ·subst h1
    rw [aE] at e;cases e
    exact ⟨Heap.get?_push_size _ rfl,_,Heap.get?_push_size _ rfl⟩
   ·by_cases h2:b = c'
    ·subst h2
     rw [cc] at e;cases e
     exact ⟨Heap.get?_push_of_some _ hoc,_,Heap.get?_push_of_some _ hoc⟩
    ·rw [aI h1,aI h2] at e
     by_cases h3:b = P
     ·subst h3
      rw [hP] at e;cases e
      refine ⟨_,Heap.get?_push_of_some _ htb,?_,fun pos' v e=>?_⟩
      ·rw [Array.toList_append];exact TriplesOk_snoc _ _ _ _ Qz
      ·rw [Array.toList_append] at e
       rcases Ba (pos:=pos) tb.toList Qz e with e | ⟨e1,e2,rfl⟩
       ·obtain ⟨d,od,q',z1,z2,z3,z4⟩:=FD pos' v e
        exact ⟨d,od,q',z1,z2,sm _ _ z3,z4⟩
       ·exact ⟨c',oc,q,rfl,by rw [e1,e2];exact Yi,cc,vs,tt,hd,hv⟩
     ·refine (I.hok b u e).stay (fun d v hd' e' => hk d v ?_ e') (fun d e' => sm d _ e') (fun d xs e' => sm d _ e') fun d o' u' e' => sm d _ e'
      rintro rfl
      rcases hd' with z | z
      ·exact h3 z.symm
      ·rw [hP] at z;cases z
def ZU (i:Nat) (P:Addr) (cr:Nat→Nat→Option Str) (name q:Str) (params:Arguments) (body:List Stmt) (sc:Scope) (cl:List (Str × Addr)):TS:=fun D σ H=>H P = some (.sY cr)∧∀ f H',H f = none→aN H H' → lE H' f name q params body sc cl→D.nx (σ.set i (some (.ref f))) H'
theorem FE {i:Nat}(S:eL X.env.scope sc ps loc cap) (hcode:X.env.code = .ref c) (C:PySem.W.CodeHd X.base c P) (hbm:BM X.mg X.base) (hq:q = qualnameIn X.env name name) (Yi:cr pos.line pos.col = some q) (hN:X.N.Nodup) (hi:X.N[i]? = some name) (hx:X.env.scope.names.lookup name = some .local)
  (hd0:params.defaults = []:=by rfl) (hk0:params.kw_defaults = []:=by rfl) (ha:annTrees params none X.env = []:=by rfl):
  PS X (.FunctionDef name params body [] none [] sc none name pos) (ZU i P cr name q params body sc (eU X.env sc.names [])):=by
 intro pins s σ H D I h
 obtain ⟨hP,h⟩:=h
 refine PySem.W.nestDef_K hd0 hk0 ha ?_
 rw [← hq]
 refine cJ (OQ S hcode C hbm Yi I hP) fun v s' ⟨f,H',I',ev,hf,sm,L⟩=>?_
 subst ev
 exact lg I' hN hi (.inl hx) (show RelV (.ref f) (.ref f) from rfl) (fun s2 I2=>⟨_,H',I2,h f H' hf sm L⟩) (.inr hx)
end
end L2
namespace L2
open PySem PySem.Spec PyProof.Rows
def Kp (H H' : Hp):Prop:=(∀ b xs,H b = some (.tup xs)→H' b = some (.tup xs))∧∀ b o u,H b = some (.m8 o u)→H' b = some (.m8 o u)
theorem Kp.refl (H:Hp):Kp H H:=⟨fun _ _ h=>h,fun _ _ _ h=>h⟩
theorem Kp.trans {H H1 H2:Hp}(a:Kp H H1) (b:Kp H1 H2):Kp H H2:=⟨fun c xs h=>b.1 c xs (a.1 c xs h),fun c o u h=>b.2 c o u (a.2 c o u h)⟩
theorem Kp.of {fs:List Addr}{H H' : Hp} {h h' : Heap} (u:Un fs [] H H' h h'):Kp H H' := ⟨u.tups,u.m5⟩
theorem Kp.same {H H' : Hp} (s:aN H H'):Kp H H' := ⟨fun _ _ h=>s _ _ h,fun _ _ _ h=>s _ _ h⟩
mutual
def Dr:PyData→Bool
 | .list _=>false
 | .tuple ds=>xU ds
 | .dict _=>false
 | _=>true
def xU:List PyData→Bool
 | []=>true
 | d :: r=>Dr d && xU r
end
theorem Kp.sqT {K:PySem.W.Frag}{H H' : Hp} {q:Addr}{xs:List V}(k:Kp H H') (h:eV K H q xs):eV K H' q xs:=by
 rcases h with h | h
 ·refine .inl ?_
  rcases h with h | ⟨o,h⟩
  ·exact .inl (k.1 _ _ h)
  ·exact .inr ⟨o,k.2 _ _ _ h⟩
 ·exact .inr h
mutual
theorem Kp.dat {K:PySem.W.Frag}{H H' : Hp} (k:Kp H H'):∀ (d:PyData) (v:V),Dr d = true→Dat K H v d→Dat K H' v d
 | .none,v,_,h=>by rw [h.gk];exact tE
 | .bool b,v,_,h=>by rw [h.bl];exact bQ b
 | .int i,v,_,h=>by rw [h.int];exact aX i
 | .str x,v,_,h=>by rw [h.str];exact bM x
 | .tuple ds,v,n,h=>by
  obtain ⟨q,xs,rfl,hq,hx⟩:=h.tup
  exact d8 (k.sqT hq) (Kp.R6 k ds xs (by unfold Dr at n;exact n) hx)
 | .list _,v,n,_=>by unfold Dr at n;cases n
 | .dict _,v,n,_=>by unfold Dr at n;cases n
theorem Kp.R6 {K:PySem.W.Frag}{H H' : Hp} (k:Kp H H'):∀ (ds:List PyData) (xs:List V),xU ds = true→bJ K H xs ds→bJ K H' xs ds
 | [],xs,_,h=>by rw [h.nil];exact bE
 | d :: r,xs,n,h=>by
  obtain ⟨y,ys,rfl,hy,hr⟩:=h.cons
  unfold xU at n
  rw [Bool.and_eq_true] at n
  exact bh (Kp.dat k d y n.1 hy) (Kp.R6 k r ys n.2 hr)
end
def qq (P:Program) (w:World) (K:PySem.W.Frag) (mg:Str→Option Value) (base:Heap) (k:Nat) (f:Addr) (n:Nat) (sp:Sp) (s:Shared) (H:Hp):Prop:=
 ∃ (name q:Str) (params:Arguments) (body:List Stmt) (sc:Scope) (cl:List (Str × Addr)) (cap:List Str) (vals:St) (H1:Hp),Kp H1 H∧lE H f name q params body sc cl∧CellsAre s H cl cap vals∧
  ∀ (A:Around) (outer:List Env) (s' : Shared) (H' : Hp) (us:List Value) (vs:List V) (Q:VK),fS k A→sI P w K mg base A outer s' H' → Kp H1 H' → lE H' f name q params body sc cl→CellsAre s' H' cl cap vals→Vals vs us→vs.length = n→sp vs H' Q E0→
   codeAny (model P w) A (.call (.ref f) ⟨us,[]⟩) (CR cF outer P w H' s' Q E0) s'
section
variable {P:Program}{w:World}{K:PySem.W.Frag}{mg:Str→Option Value}{base:Heap}{k n:Nat}{f:Addr}{sp:Sp}{s s' : Shared} {H H' : Hp}
theorem qq.un {fs:List Addr}(C:qq P w K mg base k f n sp s H) (u:Un fs [] H H' s.heap s'.heap):qq P w K mg base k f n sp s' H' :=
 let ⟨name,q,params,body,sc,cl,cap,vals,H1,h1,h2,h3,h4⟩:=C
 ⟨name,q,params,body,sc,cl,cap,vals,H1,h1.trans (Kp.of u),h2.same u.m5,h3.un u,h4⟩
theorem qq.fnAt (C:qq P w K mg base k f n sp s H) (ok:oW P w H s.heap):PySem.W.FnAt f s.heap:=
 let ⟨_,_,_,_,_,_,_,_,_,_,h2,_,_⟩:=C
 h2.fnAt ok
theorem qq.mono {j:Nat}(C:qq P w K mg base j f n sp s H) (h:j≤k):qq P w K mg base k f n sp s H:=
 let ⟨name,q,params,body,sc,cl,cap,vals,H1,h1,h2,h3,h4⟩:=C
 ⟨name,q,params,body,sc,cl,cap,vals,H1,h1,h2,h3,fun A outer s' H' us vs Q hr=>h4 A outer s' H' us vs Q (hr.mono h)⟩
theorem qq.run {A:Around}{outer:List Env}{us:List Value}{vs:List V}{Q:VK}(C:qq P w K mg base k f n sp s H) (hr:fS k A) (e0:sI P w K mg base A outer s H) (r:Vals vs us) (hl:vs.length = n) (hs:sp vs H Q E0):
  codeAny (model P w) A (.call (.ref f) ⟨us,[]⟩) (CR cF outer P w H s Q E0) s:=
 let ⟨name,q,params,body,sc,cl,cap,vals,H1,h1,h2,h3,h4⟩:=C
 h4 A outer s H us vs Q hr e0 h1 h2 h3 r hl hs
end
section
variable {X:Cx}{k i n:Nat}{x:Str}{f:Addr}{sp:Sp}{e:Expr}{es:List Expr}{t:TA}{p pos:Pos}
theorem Inv.Yj {pins:List (Addr × Obj)}{σ:St}{H:Hp}{s:Shared}(J:Inv X pins σ H s) (hex:X.ex = []):Un X.fs [] X.H₀ H X.s₀.heap s.heap:=by
 have:=J.base
 rw [hex] at this;exact this
def FF (i:Nat) (f:Addr) (n:Nat) (sp:Sp) (t:TA):TE:=fun σ H Q=>σ[i]? = some (some (.ref f))∧t σ H fun vs H1=>vs.length = n∧sp vs H1 Q E0
theorem nD (hN:X.N[i]? = some x) (hv:X3 X.env.scope x) (hr:fS k X.A) (hex:X.ex = []) (C:qq X.prog X.w X.K X.mg X.base k f n sp X.s₀ X.H₀) (ha:PA X (e :: es) t)
  (hd:(x == ("__debug__" : Str)) = false:=by decide) (hcd:(x == ("__classdict__" : Str)) = false:=by decide) (he:starEach (e :: es) X.env = (false,eval e X.env) :: starEach es X.env:=by rfl) (hpl:(backTo pos (starEach es X.env)).any (·.1) = false:=by rfl):
  PE X (.Call (.Name x p) (e :: es) [] pos) (FF i f n sp t):=by
 intro pins s σ H Q I h
 obtain ⟨eσ,h⟩:=h
 refine wpAny_Call_Name_kw (cJ (Es hN hv hd hcd pins s σ H (fun v H' => v = .ref f∧H' = H) I ⟨_,eσ,rfl,rfl⟩) fun u s1 ⟨v,H1,I1,r,ev,eH⟩=>?_)
 subst ev eH
 obtain rfl:u = Value.ref f:=r
 refine PySem.W.callWith_F ((C.un (I1.Yj hex)).fnAt I1.hok) (cJ (ha pos pins s1 σ H1 _ I1 h) fun us s2 ⟨vs,H2,I2,rv,hl,hq⟩=>⟨(C.un (I2.Yj hex)).fnAt I2.hok,?_⟩) he hpl
 refine wpAny_call (codeAny_mono ((C.un (I2.Yj hex)).run hr I2.Ip rv hl hq) fun r s' hq' => ?_)
 cases r with
 | error e=>exact False.elim hq'
 | ok fl=>
  cases fl with
  | ret u=>exact I2.after hq'
  | next=>exact False.elim hq'
  | brk=>exact False.elim hq'
  | cont=>exact False.elim hq'
theorem FG {fd:FuncData}{ps:List Str}{C:Shared→Hp→Prop}(F:o8 X.prog X.w X.K X.mg X.base k f fd ps (fun s vs H Q=>C s H∧sp vs H Q E0)) (hC:C X.s₀ X.H₀) (hst:∀ fs s H s' H',Un fs [] H H' s.heap s'.heap→C s H→C s' H') (hex:X.ex = [])
  (hr:fS k X.A) (hg:Gl X x) (hm:X.mg x = some (.ref f)) (hk:PySem.W.keepIn X.K (.ref f) = true) (hb:Binds X.K fd ps [])
  (ha:PA X (e :: es) t) (hdb:(x == ("__debug__" : Str)) = false:=by decide) (he:starEach (e :: es) X.env = (false,eval e X.env) :: starEach es X.env:=by rfl) (hpl:(backTo pos (starEach es X.env)).any (·.1) = false:=by rfl):
  PE X (.Call (.Name x p) (e :: es) [] pos) (lA sp [] E0 t):=by
 intro pins s σ H Q I h
 refine wpAny_Call_Name_kw (tu I hg hm ?_ hdb)
 refine PySem.W.callWith_K (h₀:=X.base) I.ok.mod.Ec hk (cJ (ha pos pins s σ H _ I h) fun us s2 ⟨vs,H2,I2,rr,q⟩=>⟨I2.tQ,?_⟩) he hpl
 have q:sp (vs ++ []) H2 Q E0:=q
 rw [List.append_nil] at q
 have R7:=hst _ _ _ _ _ (I2.Yj hex) hC
 have hl:us.length = ps.length:=by rw [← rr.length];exact F.len _ _ _ _ ⟨R7,q⟩
 have hb' := hb s2 us I2.tQ (by rw [List.append_nil];exact hl)
 rw [List.append_nil] at hb'
 refine wpAny_call (codeAny_mono (F.run X.A X.stack s2 H2 ⟨us,[]⟩ us _ Q hr I2.Ip hb' rr ⟨R7,q⟩) fun r s' hq' => ?_)
 cases r with
 | error e=>exact False.elim hq'
 | ok fl=>
  cases fl with
  | ret u=>exact I2.after hq'
  | next=>exact False.elim hq'
  | brk=>exact False.elim hq'
  | cont=>exact False.elim hq'
end
end L2
namespace L2
open PySem PySem.Spec PyProof.Rows
section
variable {K:PySem.W.Frag}{σ:St}{G:Hp}{d:PyData}{i j n:Nat}{f f1 f2:Addr}{t:TA}{ta tb:TE}{ds:List PyData}{R:List PyData→PyData→Prop}
theorem nF (hi:σ[i]? = some (some (.ref f))) (h:xE K t σ G ds) (hn:ds.length = n) (hR:R ds d):Ev K (FF i f n (jS K R) t) σ G d:=
 fun G1 H s1 s2 Q k=>⟨hi,h G1 H s1 s2 _ fun vs G2 H2 g2 hv=>⟨by rw [hv.length];exact hn,G2,ds,d,g2.gh,hv,hR,fun v G' H' g hd=>k v G' H' (g2.trans g) hd⟩⟩
def Yk (K:PySem.W.Frag) (f1 f2:Addr) (R:List PyData→PyData→Prop):Sp:=fun vs H Q _=>∃ (G:Hp) (ds:List PyData) (d:PyData) (xs:List V),vs = xs ++ [.ref f1,.ref f2]∧aN G H∧bJ K G xs ds∧R ds d∧∀ v G' H',bO G H G' H' → Dat K G' v d→Q v H'
end
section
variable {X:Cx}{pins:List (Addr × Obj)}{σ:St}{H:Hp}{s:Shared}{sc:Scope}{ps loc cap:List Str}{name q:Str}{params:Arguments}{body:List Stmt}{f:Addr}{k:Nat}{sp:Sp}
theorem MO {js:List Nat}(I:Inv X pins σ H s) (S:eL X.env.scope sc ps loc cap) (qO:js.map (fun j=>X.N[j]?) = cap.map some) (L:lE H f name q params body sc (eU X.env sc.names []))
  (hbind:∀ (cl:List (Str × Addr)) (us:List Value),us.length = ps.length→∀ (doc pm ctv:Value) (c' : Addr),bindArgs (PySem.W.fnX name q params body sc cl .none .none doc pm none (.ref c') ctv) ⟨us,[]⟩ = pure (ps.zip us))
  (hbody:∀ (A:Around) (outer:List Env) (s' : Shared) (H' : Hp) (vs:List V) (Q:VK) (f c' : Addr) (cl:List (Str × Addr)),fS k (A.deeper (Bc q sc s'.heap.objs.size f (.ref c') cl))→Kp H H' → vs.length = ps.length→sp vs H' Q E0→
   ∃ t,vA (o9 X.prog X.w X.K X.mg X.base (ps ++ loc ++ cap) q sc f c' cl A outer s' H') body t∧t { nx:=fun _ H' => Q .gk H',rt:=Q } (vs.map some ++ List.replicate loc.length none ++ cM σ js) H'):
  qq X.prog X.w X.K X.mg X.base (k + 1) f ps.length sp s H:=by
 have AS:js.length = cap.length:=by have:=congrArg List.length qO;simpa using this
 refine ⟨name,q,params,body,sc,eU X.env sc.names [],cap,cM σ js,H,Kp.refl H,L,I.cellsOf S qO,fun A outer s' H' us vs Q hr e0 kp L' C' r hl hs=>?_⟩
 refine IX S (fun y hy=>?_) (fun y c hc=>?_) hr e0 L' C' (hbind _ us (by rw [← r.length];exact hl)) hl (by unfold cM;rw [List.length_map,AS]) r fun c' hr' => hbody A outer s' H' vs Q f c' _ hr' kp hl hs
 ·exact Option.isSome_iff_exists.mp (iu (env:=X.env) (acc:=[]) (PySem.mem_of_lookup hy))
 ·rcases wF hc with m | m
  ·exact lookup_mem S.ndn m
  ·cases m
theorem IY {e:Expr}{es:List Expr}{t:TA}{p pos:Pos}{x:Str}{g:Addr}{fd:FuncData}{C:Addr→Addr→Shared→Hp→Prop}{ZV:Addr→Addr→St→Sp}{RH:Addr→Addr→St→Hp→Prop}
  (F:∀ f1 f2 σ,o8 X.prog X.w X.K X.mg X.base k g fd ps (fun s vs H Q=>C f1 f2 s H∧ZV f1 f2 σ vs H Q E0))
  (hC:∀ pins σ H s f1 f2,Inv X pins σ H s→RH f1 f2 σ H→C f1 f2 s H)
  (hr:fS k X.A) (hg:Gl X x) (hm:X.mg x = some (.ref g)) (hk:PySem.W.keepIn X.K (.ref g) = true) (hb:Binds X.K fd ps [])
  (ha:PA X (e :: es) t) (hdb:(x == ("__debug__" : Str)) = false:=by decide) (he:starEach (e :: es) X.env = (false,eval e X.env) :: starEach es X.env:=by rfl) (hpl:(backTo pos (starEach es X.env)).any (·.1) = false:=by rfl):
  PE X (.Call (.Name x p) (e :: es) [] pos) (fun σ H Q=>t σ H fun vs H1=>∃ f1 f2,RH f1 f2 σ H1∧ZV f1 f2 σ vs H1 Q E0):=by
 intro pins s σ H Q I h
 refine wpAny_Call_Name_kw (tu I hg hm ?_ hdb)
 refine PySem.W.callWith_K (h₀:=X.base) I.ok.mod.Ec hk (cJ (ha pos pins s σ H _ I h) fun us s2 ⟨vs,H2,I2,rr,f1,f2,q1,q⟩=>⟨I2.tQ,?_⟩) he hpl
 have R7:=hC _ _ _ _ f1 f2 I2 q1
 have hl:us.length = ps.length:=by rw [← rr.length];exact (F f1 f2 σ).len _ _ _ _ ⟨R7,q⟩
 have hb' := hb s2 us I2.tQ (by rw [List.append_nil];exact hl)
 rw [List.append_nil] at hb'
 refine wpAny_call (codeAny_mono ((F f1 f2 σ).run X.A X.stack s2 H2 ⟨us,[]⟩ us _ Q hr I2.Ip hb' rr ⟨R7,q⟩) fun r s' hq' => ?_)
 cases r with
 | error e=>exact False.elim hq'
 | ok fl=>
  cases fl with
  | ret u=>exact I2.after hq'
  | next=>exact False.elim hq'
  | brk=>exact False.elim hq'
  | cont=>exact False.elim hq'
end
end L2
namespace Num
open Frac Dig
def cnt (row:List (Int × Int)) (n:Int × Int):Nat:=(row.filter fun r=>decide (cmp r n < 0)).length
def ins (row:List (Int × Int)) (n:Int × Int):List (Int × Int):=if n∈row then row else row.take (cnt row n) ++ n :: row.drop (cnt row n)
theorem lt_trans {a b c:Int × Int}(ha:QG a) (hb:QG b) (hc:QG c) (h1:cmp a b < 0) (h2:cmp b c < 0):cmp a c < 0:=by
 rw [E5 ha.pos hb.pos hc.pos (by omega) (by omega)]
 split <;> assumption
end Num
namespace Rdo
open PySem Dig Ord Nm L2 Frac
theorem Run.app {fld:Str→Prop}{num:Int→Int→Prop}{st st1 st2:List Str}{a b:List Wd}(h:Run fld num st a st1) (k:Run fld num st1 b st2):Run fld num st (a ++ b) st2:=by
 induction h with
 | nil=>exact k
 | cons s _ ih=>exact .cons s (ih k)
theorem Step.frame {fld:Str→Prop}{num:Int→Int→Prop}{st st1:List Str}{w:Wd}(r:List Str) (h:Ord.Step fld num st w st1):Ord.Step fld num (st ++ r) w (st1 ++ r):=by
 cases h with
 | field hx=>exact .field hx
 | number hx=>exact .number hx
 | word n1 n2 ho=>
  rw [List.append_assoc]
  exact .word n1 n2 ho
theorem Run.frame {fld:Str→Prop}{num:Int→Int→Prop}{st st1:List Str}{a:List Wd}(r:List Str) (h:Run fld num st a st1):Run fld num (st ++ r) a (st1 ++ r):=by
 induction h with
 | nil=>exact .nil
 | cons s _ ih=>exact .cons (Step.frame r s) ih
section
variable {fld:Str→Prop}{num:Int→Int→Prop}{a b:List Wd}
end
end Rdo
namespace Look
open PySem Ord Rdo
inductive An where
 | ahead
 | like
 | behind
 deriving DecidableEq
def An.turn:An→An
 | .ahead=>.behind
 | .like=>.like
 | .behind=>.ahead
def An.t:An→Str
 | .ahead=>S "ahead"
 | .like=>S "like"
 | .behind=>S "behind"
def An.how:An→Str
 | .ahead=>S "less"
 | .like=>S "same"
 | .behind=>S "more"
inductive Tv where
 | an (a:An)
 | tr (b:Bool)
 | mk (b c:Bool)
 | wd (w:Wd)
def Tv.d:Tv→PyData
 | .an a=>.str a.t
 | .tr b=>.bool b
 | .mk b c=>.list [.bool b,.bool c]
 | .wd w=>w.d
structure En where
 look:Str→An
 one:Str→Int→Int→An
 two:Str→Int→Int→An
def isA (a b:An):Bool:=decide (a = b)
def xV (E:En):Nat→List Tv→Tv
 | 0,_=>.an .like
 | 1,[.wd (.t z)]=>.an (E.look z)
 | 2,[.wd (.t z)]=>.an (E.look z).turn
 | 3,[.an a,.an b]=>.an (if a = .like then b else a)
 | 4,[.an a]=>.an a.turn
 | 5,[.tr c,.an a,.an b]=>.an (if c = true then a else b)
 | 6,[.wd (.t z)]=>.tr (isA (E.look z) .like)
 | 7,[.mk b c]=>.tr (b && c)
 | 8,[.mk b c]=>.tr (b || c)
 | 9,[.tr b]=>.tr (!b)
 | 10,[.tr b,.tr c]=>.tr (b && c)
 | 11,[.tr b,.tr c]=>.tr (b || c)
 | 12,[.wd (.t z),.wd (.n a b)]=>.mk (isA (E.one z a b) .ahead) (isA (E.two z a b) .ahead)
 | 13,[.wd (.t z),.wd (.n a b)]=>.mk (isA (E.one z a b) .like) (isA (E.two z a b) .like)
 | _,_=>.an .like
def vC (x:Str):Nat:=pT.findIdx fun r=>decide (r.1 = x)
def push (E:En) (w:Wd) (st:List Tv):List Tv:=match w with
 | .n a b=>.wd (.n a b) :: st
 | .t x=>match cD x with
  | some r=>xV E (vC x) (st.take r.2.2.length) :: st.drop r.2.2.length
  | none=>.wd (.t x) :: st
def ev (E:En):List Wd→List Tv→List Tv
 | [],st=>st
 | w :: ws,st=>push E w (ev E ws st)
def Ty (fld:Str→Prop) (num:Int→Int→Prop) (p:Str) (v:Tv):Prop:=
 (p = S "order" ∧ ∃ a,v = .an a)∨(p = S "case" ∧ ∃ b,v = .tr b)∨(p = S "mark" ∧ ∃ b c,v = .mk b c)∨(p = S "field" ∧ ∃ z,fld z∧v = .wd (.t z))∨(p = S "number" ∧ ∃ a b,num a b∧v = .wd (.n a b))
theorem nG:(S "order" ≠ S "case" ∧ S "order" ≠ S "mark" ∧ S "order" ≠ S "field" ∧ S "order" ≠ S "number")∧(S "case" ≠ S "mark" ∧ S "case" ≠ S "field" ∧ S "case" ≠ S "number")∧(S "mark" ≠ S "field" ∧ S "mark" ≠ S "number")∧S "field" ≠ S "number" := by decide +kernel
theorem Ty.order {fld:Str→Prop}{num:Int→Int→Prop}{v:Tv}(h:Ty fld num (S "order") v):∃ a,v = .an a:=by
 obtain ⟨⟨n1,n2,n3,n4⟩,_⟩:=nG
 rcases h with ⟨_,h⟩ | ⟨e,_⟩ | ⟨e,_⟩ | ⟨e,_⟩ | ⟨e,_⟩
 ·exact h
 ·exact absurd e n1
 ·exact absurd e n2
 ·exact absurd e n3
 ·exact absurd e n4
theorem Ty.case {fld:Str→Prop}{num:Int→Int→Prop}{v:Tv}(h:Ty fld num (S "case") v):∃ b,v = .tr b:=by
 obtain ⟨⟨n1,n2,n3,n4⟩,⟨m1,m2,m3⟩,_⟩:=nG
 rcases h with ⟨e,_⟩ | ⟨_,h⟩ | ⟨e,_⟩ | ⟨e,_⟩ | ⟨e,_⟩
 ·exact absurd e.symm n1
 ·exact h
 ·exact absurd e m1
 ·exact absurd e m2
 ·exact absurd e m3
theorem Ty.mark {fld:Str→Prop}{num:Int→Int→Prop}{v:Tv}(h:Ty fld num (S "mark") v):∃ b c,v = .mk b c:=by
 obtain ⟨⟨n1,n2,n3,n4⟩,⟨m1,m2,m3⟩,⟨k1,k2⟩,_⟩:=nG
 rcases h with ⟨e,_⟩ | ⟨e,_⟩ | ⟨_,h⟩ | ⟨e,_⟩ | ⟨e,_⟩
 ·exact absurd e.symm n2
 ·exact absurd e.symm m1
 ·exact h
 ·exact absurd e k1
 ·exact absurd e k2
theorem Ty.field {fld:Str→Prop}{num:Int→Int→Prop}{v:Tv}(h:Ty fld num (S "field") v):∃ z,fld z∧v = .wd (.t z):=by
 obtain ⟨⟨n1,n2,n3,n4⟩,⟨m1,m2,m3⟩,⟨k1,k2⟩,l1⟩:=nG
 rcases h with ⟨e,_⟩ | ⟨e,_⟩ | ⟨e,_⟩ | ⟨_,h⟩ | ⟨e,_⟩
 ·exact absurd e.symm n3
 ·exact absurd e.symm m2
 ·exact absurd e.symm k1
 ·exact h
 ·exact absurd e l1
theorem Ty.number {fld:Str→Prop}{num:Int→Int→Prop}{v:Tv}(h:Ty fld num (S "number") v):∃ a b,num a b∧v = .wd (.n a b):=by
 obtain ⟨⟨n1,n2,n3,n4⟩,⟨m1,m2,m3⟩,⟨k1,k2⟩,l1⟩:=nG
 rcases h with ⟨e,_⟩ | ⟨e,_⟩ | ⟨e,_⟩ | ⟨e,_⟩ | ⟨_,h⟩
 ·exact absurd e.symm n4
 ·exact absurd e.symm m3
 ·exact absurd e.symm k2
 ·exact absurd e.symm l1
 ·exact h
inductive sM (fld:Str→Prop) (num:Int→Int→Prop):List Str→List Tv→Prop
 | nil:sM fld num [] []
 | cons {p:Str}{v:Tv}{ps:List Str}{vs:List Tv}:Ty fld num p v→sM fld num ps vs→sM fld num (p :: ps) (v :: vs)
theorem Bd {x:Str}{want:Str}{ps:List Str}(h:cD x = some (x,want,ps)):
  (x = S "like" ∧ want = S "order" ∧ ps = [])∨(x = S "up" ∧ want = S "order" ∧ ps = [S "field"])∨(x = S "down" ∧ want = S "order" ∧ ps = [S "field"])∨(x = S "then" ∧ want = S "order" ∧ ps = [S "order",S "order"])∨
  (x = S "turn" ∧ want = S "order" ∧ ps = [S "order"])∨(x = S "pick" ∧ want = S "order" ∧ ps = [S "case",S "order",S "order"])∨(x = S "same" ∧ want = S "case" ∧ ps = [S "field"])∨(x = S "both" ∧ want = S "case" ∧ ps = [S "mark"])∨
  (x = S "either" ∧ want = S "case" ∧ ps = [S "mark"])∨(x = S "not" ∧ want = S "case" ∧ ps = [S "case"])∨(x = S "and" ∧ want = S "case" ∧ ps = [S "case",S "case"])∨(x = S "or" ∧ want = S "case" ∧ ps = [S "case",S "case"])∨
  (x = S "under" ∧ want = S "mark" ∧ ps = [S "field",S "number"])∨(x = S "is" ∧ want = S "mark" ∧ ps = [S "field",S "number"]):=by
 have m:=(wB h).1
 unfold pT at m
 simp only [List.mem_cons,List.not_mem_nil,or_false,Prod.mk.injEq] at m
 exact m
theorem Cz:vC (S "like") = 0∧vC (S "up") = 1∧vC (S "down") = 2∧vC (S "then") = 3∧vC (S "turn") = 4∧vC (S "pick") = 5∧vC (S "same") = 6∧vC (S "both") = 7∧vC (S "either") = 8∧vC (S "not") = 9∧vC (S "and") = 10∧vC (S "or") = 11∧vC (S "under") = 12∧vC (S "is") = 13:=by decide +kernel
theorem OR {fld:Str→Prop}{num:Int→Int→Prop}{E:En}{x want:Str}{ps:List Str}{vs:List Tv}(h:cD x = some (x,want,ps)) (hv:sM fld num ps vs):Ty fld num want (xV E (vC x) vs):=by
 obtain ⟨w0,w1,w2,w3,w4,w5,w6,w7,w8,w9,R8,R9,Sa,Sd⟩:=Cz
 have uF:∀ {p:Str},sM fld num [p] vs→∃ v,vs = [v]∧Ty fld num p v:=fun h=>by cases h with | cons a b=>cases b;exact ⟨_,rfl,a⟩
 have go2:∀ {p q:Str},sM fld num [p,q] vs→∃ v u,vs = [v,u]∧Ty fld num p v∧Ty fld num q u:=fun h=>by cases h with | cons a b=>cases b with | cons b c=>cases c;exact ⟨_,_,rfl,a,b⟩
 have Se:∀ {p q r:Str},sM fld num [p,q,r] vs→∃ v u t,vs = [v,u,t]∧Ty fld num p v∧Ty fld num q u∧Ty fld num r t:=fun h=>by cases h with | cons a b=>cases b with | cons b c=>cases c with | cons c d=>cases d;exact ⟨_,_,_,rfl,a,b,c⟩
 rcases Bd h with ⟨rfl,rfl,rfl⟩ | ⟨rfl,rfl,rfl⟩ | ⟨rfl,rfl,rfl⟩ | ⟨rfl,rfl,rfl⟩ | ⟨rfl,rfl,rfl⟩ | ⟨rfl,rfl,rfl⟩ | ⟨rfl,rfl,rfl⟩ | ⟨rfl,rfl,rfl⟩ | ⟨rfl,rfl,rfl⟩ | ⟨rfl,rfl,rfl⟩ | ⟨rfl,rfl,rfl⟩ | ⟨rfl,rfl,rfl⟩ | ⟨rfl,rfl,rfl⟩ | ⟨rfl,rfl,rfl⟩
 ·rw [w0];exact .inl ⟨rfl,_,rfl⟩
 ·obtain ⟨v,rfl,h1⟩:=uF hv;obtain ⟨z,_,rfl⟩:=h1.field;rw [w1];exact .inl ⟨rfl,_,rfl⟩
 ·obtain ⟨v,rfl,h1⟩:=uF hv;obtain ⟨z,_,rfl⟩:=h1.field;rw [w2];exact .inl ⟨rfl,_,rfl⟩
 ·obtain ⟨v,u,rfl,h1,h2⟩:=go2 hv;obtain ⟨a,rfl⟩:=h1.order;obtain ⟨b,rfl⟩:=h2.order;rw [w3];exact .inl ⟨rfl,_,rfl⟩
 ·obtain ⟨v,rfl,h1⟩:=uF hv;obtain ⟨a,rfl⟩:=h1.order;rw [w4];exact .inl ⟨rfl,_,rfl⟩
 ·obtain ⟨v,u,t,rfl,h1,h2,h3⟩:=Se hv;obtain ⟨a,rfl⟩:=h1.case;obtain ⟨b,rfl⟩:=h2.order;obtain ⟨c,rfl⟩:=h3.order;rw [w5];exact .inl ⟨rfl,_,rfl⟩
 ·obtain ⟨v,rfl,h1⟩:=uF hv;obtain ⟨z,_,rfl⟩:=h1.field;rw [w6];exact .inr (.inl ⟨rfl,_,rfl⟩)
 ·obtain ⟨v,rfl,h1⟩:=uF hv;obtain ⟨a,b,rfl⟩:=h1.mark;rw [w7];exact .inr (.inl ⟨rfl,_,rfl⟩)
 ·obtain ⟨v,rfl,h1⟩:=uF hv;obtain ⟨a,b,rfl⟩:=h1.mark;rw [w8];exact .inr (.inl ⟨rfl,_,rfl⟩)
 ·obtain ⟨v,rfl,h1⟩:=uF hv;obtain ⟨a,rfl⟩:=h1.case;rw [w9];exact .inr (.inl ⟨rfl,_,rfl⟩)
 ·obtain ⟨v,u,rfl,h1,h2⟩:=go2 hv;obtain ⟨a,rfl⟩:=h1.case;obtain ⟨b,rfl⟩:=h2.case;rw [R8];exact .inr (.inl ⟨rfl,_,rfl⟩)
 ·obtain ⟨v,u,rfl,h1,h2⟩:=go2 hv;obtain ⟨a,rfl⟩:=h1.case;obtain ⟨b,rfl⟩:=h2.case;rw [R9];exact .inr (.inl ⟨rfl,_,rfl⟩)
 ·obtain ⟨v,u,rfl,h1,h2⟩:=go2 hv;obtain ⟨z,_,rfl⟩:=h1.field;obtain ⟨a,b,_,rfl⟩:=h2.number;rw [Sa];exact .inr (.inr (.inl ⟨rfl,_,_,rfl⟩))
 ·obtain ⟨v,u,rfl,h1,h2⟩:=go2 hv;obtain ⟨z,_,rfl⟩:=h1.field;obtain ⟨a,b,_,rfl⟩:=h2.number;rw [Sd];exact .inr (.inr (.inl ⟨rfl,_,_,rfl⟩))
theorem oH {fld:Str→Prop}{num:Int→Int→Prop}{st:List Str}:∀ {ps:List Str}{vs:List Tv},sM fld num (ps ++ st) vs→sM fld num ps (vs.take ps.length)∧sM fld num st (vs.drop ps.length)
 | [],vs,h=>⟨.nil,h⟩
 | p :: ps,vs,h=>by
  cases h with
  | cons a b=>
   obtain ⟨h1,h2⟩:=oH b
   exact ⟨.cons a h1,h2⟩
theorem sM.length {fld:Str→Prop}{num:Int→Int→Prop}:∀ {ps:List Str}{vs:List Tv},sM fld num ps vs→ps.length = vs.length
 | _,_,.nil=>rfl
 | _,_,.cons _ b=>congrArg (· + 1) (sM.length b)
abbrev Kinds (st:List Str):Prop:=∀ x∈st,x∈[S "order",S "case",S "mark",S "field",S "number"]
theorem IZ {fld:Str→Prop}{num:Int→Int→Prop}{E:En}(hf:∀ z,fld z→cD z = none) {st st1:List Str}{w:Wd}{vs:List Tv}(h:Ord.Step fld num st w st1) (hs:Kinds st) (hv:sM fld num st1 vs):
  sM fld num st (push E w vs)∧∀ R,push E w (vs ++ R) = push E w vs ++ R:=by
 rcases oG h hs with ⟨x,vB,rfl,rfl,hx,rfl⟩ | ⟨a,b,vB,rfl,rfl,hx,rfl⟩ | ⟨want,x,ps,vB,rfl,rfl,n1,n2,hw,hl,rfl⟩
 ·have e:∀ us,push E (.t x) us = .wd (.t x) :: us:=fun us=>by unfold push;dsimp only;rw [hf x hx]
  rw [e]
  exact ⟨.cons (.inr (.inr (.inr (.inl ⟨rfl,x,hx,rfl⟩)))) hv,fun R=>by rw [e];rfl⟩
 ·exact ⟨.cons (.inr (.inr (.inr (.inr ⟨rfl,a,b,hx,rfl⟩)))) hv,fun R=>rfl⟩
 ·have e:∀ us,push E (.t x) us = xV E (vC x) (us.take ps.length) :: us.drop ps.length:=fun us=>by unfold push;dsimp only;rw [hw]
  rw [e]
  obtain ⟨h1,h2⟩:=oH hv
  have hlen:=hv.length
  rw [List.length_append] at hlen
  refine ⟨.cons (OR hw h1) h2,fun R=>?_⟩
  rw [e,List.take_append_of_le_length (by omega),List.drop_append_of_le_length (by omega)]
  rfl
theorem lX {fld:Str→Prop}{num:Int→Int→Prop}{st st1:List Str}{w:Wd}(h:Ord.Step fld num st w st1) (hs:Kinds st):Kinds st1:=by
 rcases oG h hs with ⟨x,vB,rfl,rfl,hx,rfl⟩ | ⟨a,b,vB,rfl,rfl,hx,rfl⟩ | ⟨want,x,ps,vB,rfl,rfl,n1,n2,hw,hl,rfl⟩
 ·exact fun p hp=>hs p (List.mem_cons_of_mem _ hp)
 ·exact fun p hp=>hs p (List.mem_cons_of_mem _ hp)
 ·intro p hp
  rcases List.mem_append.mp hp with hp | hp
  ·have key:∀ r∈pT,∀ p∈r.2.2,p∈[S "order",S "case",S "mark",S "field",S "number"]:=by decide +kernel
   exact key _ (wB hw).1 p hp
  ·exact hs p (List.mem_cons_of_mem _ hp)
theorem FH {fld:Str→Prop}{num:Int→Int→Prop}{E:En}(hf:∀ z,fld z→cD z = none) {st st1:List Str}{ws:List Wd}(h:Run fld num st ws st1):Kinds st→∀ {vs:List Tv},sM fld num st1 vs→
  sM fld num st (ev E ws vs)∧∀ R,ev E ws (vs ++ R) = ev E ws vs ++ R:=by
 induction h with
 | nil=>intro _ vs hv;exact ⟨hv,fun R=>rfl⟩
 | cons a b ih=>
  intro hs vs hv
  obtain ⟨h1,h2⟩:=ih (lX a hs) hv
  obtain ⟨h3,h4⟩:=IZ (E:=E) hf a hs h1
  exact ⟨h3,fun R=>by show push E _ (ev E _ (vs ++ R)) = _;rw [h2,h4];rfl⟩
theorem xW:Kinds [S "order"]:=fun x hx=>by rw [List.mem_singleton.mp hx];exact List.mem_cons_self
theorem FI {fld:Str→Prop}{num:Int→Int→Prop}(E:En) (hf:∀ z,fld z→cD z = none) {ws:List Wd}(h:nB fld num ws):∃ a,∀ R,ev E ws R = .an a :: R:=by
 obtain ⟨h1,h2⟩:=FH (E:=E) hf h xW (vs:=[]) .nil
 cases hc:ev E ws [] with
 | nil=>rw [hc] at h1;cases h1
 | cons v r=>
  rw [hc] at h1
  cases h1 with
  | cons x y=>
   cases y
   obtain ⟨a,rfl⟩:=x.order
   refine ⟨a,fun R=>?_⟩
   have:=h2 R
   rw [List.nil_append] at this
   rw [this,hc];rfl
def qZ (a b:Int × Int):An:=if a.1 * b.2 < b.1 * a.2 then .ahead else if a.1 * b.2 > b.1 * a.2 then .behind else .like
theorem FJ (a b:Int × Int):qZ b a = (qZ a b).turn:=by
 unfold qZ
 generalize a.1 * b.2 = x
 generalize b.1 * a.2 = y
 by_cases h1:x < y
 ·have n1:¬ y < x:=by omega
  simp only [h1,n1,gt_iff_lt,if_true,if_false];rfl
 ·by_cases h2:y < x
  ·simp only [h1,h2,gt_iff_lt,if_true,if_false];rfl
  ·simp only [h1,h2,gt_iff_lt,if_false];rfl
def dZ (book:List Str) (f g:List (Int × Int)):En where
 look z:=qZ (f.getD (book.idxOf z) (0,1)) (g.getD (book.idxOf z) (0,1))
 one z a b:=qZ (f.getD (book.idxOf z) (0,1)) (a,b)
 two z a b:=qZ (g.getD (book.idxOf z) (0,1)) (a,b)
end Look
namespace L2
open PySem PySem.Spec PyProof.Rows MeetsSeq
theorem qt (t:Addr) (items:Array Value) (n:Nat) (dct:Option Addr) (sl:Array (Option Value)) (x:Value) (e:Value→Bool) (he:∀ y,y∈items→EqGives y x (e y)) (j:Nat) (hj:j < items.size)
  (hit:e items[j] = true) (hno:∀ m (hm:m < items.size),m < j→e items[m] = false):
  Meets (Builtin.«tuple.index» ⟨[.ref t,x],[]⟩) (fun _ R s=>s.heap.get? t = some { cls:=.type "tuple",dict:=dct,data:=.seq items n,slots:=sl }∧R (.ok (.ret (.int j s.toks))) { s with toks:=s.toks + 1 }):=
 .of_wp fun prog w A R s h=>by
  obtain ⟨hp,g,d,tk,os⟩:=s;obtain ⟨q1,h⟩:=h
  wp_walk using wpAny_loadPart' q1
  show wpAny (model prog w) A.in1 (forIn ([:min items.size items.size]:Std.Legacy.Range) ((none:Option Fin),()) _) _ _ _
  rw [Std.Legacy.Range.forIn_eq_forIn_range']
  have hz:[:min items.size items.size].size = items.size:=by simp [Std.Legacy.Range.size]
  rw [hz]
  refine wpAny_forIn_list _ (fun rest b s' => s' = ⟨hp,g,d,tk,os⟩∧b = (none,())∧∃ i,i≤j∧rest = List.range' i (items.size - i)) _ ?_ ?_ _ _ ⟨rfl,rfl,0,Nat.zero_le _,rfl⟩
  ·rintro i rest b s' ⟨rfl,rfl,k,hk,hr⟩
   have hlt:k < items.size:=by omega
   have hr' : i = k∧rest = List.range' (k + 1) (items.size - (k + 1)):=by
    rw [show items.size - k = (items.size - (k + 1)) + 1 by omega,List.range'_succ] at hr
    injection hr with e1 e2
    exact ⟨e1,e2⟩
   obtain ⟨rfl,rfl⟩:=hr'
   have hi:items[i]? = some items[i]:=by simp [hlt]
   rw [hi]
   dsimp only
   refine wpAny_bind (he _ (Array.getElem_mem hlt) prog w _ _ _ _ ?_)
   by_cases hij:i = j
   ·subst hij
    rw [hit,if_pos rfl]
    wp_walk
    exact ⟨_,rfl,h⟩
   ·rw [hno i hlt (by omega)]
    exact wpAny_pure ⟨rfl,rfl,i + 1,by omega,rfl⟩
  ·rintro b s' ⟨rfl,rfl,k,hk,hr⟩
   have:items.size - k = 0:=by
    have:=congrArg List.length hr
    simpa using this.symm
   omega
def ZW (z:Str):Value→Bool
 | .str a _=>a == z
 | _=>false
section
variable {X:Cx}
def CA (K:PySem.W.Frag):V→List V→Hp→VK→Prop:=fun x vs H Q=>∃ (p:Addr) (ws:List Str) (z:Str),x = .ref p∧vs = [.str z]∧eV K H p (ws.map V.str)∧z∈ws∧Q (.int (ws.idxOf z:Nat)) H
theorem q9 {K:PySem.W.Frag}(eK:X.K = K):X8 X "tuple.index" (CA K):=by
 subst eK
 intro pins s σ H x vs v us Q I rx rv h
 obtain ⟨p,ws,z,rfl,rfl,hp,hz,q⟩:=h
 cases rx
 obtain ⟨u,rfl,ru⟩:=vals1 rv
 obtain ⟨t,rfl⟩:=ru
 obtain ⟨its,r,pt,hl⟩:=I.tuple hp
 obtain ⟨⟨c,dct,dt,sl⟩,e1,e2,n,e3⟩:=pt
 replace e2:c = .type "tuple" := e2
 replace e3:dt = .seq its.toArray n:=e3
 subst e2 e3
 have hlen:its.length = ws.length:=by rw [← r.length,List.length_map]
 have el:∀ (i:Nat) (hi:i < its.toArray.size),∃ t',its.toArray[i] = Value.str (ws.getD i z) t' := fun i hi=>by
  have hi' : i < its.length:=by simpa using hi
  obtain ⟨u,hu,ru⟩:=r.get (i:=i) (x:=V.str (ws.getD i z)) (by rw [List.getElem?_map,List.getD_eq_getElem?_getD,List.getElem?_eq_getElem (by omega)];rfl)
  obtain ⟨t',rfl⟩:=ru
  refine ⟨t',?_⟩
  have:its[i] = Value.str (ws.getD i z) t' := by
   rw [List.getElem?_eq_getElem hi'] at hu;exact Option.some.inj hu
  simpa using this
 have hjl:ws.idxOf z < its.length:=by rw [hlen];exact List.idxOf_lt_length_of_mem hz
 refine call_meets F.slot_tuple_index ⟨_,e1,rfl⟩ F.entry_tuple_index (F.args_tuple_index_2 _ _)
  (qt p its.toArray n dct sl (.str z t) (ZW z) (fun y hy=>?_) (ws.idxOf z) (by simpa using hjl) ?_ fun m hm hlt=>?_) ⟨e1,?_⟩
 ·obtain ⟨i,hi,rfl⟩:=Array.mem_iff_getElem.mp hy
  obtain ⟨t',e⟩:=el i hi
  rw [e]
  exact eqGives_str _ _ _ _
 ·obtain ⟨t',e⟩:=el _ (by simpa using hjl)
  rw [e]
  have:ws.getD (ws.idxOf z) z = z:=by
   rw [List.getD_eq_getElem?_getD,List.getElem?_eq_getElem (by omega)]
   exact List.getElem_idxOf (by omega)
  rw [this]
  show (z == z) = true
  exact beq_self_eq_true z
 ·obtain ⟨t',e⟩:=el m hm
  rw [e]
  show (ws.getD m z == z) = false
  have hm' : m < ws.length:=by have:m < its.length:=(by simpa using hm);omega
  have hne:(ws[m] == z) = false:=List.not_of_lt_findIdx (p:=(· == z)) (xs:=ws) hlt
  rw [List.getD_eq_getElem?_getD,List.getElem?_eq_getElem hm']
  exact hne
 ·exact ⟨.int _,H,I.tok _,⟨_,rfl⟩,q⟩
end
end L2
namespace L2
open PySem PySem.Spec PyProof.Rows
def rW:List DictEntry→List (Str × Str)→Bool
 | [],[]=>true
 | e :: es,r :: rs=>(match e.key,e.val with
  | .str x _,.str v _=>x == r.1 && v == r.2
  | _,_=>false) && rW es rs
 | _,_=>false
theorem FO {e:DictEntry}{r:Str × Str}(h:(match e.key,e.val with
  | .str x _,.str v _=>x == r.1 && v == r.2
  | _,_=>false) = true):(∃ t,e.key = .str r.1 t)∧∃ t,e.val = .str r.2 t:=by
 split at h
 ·rename_i x t v u h1 h2
  rw [Bool.and_eq_true,beq_iff_eq,beq_iff_eq] at h
  obtain ⟨rfl,rfl⟩:=h
  exact ⟨⟨t,h1⟩,u,h2⟩
 ·cases h
theorem tF (z:Str):∀ {es:List DictEntry}{rs:List (Str × Str)},rW es rs = true→
  (es.find? (·.key.isStr z) = none∧rs.find? (fun r=>decide (r.1 = z)) = none)∨∃ e r,es.find? (·.key.isStr z) = some e∧rs.find? (fun r=>decide (r.1 = z)) = some r∧∃ t,e.val = .str r.2 t
 | [],[],_=>.inl ⟨rfl,rfl⟩
 | [],_ :: _,h=>by cases h
 | _ :: _,[],h=>by cases h
 | e :: es,r :: rs,h=>by
  unfold rW at h
  rw [Bool.and_eq_true] at h
  obtain ⟨⟨t,hk⟩,hv⟩:=FO h.1
  have q:e.key.isStr z = decide (r.1 = z):=by rw [hk];exact wz
  rw [List.find?_cons,List.find?_cons,q]
  by_cases hz:r.1 = z
  ·rw [decide_eq_true hz]
   exact .inr ⟨e,r,rfl,rfl,hv⟩
  ·rw [decide_eq_false hz]
   exact tF z h.2
theorem zF:∀ {es:List DictEntry}{rs:List (Str × Str)},rW es rs = true→es.any (·.refKey) = false
 | [],[],_=>rfl
 | [],_ :: _,h=>by cases h
 | _ :: _,[],h=>by cases h
 | e :: es,r :: rs,h=>by
  unfold rW at h
  rw [Bool.and_eq_true] at h
  obtain ⟨⟨t,hk⟩,_⟩:=FO h.1
  rw [List.any_cons,zF h.2,Bool.or_false]
  unfold DictEntry.refKey
  rw [hk]
structure xX (K:PySem.W.Frag) (P:Params) (mg:Str→Option Value) (x:Str) (rs:List (Str × Str)) where
 a:Addr
 g:Str→Option (V × Value)
 m:mg x = some (.ref a)
 D:rR K P a g
 yes:∀ z v,rs.find? (fun r=>decide (r.1 = z)) = some (z,v)→∃ u,g z = some (.str v,u)
theorem FP {K:PySem.W.Frag}{P:Params}{mg:Str→Option Value}{x:Str}{a:Addr}{es:Array DictEntry}{n:Nat}{rs:List (Str × Str)}(hm:mg x = some (.ref a)) (hl:K.lookup a = some ⟨.type "dict",none,.dict es n,#[]⟩) (hk:PySem.W.KeysLit P es.toList) (lo:(a == sysModules) = false)
  (h:rW es.toList rs = true):Nonempty (xX K P mg x rs):=by
 refine ⟨⟨a,Fq es.toList,hm,⟨⟨es,n,hl,hk⟩,lo,fun x=>?_,fun x v u e=>?_⟩,fun z v e=>?_⟩⟩
 ·unfold PySem.W.nsIn
  rw [hl]
  dsimp only
  unfold Fq
  rcases tF x h with ⟨e1,_⟩ | ⟨e,r,e1,_,_⟩
  ·rw [e1,zF h];rfl
  ·rw [e1];rfl
 ·unfold Fq at e
  rcases tF x h with ⟨e1,_⟩ | ⟨e',r,e1,_,t,ht⟩
  ·rw [e1] at e;cases e
  ·rw [e1] at e
   rw [Option.map_some] at e
   injection e with e
   injection e with e1 e2
   subst e1 e2
   rw [ht];exact ⟨t,rfl⟩
 ·rcases tF z h with ⟨_,e2⟩ | ⟨e',r,e1,e2,t,ht⟩
  ·rw [e2] at e;cases e
  ·rw [e2] at e
   injection e with e;subst e
   refine ⟨e'.val,?_⟩
   unfold Fq
   rw [e1,Option.map_some,ht];rfl
end L2
namespace K10
open PySem L2 Frac Lw Dig PySem.NumText Nm
def top (i:Nat):Stmt:=PySem.Challenge.pw_ordertext_k10_is_order.main.body.getD i (.Pass ⟨0,0,0,0⟩)
abbrev iP:Stmt:=top 4
abbrev lY:Stmt:=top 5
abbrev fh:Stmt:=top 6
abbrev cX:Stmt:=top 7
abbrev iQ:Stmt:=top 8
abbrev j6:Stmt:=top 9
abbrev cG:Stmt:=top 10
abbrev cY:Stmt:=top 11
abbrev j7:Stmt:=top 12
abbrev dz:Stmt:=top 13
abbrev gR:Stmt:=top 15
abbrev eo:Stmt:=top 16
abbrev cQ:Stmt:=top 18
abbrev gS:Stmt:=top 19
abbrev fj:Stmt:=top 20
abbrev fq:Stmt:=top 21
abbrev fu:Stmt:=top 22
abbrev dO:Stmt:=top 23
abbrev cN:Stmt:=top 24
abbrev fB:Stmt:=top 25
abbrev iR:Stmt:=top 26
abbrev fD:Stmt:=top 28
abbrev fE:Stmt:=top 29
abbrev dQ:Stmt:=top 30
abbrev eu:Stmt:=top 31
abbrev bZ:Stmt:=top 32
abbrev dR:Stmt:=top 33
abbrev fF:Stmt:=top 34
abbrev cB:Stmt:=top 35
abbrev fG:Stmt:=top 36
abbrev dG:Stmt:=top 37
abbrev cZ:Stmt:=top 39
abbrev cO:Stmt:=top 40
abbrev cH:Stmt:=top 41
abbrev dH:Stmt:=top 42
abbrev eF:Stmt:=top 43
abbrev dU:Stmt:=top 44
abbrev cP:Stmt:=top 45
abbrev fH:Stmt:=top 46
abbrev nH:Stmt:=top 47
theorem pW:bB ["order", "by_field", "by_mark", "told", "word"] ["order", "by_field", "by_mark"] (ak iP):=⟨rfl,rfl,rfl,by decide +kernel,rfl,by decide +kernel,by decide +kernel⟩
theorem zG:bB ["told", "many", "parts"] ["told", "many"] (ak lY):=⟨rfl,rfl,rfl,by decide +kernel,rfl,by decide +kernel,by decide +kernel⟩
theorem xY:bB ["word", "parts", "by_field", "by_mark"] ["word", "parts", "by_field", "by_mark"] (ak fh):=⟨rfl,rfl,rfl,by decide +kernel,rfl,by decide +kernel,by decide +kernel⟩
theorem sO:bB ["word", "parts"] ["word", "parts"] (ak cX):=⟨rfl,rfl,rfl,by decide +kernel,rfl,by decide +kernel,by decide +kernel⟩
theorem Be:bB ["part"] ["part"] (ak iQ):=⟨rfl,rfl,rfl,by decide +kernel,rfl,by decide +kernel,by decide +kernel⟩
theorem Ds:bB ["word", "how"] ["word", "how"] (ak j6):=⟨rfl,rfl,rfl,by decide +kernel,rfl,by decide +kernel,by decide +kernel⟩
theorem qu:bB ["one", "other"] ["one", "other"] (ak cG):=⟨rfl,rfl,rfl,by decide +kernel,rfl,by decide +kernel,by decide +kernel⟩
theorem sP:bB ["part"] ["part"] (ak cY):=⟨rfl,rfl,rfl,by decide +kernel,rfl,by decide +kernel,by decide +kernel⟩
theorem Dt:bB ["case", "one", "other"] ["case", "one", "other"] (ak j7):=⟨rfl,rfl,rfl,by decide +kernel,rfl,by decide +kernel,by decide +kernel⟩
theorem pe:bB ["truth", "word", "parts", "rest"] ["truth", "word", "parts"] (ak dz):=⟨rfl,rfl,rfl,by decide +kernel,rfl,by decide +kernel,by decide +kernel⟩
theorem nI:bB ["one", "other", "left", "right"] ["one", "other"] (ak gR):=⟨rfl,rfl,rfl,by decide +kernel,rfl,by decide +kernel,by decide +kernel⟩
theorem pq:bB ["one", "other", "size"] ["one", "other"] (ak eo):=⟨rfl,rfl,rfl,by decide +kernel,rfl,by decide +kernel,by decide +kernel⟩
theorem rm:bB ["order", "book", "first", "second", "by_field", "by_mark"] ["order", "book", "first", "second"] (ak cQ):=⟨rfl,rfl,rfl,by decide +kernel,rfl,by decide +kernel,by decide +kernel⟩
theorem zH:bB ["order", "book", "things"] ["order", "book", "things"] (ak gS):=⟨rfl,rfl,rfl,by decide +kernel,rfl,by decide +kernel,by decide +kernel⟩
theorem lZ:bB ["things", "kept", "thing"] ["things"] (ak fj):=⟨rfl,rfl,rfl,by decide +kernel,rfl,by decide +kernel,by decide +kernel⟩
theorem zI:bB ["order", "book", "things"] ["order", "book", "things"] (ak fq):=⟨rfl,rfl,rfl,by decide +kernel,rfl,by decide +kernel,by decide +kernel⟩
theorem zJ:bB ["order", "book", "one", "things"] ["order", "book", "one", "things"] (ak fu):=⟨rfl,rfl,rfl,by decide +kernel,rfl,by decide +kernel,by decide +kernel⟩
theorem uG:bB ["table"] ["table"] (ak dO):=⟨rfl,rfl,rfl,by decide +kernel,rfl,by decide +kernel,by decide +kernel⟩
theorem cW:bB ["table", "ranks", "one", "row", "other", "look"] ["table"] (ak cN):=⟨rfl,rfl,rfl,by decide +kernel,rfl,by decide +kernel,by decide +kernel⟩
theorem zK:bB ["table"] ["table"] (ak fB):=⟨rfl,rfl,rfl,by decide +kernel,rfl,by decide +kernel,by decide +kernel⟩
theorem Bf:bB ["one", "other"] ["one", "other"] (ak iR):=⟨rfl,rfl,rfl,by decide +kernel,rfl,by decide +kernel,by decide +kernel⟩
theorem jq:bB ["want", "some"] ["want"] (ak cB):=⟨rfl,rfl,rfl,by decide +kernel,rfl,by decide +kernel,by decide +kernel⟩
theorem cR:bB ["deck", "book", "numbers", "most", "words", "due", "want", "room", "some", "option"] ["deck", "book", "numbers", "most"] (ak dG):=⟨rfl,rfl,rfl,by decide +kernel,rfl,by decide +kernel,by decide +kernel⟩
theorem lF:bB ["one", "other", "far"] ["one", "other"] (ak cO):=⟨rfl,rfl,rfl,by decide +kernel,rfl,by decide +kernel,by decide +kernel⟩
theorem iy:bB ["order", "book", "early", "late", "pile", "word"] ["order", "book", "early", "late"] (ak cH):=⟨rfl,rfl,rfl,by decide +kernel,rfl,by decide +kernel,by decide +kernel⟩
theorem dI:bB ["word", "pile", "book", "early", "late", "at", "side", "number", "sides", "one", "other", "third"] ["word", "pile", "book", "early", "late"] (ak dH):=⟨rfl,rfl,rfl,by decide +kernel,rfl,by decide +kernel,by decide +kernel⟩
theorem cS:bB ["deck", "book", "numbers", "some", "parts", "field", "number", "way"] ["deck", "book", "numbers"] (ak eF):=⟨rfl,rfl,rfl,by decide +kernel,rfl,by decide +kernel,by decide +kernel⟩
theorem uH:bB ["sides", "early", "late", "third"] ["sides", "early", "late", "third"] (ak dU):=⟨rfl,rfl,rfl,by decide +kernel,rfl,by decide +kernel,by decide +kernel⟩
theorem jk:bB ["order", "book", "things", "sides", "many", "early", "late"] ["order", "book", "things"] (ak cP):=⟨rfl,rfl,rfl,by decide +kernel,rfl,by decide +kernel,by decide +kernel⟩
theorem xZ:bB ["number"] ["number"] (ak fH):=⟨rfl,rfl,rfl,by decide +kernel,rfl,by decide +kernel,by decide +kernel⟩
theorem l5:bB ["script", "deck", "book", "numbers", "k", "order", "things", "handed", "found"] ["script"] (ak nH):=⟨rfl,rfl,rfl,by decide +kernel,rfl,by decide +kernel,by decide +kernel⟩
abbrev wG:Stmt:=fE
abbrev MP:Stmt:=fD
abbrev qw:Stmt:=dQ
abbrev x8:Stmt:=eu
abbrev x9:Stmt:=bZ
abbrev ya:Stmt:=dR
abbrev FQ:Stmt:=fF
abbrev FU:Stmt:=fG
abbrev uI:Stmt:=cZ
def OS:Stmt→Nat
 | .FunctionDef _ _ _ _ _ _ _ _ _ pos=>pos.line
 | _=>0
abbrev c7:Stmt:=(aZ cQ).getD 0 (.Pass ⟨0,0,0,0⟩)
abbrev gZ:Str:=(Str.ofString "looked" ++ ".<locals>.") ++ "by_field"
theorem nJ:eL (ak cQ) (ak c7) ["word", "field"] ["place"] ["book", "first", "second"]:=⟨rfl,rfl,rfl,by decide +kernel,(by show ∀ p∈(_:List (Str × NameKind)),p.2 = NameKind.free→List.lookup p.1 (ak cQ).names = some NameKind.cell;decide +kernel),by decide +kernel,by decide +kernel,by decide +kernel,by decide +kernel⟩
abbrev d7:Stmt:=(aZ cQ).getD 1 (.Pass ⟨0,0,0,0⟩)
abbrev iS:Str:=(Str.ofString "looked" ++ ".<locals>.") ++ "by_mark"
theorem pX:eL (ak cQ) (ak d7) ["word", "field", "number"] ["place"] ["book", "first", "second"]:=⟨rfl,rfl,rfl,by decide +kernel,(by show ∀ p∈(_:List (Str × NameKind)),p.2 = NameKind.free→List.lookup p.1 (ak cQ).names = some NameKind.cell;decide +kernel),by decide +kernel,by decide +kernel,by decide +kernel,by decide +kernel⟩
abbrev b7:Nat→Nat→Option Str:=fun l _=>if l = OS c7 then some gZ else some iS
set_option genInjectivity false in
structure Top (K:PySem.W.Frag) (mg:Str→Option Value) where
 rq:Addr
 pY:FuncData
 wH:fR K "telling" "telling" iP rq pY
 Du:Binds K pY ["order", "by_field", "by_mark"] []
 Dw:mg "telling" = some (.ref rq)
 tG:Addr
 qx:FuncData
 CB:fR K "taken" "taken" lY tG qx
 I9:Binds K qx ["told", "many"] []
 Ja:mg "taken" = some (.ref tG)
 kF:Addr
 jG:FuncData
 rX:fR K "word_told" "word_told" fh kF jG
 zL:Binds K jG ["word", "parts", "by_field", "by_mark"] []
 zM:mg "word_told" = some (.ref kF)
 iA:Addr
 gH:FuncData
 nK:fR K "put_together" "put_together" cX iA gH
 uJ:Binds K gH ["word", "parts"] []
 uK:mg "put_together" = some (.ref iA)
 ie:Addr
 fJ:FuncData
 jT:fR K "is_open" "is_open" iQ ie fJ
 lG:Binds K fJ ["part"] []
 lH:mg "is_open" = some (.ref ie)
 nL:Addr
 lI:FuncData
 uL:fR K "answer" "answer" j6 nL lI
 zN:Binds K lI ["word", "how"] []
 zO:mg "answer" = some (.ref nL)
 fY:Addr
 eY:FuncData
 lJ:fR K "one_then_other" "one_then_other" cG fY eY
 rA:Binds K eY ["one", "other"] []
 rB:mg "one_then_other" = some (.ref fY)
 fK:Addr
 eO:FuncData
 j8:fR K "turned_about" "turned_about" cY fK eO
 nM:Binds K eO ["part"] []
 nN:mg "turned_about" = some (.ref fK)
 qy:Addr
 oJ:FuncData
 zP:fR K "picked" "picked" j7 qy oJ
 FY:Binds K oJ ["case", "one", "other"] []
 F0:mg "picked" = some (.ref qy)
 iB:Addr
 gw:FuncData
 jH:fR K "settled_by" "settled_by" dz iB gw
 l6:Binds K gw ["truth", "word", "parts"] []
 l7:mg "settled_by" = some (.ref iB)
 l8:Addr
 kG:FuncData
 uM:fR K "compared" "compared" gR l8 kG
 Bg:Binds K kG ["one", "other"] []
 Bh:mg "compared" = some (.ref l8)
 iC:Addr
 gz:FuncData
 l9:fR K "how_stands" "how_stands" eo iC gz
 qz:Binds K gz ["one", "other"] []
 qA:mg "how_stands" = some (.ref iC)
 jl:Addr
 jU:FuncData
 zQ:fR K "looked" "looked" cQ jl jU
 F3:Binds K jU ["order", "book", "first", "second"] []
 F4:mg "looked" = some (.ref jl)
 mh:Addr
 kH:FuncData
 j9:fR K "is_order" "is_order" gS mh kH
 mj:Binds K kH ["order", "book", "things"] []
 mq:mg "is_order" = some (.ref mh)
 kI:Addr
 jI:FuncData
 rY:fR K "each_once" "each_once" fj kI jI
 zR:Binds K jI ["things"] []
 zS:mg "each_once" = some (.ref kI)
 mz:Addr
 kJ:FuncData
 uN:fR K "table_of" "table_of" fq mz kJ
 Bj:Binds K kJ ["order", "book", "things"] []
 Bk:mg "table_of" = some (.ref mz)
 mD:Addr
 kK:FuncData
 uO:fR K "looks_of" "looks_of" fu mD kK
 Bl:Binds K kK ["order", "book", "one", "things"] []
 Bm:mg "looks_of" = some (.ref mD)
 i6:Addr
 iD:FuncData
 pA:fR K "looks_agree" "looks_agree" dO i6 iD
 vG:Binds K iD ["table"] []
 vH:mg "looks_agree" = some (.ref i6)
 gI:Addr
 fZ:FuncData
 mZ:fR K "against_ranks" "against_ranks" cN gI fZ
 sQ:Binds K fZ ["table"] []
 sR:mg "against_ranks" = some (.ref gI)
 mF:Addr
 kL:FuncData
 uP:fR K "ranks_in" "ranks_in" fB mF kL
 Bo:Binds K kL ["table"] []
 Bp:mg "ranks_in" = some (.ref mF)
 oK:Addr
 mG:FuncData
 wI:fR K "by_size" "by_size" iR oK mG
 Dy:Binds K mG ["one", "other"] []
 Dz:mg "by_size" = some (.ref oK)
 nP:Addr
 mH:FuncData
 rZ:fR K "_law_deck" "_law_deck" fD nP mH
 zT:Binds K mH ["script"] []
 zU:mg "_law_deck" = some (.ref nP)
 jm:Addr
 iE:FuncData
 cj:fR K "_law_take" "_law_take" fE jm iE
 cT:Binds K iE ["deck", "many"] []
 cU:mg "_law_take" = some (.ref jm)
 pB:Addr
 nQ:FuncData
 i7:fR K "_law_common" "_law_common" dQ pB nQ
 i8:Binds K nQ ["one", "other"] []
 i9:mg "_law_common" = some (.ref pB)
 jJ:Addr
 jc:FuncData
 f9:fR K "_law_least" "_law_least" eu jJ jc
 jK:Binds K jc ["top", "below"] []
 jL:mg "_law_least" = some (.ref jJ)
 jA:Addr
 jo:FuncData
 jB:fR K "_law_whole_number" "_law_whole_number" bZ jA jo
 jC:Binds K jo ["deck"] []
 jD:mg "_law_whole_number" = some (.ref jA)
 kU:Addr
 kg:FuncData
 kW:fR K "_law_number" "_law_number" dR kU kg
 pC:Binds K kg ["deck"] []
 pD:mg "_law_number" = some (.ref kU)
 nR:Addr
 mJ:FuncData
 r9:fR K "_law_book" "_law_book" fF nR mJ
 zV:Binds K mJ ["deck"] []
 zW:mg "_law_book" = some (.ref nR)
 iF:Addr
 gJ:FuncData
 nU:fR K "_law_options" "_law_options" cB iF gJ
 uQ:Binds K gJ ["want"] []
 uR:mg "_law_options" = some (.ref iF)
 nX:Addr
 mK:FuncData
 nY:fR K "_law_room" "_law_room" fG nX mK
 se:Binds K mK ["due"] []
 sf:mg "_law_room" = some (.ref nX)
 jM:Addr
 jd:FuncData
 qB:fR K "_law_order" "_law_order" dG jM jd
 yc:Binds K jd ["deck", "book", "numbers", "most"] []
 yd:mg "_law_order" = some (.ref jM)
 kh:Addr
 jr:FuncData
 nZ:fR K "_law_numbers" "_law_numbers" cZ kh jr
 uS:Binds K jr ["deck"] []
 uT:mg "_law_numbers" = some (.ref kh)
 gK:Addr
 gf:FuncData
 gM:fR K "_law_compared" "_law_compared" cO gK gf
 jt:Binds K gf ["one", "other"] []
 ju:mg "_law_compared" = some (.ref gK)
 gi:Addr
 eZ:FuncData
 lK:fR K "_law_both_ways" "_law_both_ways" cH gi eZ
 rC:Binds K eZ ["order", "book", "early", "late"] []
 rD:mg "_law_both_ways" = some (.ref gi)
 kM:Addr
 jN:FuncData
 sr:fR K "_law_made" "_law_made" dH kM jN
 zX:Binds K jN ["word", "pile", "book", "early", "late"] []
 zY:mg "_law_made" = some (.ref kM)
 jO:Addr
 je:FuncData
 qC:fR K "_law_thing" "_law_thing" eF jO je
 yf:Binds K je ["deck", "book", "numbers"] []
 yg:mg "_law_thing" = some (.ref jO)
 jf:Addr
 iG:FuncData
 pF:fR K "_law_threes" "_law_threes" dU jf iG
 vI:Binds K iG ["sides", "early", "late", "third"] []
 vJ:mg "_law_threes" = some (.ref jf)
 mO:Addr
 kN:FuncData
 uU:fR K "_law_due" "_law_due" cP mO kN
 Bq:Binds K kN ["order", "book", "things"] []
 Br:mg "_law_due" = some (.ref mO)
 kO:Addr
 jP:FuncData
 su:fR K "_law_tame" "_law_tame" fH kO jP
 zZ:Binds K jP ["number"] []
 z0:mg "_law_tame" = some (.ref kO)
 z9:Addr
 cu:Addr
 wJ:jU.code = .ref z9
 wK:PySem.W.codeHdIn K z9 cu = true
 n5:mg "len" = none
 rE:mg "range" = none
 uV:mg "tuple" = none
 n6:mg "isinstance" = none
 F5:mg "list" = none
 Sf:mg "sum" = none
 F6:mg "max" = none
 ZX:mg "str" = none
 Bt:mg "int" = none
 wL:mg "reversed" = none
 uW:mg "enumerate" = none
 ZY:mg "zip" = none
 ZZ:mg "all" = none
 Sg:mg "bool" = none
 tt:PySem.W.kitOne K (.type "tuple") (.type "tuple") = some true
 st:PySem.W.kitOne K (.type "str") (.type "tuple") = some false
 bt:PySem.W.kitOne K (.type "bool") (.type "tuple") = some false
 ss:PySem.W.kitOne K (.type "str") (.type "str") = some true
 ts:PySem.W.kitOne K (.type "tuple") (.type "str") = some false
 bb:PySem.W.kitOne K (.type "bool") (.type "bool") = some true
section
variable {P:Program}{w:World}{K:PySem.W.Frag}{mg:Str→Option Value}{base:Heap}
theorem Bu:bB ["deck", "many", "at", "cell"] ["deck", "many"] (ak wG):=⟨rfl,rfl,rfl,by decide +kernel,rfl,by decide +kernel,by decide +kernel⟩
theorem mQ {f:Addr}{fd:FuncData}(F:fR K "_law_take" "_law_take" wG f fd) (hlen:mg "len" = none):bF P w K mg base cF 1 f fd ["deck", "many"] lW:=by
 refine F.ok Bu (fun vs H Q E h=>?_) (fun cdv A outer s H vs Q E hr h=>?_)
 ·obtain ⟨d,c,many,rfl,_⟩:=h
  rfl
 ·obtain ⟨d,c,many,rfl,D,⟨hm,hz⟩,k⟩:=h
  obtain ⟨n,ns,hd,hc,hl1,hl2,hn⟩:=id D.ex
  have ndc:=D.ne
  refine ⟨_,aB (bx (i:=2) Bu.nd rfl (Or.inl rfl) (br ir (bf iY (pv 0) au (fun _ _=>rfl)) (bY jF (by rfl) hlen PySem.boot_len (aa (bf iY (pv 0) au (fun _ _=>rfl)) aq))))
   (aB (xj (br fc (bf iY (pv 0) au (fun _ _=>rfl)) au) (xh (pv 0) au set_list))
   (aB (bx (i:=3) Bu.nd rfl (Or.inl rfl) (bf iY (bf iY (pv 0) au (fun _ _=>rfl)) (pv 2) (fun _ _=>rfl)))
   (aB (xj (br tY (pv 3) (pv 1)) (xh (bf iY (pv 0) au (fun _ _=>rfl)) (pv 2) set_list))
   (aG (aQ (br ir (pv 3) (pv 1))))))),?_⟩
  have hi0:0≤n % ((ns.map V.int).length:Int):=Int.emod_nonneg _ (by rw [List.length_map];omega)
  have hi1:n % ((ns.map V.int).length:Int) < ns.length:=by
   have:=Int.emod_lt_of_pos n (show (0:Int) < ((ns.map V.int).length:Int) by rw [List.length_map];omega)
   rw [List.length_map] at this ⊢;exact this
  obtain ⟨z,j,hat,hix,hj⟩:=zh hi0 hi1
  refine ⟨_,rfl,d,_,1,_,rfl,rfl,b9.of hd,rfl,_,rfl,d,_,0,_,rfl,rfl,b9.of hd,rfl,c,_,rfl,.inl (b9.of hc),_,_,rfl,rfl,(by rw [List.length_map];omega),?_⟩
  refine ⟨_,rfl,d,_,1,_,rfl,rfl,b9.of hd,rfl,_,_,rfl,rfl,_,rfl,d,_,1,1,rfl,rfl,hd,rfl,?_⟩
  have hc1:∀ o,(upd H d o) c = some (.lst (ns.map V.int)):=fun o=>by rw [aI (Ne.symm ndc)];exact hc
  refine ⟨_,rfl,d,_,0,_,rfl,rfl,b9.of aE,rfl,_,rfl,c,_,_,_,rfl,rfl,b9.of (hc1 _),hat,?_⟩
  refine ⟨_,rfl,_,rfl,_,_,rfl,rfl,⟨by omega,w0 hz⟩,_,rfl,d,_,0,_,rfl,rfl,b9.of aE,rfl,_,rfl,c,_,_,j,rfl,rfl,hc1 _,hix,?_⟩
  refine ⟨_,rfl,_,rfl,_,_,rfl,rfl,(by omega),?_⟩
  refine k _ _ (Int.emod_nonneg _ (by omega)) (Int.emod_lt_of_pos _ (by omega)) ⟨n + 1,ns.set j (z / many),?_,?_,by simpa using hl1,by simpa using hl2,by omega⟩ fun b o e h1 h2=>?_
  ·rw [aI ndc,aE];rfl
  ·rw [aE,zj]
  ·rw [aI h2,aI h1];exact e
theorem uX:bB ["script", "cells", "k", "mixed"] ["script"] (ak MP):=⟨rfl,rfl,rfl,by decide +kernel,rfl,by decide +kernel,by decide +kernel⟩
theorem Jb {f:Addr}{fd:FuncData}(F:fR K "_law_deck" "_law_deck" MP f fd) (hlen:mg "len" = none) (hsum:mg "sum" = none) (rF:mg "range" = none):bF P w K mg base cF 1 f fd ["script"] (E8 K):=by
 refine F.ok uX (fun vs H Q E h=>?_) (fun cdv A outer s H vs Q E hr h=>?_)
 ·obtain ⟨a,ns,rfl,_⟩:=h
  rfl
 ·obtain ⟨a,ns,rfl,hS,Bv,k⟩:=h
  refine ⟨_,aB (bx (i:=1) uX.nd rfl (Or.inl rfl) (br qN (jZ xw (pv 0) iW (iX au)) (cL (aa (bY jF (by rfl) hlen PySem.boot_len (aa (pv 0) aq)) aq))))
   (aB (bS (aV op_eq (br ir (bY (yS rfl) (by rfl) hsum RS (aa (jZ xw (pv 0) iW (iX au)) aq)) au) au (aY _))
    (aG (jX PassesOwn.never rfl (jR rfl rF (aa (bY jF (by rfl) hlen PySem.boot_len (aa (pv 1) aq)) aq)) (dj (i:=2) uX.nd rfl (Or.inl rfl))
     (aB (bx (i:=3) uX.nd rfl (Or.inl rfl) (br ir (br dm (br fc (br fc (br ir (bf iY (pv 1) (pv 2) (fun _ _=>rfl)) au) (br dm au (pv 2))) au) au) au))
     (aB (bx (i:=3) uX.nd rfl (Or.inl rfl) (br ir (br dm (br ir (br fc (br dm (pv 3) (pv 3)) (br dm au (pv 2))) au) au) au))
     (aG (xj (br fc (br dm (br dm (pv 3) (pv 3)) au) (br ir (br dm (pv 3) au) au)) (xh (pv 1) (pv 2) set_list)))))))
    bA)
   (aG (aQ (cL (aa (pv 1) (aa au aq)))))),?_⟩
  refine ⟨_,rfl,63,rfl,a,_,rfl,hS,fun p hp=>?_⟩
  have s1:=bI (o:=.lst (m6 (ns.map V.int) none (some 63))) hp
  refine ⟨_,rfl,a,_,rfl,.inl (s1.seq hS),(by show 1≤sizeLine;decide),fun q hq=>?_⟩
  have npq:p≠q:=aC (H:=upd H p (.lst (m6 (ns.map V.int) none (some 63)))) aE hq
  refine ⟨p,q,_,_,rfl,rfl,(by rw [aI npq,aE]),aE,?_,fun c hc=>?_⟩
  ·rw [E7 Bv,List.length_map]
   show ns.length + 1≤sizeLine
   rw [sizeLine_eq];omega
  have s2:=s1.trans (bI (o:=.lst [V.int ((ns.map V.int).length:Nat)]) hq)
  have s3:=s2.trans (bI (o:=.lst (m6 (ns.map V.int) none (some 63) ++ [V.int ((ns.map V.int).length:Nat)])) hc)
  have ec:m6 (ns.map V.int) none (some 63) ++ [V.int ((ns.map V.int).length:Nat)] = (ns ++ [((ns.map V.int).length:Int)]).map V.int:=by
   rw [E7 Bv,List.map_append];rfl
  have nc0:H c = none:=s2.free hc
  generalize QH:upd (upd (upd H p (.lst (m6 (ns.map V.int) none (some 63)))) q (.lst [V.int ((ns.map V.int).length:Nat)])) c (.lst (m6 (ns.map V.int) none (some 63) ++ [V.int ((ns.map V.int).length:Nat)])) = H3 at s3
  have hc3:H3 c = some (.lst ((ns ++ [((ns.map V.int).length:Int)]).map V.int)):=by rw [← QH,aE,ec]
  have Sh:(ns ++ [((ns.map V.int).length:Int)]).length = ns.length + 1:=by simp
  have fin:∀ (v2 v3:Option V) (H4:Hp) (ms:List Int),aN H H4→H4 c = some (.lst (ms.map V.int))→ms.length = ns.length + 1→
    Ij (Io (bV (cE 1) (bV (tC (.int 0)) kr))) { nx:=fun _ H' => Q .gk H',rt:=Q } [some (.ref a),some (.ref c),v2,v3] H4:=fun v2 v3 H4 ms s4 h4 hl4=>by
   refine ⟨_,rfl,(by show 2≤sizeLine;decide),fun d hd=>?_⟩
   have ncd:c≠d:=aC h4 hd
   exact k d c _ ⟨0,ms,aE,(by rw [aI ncd];exact h4),by omega,by omega,by omega⟩ (s4.free hd) nc0 (s4.trans (bI hd))
  refine ⟨_,rfl,63,rfl,a,_,rfl,s3.seq hS,fun e he=>?_⟩
  have s4:=s3.trans (bI (o:=.lst (m6 (ns.map V.int) none (some 63))) he)
  have hce:c≠e:=aC hc3 he
  have hc4:(upd H3 e (.lst (m6 (ns.map V.int) none (some 63)))) c = some (.lst ((ns ++ [((ns.map V.int).length:Int)]).map V.int)):=by rw [aI hce];exact hc3
  refine ⟨e,ns,rfl,b9.of (by rw [aE,E7 Bv]),_,_,rfl,rfl,(by show (0:Int) < 2;decide),rfl,_,rfl,?_⟩
  refine Oj (fun _=>?_) (fun _=>fin _ _ _ _ s4 hc4 Sh)
  refine ⟨_,rfl,c,_,rfl,.inl (b9.of hc4),_,rfl,?_,?_,qI (Pv:=fun i σ H5=>∃ (v2 v3:Option V) (ms:List Int),σ = [some (.ref a),some (.ref c),v2,v3]∧aN H H5∧H5 c = some (.lst (ms.map V.int))∧ms.length = ns.length + 1) ⟨_,_,_,rfl,s4,hc4,Sh⟩ ?_ ?_⟩
  ·rw [List.length_map,Sh];omega
  ·rw [List.length_map,Sh];omega
  ·rintro i σ H5 hi ⟨v2,v3,ms,rfl,s5,h5,Z0⟩
   have hi' : i < ms.length:=by
    rw [List.length_map,Sh] at hi
    omega
   obtain ⟨z,j,hat,hix,hj⟩:=zh (ns:=ms) (i:=0 + (i:Int)) (by omega) (by omega)
   have hb1:(0:Int)≤z % 2147483587∧z % 2147483587 < 2147483587:=⟨Int.emod_nonneg _ (by decide),Int.emod_lt_of_pos _ (by decide)⟩
   refine ⟨_,rfl,_,rfl,c,_,_,_,rfl,rfl,b9.of h5,hat,_,_,rfl,rfl,(by show (0:Int) < 2147483587;decide),_,rfl,_,_,rfl,rfl,mw (by decide) (by omega),_,_,rfl,rfl,_,_,rfl,rfl,_,_,rfl,rfl,mw (by omega) (by decide),_,_,rfl,rfl,(by show (0:Int) < 2147483629;decide),?_⟩
   (try dsimp only)
   generalize hM1:(z % 2147483587 + 911 * (0 + (i:Int)) + 3) * 69621 % 2147483629 = m1
   have hm1:0≤m1∧m1 < 2147483629:=by rw [← hM1];exact ⟨Int.emod_nonneg _ (by decide),Int.emod_lt_of_pos _ (by decide)⟩
   have hmm:(m1 * m1).natAbs≤2147483629 * 2147483629:=RT (by omega) (by omega)
   refine ⟨_,rfl,_,rfl,_,_,rfl,rfl,mw (by omega) (by omega),_,rfl,_,_,rfl,rfl,mw (by decide) (by omega),_,_,rfl,rfl,_,_,rfl,rfl,(by show (0:Int) < 2147483563;decide),_,_,rfl,rfl,mw ?_ (by decide),_,_,rfl,rfl,(by show (0:Int) < 2147483549;decide),?_⟩
   ·have:=Int.emod_nonneg (m1 * m1 + 29 * (0 + (i:Int))) (show (2147483563:Int)≠0 by decide)
    have:=Int.emod_lt_of_pos (m1 * m1 + 29 * (0 + (i:Int))) (show (0:Int) < 2147483563 by decide)
    omega
   (try dsimp only)
   generalize hM2:(m1 * m1 + 29 * (0 + (i:Int))) % 2147483563 * 16807 % 2147483549 = m2
   have hm2:0≤m2∧m2 < 2147483549:=by rw [← hM2];exact ⟨Int.emod_nonneg _ (by decide),Int.emod_lt_of_pos _ (by decide)⟩
   have abX:(m2 * m2).natAbs≤2147483629 * 2147483629:=RT (by omega) (by omega)
   refine ⟨_,rfl,_,rfl,_,_,rfl,rfl,mw (by omega) (by omega),_,_,rfl,rfl,mw (by omega) (by decide),_,rfl,_,_,rfl,rfl,mw (by omega) (by decide),_,_,rfl,rfl,(by show (0:Int) < 2147483579;decide),_,_,rfl,rfl,_,rfl,_,rfl,c,_,_,j,rfl,rfl,h5,hix,?_⟩
   refine ⟨_,_,ms.set j (m2 * m2 * 2147483543 + m2 * 48271 % 2147483579),rfl,fun b o eb=>?_,(by rw [aE,zj]),by simpa using Z0⟩
   rw [aI (aC eb nc0)]
   exact s5 b o eb
  ·rintro σ H5 ⟨v2,v3,ms,rfl,s5,h5,Z0⟩
   exact fin _ _ _ _ s5 h5 Z0
theorem Aa:bB ["one", "other"] ["one", "other"] (ak qw):=⟨rfl,rfl,rfl,by decide +kernel,rfl,by decide +kernel,by decide +kernel⟩
theorem DA {f:Addr}{fd:FuncData}(F:fR K "_law_common" "_law_common" qw f fd):bF P w K mg base cF 1 f fd ["one", "other"] uw:=by
 refine F.ok Aa (fun vs H Q E h=>?_) (fun cdv A outer s H vs Q E hr h=>?_)
 ·obtain ⟨a,b,rfl,_⟩:=h
  rfl
 ·obtain ⟨a,b,rfl,ha,hb,k⟩:=h
  refine ⟨_,aB (tU PassesOwn.never (aV yM (pv 1) au (aY _)) (aG (N6 (i:=0) (j:=1) rfl Aa.nd rfl rfl (by decide) rfl rfl (aa (pv 1) (aa (br ir (pv 0) (pv 1)) aq)) (by rfl))))
   (aG (aQ (pv 0))),?_⟩
  refine tW (fun σ H2=>∃ x y:Int,σ = [some (.int x),some (.int y)]∧H2 = H∧0≤x∧0≤y∧Int.gcd x y = Int.gcd a b) (fun σ _=>match σ with | [_,some (.int y)]=>y.toNat | _=>0) ⟨a,b,rfl,rfl,ha,hb,rfl⟩ ?_ ?_
  ·rintro σ H2 ⟨x,y,rfl,rfl,hx,hy,hg⟩
   refine ⟨_,rfl,_,_,rfl,rfl,_,rfl,?_⟩
   by_cases h0:0 < y
   ·rw [decide_eq_true h0]
    refine xC ?_
    have hr0:=Int.emod_nonneg x (show y≠0 by omega)
    have hr1:=Int.emod_lt_of_pos x h0
    refine ⟨_,rfl,_,rfl,_,rfl,_,_,rfl,rfl,h0,_,_,rfl,⟨y,x % y,rfl,rfl,hy,hr0,?_⟩,?_⟩
    ·rw [E3 x y h0];exact hg
    ·show (x % y).toNat < y.toNat
     omega
   ·rw [decide_eq_false h0]
    refine xB ?_
    have y0:y = 0:=by omega
    subst y0
    refine ⟨_,rfl,?_⟩
    have e:=gcd_zero x hx
    rw [hg] at e
    rw [← e]
    exact k
  ·rintro σ H2 Q1 Q2 hq ⟨v,e,i,j,e1,e2,b',e3,q⟩
   exact ⟨v,e,i,j,e1,e2,b',e3,hq _ _ q⟩
theorem tH:bB ["top", "below", "by"] ["top", "below"] (ak x8):=⟨rfl,rfl,rfl,by decide +kernel,rfl,by decide +kernel,by decide +kernel⟩
theorem uY {f fC:Addr}{fd Jc:FuncData}(F:fR K "_law_least" "_law_least" x8 f fd) (F7:mg "max" = none) (FC:fR K "_law_common" "_law_common" qw fC Jc) (bC:Binds K Jc ["one", "other"] []) (mC:mg "_law_common" = some (.ref fC)):bF P w K mg base cF 2 f fd ["top", "below"] qh:=by
 have GC:bF P w K mg base cF 1 fC Jc ["one", "other"] uw:=DA FC
 refine F.ok tH (fun vs H Q E h=>?_) (fun cdv A outer s H vs Q E hr h=>?_)
 ·obtain ⟨a,b,rfl,_⟩:=h
  rfl
 ·obtain ⟨a,b,rfl,hb,⟨za,zb⟩,k⟩:=h
  refine ⟨_,aB (bS (aV rO (pv 1) au (aY _)) (aB (bx (i:=0) tH.nd rfl (Or.inl rfl) (br jY au (pv 0))) (aG (bx (i:=1) tH.nd rfl (Or.inl rfl) (br jY au (pv 1))))) bA)
   (aB (bx (i:=2) tH.nd rfl (Or.inl rfl) (aP GC hr (by rfl) mC FC.kp bC .nil bD (aa (bY (C0 rfl) (by rfl) F7 RQ (aa (pv 0) (aa (br jY au (pv 0)) aq))) (aa (pv 1) aq))))
   (aG (aQ (dW (aa (br tY (pv 0) (pv 2)) (aa (br tY (pv 1) (pv 2)) aq)))))),?_⟩
  have fin:∀ (x y:Int) (v:Option V),0 < y→norm a b = norm x y→y.natAbs < 10 ^ 100→(N3 (AK (lA uw [] E0 (bV (C3 (fun xs H Q=>∃ i j,xs = [.int i,.int j]∧Q (.int (if j > i then j else i)) H) (bV (cE 0) (bV (iV (Il fun i j=>.int (i - j)) (tC (.int 0)) (cE 0)) kr))) (bV (cE 1) kr))) (m9 2))
    (Ij (C2 (bV (iV (rI EJ fun i j=>.int (i / j)) (cE 0) (cE 2)) (bV (iV (rI EJ fun i j=>.int (i / j)) (cE 1) (cE 2)) kr))))) { nx:=fun _ H' => Q .gk H',rt:=Q } [some (.int x),some (.int y),v] H:=fun x y v hy he hz=>by
   have em:(if 0 - x > x then 0 - x else x) = (x.natAbs:Int):=by split <;> omega
   have eg:Int.gcd (if 0 - x > x then 0 - x else x) y = Int.gcd x y:=by rw [em];unfold Int.gcd;rw [Int.natAbs_natCast]
   refine ⟨_,rfl,_,rfl,_,_,rfl,rfl,_,_,rfl,_,rfl,_,_,rfl,(by split <;> omega),by omega,?_⟩
   rw [eg]
   have hg:=OB (a:=x) (show y≠0 by omega)
   have hgz:(Int.gcd x y:Int).natAbs < 10 ^ 100:=by
    have:=Int.le_of_dvd hy (MI x y)
    omega
   refine ⟨_,rfl,_,rfl,_,_,rfl,rfl,⟨hg,w0 hgz⟩,_,rfl,_,rfl,_,_,rfl,rfl,⟨hg,w0 hgz⟩,(by show 2≤sizeLine;decide),fun p hp=>?_⟩
   have:=k p hp
   rw [he,zf x y hy] at this
   exact this
  refine ⟨_,rfl,_,_,rfl,rfl,_,rfl,?_⟩
  by_cases h0:b < 0
  ·rw [decide_eq_true h0]
   refine xC ?_
   refine ⟨_,rfl,_,_,rfl,rfl,_,rfl,_,_,rfl,rfl,?_⟩
   refine fin (0 - a) (0 - b) _ (by omega) ?_ (by omega)
   rw [wj a b h0,Int.zero_sub,Int.zero_sub]
  ·rw [decide_eq_false h0]
   refine xB ?_
   exact fin a b _ (by omega) rfl zb
theorem CC:bB ["deck", "way"] ["deck"] (ak x9):=⟨rfl,rfl,rfl,by decide +kernel,rfl,by decide +kernel,by decide +kernel⟩
theorem F8 {f fT:Addr}{fd Bw:FuncData}(F:fR K "_law_whole_number" "_law_whole_number" x9 f fd) (FT:fR K "_law_take" "_law_take" wG fT Bw) (bT:Binds K Bw ["deck", "many"] []) (mT:mg "_law_take" = some (.ref fT)) (hlen:mg "len" = none):bF P w K mg base cF 2 f fd ["deck"] Co:=by
 have GT:bF P w K mg base cF 1 fT Bw ["deck", "many"] lW:=mQ FT hlen
 refine F.ok CC (fun vs H Q E h=>?_) (fun cdv A outer s H vs Q E hr h=>?_)
 ·obtain ⟨d,c,rfl,_⟩:=h
  rfl
 ·obtain ⟨d,c,rfl,D,k⟩:=h
  refine ⟨_,aB (bx (i:=1) CC.nd rfl (Or.inl rfl) (aP GT hr (by rfl) mT FT.kp bT .nil bD (aa (pv 0) (aa au aq))))
   (aB (bS (aV rO (pv 1) au (aY _)) (aG (aQ (aP GT hr (by rfl) mT FT.kp bT .nil bD (aa (pv 0) (aa au aq))))) bA)
   (aB (bS (aV op_eq (pv 1) au (aY _)) (aG (aQ (aP GT hr (by rfl) mT FT.kp bT .nil bD (aa (pv 0) (aa au aq))))) bA)
   (aG (aQ (br fc (br fc (br dm (aP GT hr (by rfl) mT FT.kp bT .nil bD (aa (pv 0) (aa (br lR au au) aq))) (br lR au au))
    (br dm (aP GT hr (by rfl) mT FT.kp bT .nil bD (aa (pv 0) (aa (br lR au au) aq))) (br lR au au)))
    (aP GT hr (by rfl) mT FT.kp bT .nil bD (aa (pv 0) (aa (br lR au au) aq)))))))),?_⟩
  have cp:∀ i j:Int,0≤j→j≤100→i = 10→EC i j:=fun i j h1 h2 h3=>⟨h1,by omega,by rw [h3];decide⟩
  refine ⟨_,rfl,d,c,8,rfl,D,⟨by decide,by decide⟩,fun way H1 hw0 hw1 D1 K1=>?_⟩
  refine ⟨_,rfl,_,_,rfl,rfl,_,rfl,?_⟩
  refine Oj (fun _=>?_) (fun _=>?_)
  ·exact ⟨_,rfl,d,c,9,rfl,D1,⟨by decide,by decide⟩,fun r H2 h0 h1 D2 K2=>k r H2 h0 (by omega) D2 (K1.trans K2)⟩
  refine ⟨_,rfl,rfl,_,rfl,?_⟩
  refine Oj (fun _=>?_) (fun _=>?_)
  ·exact ⟨_,rfl,d,c,1000,rfl,D1,⟨by decide,by decide⟩,fun r H2 h0 h1 D2 K2=>k r H2 h0 (by omega) D2 (K1.trans K2)⟩
  refine ⟨_,rfl,_,_,rfl,rfl,cp _ _ (by decide) (by decide) rfl,d,c,_,rfl,D1,⟨by decide,by decide⟩,fun r1 H2 h10 h11 D2 K2=>?_⟩
  have abY:r1 < 100000:=h11
  refine ⟨_,_,rfl,rfl,cp _ _ (by decide) (by decide) rfl,_,_,rfl,rfl,mw (by omega) (by decide),?_⟩
  refine ⟨_,rfl,_,_,rfl,rfl,cp _ _ (by decide) (by decide) rfl,d,c,_,rfl,D2,⟨by decide,by decide⟩,fun r2 H3 h20 h21 D3 K3=>?_⟩
  have abZ:r2 < 100000:=h21
  refine ⟨_,_,rfl,rfl,cp _ _ (by decide) (by decide) rfl,_,_,rfl,rfl,mw (by omega) (by decide),_,_,rfl,rfl,?_⟩
  refine ⟨_,rfl,_,_,rfl,rfl,cp _ _ (by decide) (by decide) rfl,d,c,_,rfl,D3,⟨by decide,by decide⟩,fun r3 H4 h30 h31 D4 K4=>?_⟩
  have ab0:r3 < 10000000000:=h31
  refine ⟨_,_,rfl,rfl,k _ H4 ?_ ?_ D4 (K1.trans (K2.trans (K3.trans K4)))⟩
  ·show 0≤r1 * 1000000000000000 + r2 * 10000000000 + r3
   omega
  ·show r1 * 1000000000000000 + r2 * 10000000000 + r3 < 10 ^ 20
   omega
end
section
variable {P:Program}{w:World}{K:PySem.W.Frag}{mg:Str→Option Value}{base:Heap}
theorem Z1 {r:Int}(h0:0≤r) (h1:r < 2):∃ e:Int,(e = 1∨e = -1)∧yE [V.int 1,V.int (-1)] r = some (V.int e):=by
 have:r = 0∨r = 1:=by omega
 rcases this with rfl | rfl
 ·exact ⟨1,.inl rfl,rfl⟩
 ·exact ⟨-1,.inr rfl,rfl⟩
theorem Z2 {x e:Int}{n:Nat}(he:e = 1∨e = -1) (hx:x.natAbs < n):(x * e).natAbs < n:=by
 rcases he with rfl | rfl
 ·rw [Int.mul_one];exact hx
 ·rw [Int.mul_neg,Int.mul_one,Int.natAbs_neg];exact hx
theorem Ab:bB ["deck", "top"] ["deck"] (ak ya):=⟨rfl,rfl,rfl,by decide +kernel,rfl,by decide +kernel,by decide +kernel⟩
theorem wM {f fT fW fL fC:Addr}{fd Bw QI QJ Jc:FuncData}(F:fR K "_law_number" "_law_number" ya f fd) (hlen:mg "len" = none) (F7:mg "max" = none)
  (FT:fR K "_law_take" "_law_take" wG fT Bw) (bT:Binds K Bw ["deck", "many"] []) (mT:mg "_law_take" = some (.ref fT))
  (FC:fR K "_law_common" "_law_common" qw fC Jc) (bC:Binds K Jc ["one", "other"] []) (mC:mg "_law_common" = some (.ref fC))
  (FL:fR K "_law_least" "_law_least" x8 fL QJ) (bL:Binds K QJ ["top", "below"] []) (mL:mg "_law_least" = some (.ref fL))
  (FW:fR K "_law_whole_number" "_law_whole_number" x9 fW QI) (bW:Binds K QI ["deck"] []) (mW:mg "_law_whole_number" = some (.ref fW)):bF P w K mg base cF 3 f fd ["deck"] qi:=by
 have GT:bF P w K mg base cF 2 fT Bw ["deck", "many"] lW:=(mQ FT hlen).mono (by decide)
 have GL:bF P w K mg base cF 2 fL QJ ["top", "below"] qh:=uY FL F7 FC bC mC
 have GW:bF P w K mg base cF 2 fW QI ["deck"] Co:=F8 FW FT bT mT hlen
 refine F.ok Ab (fun vs H Q E h=>?_) (fun cdv A outer s H vs Q E hr h=>?_)
 ·obtain ⟨d,c,rfl,_⟩:=h
  rfl
 ·obtain ⟨d,c,rfl,D,k⟩:=h
  refine ⟨_,aB (bx (i:=1) Ab.nd rfl (Or.inl rfl) (br dm (aP GW hr (by rfl) mW FW.kp bW .nil bD (aa (pv 0) aq)) (bf iY (cL (aa au (aa (vQ qJ au) aq))) (aP GT hr (by rfl) mT FT.kp bT .nil bD (aa (pv 0) (aa au aq))) (fun _ _=>rfl))))
   (aG (aQ (aP GL hr (by rfl) mL FL.kp bL .nil bD (aa (pv 1) (aa (bf iY (cL (aa au (aa (br fc au (br ir (aP GW hr (by rfl) mW FW.kp bW .nil bD (aa (pv 0) aq)) (br jY (br lR au au) au))) aq))) (aP GT hr (by rfl) mT FT.kp bT .nil bD (aa (pv 0) (aa au aq))) (fun _ _=>rfl)) aq))))),?_⟩
  refine ⟨_,rfl,d,c,rfl,D,fun t H3 t0 t1 D3 K3=>?_⟩
  refine ⟨_,rfl,(by show 2≤sizeLine;decide),fun p hp=>?_⟩
  refine ⟨_,rfl,d,c,2,rfl,D3.new hp,⟨by decide,by decide⟩,fun r H4 r0 r1 D4 K4=>?_⟩
  obtain ⟨e,he,hat⟩:=Z1 r0 r1
  refine ⟨p,_,r,_,rfl,rfl,b9.of (K4 p _ aE (D3.free hp).1 (D3.free hp).2),hat,_,_,rfl,rfl,mw (by omega) (by rcases he with rfl | rfl <;> decide),?_⟩
  have K34:bK d c H H4:=K3.trans ((aN.but (bI hp)).trans K4)
  have ht:(t * e).natAbs < 10 ^ 20:=Z2 he (by omega)
  (try dsimp only)
  generalize t * e = a0 at ht
  have cp:EC 10 20:=⟨by decide,by decide,by decide⟩
  refine ⟨_,rfl,_,rfl,d,c,rfl,D4,fun u H5 u0 u1 D5 K5=>?_⟩
  refine ⟨_,_,rfl,rfl,cp,_,_,rfl,rfl,_,_,rfl,rfl,(by show (0:Int) < 10 ^ 20 - 1;decide),_,_,rfl,rfl,(by show 2≤sizeLine;decide),fun q hq=>?_⟩
  have v0:=Int.emod_nonneg u (show (10 ^ (20:Int).toNat - 1:Int)≠0 by decide)
  have v1:=Int.emod_lt_of_pos u (show (0:Int) < 10 ^ (20:Int).toNat - 1 by decide)
  have e20:(10 ^ (20:Int).toNat - 1:Int) = 99999999999999999999:=by decide
  (try dsimp only)
  generalize u % (10 ^ (20:Int).toNat - 1) = v at v0 v1
  rw [e20] at v1
  refine ⟨_,rfl,d,c,2,rfl,D5.new hq,⟨by decide,by decide⟩,fun r' H6 r0' r1' D6 K6=>?_⟩
  have two:∃ b:Int,(1≤b∧b≤99999999999999999999)∧yE [V.int 1,V.int (1 + v)] r' = some (V.int b):=by
   have:r' = 0∨r' = 1:=by omega
   rcases this with rfl | rfl
   ·exact ⟨1,by decide,rfl⟩
   ·exact ⟨1 + v,by omega,rfl⟩
  obtain ⟨b0,hb,Z3⟩:=two
  refine ⟨q,_,r',_,rfl,rfl,b9.of (K6 q _ aE (D5.free hq).1 (D5.free hq).2),Z3,?_⟩
  have K56:bK d c H H6:=K34.trans (K5.trans ((aN.but (bI hq)).trans K6))
  refine ⟨_,_,rfl,by omega,⟨by omega,by omega⟩,fun z hz=>?_⟩
  have sz:=qV a0 b0 (by omega)
  have ok:=xK a0 b0 (by omega)
  refine k _ _ z _ ok.1 ok.2.2 (by omega) (by omega) ?_ aE (D6.new hz) (K56.trans (aN.but (bI hz)))
  cases hh:H z with
  | none=>rfl
  | some o=>
   exfalso
   obtain ⟨n1,n2⟩:=D6.free hz
   have:=K56 z o hh n1 n2
   rw [hz] at this
   cases this
end
end K10
namespace K10
open PySem L2 Frac Lw Dig PySem.NumText Nm
section
variable {P:Program}{w:World}{K:PySem.W.Frag}{mg:Str→Option Value}{base:Heap}
theorem kX:bB ["deck", "letters", "base", "at", "names", "k", "place", "name", "words"] ["deck"] (ak FQ):=⟨rfl,rfl,rfl,by decide +kernel,rfl,by decide +kernel,by decide +kernel⟩
theorem Jd {f fT:Addr}{fd Bw:FuncData}(F:fR K "_law_book" "_law_book" FQ f fd) (hlen:mg "len" = none) (rF:mg "range" = none) (htup:mg "tuple" = none)
  (FT:fR K "_law_take" "_law_take" wG fT Bw) (bT:Binds K Bw ["deck", "many"] []) (mT:mg "_law_take" = some (.ref fT)):bF P w K mg base cF 2 f fd ["deck"] Fg:=by
 have GT:bF P w K mg base cF 1 fT Bw ["deck", "many"] lW:=mQ FT hlen
 refine F.ok kX (fun vs H Q E h=>?_) (fun cdv A outer s H vs Q E hr h=>?_)
 ·obtain ⟨d,c,rfl,_⟩:=h
  rfl
 ·obtain ⟨d,c,rfl,D,k⟩:=h
  refine ⟨_,aB (bx (i:=1) kX.nd rfl (Or.inr rfl) bg)
   (aB (bx (i:=2) kX.nd rfl (Or.inl rfl) (ku PySem.F.plainAttrs_str PySem.F.slot_str_join PySem.F.type_str_join (ID (K:=K) rfl) bg (aa (ni (x:= "k") (cap:=["letters", "deck"]) (js:=[1,0]) ⟨rfl,by decide +kernel,by decide +kernel,rfl,(by show ∀ p∈(_:List (Str × NameKind)),p.2 = NameKind.free→List.lookup p.1 (ak FQ).names = some NameKind.cell;decide +kernel),by decide +kernel,by decide +kernel,by decide +kernel⟩ rfl rfl (fun _ _ h=>h) (jR rfl rF (aa (br fc au (aP GT hr (by rfl) mT FT.kp bT .nil bD (aa (pv 0) (aa au aq)))) aq))
    (fun _ _ _ _=>⟨eX,bf AO (pv 1) (aP GT hr (by rfl) mT FT.kp bT .nil bD (aa (pv 2) (aa au aq))) (fun _ _=>rfl)⟩)) aq)))
   (aB (bx (i:=3) kX.nd rfl (Or.inl rfl) (aP GT hr (by rfl) mT FT.kp bT .nil bD (aa (pv 0) (aa (bY xy (by rfl) hlen PySem.boot_len (aa (pv 2) aq)) aq))))
   (aB (bx (i:=4) kX.nd rfl (Or.inl rfl) (cL aq))
   (aB (jX PassesOwn.never rfl (jR rfl rF (aa (br fc au (aP GT hr (by rfl) mT FT.kp bT .nil bD (aa (pv 0) (aa au aq)))) aq)) (dj (i:=5) kX.nd rfl (Or.inl rfl))
    (aB (bx (i:=6) kX.nd rfl (Or.inl rfl) (br fc (ku PySem.F.plainAttrs_str PySem.F.slot_str_index PySem.F.type_str_index E9 (pv 1) (aa (bf AO (pv 2) (pv 3) (fun _ _=>rfl)) aq)) (br dm au (pv 5))))
    (aB (bx (i:=7) kX.nd rfl (Or.inl rfl) (br pI (br pI (jZ AY (pv 2) iW (iX (pv 3))) (bf AO (pv 1) (br ir (pv 6) au) (fun _ _=>rfl))) (jZ AY (pv 2) (iX (br fc (pv 3) au)) iW)))
    (aB (bx (i:=8) kX.nd rfl (Or.inl rfl) bg)
    (aB (bS (aV lB (pv 7) (ku PySem.F.plainAttrs_str PySem.F.slot_str_split PySem.F.type_str_split EZ (pv 8) (aa bg aq)) (by rfl))
     (aG (bx (i:=7) kX.nd rfl (Or.inl rfl) (br pI bg (jZ AY (pv 7) iW (iX au))))) bA)
    (aG (iU (ku PySem.F.plainAttrs_list PySem.F.slot_list_append PySem.F.type_list_append eS (pv 4) (aa (pv 7) aq)))))))))
   (aG (aQ (cV oZ (by rfl) htup E6 (aa (pv 4) aq)))))))),?_⟩
  refine ⟨rfl,_,rfl,d,c,8,rfl,D,⟨by decide,by decide⟩,fun r0 H1 a0 a1 D1 K1=>?_⟩
  refine ⟨_,_,rfl,rfl,_,rfl,by omega,by omega,fun i m ys H2=>m = (1 + r0).toNat - i∧i≤(1 + r0).toNat∧∃ cs:List Nat,ys = (cs.map fun c=>(⟨#[c]⟩:Str)).map V.str∧cs.length = i∧xN cs∧bq H2 d c∧bK d c H H2,⟨_,rfl,by omega,[],rfl,rfl,(fun c m=>by cases m),D1,K1⟩,?_⟩
  rintro i m ys H2 ⟨rfl,hi,cs,rfl,hcl,low,D2,K2⟩
  refine ⟨by rw [List.length_map,List.length_map,hcl,sizeLine_eq];omega,?_⟩
  by_cases hn:i < (1 + r0).toNat
  ·refine .inr ⟨hn,fun x H' yl=>?_⟩
   obtain ⟨rfl,rfl⟩:=yl
   refine nh ?_
   refine ⟨_,rfl,_,rfl,d,c,26,rfl,D2,⟨by decide,by decide⟩,fun r H3 b0 b1 D3 K3=>?_⟩
   refine ⟨_,r,97 + r.toNat,rfl,rfl,(by show gG.length≤_;rw [Cp];decide),Fb b0 b1,?_⟩
   refine ⟨(1 + r0).toNat - (i + 1),by omega,rfl,by omega,cs ++ [97 + r.toNat],by simp,by simp [hcl],low.app (xN.one (by omega)),D3,K2.trans K3⟩
  refine .inl ⟨show (1 + r0).toNat≤i by omega,fun l hl=>?_⟩
  have hcs:1≤cs.length∧cs.length≤8:=by omega
  have D3:=D2.new (o:=.lst ((cs.map fun c=>(⟨#[c]⟩:Str)).map V.str)) hl
  have K3:=K2.trans (aN.but (d:=d) (c:=c) (bI (o:=.lst ((cs.map fun c=>(⟨#[c]⟩:Str)).map V.str)) hl))
  refine ⟨_,l,cs.map fun c=>(⟨#[c]⟩:Str),rfl,rfl,b9.of aE,(by rw [Fd,List.length_map,em'];show _ + _ * 0≤_;omega),?_⟩
  have hb:(Txt.join (Str.ofString "") (cs.map fun c=>(⟨#[c]⟩:Str))).cps.toList = cs:=by rw [em'];exact join_ones cs
  (try dsimp only)
  generalize Txt.join (Str.ofString "") (cs.map fun c=>(⟨#[c]⟩:Str)) = bs at hb
  generalize upd H2 l (.lst ((cs.map fun c=>(⟨#[c]⟩:Str)).map V.str)) = H3 at D3 K3
  have lbs:bs.length = cs.length:=by rw [fX,hb]
  refine ⟨_,rfl,_,rfl,bs,rfl,(by rw [sizeLine_eq];omega),d,c,_,rfl,D3,⟨by omega,by omega⟩,fun at' H4 c0 c1 D4 K4=>?_⟩
  obtain ⟨an,rfl⟩:=Int.eq_ofNat_of_zero_le c0
  have K4' := K3.trans K4
  refine ⟨(by show 0≤sizeLine;decide),fun p hp=>?_⟩
  have hp0:H p = none:=bK.free K4' D4 hp
  have D5:=D4.new (o:=.lst []) hp
  have K5:=K4'.trans (aN.but (d:=d) (c:=c) (bI (o:=.lst []) hp))
  have np:=D4.free hp
  refine ⟨_,rfl,d,c,4,rfl,D5,⟨by decide,by decide⟩,fun r4 H5 e0 e1 D6 K6=>?_⟩
  have K6' := K5.trans K6
  have Z4:H5 p = some (.lst (([]:List Str).map V.str)):=K6 p _ aE np.1 np.2
  refine ⟨_,_,rfl,rfl,_,rfl,by omega,by omega,qI (Pv:=fun i σ H5=>∃ (v5 v6 v7 v8:Option V) (xs:List Str),σ = [some (.ref d),some (.str gG),some (.str bs),some (.int (an:Int)),some (.ref p),v5,v6,v7,v8]∧H5 p = some (.lst (xs.map V.str))∧xs.length = i∧(∀ x∈xs,ux x)∧bq H5 d c∧bK d c H H5)
   ⟨_,_,_,_,[],rfl,Z4,rfl,(fun x m=>by cases m),D6,K6'⟩ ?_ ?_⟩
  ·rintro i σ H7 hi7 ⟨v5,v6,v7,v8,xs,rfl,h7,tD,hxs,D7,K7⟩
   have hat:∃ ch,yE bs.cps.toList (an:Int) = some ch∧97≤ch∧ch≤122:=by
    have hj:an < cs.length:=by omega
    refine ⟨cs[an],?_,low _ (List.getElem_mem hj)⟩
    have q:=lT (xs:=cs) (j:=an) (v:=cs[an]) (List.getElem?_eq_getElem hj)
    rw [hb];exact q
   obtain ⟨ch,hat,hch⟩:=hat
   have Z5:bs.length≤sizeLine:=by rw [sizeLine_eq];omega
   refine ⟨_,rfl,rfl,_,rfl,_,rfl,bs,(an:Int),ch,rfl,rfl,Z5,hat,_,_,rfl,rfl,OE hch,_,rfl,_,_,rfl,rfl,mw (by decide) (by omega),_,_,rfl,rfl,?_⟩
   (try dsimp only)
   generalize Txt.find gG ⟨#[ch]⟩ + 7 * (0 + (i:Int)) = pl
   have m0:=Int.emod_nonneg pl (show (26:Int)≠0 by decide)
   have m1:=Int.emod_lt_of_pos pl (show (0:Int) < 26 by decide)
   have s1:(Txt.slice bs none (some (an:Int))).cps.toList = cs.take an:=by
    have e1:=kC bs (a:=0) (b:=an) (by omega) (by omega)
    rw [uv,e1,hb]
    simp
   have s2:(Txt.slice bs (some ((an:Int) + 1)) none).cps.toList = cs.drop (an + 1):=by
    have e1:=kC bs (a:=an + 1) (b:=bs.length) (by omega) (Nat.le_refl _)
    rw [E4,show (an:Int) + 1 = ((an + 1:Nat):Int) by omega,e1,hb]
    exact List.take_of_length_le (by rw [List.length_drop];omega)
   have l1:(Txt.slice bs none (some (an:Int))).length≤8:=by rw [fX,s1,List.length_take];omega
   have l2:(Txt.slice bs (some ((an:Int) + 1)) none).length≤8:=by rw [fX,s2,List.length_drop];omega
   have l3:(Txt.slice bs none (some (an:Int)) ++ (⟨#[97 + (pl % 26).toNat]⟩:Str)).length≤9:=by rw [PySem.Str.length_append];show _ + 1≤9;omega
   refine ⟨_,rfl,_,rfl,(an:Int),rfl,bs,rfl,Z5,_,rfl,_,rfl,_,_,rfl,rfl,(by show (0:Int) < 26;decide),_,_,_,rfl,rfl,(by show gG.length≤_;rw [Cp];decide),Fb m0 m1,_,_,rfl,rfl,(by rw [sizeLine_eq];show _ + 1≤_;omega),_,rfl,_,rfl,_,_,rfl,rfl,(an:Int) + 1,rfl,bs,rfl,Z5,_,_,rfl,rfl,(by rw [sizeLine_eq];omega),?_⟩
   have hnm:(Txt.slice bs none (some (an:Int)) ++ (⟨#[97 + (pl % 26).toNat]⟩:Str) ++ Txt.slice bs (some ((an:Int) + 1)) none).cps.toList = cs.take an ++ [97 + (pl % 26).toNat] ++ cs.drop (an + 1):=by
    rw [PySem.Str.cps_append,PySem.Str.cps_append,Array.toList_append,Array.toList_append,s1,s2]
   (try dsimp only)
   generalize Txt.slice bs none (some (an:Int)) ++ (⟨#[97 + (pl % 26).toNat]⟩:Str) ++ Txt.slice bs (some ((an:Int) + 1)) none = nm at hnm
   have lnm:nm.cps.toList.length = cs.length:=by
    rw [hnm,List.length_append,List.length_append,List.length_take,List.length_drop]
    show min _ _ + 1 + _ = _
    omega
   have MQ:xN nm.cps.toList:=by rw [hnm];exact ((low.take _).app (xN.one (by omega))).app (low.drop _)
   have done:∀ (v5 v6 v7 v8:Option V) (nn:Str) (H8:Hp),ux nn→aN H7 H8→∃ (v5' Si Z6 Z7:Option V) (ys:List Str),[some (V.ref d),some (V.str gG),some (V.str bs),some (V.int (an:Int)),some (V.ref p),v5,v6,v7,v8] = [some (V.ref d),some (V.str gG),some (V.str bs),some (V.int (an:Int)),some (V.ref p),v5',Si,Z6,Z7]∧(upd H8 p (.lst (xs.map V.str ++ [V.str nn]))) p = some (.lst (ys.map V.str))∧ys.length = i + 1∧(∀ x∈ys,ux x)∧bq (upd H8 p (.lst (xs.map V.str ++ [V.str nn]))) d c∧bK d c H (upd H8 p (.lst (xs.map V.str ++ [V.str nn]))):=fun v5 v6 v7 v8 nn H8 hn s8=>by
    refine ⟨v5,v6,v7,v8,xs ++ [nn],rfl,by rw [aE,List.map_append];rfl,by simp [tD],fun x m=>?_,Nm.bq.upd (D7.same s8) np.1 np.2,fun b o e h1 h2=>?_⟩
    ·rcases List.mem_append.mp m with m | m
     ·exact hxs x m
     ·have:x = nn:=by simpa using m
      subst this;exact hn
    ·rw [aI (aC e hp0)]
     exact s8 b o (K7 b o e h1 h2)
   refine ⟨_,rfl,_,rfl,rfl,_,32,rfl,(by rw [ZQ]),(by show A1.length + 2≤_;decide +kernel),fun l hl=>⟨l,_,rfl,.inl (b9.of aE),rfl,Di _,_,rfl,?_⟩⟩
   have s8:=bI (o:=.lst ((Txt.split A1 ⟨#[32]⟩).map V.str)) hl
   rw [if_neg Bool.false_ne_true,Fe]
   by_cases hw:nm∈xM
   ·rw [decide_eq_true (show nm∈Txt.split _ _ from hw)]
    refine xC ?_
    have z1:=Ff nm 6
    have z2:(Str.ofString "zz" ++ Txt.slice nm none (some ((6:Nat):Int))).cps.toList = 122 :: 122 :: nm.cps.toList.take 6:=by
     rw [PySem.Str.cps_append,Array.toList_append,zm,z1];rfl
    refine ⟨_,rfl,6,rfl,nm,rfl,(by rw [fX,sizeLine_eq];omega),_,_,rfl,rfl,?_,?_⟩
    ·show (Str.ofString "zz").length + (Txt.slice nm none (some ((6:Nat):Int))).length≤_
     rw [fX,fX,zm,z1,List.length_take,sizeLine_eq]
     show 2 + _≤_
     omega
    refine ⟨_,rfl,.inl ⟨rfl,_,b9.of (s8 _ _ h7)⟩,_,rfl,p,_,_,rfl,rfl,s8 _ _ h7,(by rw [List.length_map,sizeLine_eq];omega),?_⟩
    exact done _ _ _ _ _ _ (IG z2 MQ) s8
   ·rw [decide_eq_false (show ¬ nm∈Txt.split _ _ from hw)]
    refine xB ?_
    refine ⟨_,rfl,.inl ⟨rfl,_,b9.of (s8 _ _ h7)⟩,_,rfl,p,_,_,rfl,rfl,s8 _ _ h7,(by rw [List.length_map,sizeLine_eq];omega),?_⟩
    exact done _ _ _ _ nm _ ⟨by omega,by omega,MQ,hw⟩ s8
  ·rintro σ H7 ⟨v5,v6,v7,v8,xs,rfl,h7,tD,hxs,D7,K7⟩
   refine ⟨_,rfl,p,_,rfl,.inl ⟨b9.of h7,fun q hq=>?_⟩⟩
   exact k xs q _ (by omega) (by omega) hxs (bK.free K7 D7 hq) aE (D7.new hq) (K7.trans (aN.but (bI hq)))
end
section
variable {P:Program}{w:World}{K:PySem.W.Frag}{mg:Str→Option Value}{base:Heap}
theorem OT:bB ["due"] ["due"] (ak FU):=⟨rfl,rfl,rfl,by decide +kernel,rfl,by decide +kernel,by decide +kernel⟩
theorem Je {f:Addr}{fd:FuncData}(F:fR K "_law_room" "_law_room" FU f fd) (hsum:mg "sum" = none):bF P w K mg base cF 1 f fd ["due"] (A9 K):=by
 refine F.ok OT (fun vs H Q E h=>?_) (fun cdv A outer s H vs Q E hr h=>?_)
 ·obtain ⟨p,ws,rfl,_⟩:=h
  rfl
 ·obtain ⟨p,ws,rfl,hp,hwl,k⟩:=h
  have hu:=Nat.lt_of_le_of_lt (Nat.add_le_add_left (show 1≤64 by decide) _) hr.units
  refine ⟨_,aG (aQ (bY (yS rfl) (by rfl) hsum RS (aa (ni (x:= "want") (cap:=[]) (js:=[]) ⟨rfl,by decide +kernel,by decide +kernel,rfl,(by show ∀ p∈(_:List (Str × NameKind)),p.2 = NameKind.free→List.lookup p.1 (ak FU).names = some NameKind.cell;decide +kernel),by decide +kernel,by decide +kernel,by decide +kernel⟩ rfl rfl (fun _ _ h=>h) (eW (pv 0))
    (fun _ _ _ _=>⟨eX,Fw hu (Cy (lD bg au (lD bg au (lD bg au Cw))) rfl rfl (by simp) (by decide)) (pv 0) au ⟨rfl,rfl,rfl,rfl⟩⟩)) aq))),?_⟩
  refine ⟨_,rfl,p,rfl,⟨_,b9.of hp⟩,fun j m ys H9=>m = ws.length - j∧j≤ws.length∧ys = ((ws.take j).map uD).map V.int∧aN H H9,⟨ws.length,rfl,Nat.zero_le _,rfl,aN.refl _⟩,?_⟩
  rintro j m ys H9 ⟨rfl,hj,rfl,s9⟩
  refine ⟨by rw [List.length_map,List.length_map,List.length_take,sizeLine_eq];omega,?_⟩
  have Jf:=s9 _ _ hp
  by_cases hjl:j = ws.length
  ·subst hjl
   refine .inl ⟨⟨_,b9.of Jf,by rw [List.length_map];exact Nat.le_refl _⟩,fun z hz=>?_⟩
   rw [List.take_of_length_le (Nat.le_refl _)]
   exact ⟨z,ws.map uD,rfl,b9.of aE,k _ (s9.trans (bI hz))⟩
  ·have hj' : j < ws.length:=by omega
   refine .inr ⟨⟨_,_,b9.of Jf,by rw [List.getElem?_map,List.getElem?_eq_getElem hj'];rfl⟩,fun x H' yl=>?_⟩
   obtain ⟨rfl,hv⟩:=yl
   have hv' := hv _ (b9.of Jf)
   rw [List.getElem?_map,List.getElem?_eq_getElem hj'] at hv'
   obtain rfl:V.str ws[j] = x:=Option.some.inj hv'
   refine nh ?_
   refine fun q hq=>⟨aE,[(Sum.inr (Str.ofString "order"),V.int 1),(Sum.inr (Str.ofString "case"),V.int 2),(Sum.inr (Str.ofString "mark"),V.int 3)],rfl,by decide,q,rfl,.inl ⟨_,Rd.of aE⟩,_,rfl,_,uB.k (k:=Sum.inr ws[j]) aE,?_⟩
   rw [IP]
   refine ⟨ws.length - (j + 1),by omega,rfl,by omega,?_,fun b o e=>?_⟩
   ·rw [List.take_succ_eq_append_getElem hj',List.map_append,List.map_append];rfl
   ·have:=s9 b o e
    rw [aI (aC this hq),aI (aC this hq)]
    exact this
theorem DB:bB ["deck"] ["deck"] (ak uI):=⟨rfl,rfl,rfl,by decide +kernel,rfl,by decide +kernel,by decide +kernel⟩
theorem Bx {f fT fC fL fW fN:Addr}{fd Bw Jc QJ QI Z8:FuncData}(F:fR K "_law_numbers" "_law_numbers" uI f fd) (hlen:mg "len" = none) (F7:mg "max" = none) (rF:mg "range" = none)
  (FT:fR K "_law_take" "_law_take" wG fT Bw) (bT:Binds K Bw ["deck", "many"] []) (mT:mg "_law_take" = some (.ref fT))
  (FC:fR K "_law_common" "_law_common" qw fC Jc) (bC:Binds K Jc ["one", "other"] []) (mC:mg "_law_common" = some (.ref fC))
  (FL:fR K "_law_least" "_law_least" x8 fL QJ) (bL:Binds K QJ ["top", "below"] []) (mL:mg "_law_least" = some (.ref fL))
  (FW:fR K "_law_whole_number" "_law_whole_number" x9 fW QI) (bW:Binds K QI ["deck"] []) (mW:mg "_law_whole_number" = some (.ref fW))
  (FN:fR K "_law_number" "_law_number" ya fN Z8) (bN:Binds K Z8 ["deck"] []) (mN:mg "_law_number" = some (.ref fN)):bF P w K mg base cF 4 f fd ["deck"] wD:=by
 have GT:bF P w K mg base cF 3 fT Bw ["deck", "many"] lW:=(mQ FT hlen).mono (by decide)
 have GN:bF P w K mg base cF 3 fN Z8 ["deck"] qi:=wM FN hlen F7 FT bT mT FC bC mC FL bL mL FW bW mW
 refine F.ok DB (fun vs H Q E h=>?_) (fun cdv A outer s H vs Q E hr h=>?_)
 ·obtain ⟨d,c,rfl,_⟩:=h
  rfl
 ·obtain ⟨d,c,rfl,D,k⟩:=h
  refine ⟨_,aG (aQ (ni (x:= "k") (cap:=["deck"]) (js:=[0]) ⟨rfl,by decide +kernel,by decide +kernel,rfl,(by show ∀ p∈(_:List (Str × NameKind)),p.2 = NameKind.free→List.lookup p.1 (ak uI).names = some NameKind.cell;decide +kernel),by decide +kernel,by decide +kernel,by decide +kernel⟩ rfl rfl (fun _ _ h=>h) (jR rfl rF (aa (br fc au (aP GT hr (by rfl) mT FT.kp bT .nil bD (aa (pv 0) (aa au aq)))) aq))
    (fun _ _ _ _=>⟨eX,aP GN hr (by rfl) mN FN.kp bN .nil bD (aa (pv 1) aq)⟩))),?_⟩
  refine ⟨_,rfl,d,c,4,rfl,D,⟨by decide,by decide⟩,fun r0 H1 a0 a1 D1 K1=>?_⟩
  refine ⟨_,_,rfl,rfl,_,rfl,by omega,by omega,fun i m ys H2=>m = (1 + r0).toNat - i∧i≤(1 + r0).toNat∧∃ ps:List Addr,ys = ps.map V.ref∧ps.length = i∧(∀ p∈ps,∃ b,qo H2 p b)∧bq H2 d c∧bK d c H H2,⟨_,rfl,by omega,[],rfl,rfl,(fun p m=>by cases m),D1,K1⟩,?_⟩
  rintro i m ys H2 ⟨rfl,hi,ps,rfl,hpl,hps,D2,K2⟩
  refine ⟨by rw [List.length_map,hpl,sizeLine_eq];omega,?_⟩
  by_cases hn:i < (1 + r0).toNat
  ·refine .inr ⟨hn,fun x H' yl=>?_⟩
   obtain ⟨rfl,rfl⟩:=yl
   refine nh ?_
   refine ⟨_,rfl,d,c,rfl,D2,fun x y p H3 hy hg hx1 hy1 hp hp3 D3 K3=>?_⟩
   refine ⟨(1 + r0).toNat - (i + 1),by omega,rfl,by omega,ps ++ [p],by simp,by simp [hpl],fun q hq=>?_,D3,K2.trans K3⟩
   rcases List.mem_append.mp hq with hq | hq
   ·obtain ⟨b,nb⟩:=hps q hq
    exact ⟨b,nb.kept D2 K3⟩
   ·have e:q = p:=by simpa using hq
    subst e
    exact ⟨(x,y),hp3,hy,hg,hx1,hy1⟩
  refine .inl ⟨show (1 + r0).toNat≤i by omega,fun l hl=>?_⟩
  refine k ps l _ (by omega) (by omega) (fun p hp=>?_) (bK.free K2 D2 hl) aE (D2.new hl) (K2.trans (aN.but (bI hl)))
  obtain ⟨b,nb⟩:=hps p hp
  exact ⟨b,nb.same (bI hl)⟩
end
end K10
namespace K10
open PySem L2 Frac Lw Dig PySem.NumText Nm
open Ord
theorem F9 (w:Str):uD w = roomOf w:=by
 have e:gQ [] [((Sum.inr (Str.ofString "order"):Key),V.int 1),(Sum.inr (Str.ofString "case"),V.int 2),(Sum.inr (Str.ofString "mark"),V.int 3)] = [(Sum.inr (Str.ofString "order"),V.int 1),(Sum.inr (Str.ofString "case"),V.int 2),(Sum.inr (Str.ofString "mark"),V.int 3)]:=by rfl
 have n1:Str.ofString "order" ≠ Str.ofString "case" := by decide +kernel
 have n2:Str.ofString "order" ≠ Str.ofString "mark" := by decide +kernel
 have n3:Str.ofString "case" ≠ Str.ofString "mark" := by decide +kernel
 unfold uD roomOf S
 rw [e]
 unfold m7
 by_cases h1:Str.ofString "order" = w
 ·subst h1;simp [n1,n2]
 ·by_cases h2:Str.ofString "case" = w
  ·subst h2;simp [h1]
  ·by_cases h3:Str.ofString "mark" = w
   ·subst h3;simp [h1,h2,Ne.symm n3]
   ·simp [h1,h2,h3,Ne.symm h2,Ne.symm h3]
theorem room_eq (ws:List Str):room ws = rooms ws:=by
 unfold room rooms
 congr 1
 exact List.map_congr_left fun w _=>F9 w
abbrev dS (ws:List Str):PyData:=.list (ws.map PyData.str)
def MR:List PyData→PyData→Prop:=fun as d=>∃ want:Str,as = [.str want]∧d = .list ((ff want).map dS)
def Ge (i:Nat):Stmt:=(aZ cB).getD i (.Pass ⟨0,0,0,0⟩)
def Jg (s:Stmt) (j:Nat):Stmt:=match s with | .If _ b _ _=>b.getD j (.Pass ⟨0,0,0,0⟩) | s=>s
def valOf (s:Stmt):Expr:=match s with | .Return (some e) _=>e | .Assign _ e _=>e | _=>.Constant .none 0 ⟨0,0,0,0⟩
def CD (e:Expr):Expr:=match e with | .BinOp _ _ b _=>b | e=>e
@[irreducible] def eA:Expr:=valOf (Jg (Ge 0) 0)
@[irreducible] def eB:Expr:=CD (valOf (Jg (Ge 0) 1))
@[irreducible] def eC:Expr:=valOf (Jg (Ge 1) 0)
@[irreducible] def eD:Expr:=CD (valOf (Jg (Ge 1) 1))
@[irreducible] def eE:Expr:=valOf (Ge 2)
def dA:PyData:=(.list [(.list [(.str (Str.ofString "like"))]),(.list [(.str (Str.ofString "up")),(.str (Str.ofString "field"))]),(.list [(.str (Str.ofString "down")),(.str (Str.ofString "field"))]),(.list [(.str (Str.ofString "then")),(.str (Str.ofString "order")),(.str (Str.ofString "order"))]),(.list [(.str (Str.ofString "turn")),(.str (Str.ofString "order"))])])
theorem Sj:lV 6 eA = some dA:=by kernel_rfl
def dB:PyData:=(.list [(.list [(.str (Str.ofString "pick")),(.str (Str.ofString "case")),(.str (Str.ofString "order")),(.str (Str.ofString "order"))])])
theorem Z9:lV 6 eB = some dB:=by kernel_rfl
def dC:PyData:=(.list [(.list [(.str (Str.ofString "same")),(.str (Str.ofString "field"))]),(.list [(.str (Str.ofString "both")),(.str (Str.ofString "mark"))]),(.list [(.str (Str.ofString "either")),(.str (Str.ofString "mark"))]),(.list [(.str (Str.ofString "not")),(.str (Str.ofString "case"))]),(.list [(.str (Str.ofString "and")),(.str (Str.ofString "case")),(.str (Str.ofString "case"))])])
theorem E2:lV 6 eC = some dC:=by kernel_rfl
def dD:PyData:=(.list [(.list [(.str (Str.ofString "or")),(.str (Str.ofString "case")),(.str (Str.ofString "case"))])])
theorem Sk:lV 6 eD = some dD:=by kernel_rfl
def dE:PyData:=(.list [(.list [(.str (Str.ofString "under")),(.str (Str.ofString "field")),(.str (Str.ofString "number"))]),(.list [(.str (Str.ofString "is")),(.str (Str.ofString "field")),(.str (Str.ofString "number"))])])
theorem litE:lV 6 eE = some dE:=by kernel_rfl
theorem DC:aZ cB = [Stmt.If (.Compare (.Name "want" ⟨167,7,167,11⟩) [.Eq] [.Constant (.str "order") 0 ⟨167,15,167,22⟩] ⟨167,7,167,22⟩) [.Assign [.Name "some" ⟨168,8,168,12⟩] eA ⟨168,8,168,108⟩,.Return (some (.BinOp (.Name "some" ⟨169,15,169,19⟩) .Add eB ⟨169,15,169,58⟩)) ⟨169,8,169,58⟩] [] ⟨167,4,169,58⟩,Stmt.If (.Compare (.Name "want" ⟨170,7,170,11⟩) [.Eq] [.Constant (.str "case") 0 ⟨170,15,170,21⟩] ⟨170,7,170,21⟩) [.Assign [.Name "some" ⟨171,8,171,12⟩] eC ⟨171,8,171,114⟩,.Return (some (.BinOp (.Name "some" ⟨172,15,172,19⟩) .Add eD ⟨172,15,172,46⟩)) ⟨172,8,172,46⟩] [] ⟨170,4,172,46⟩,.Return (some eE) ⟨173,4,173,68⟩]:=by kernel_rfl
section
variable {P:Program}{w:World}{K:PySem.W.Frag}{mg:Str→Option Value}{base:Heap}
theorem fM {σ:St}{G:Hp}{ta tb:TE}{x y:Str}(ha:Ev K ta σ G (.str x)) (hb:Ev K tb σ G (.str y)):Ev K (iV Ob ta tb) σ G (.bool (decide (x = y))):=
 jy ha hb fun G1 H u v Q s1 s2 hx hy k=>by
  rw [hx.str,hy.str]
  refine ⟨rfl,?_⟩
  have e:decide (V.str x = V.str y) = decide (x = y):=by
   by_cases h:x = y
   ·rw [decide_eq_true h,decide_eq_true (by rw [h])]
   ·rw [decide_eq_false h,decide_eq_false fun z=>h (by injection z)]
  rw [e]
  exact k _ G1 H (bO.refl s2) (bQ _)
theorem yh {σ:St}{G:Hp}{ta tb:TE}{xs ys:List PyData}(ha:Ev K ta σ G (.list xs)) (hb:Ev K tb σ G (.list ys)) (hl:xs.length + ys.length≤sizeLine):Ev K (iV Rw ta tb) σ G (.list (xs ++ ys)):=
 jy ha hb fun G1 H u v Q s1 s2 hx hy k=>by
  obtain ⟨p,us,rfl,hp,Eh⟩:=hx.lst
  obtain ⟨q,vs,rfl,hq,hvs⟩:=hy.lst
  refine ⟨p,q,us,vs,rfl,rfl,s2 _ _ hp,s2 _ _ hq,by rw [Eh.length,hvs.length];exact hl,fun l hl=>?_⟩
  have g:=b8 (o:=.lst (us ++ vs)) s2 hl
  exact k _ _ _ g (cK aE ((gX Eh hvs).same g.gg))
theorem Jh (T:Top K mg):bF P w K mg base cF 1 T.iF T.gJ ["want"] (jS K MR):=by
 refine T.nU.ok jq (fun vs H Q E h=>?_) (fun cdv A outer s H vs Q E hr h=>?_)
 ·obtain ⟨G,as,d,sg,hv,⟨want,rfl,_⟩,_⟩:=h
  rw [hv.length];rfl
 ·obtain ⟨G,as,d,sg,hv,⟨want,rfl,rfl⟩,k⟩:=h
  obtain ⟨v1,r1,rfl,h1,hv⟩:=hv.cons
  cases hv.nil
  rw [DC]
  refine ⟨_,aB (bS (aV op_eq (pv 0) bg (aY _)) (aB (bx (i:=1) jq.nd rfl (Or.inl rfl) (ur Sj) (hs:=uq Sj)) (aG (aQ (br qN (pv 1) (ur Z9))))) bA)
   (aB (bS (aV op_eq (pv 0) bg (aY _)) (aB (bx (i:=1) jq.nd rfl (Or.inl rfl) (ur E2) (hs:=uq E2)) (aG (aQ (br qN (pv 1) (ur Sk))))) bA)
   (aG (aQ (ur litE)))),?_⟩
  refine iL (bG (fM (ah rfl h1) aF)) sg (fun e G1 H1 g1=>?_) (fun e G1 H1 g1=>?_)
  ·have e1:=of_decide_eq_true e
   subst e1
   refine dN uu g1.gh fun v G2 H2 g2 hv=>?_
   refine bw (yh (ah rfl hv) uu (by decide)) g2.gh fun v G3 H3 g3 hv=>k v G3 H3 ((g1.trans g2).trans g3) ?_
   have q:ff (Str.ofString "order") = [[S "like"],[S "up",S "field"],[S "down",S "field"],[S "then",S "order",S "order"],[S "turn",S "order"]] ++ [[S "pick",S "case",S "order",S "order"]]:=by decide +kernel
   rw [q,List.map_append]
   exact hv
  ·have e1:=of_decide_eq_false e
   have Gf:=h1.same g1.gg
   refine iL (bG (fM (ah rfl Gf) aF)) g1.gh (fun e' G2 H2 g2=>?_) (fun e' G2 H2 g2=>?_)
   ·have e2:=of_decide_eq_true e'
    subst e2
    refine dN uu g2.gh fun v G3 H3 g3 hv=>?_
    refine bw (yh (ah rfl hv) uu (by decide)) g3.gh fun v G4 H4 g4 hv=>k v G4 H4 (((g1.trans g2).trans g3).trans g4) ?_
    have q:ff (Str.ofString "case") = [[S "same",S "field"],[S "both",S "mark"],[S "either",S "mark"],[S "not",S "case"],[S "and",S "case",S "case"]] ++ [[S "or",S "case",S "case"]]:=by decide +kernel
    rw [q,List.map_append]
    exact hv
   ·have e2:=of_decide_eq_false e'
    refine bw (σ:=[]) uu g2.gh fun v G3 H3 g3 hv=>k v G3 H3 ((g1.trans g2).trans g3) ?_
    have q:ff want = [[S "under",S "field",S "number"],[S "is",S "field",S "number"]]:=by
     unfold ff;rw [if_neg e1,if_neg e2]
    rw [q]
    exact hv
end
end K10
namespace K10
open PySem L2 Frac Lw Dig PySem.NumText Nm
open Ord
abbrev dF (p:Int × Int):PyData:=.tuple [.int p.1,.int p.2]
def Gg (p:Str):Prop:=p = S "order" ∨ p = S "case" ∨ p = S "mark" ∨ p = S "field" ∨ p = S "number"
theorem Ji {n:Nat}{p:Str}(h:Gg p):Pl n (.str p):=by
 refine ⟨?_,by unfold PyData.depth;omega,by unfold noBool;rfl⟩
 unfold PyData.canLay0
 rcases h with rfl | rfl | rfl | rfl | rfl <;> decide +kernel
def CF (K:PySem.W.Frag):Sp:=fun vs H Q _=>∃ (d c:Addr) (vb vn:V) (most:Int) (G:Hp) (book:List Str) (nums:List (Int × Int)),vs = [.ref d,vb,vn,.int most]∧bq H d c∧(aN G H∧G d = none∧G c = none)∧
 Dat K G vb (.tuple (book.map PyData.str))∧Dat K G vn (.list (nums.map dF))∧(1≤book.length∧book.length≤4∧1≤nums.length∧nums.length≤8∧1≤most∧most≤100)∧
 ∀ (ws:List Wd) (v:V) (G' H' : Hp),nB (· ∈ book) (fun a b=>(a,b)∈nums) ws→(ws.length:Int)≤most→aN G G' → aN G' H' → G' d = none→G' c = none→Dat K G' v (.tuple (ws.map Wd.d))→bq H' d c→bK d c H H' → Q v H'
theorem oM {K:PySem.W.Frag}{G:Hp}:∀ ws:List Str,bJ K G (ws.map V.str) (ws.map PyData.str)
 | []=>bE
 | w :: ws=>bh (bM w) (oM ws)
theorem mR {K:PySem.W.Frag}{G:Hp}:∀ {ws:List Str}{xs:List V},bJ K G xs (ws.map PyData.str)→xs = ws.map V.str
 | [],_,h=>h.nil
 | w :: ws,_,h=>by
  obtain ⟨y,ys,rfl,hd,r⟩:=h.cons
  rw [hd.str,mR r];rfl
theorem rG {α β:Type}(p:α→Bool) (g:α→β):∀ l:List α,l.filterMap (fun o=>if p o = true then some (g o) else none) = (l.filter p).map g
 | []=>rfl
 | x :: l=>by
  rw [List.filterMap_cons,List.filter_cons]
  cases h:p x with
  | true=>simp [rG p g l]
  | false=>simp [rG p g l]
theorem Gh (want:Str):(ff want).length < sizeLine:=by
 have:(ff want).length≤6:=by unfold ff;split <;> (try split) <;> decide
 exact Nat.lt_of_le_of_lt this (by decide)
theorem Gi {α:Type}(x:α) (ps:List α) (h:ps.length≤3):jz (x :: ps) none (some 0) (some (-1)) = ps.reverse:=by
 match ps,h with
 | [],_=>rfl
 | [a],_=>kernel_rfl
 | [a,b],_=>kernel_rfl
 | [a,b,c],_=>kernel_rfl
 | _ :: _ :: _ :: _ :: _,h=>simp at h
theorem Jj {α:Type}[Inhabited α] (xs:List V):m6 xs (some 1) none = xs.drop 1:=by
 unfold m6
 have e1:HT.pJ xs.length 0 (some 1) = min 1 xs.length:=by
  have:=HT.xm xs.length 0 1
  exact this
 have e2:HT.pJ xs.length xs.length none = xs.length:=rfl
 rw [e1,e2]
 cases xs with
 | nil=>rfl
 | cons a r=>
  have:min 1 (a :: r).length = 1:=by simp
  rw [this]
  exact List.take_of_length_le (by simp)
section
variable {P:Program}{w:World}{K:PySem.W.Frag}{mg:Str→Option Value}{base:Heap}
theorem Jk {σ:St}{G:Hp}{te:TE}{E:XK}{ws:List Str}(h:Ev K te σ G (dS ws)) (hl:ws.length≤1000):Ev K (lA (A9 K) [] E (bV te kr)) σ G (.int (rooms ws)):=
 fun G1 H s1 s2 Q k=>h G1 H s1 s2 _ fun v G2 H2 g2 hv=>by
  obtain ⟨p,xs,rfl,hp,hxs⟩:=hv.lst
  have e:=mR hxs
  subst e
  exact ⟨p,ws,rfl,g2.gh _ _ hp,hl,fun H3 s3=>by rw [room_eq];exact k _ G2 H3 (g2.trans (EU g2.gh s3)) (aX _)⟩
theorem Gj {σ:St}{G:Hp}{te:TE}{ds:List PyData}(h:Ev K te σ G (.list ds)):Ev K (Zy (Iu K) te (Mz (tC (.int 1))) Ci) σ G (.list (ds.drop 1)):=
 fun G1 H s1 s2 Q k=>h G1 H s1 s2 _ fun v G2 H2 g2 hv=>by
  obtain ⟨p,xs,rfl,hp,hxs⟩:=hv.lst
  refine ⟨1,rfl,p,xs,rfl,b9.of (g2.gh _ _ hp),fun l hl=>?_⟩
  have g:=b8 (o:=.lst (m6 xs (some 1) none)) g2.gh hl
  refine k _ _ _ (g2.trans g) (cK aE ?_)
  have q:=oE 1 (hxs.same g.gg)
  rw [← Jj (α:=Nat)] at q
  exact q
theorem Gk (T:Top K mg):bF P w K mg base cF 2 T.jM T.jd ["deck", "book", "numbers", "most"] (CF K):=by
 have dJ:bF P w K mg base cF 1 T.jm T.iE ["deck", "many"] lW:=mQ T.cj T.n5
 have sy:bF P w K mg base cF 1 T.nX T.mK ["due"] (A9 K):=Je T.nY T.Sf
 have uZ:bF P w K mg base cF 1 T.iF T.gJ ["want"] (jS K MR):=Jh T
 refine T.qB.ok cR (fun vs H Q E h=>?_) (fun cdv A outer s H vs Q E hr h=>?_)
 ·obtain ⟨d,c,vb,vn,most,G,book,nums,rfl,_⟩:=h
  rfl
 ·obtain ⟨d,c,vb,vn,most,G,book,nums,rfl,D,⟨sg,gd,gc⟩,hb,hn,⟨b1,b2,n1,n2,m1,m2⟩,fin⟩:=h
  have hu:=hr.units
  have zl:(2000:Nat)≤sizeLine:=by decide
  refine ⟨_,(aB (bx (i:=4) cR.nd rfl (Or.inl rfl) (cL aq))
   (aB (bx (i:=5) cR.nd rfl (Or.inl rfl) (cL (aa bg aq aK)))
   (aB (tU PassesOwn.never (aV (xG (K:=K) rfl hu) (pv 5) (cL aq) (aY _)) (aB (bx (i:=6) cR.nd rfl (Or.inl rfl) (pK PySem.F.plainAttrs_list PySem.F.slot_list_pop PySem.F.type_list_pop pL (pv 5)))
   (aG (bS (aV op_eq (pv 6) bg (aY _)) (aG (iU (ku PySem.F.plainAttrs_list PySem.F.slot_list_append PySem.F.type_list_append eS (pv 4) (aa (bf (bU (K:=K) rfl) (pv 1) (aP dJ hr (by rfl) T.cU T.cj.kp T.cT .nil bD (aa (pv 0) (aa (bY (eT (K:=K) rfl) (by rfl) T.n5 PySem.boot_len (aa (pv 1) aq aD)) aq c9) aD)) (fun _ _=>rfl)) aq aL)))) (aG (bS (aV op_eq (pv 6) bg (aY _)) (aG (iU (ku PySem.F.plainAttrs_list PySem.F.slot_list_append PySem.F.type_list_append eS (pv 4) (aa (bf (aT (K:=K) rfl) (pv 2) (aP dJ hr (by rfl) T.cU T.cj.kp T.cT .nil bD (aa (pv 0) (aa (bY (eT (K:=K) rfl) (by rfl) T.n5 PySem.boot_len (aa (pv 2) aq aD)) aq c9) aD)) (fun _ _=>rfl)) aq aL)))) (aB (bx (i:=7) cR.nd rfl (Or.inr rfl) (br jY (br jY (pv 3) (bY (eT (K:=K) rfl) (by rfl) T.n5 PySem.boot_len (aa (pv 4) aq aD))) (aP sy hr (by rfl) T.sf T.nY.kp T.se .nil bD (aa (pv 5) aq aD))))
   (aB (ER (x:= "option") (cap:=["room"]) (js:=[7]) (i:=8) (y:= "some") ⟨rfl,by decide +kernel,by decide +kernel,rfl,(by show ∀ p∈(_:List (Str × NameKind)),p.2 = NameKind.free→List.lookup p.1 (ak dG).names = some NameKind.cell;decide +kernel),by decide +kernel,by decide +kernel,by decide +kernel⟩ rfl rfl (fun _ _ h=>h) cR.nd rfl rfl (eW (aP uZ hr (by rfl) T.uR T.nU.kp T.uQ .nil bD (aa (pv 6) aq aD))) (fun _ _ _ _=>⟨(Cm (aV Rp (br fc au (aP sy hr (by rfl) T.sf T.nY.kp T.se .nil bD (aa (jZ (ze (K:=K) rfl) (pv 0) (iX au) iW) aq aL))) (pv 1) (aY _))),(pv 0)⟩))
   (aB (bx (i:=9) cR.nd rfl (Or.inl rfl) (bf (aT (K:=K) rfl) (pv 8) (br ir (aP dJ hr (by rfl) T.cU T.cj.kp T.cT .nil bD (aa (pv 0) (aa au aq aK) aD)) (bY (eT (K:=K) rfl) (by rfl) T.n5 PySem.boot_len (aa (pv 8) aq aD))) (fun _ _=>rfl)))
   (aB (iU (ku PySem.F.plainAttrs_list PySem.F.slot_list_append PySem.F.type_list_append eS (pv 4) (aa (bf (aT (K:=K) rfl) (pv 9) au (fun _ _=>rfl)) aq aL)))
   (aG (bx (i:=5) cR.nd rfl (Or.inl rfl) (br qN (pv 5) (wg (pv 9) iW (iX au) (iX (vQ qJ au))))))))))))))))
   (aG (aQ (cV (nv (K:=K) rfl) (by rfl) T.uV E6 (aa (pv 4) aq aD))))))) ,?_⟩
  refine ⟨(by show 0≤sizeLine;decide),fun pw Jl=>?_⟩
  refine ⟨(by show 1≤sizeLine;decide),fun pd0 Gm=>?_⟩
  have Ej:=D.free Jl
  have npd:=(D.new (o:=.lst []) Jl).free Gm
  have OU:pw≠pd0:=aC (H:=L2.upd H pw (.lst [])) aE Gm
  have s2:aN H (L2.upd (L2.upd H pw (.lst [])) pd0 (.lst [V.str (S "order")])):=(bI Jl).trans (bI Gm)
  have er0:((([]:List Wd).length:Nat):Int) + rooms [S "order"]≤most:=by
   have e:rooms [S "order"] = 1:=by decide +kernel
   rw [e];show (0:Int) + 1≤most;omega
  refine tW (fun σ H' => ∃ (ws:List Wd) (st:List Str) (pd:Addr) (xs:List V) (G' : Hp) (v6 v7 v8 v9:Option V),σ = [some (.ref d),some vb,some vn,some (.int most),some (.ref pw),some (.ref pd),v6,v7,v8,v9]∧
    Run (· ∈ book) (fun a b=>(a,b)∈nums) [S "order"] ws st∧(∀ p∈st,Gg p)∧(ws.length:Int) + rooms st≤most∧(H' pw = some (.lst xs)∧bJ K G' xs (ws.map Wd.d)∧H' pd = some (.lst (st.reverse.map V.str)))∧(pw≠pd∧pd≠d∧pd≠c∧H pd = none)∧
    (aN G G' ∧ aN G' H' ∧ G' d = none∧G' c = none∧G' pw = none∧G' pd = none)∧bq H' d c∧bK d c H H') (fun σ H' => match H' pw with | some (.lst xs)=>200 - xs.length | _=>0)
   ⟨[],[S "order"],pd0,[],G,_,_,_,_,rfl,.nil,fun p hp=>.inl (List.mem_singleton.mp hp),er0,⟨by rw [aI OU,aE],bE,by rw [aE];rfl⟩,⟨OU,npd.1,npd.2,(bI Jl).free Gm⟩,
    ⟨aN.refl _,sg.trans s2,gd,gc,sg.free Jl,sg.free ((bI Jl).free Gm)⟩,D.same s2,aN.but s2⟩ ?_ ?_
  ·rintro σ H1 ⟨ws,st,pd,xs,G1,v6,v7,v8,v9,rfl,run,hw,hroom,⟨h1,h2,h3⟩,⟨q1,q2,q3,q4⟩,⟨g1,g2,g3,g4,g5,g6⟩,D1,K1⟩
   have tD:=h2.length
   rw [List.length_map] at tD
   have hrg:=zo st
   refine ⟨_,rfl,(by show 0≤sizeLine;decide),fun e he=>?_⟩
   have npe:pd≠e:=aC h3 he
   have nwe:pw≠e:=aC h1 he
   have OV:aN H1 (L2.upd H1 e (.lst [])):=bI he
   have pls:Pl 2 (dS st.reverse):=xD fun x hx=>by
    obtain ⟨p,hp,rfl⟩:=List.mem_map.mp hx
    exact Ji (hw p (List.mem_reverse.mp hp))
   have Sl:Pl 2 (.list []):=xD fun x hx=>by cases hx
   refine ⟨_,dS st.reverse,.list [],aN.refl _,cK (OV _ _ h3) (oM _),cK aE bE,⟨pls.shaped (by decide),Sl.shaped (by decide),pls.mix Sl⟩,_,rfl,?_⟩
   have Gf:=OV _ _ h1
   have h3' := OV _ _ h3
   have Sm:=D1.same OV
   have Yl:=K1.trans (aN.but (d:=d) (c:=c) OV)
   have Ym:=g2.trans OV
   generalize L2.upd H1 e (.lst []) = H2 at Gf h3' Sm Yl Ym
   cases st with
   | nil=>
    rw [show PySem.Spec.same (dS ([]:List Str).reverse) (.list []) = true from PySem.Spec.same_self _]
    refine xB ?_
    refine ⟨_,rfl,pw,_,rfl,.inl ⟨b9.of Gf,fun p hp=>?_⟩⟩
    have g:=b8 (o:=.tup xs) Ym hp
    have nf:=Sm.free hp
    exact fin ws _ _ _ run (by simp [rooms] at hroom;omega) (g1.trans g.gg) g.gh (y9 g3 (Ne.symm nf.1)) (y9 g4 (Ne.symm nf.2)) (d8 (eV.of aE) (h2.same g.gg)) (Sm.new hp) (Yl.trans (aN.but (bI hp)))
   | cons want st' =>
    have esf:PySem.Spec.same (dS (want :: st').reverse) (.list []) = false:=IB fun z=>by
     have z' : (want :: st').reverse.map PyData.str = []:=by injection z
     simp at z'
    rw [esf]
    refine xC ?_
    rw [pS] at hroom hrg
    have ab1:=zo st'
    have hwr:=wk want
    have So:=hw want List.mem_cons_self
    have hw' : ∀ p∈st',Gg p:=fun p hp=>hw p (List.mem_cons_of_mem _ hp)
    refine ⟨_,rfl,.inl ⟨rfl,_,b9.of h3'⟩,pd,_,V.str want,rfl,rfl,h3',by rw [List.reverse_cons,List.map_append];simp,?_⟩
    have edl:((want :: st').reverse.map V.str).dropLast = st'.reverse.map V.str:=by rw [List.reverse_cons,List.map_append];simp
    have Gn:L2.upd H2 pd (.lst ((want :: st').reverse.map V.str).dropLast) pd = some (.lst (st'.reverse.map V.str)):=by rw [aE,edl]
    have By:L2.upd H2 pd (.lst ((want :: st').reverse.map V.str).dropLast) pw = some (.lst xs):=by rw [aI q1];exact Gf
    have D3:=Nm.bq.upd (o:=.lst ((want :: st').reverse.map V.str).dropLast) Sm q2 q3
    have CG:=dY (o:=.lst ((want :: st').reverse.map V.str).dropLast) Ym g6
    have K3:bK d c H (L2.upd H2 pd (.lst ((want :: st').reverse.map V.str).dropLast)):=fun b o eb hbd hbc=>by
     rw [aI (aC eb q4)];exact Yl b o eb hbd hbc
    (try dsimp only)
    generalize L2.upd H2 pd (.lst ((want :: st').reverse.map V.str).dropLast) = H3 at Gn By D3 CG K3
    have Sq:(match H1 pw with | some (.lst xs)=>200 - xs.length | _=>0) = 200 - xs.length:=by rw [h1]
    clear h1 Gf h3 h3' D1 Sm g2 Ym K1 Yl OV he npe nwe pls
    have next:∀ (x:Wd) (st2:List Str) (Jm:Addr) (y:V) (G4 H4:Hp) (v6 v7 v8 v9:Option V),Step (· ∈ book) (fun a b=>(a,b)∈nums) (want :: st') x st2→(∀ p∈st2,Gg p)→(ws.length:Int) + 1 + rooms st2≤most→
      aN G1 G4→aN G4 H4→G4 d = none→G4 c = none→G4 pw = none→G4 Jm = none→H4 pw = some (.lst (xs ++ [y]))→Dat K G4 y x.d→H4 Jm = some (.lst (st2.reverse.map V.str))→pw≠Jm→Jm≠d→Jm≠c→H Jm = none→bq H4 d c→bK d c H H4→
      (∃ (ws:List Wd) (st:List Str) (pd:Addr) (xs:List V) (G' : Hp) (w6 w7 w8 w9:Option V),[some (.ref d),some vb,some vn,some (.int most),some (.ref pw),some (.ref Jm),v6,v7,v8,v9] = [some (.ref d),some vb,some vn,some (.int most),some (.ref pw),some (.ref pd),w6,w7,w8,w9]∧
    Run (· ∈ book) (fun a b=>(a,b)∈nums) [S "order"] ws st∧(∀ p∈st,Gg p)∧(ws.length:Int) + rooms st≤most∧(H4 pw = some (.lst xs)∧bJ K G' xs (ws.map Wd.d)∧H4 pd = some (.lst (st.reverse.map V.str)))∧(pw≠pd∧pd≠d∧pd≠c∧H pd = none)∧
    (aN G G' ∧ aN G' H4∧G' d = none∧G' c = none∧G' pw = none∧G' pd = none)∧bq H4 d c∧bK d c H H4):=fun x st2 Jm y G4 H4 v6 v7 v8 v9 hst hw2 hr2 a1 a2 a3 a4 a5 a6 a7 a8 a9 a10 a11 a12 a13 a14 a15=>
     ⟨ws ++ [x],st2,Jm,xs ++ [y],G4,v6,v7,v8,v9,rfl,run.snoc hst,hw2,by rw [List.length_append];show ((ws.length + 1:Nat):Int) + rooms st2≤most;omega,⟨a7,by rw [List.map_append];exact fV (h2.same a1) a8,a9⟩,⟨a10,a11,a12,a13⟩,⟨g1.trans a1,a2,a3,a4,a5,a6⟩,a14,a15⟩
    have less:∀ (H4:Hp) (y:V),H4 pw = some (.lst (xs ++ [y]))→(match H4 pw with | some (.lst xs)=>200 - xs.length | _=>0) < 200 - xs.length:=fun H4 y e4=>by
     rw [e4]
     show 200 - (xs ++ [y]).length < 200 - xs.length
     rw [List.length_append];show 200 - (xs.length + 1) < _;omega
    refine ⟨_,rfl,rfl,_,rfl,?_⟩
    by_cases hf:want = S "field"
    ·subst hf
     rw [decide_eq_true rfl]
     refine xC ?_
     obtain ⟨pb,bs,rfl,lM,QK⟩:=hb.tup
     have eb:=mR QK
     subst eb
     have aaa:=(g1.trans CG).tup lM
     refine ⟨_,rfl,.inl ⟨rfl,_,b9.of By⟩,_,rfl,_,rfl,_,rfl,pb,_,rfl,.inr aaa,d,c,_,rfl,D3,⟨by rw [List.length_map];omega,by rw [List.length_map];omega⟩,fun r H4 r0 r1 D4 K4=>?_⟩
     rw [List.length_map] at r1
     have hi:r.toNat < book.length:=by omega
     have Ss:aN G1 H4:=fun b o e=>K4 b o (CG b o e) (aC e g3) (aC e g4)
     have hat:yE (book.map V.str) r = some (V.str book[r.toNat]):=by
      have q:=lT (xs:=book.map V.str) (j:=r.toNat) (v:=V.str book[r.toNat]) (by rw [List.getElem?_map,List.getElem?_eq_getElem hi];rfl)
      have er:((r.toNat:Nat):Int) = r:=by omega
      rw [er] at q;exact q
     have QL:=K4 _ _ By Ej.1 Ej.2
     have QM:=K4 _ _ Gn q2 q3
     refine ⟨pb,_,r,_,rfl,rfl,(g1.trans Ss).tup lM,hat,pw,xs,_,rfl,rfl,QL,by omega,?_⟩
     refine ⟨next (.t book[r.toNat]) st' pd _ G1 _ _ _ _ _ (.field (List.getElem_mem hi)) hw' (by omega) (aN.refl _) (dY Ss g5) g3 g4 g5 g6 aE (bM _) (by rw [aI (Ne.symm q1)];exact QM) q1 q2 q3 q4 (Nm.bq.upd D4 Ej.1 Ej.2) (fun b o e hbd hbc=>by
      rw [aI (aC e Jl)];exact K4 _ _ (K3 b o e hbd hbc) hbd hbc),?_⟩
     show _ < (match H1 pw with | some (.lst xs)=>200 - xs.length | _=>0)
     rw [Sq]
     exact less _ _ aE
    ·rw [decide_eq_false (fun z=>hf (by injection z))]
     refine xB ?_
     refine ⟨_,rfl,rfl,_,rfl,?_⟩
     by_cases hm:want = S "number"
     ·subst hm
      rw [decide_eq_true rfl]
      refine xC ?_
      obtain ⟨pn,bs,rfl,MS,QK⟩:=hn.lst
      have hbl:=QK.length
      rw [List.length_map] at hbl
      have aab:=(g1.trans CG) _ _ MS
      refine ⟨_,rfl,.inl ⟨rfl,_,b9.of By⟩,_,rfl,_,rfl,_,rfl,pn,_,rfl,.inl (b9.of aab),d,c,_,rfl,D3,⟨by omega,by omega⟩,fun r H4 r0 r1 D4 K4=>?_⟩
      have hi:r.toNat < nums.length:=by omega
      have Ss:aN G1 H4:=fun b o e=>K4 b o (CG b o e) (aC e g3) (aC e g4)
      obtain ⟨y,hy,Yn⟩:=QK.get (show (nums.map dF)[r.toNat]? = some (dF nums[r.toNat]) by rw [List.getElem?_map,List.getElem?_eq_getElem hi];rfl)
      have hat:yE bs r = some y:=by
       have q:=lT (xs:=bs) (j:=r.toNat) (v:=y) hy
       have er:((r.toNat:Nat):Int) = r:=by omega
       rw [er] at q;exact q
      have QL:=K4 _ _ By Ej.1 Ej.2
      have QM:=K4 _ _ Gn q2 q3
      refine ⟨pn,_,r,_,rfl,rfl,b9.of ((g1.trans Ss) _ _ MS),hat,pw,xs,_,rfl,rfl,QL,by omega,?_⟩
      refine ⟨next (.n nums[r.toNat].1 nums[r.toNat].2) st' pd _ G1 _ _ _ _ _ (.number (List.getElem_mem hi)) hw' (by omega) (aN.refl _) (dY Ss g5) g3 g4 g5 g6 aE (Yn.same g1) (by rw [aI (Ne.symm q1)];exact QM) q1 q2 q3 q4 (Nm.bq.upd D4 Ej.1 Ej.2) (fun b o e hbd hbc=>by
       rw [aI (aC e Jl)];exact K4 _ _ (K3 b o e hbd hbc) hbd hbc),?_⟩
      show _ < (match H1 pw with | some (.lst xs)=>200 - xs.length | _=>0)
      rw [Sq]
      exact less _ _ aE
     ·rw [decide_eq_false (fun z=>hm (by injection z))]
      refine xB ?_
      have hwo:want = S "order" ∨ want = S "case" ∨ want = S "mark" := by
       rcases So with h | h | h | h | h
       ·exact .inl h
       ·exact .inr (.inl h)
       ·exact .inr (.inr h)
       ·exact absurd h hf
       ·exact absurd h hm
      refine ⟨_,rfl,_,rfl,pw,_,rfl,.inl (b9.of By),_,_,rfl,rfl,_,rfl,pd,st'.reverse,rfl,Gn,by rw [List.length_reverse];omega,fun H4 s4=>⟨_,_,rfl,rfl,?_⟩⟩
      have hR0:most - (xs.length:Nat) - room st'.reverse = most - xs.length - rooms st' := by rw [room_eq,Dj]
      (try dsimp only)
      rw [hR0]
      generalize hR:most - (xs.length:Int) - rooms st' = R
      have QL:=s4 _ _ By
      have QM:=s4 _ _ Gn
      have D4:=D3.same s4
      have g44:=CG.trans s4
      have K4:bK d c H H4:=K3.trans (aN.but s4)
      obtain ⟨dk,dns,hd4,hc4,_⟩:=id D4.ex
      refine (j4 (K:=K) (ff want) dS (fun o=>if (decide (1 + rooms (o.drop 1)≤R)) = true then some (dS o) else none) (bH (aj (ah rfl (bM want)) aJ) ⟨want,rfl,rfl⟩) (Gh want) fun G2 i o x s3 ho hx=>
       lcB (bG (gu (gu aR (Jk (ws:=o.drop 1) (oV (Gj (ah rfl hx)) (by show PyData.list ((o.map PyData.str).drop 1) = PyData.list ((o.drop 1).map PyData.str);rw [List.map_drop])) (by
        obtain ⟨a,b,e,hl,_⟩:=qW want o (List.mem_of_getElem? ho)
        subst e;show b.length≤1000;omega)) (aX _)) (ah rfl (aX R)) (bQ _))) (fun _=>ah rfl hx)).use (G:=G1) g44 fun Z7 G5 H5 Ia MT=>?_
      rw [rG] at MT
      generalize hcd:(ff want).filter (fun o=>decide (1 + rooms (o.drop 1)≤R)) = cand at MT
      have Su:∀ o∈cand,o∈ff want∧1 + rooms (o.drop 1)≤R:=fun o ho=>by
       rw [← hcd] at ho
       obtain ⟨h1,h2⟩:=List.mem_filter.mp ho
       exact ⟨h1,of_decide_eq_true h2⟩
      have ab2:0 < cand.length:=by
       obtain ⟨o,ho,hro⟩:=A3 want hwo
       refine List.length_pos_of_mem (a:=o) ?_
       rw [← hcd]
       exact List.mem_filter.mpr ⟨ho,decide_eq_true (by omega)⟩
      obtain ⟨ps8,Sv,rfl,hp8,Jo⟩:=MT.lst
      have hyl:=Jo.length
      rw [List.length_map] at hyl
      have D5:=D4.same Ia.hh
      refine ⟨_,rfl,_,rfl,d,c,12,rfl,D5,⟨by decide,by decide⟩,fun r H6 r0 r1 D6 K6=>?_⟩
      have g5d:=Ia.out hd4 g3
      have g5c:=Ia.out hc4 g4
      have g5w:=Ia.out QL g5
      have g5p:=Ia.out QM g6
      have g56:aN G5 H6:=fun b o e=>K6 b o (Ia.gh b o e) (aC e g5d) (aC e g5c)
      have Sw:=g56 _ _ hp8
      have j0:0≤r % (Sv.length:Int):=Int.emod_nonneg _ (by omega)
      have j1:r % (Sv.length:Int) < Sv.length:=Int.emod_lt_of_pos _ (by omega)
      obtain ⟨j,hj⟩:∃ j:Nat,r % (Sv.length:Int) = j:=⟨(r % (Sv.length:Int)).toNat,by omega⟩
      have hjl:j < cand.length:=by omega
      obtain ⟨yo,hyo,Sx⟩:=Jo.get (show (cand.map dS)[j]? = some (dS cand[j]) by rw [List.getElem?_map,List.getElem?_eq_getElem hjl];rfl)
      obtain ⟨ho1,ho2⟩:=Su _ (List.getElem_mem hjl)
      generalize cand[j] = o at Sx ho1 ho2
      obtain ⟨x,ps,rfl,hpl,aac⟩:=qW want o ho1
      obtain ⟨po,zs,rfl,MU,hzs⟩:=Sx.lst
      have ez:=mR hzs
      subst ez
      refine ⟨_,rfl,ps8,_,rfl,.inl (b9.of Sw),_,_,rfl,rfl,(by omega),ps8,_,_,_,rfl,rfl,b9.of Sw,(by rw [hj];exact lT hyo),?_⟩
      have h6w:=K6 _ _ (Ia.hh _ _ QL) Ej.1 Ej.2
      have h6d:=K6 _ _ (Ia.hh _ _ QM) q2 q3
      have Sy:=g56 _ _ MU
      refine ⟨_,rfl,.inl ⟨rfl,_,b9.of h6w⟩,_,rfl,po,_,0,_,rfl,rfl,b9.of Sy,at0,pw,xs,_,rfl,rfl,h6w,by omega,?_⟩
      have npo:po≠pw:=aC MU g5w
      have SA:L2.upd H6 pw (.lst (xs ++ [V.str x])) po = some (.lst ((x :: ps).map V.str)):=by rw [aI npo];exact Sy
      have h7d:L2.upd H6 pw (.lst (xs ++ [V.str x])) pd = some (.lst (st'.reverse.map V.str)):=by rw [aI (Ne.symm q1)];exact h6d
      have D7:=Nm.bq.upd (o:=.lst (xs ++ [V.str x])) D6 Ej.1 Ej.2
      have g57:=dY (o:=.lst (xs ++ [V.str x])) g56 g5w
      have K7:bK d c H (L2.upd H6 pw (.lst (xs ++ [V.str x]))):=fun b o e hbd hbc=>by
       rw [aI (aC e Jl)];exact K6 b o (Ia.hh b o (K4 b o e hbd hbc)) hbd hbc
      have Yo:L2.upd H6 pw (.lst (xs ++ [V.str x])) pw = some (.lst (xs ++ [V.str x])):=aE
      (try dsimp only)
      generalize L2.upd H6 pw (.lst (xs ++ [V.str x])) = H7 at SA h7d D7 g57 K7 Yo
      have epk:jz ((x :: ps).map V.str) none (some 0) (some (-1)) = ps.reverse.map V.str:=by
       rw [List.map_cons,Gi _ _ (by rw [List.length_map];exact hpl),List.map_reverse]
      refine ⟨_,rfl,_,rfl,0,rfl,1,rfl,-1,rfl,po,_,rfl,b9.of SA,by decide,by rw [epk,List.length_map,List.length_reverse];omega,fun p8 aad=>?_⟩
      have s8:=bI (o:=.lst (jz ((x :: ps).map V.str) none (some 0) (some (-1)))) aad
      refine ⟨pd,p8,_,_,rfl,rfl,s8 _ _ h7d,aE,by rw [epk,List.length_map,List.length_map,List.length_reverse,List.length_reverse];omega,fun p9 Jf=>?_⟩
      have s9:=bI (o:=.lst (st'.reverse.map V.str ++ jz ((x :: ps).map V.str) none (some 0) (some (-1)))) Jf
      have D8:=D7.same s8
      have nf:=D8.free Jf
      have K8:=K7.trans (aN.but (d:=d) (c:=c) s8)
      refine ⟨next (.t x) (ps ++ st') p9 (V.str x) G5 _ _ _ _ _ (.word hf hm ho1) (fun p hp=>?_) ?_ Ia.gg ((g57.trans s8).trans s9) g5d g5c g5w ((g57.trans s8).free Jf) (s9 _ _ (s8 _ _ Yo)) (bM _) ?_ (aC (s8 _ _ Yo) Jf) nf.1 nf.2 (bK.free K8 D8 Jf) (D8.same s9) (K8.trans (aN.but s9)),?_⟩
      ·rcases List.mem_append.mp hp with hp | hp
       ·exact aac p hp
       ·exact hw' p hp
      ·rw [wm]
       have e1:rooms ((x :: ps).drop 1) = rooms ps:=rfl
       rw [e1] at ho2
       omega
      ·rw [aE,epk,← List.map_append,List.reverse_append]
      ·show _ < (match H1 pw with | some (.lst xs)=>200 - xs.length | _=>0)
       rw [Sq]
       exact less _ _ (s9 _ _ (s8 _ _ Yo))
  ·rintro σ H1 Q1 Q2 hq ⟨v,e1,z,q⟩
   exact ⟨v,e1,z,fun e he=>by
    obtain ⟨G0,a,b,x1,x2,x3,x4,b',x5,x6⟩:=q e he
    exact ⟨G0,a,b,x1,x2,x3,x4,b',x5,hq _ _ x6⟩⟩
end
end K10
namespace K10
open PySem L2 Frac Lw Dig PySem.NumText Nm
open Ord Num Look
def Sz (p:Int × Int):Prop:=p.1.natAbs < 10 ^ 40∧p.2.natAbs < 10 ^ 40
def OW:List PyData→PyData→Prop:=fun as d=>∃ p q:Int × Int,as = [dF p,dF q]∧Sz p∧Sz q∧d = .int (cmp p q)
def Gp:List PyData→PyData→Prop:=fun as d=>∃ p q:Int × Int,as = [dF p,dF q]∧Sz p∧Sz q∧d = .str (qZ p q).how
def n8:List PyData→PyData→Prop:=fun as d=>((∃ x,as = [.str x])∨∃ b,as = [.bool b])∧d = .bool false
def DE:List PyData→PyData→Prop:=fun as d=>∃ a:An,(as = [.str (S "look"),.str a.how]∧d = .str a.t)∨∃ x,x≠S "look" ∧ as = [.str x,.str a.how]∧d = .bool (decide (a.how = x))
def Ac:List PyData→PyData→Prop:=fun as d=>∃ a:An,as = [.str a.t]∧d = .str a.turn.t
def Gq:List PyData→PyData→Prop:=fun as d=>∃ a b:An,as = [.str a.t,.str b.t]∧d = .str (if a = .like then b else a).t
def Gr:List PyData→PyData→Prop:=fun as d=>∃ (c:Bool) (a b:An),as = [.bool c,.str a.t,.str b.t]∧d = .str (if c = true then a else b).t
def BA:List PyData→PyData→Prop:=fun as d=>∃ (t:Bool) (x:Str) (b c:Bool),as = [.bool t,.str x,.list [.bool b,.bool c]]∧d = .bool (if t = true then b || c else b && c)
abbrev kY:List (Str × Str):=[(S "less",S "ahead"),(S "same",S "like"),(S "more",S "behind")]
abbrev ki:List (Str × Str):=[(S "ahead",S "behind"),(S "like",S "like"),(S "behind",S "ahead")]
theorem Gs (a:An):kY.find? (fun r=>decide (r.1 = a.how)) = some (a.how,a.t):=by cases a <;> decide +kernel
theorem Gu (a:An):ki.find? (fun r=>decide (r.1 = a.t)) = some (a.t,a.turn.t):=by cases a <;> decide +kernel
theorem Gv (a:An):decide (a.t = S "like") = decide (a = .like):=by cases a <;> decide +kernel
section
variable {P:Program}{w:World}{K:PySem.W.Frag}{mg:Str→Option Value}{base:Heap}
theorem Gw {σ:St}{G:Hp}{tb:TE}{x z v:Str}{rs:List (Str × Str)}(W:xX K w.params mg x rs) (hb:Ev K tb σ G (.str z)) (h:rs.find? (fun r=>decide (r.1 = z)) = some (z,v)):
  Ev K (iV (fun x y H Q=>∃ z a g v u,x = .ref a∧y = .str z∧rR K w.params a g∧g z = some (v,u)∧Q v H) (tC (.ref W.a)) tb) σ G (.str v):=
 fun G1 H s1 s2 Q k=>hb G1 H s1 s2 _ fun u G2 H2 g2 hu=>by
  obtain ⟨u',RW⟩:=W.yes z v h
  rw [hu.str]
  exact ⟨z,W.a,W.g,.str v,u',rfl,rfl,W.D,RW,k _ G2 H2 g2 (bM _)⟩
theorem Ad (T:Top K mg):bF P w K mg base cF 1 T.l8 T.kG ["one", "other"] (jS K OW):=by
 refine T.uM.ok nI (fun vs H Q E h=>?_) (fun cdv A outer s H vs Q E hr h=>?_)
 ·obtain ⟨G,as,d,sg,hv,⟨p,q,rfl,_⟩,_⟩:=h
  rw [hv.length];rfl
 ·obtain ⟨G,as,d,sg,hv,⟨p,q,rfl,hp,hq,rfl⟩,k⟩:=h
  obtain ⟨v1,r1,rfl,h1,hv⟩:=hv.cons
  obtain ⟨v2,r2,rfl,h2,hv⟩:=hv.cons
  cases hv.nil
  have zz:∀ {x:Int},x.natAbs < 10 ^ 40→x.natAbs < 10 ^ 100:=fun h=>Nat.lt_of_lt_of_le h (by decide)
  refine ⟨_,(aB (bx (i:=2) nI.nd rfl (Or.inl rfl) (br dm (bf (bU (K:=K) rfl) (pv 0) au (fun _ _=>rfl)) (bf (bU (K:=K) rfl) (pv 1) au (fun _ _=>rfl))))
   (aB (bx (i:=3) nI.nd rfl (Or.inl rfl) (br dm (bf (bU (K:=K) rfl) (pv 1) au (fun _ _=>rfl)) (bf (bU (K:=K) rfl) (pv 0) au (fun _ _=>rfl))))
   (aB (bS (aV rO (pv 2) (pv 3) (aY _)) (aG (aQ (vQ qJ au))) bA)
   (aB (bS (aV yM (pv 2) (pv 3) (aY _)) (aG (aQ au)) bA)
   (aG (aQ au)))))) ,?_⟩
  refine dN (K:=K) (rP (cz (ah rfl h1) aR rfl rfl) (cz (ah rfl h2) aR rfl rfl) (mw (zz hp.1) (zz hq.2)) (aX _)) sg fun v3 G1 H1 g1 h3=>?_
  refine dN (K:=K) (rP (cz (ah rfl (h2.same g1.gg)) aR rfl rfl) (cz (ah rfl (h1.same g1.gg)) aR rfl rfl) (mw (zz hq.1) (zz hp.2)) (aX _)) g1.gh fun v4 G2 H2 g2 h4=>?_
  have yF:=g1.trans g2
  refine iL (bG (K:=K) (gu (ah rfl (h3.same g2.gg)) (ah rfl h4) (bQ _))) g2.gh (fun e G3 H3 g3=>?_) (fun e G3 H3 g3=>?_)
  ·have e' := of_decide_eq_true e
   have:cmp p q = -1:=by unfold cmp;rw [if_pos e']
   exact ⟨1,rfl,k (.int (-1)) G3 H3 (yF.trans g3) (by rw [this];exact aX _)⟩
  ·have e' := of_decide_eq_false e
   refine iL (bG (K:=K) (gu (ah rfl ((h3.same g2.gg).same g3.gg)) (ah rfl (h4.same g3.gg)) (bQ _))) g3.gh (fun f G4 H4 g4=>?_) (fun f G4 H4 g4=>?_)
   ·have f' := of_decide_eq_true f
    have:cmp p q = 1:=by unfold cmp;rw [if_neg e',if_pos f']
    exact k (.int 1) G4 H4 ((yF.trans g3).trans g4) (by rw [this];exact aX _)
   ·have f' := of_decide_eq_false f
    have:cmp p q = 0:=by unfold cmp;rw [if_neg e',if_neg f']
    exact k (.int 0) G4 H4 ((yF.trans g3).trans g4) (by rw [this];exact aX _)
theorem Gx (T:Top K mg):bF P w K mg base cF 2 T.iC T.gz ["one", "other"] (jS K Gp):=by
 have BB:bF P w K mg base cF 1 T.l8 T.kG ["one", "other"] (jS K OW):=Ad T
 refine T.l9.ok pq (fun vs H Q E h=>?_) (fun cdv A outer s H vs Q E hr h=>?_)
 ·obtain ⟨G,as,d,sg,hv,⟨p,q,rfl,_⟩,_⟩:=h
  rw [hv.length];rfl
 ·obtain ⟨G,as,d,sg,hv,⟨p,q,rfl,hp,hq,rfl⟩,k⟩:=h
  obtain ⟨v1,r1,rfl,h1,hv⟩:=hv.cons
  obtain ⟨v2,r2,rfl,h2,hv⟩:=hv.cons
  cases hv.nil
  refine ⟨_,(aB (bx (i:=2) pq.nd rfl (Or.inl rfl) (aP BB hr (by rfl) T.Bh T.uM.kp T.Bg .nil bD (aa (pv 0) (aa (pv 1) aq aD) aD)))
   (aB (bS (aV op_eq (pv 2) au (aY _)) (aG (aQ bg)) bA)
   (aG (aQ (jh (aV rO (pv 2) au (aY _)) bg bg))))) ,?_⟩
  refine dN (K:=K) (bH (E:=E0) (R:=OW) (d:=.int (cmp p q)) (aj (ah rfl h1) (aj (ah rfl h2) aJ)) ⟨p,q,rfl,hp,hq,rfl⟩) sg fun v3 G1 H1 g1 h3=>?_
  refine iL (bG (K:=K) (iO (ah rfl h3) aR)) g1.gh (fun e G2 H2 g2=>?_) (fun e G2 H2 g2=>?_)
  ·refine bw (K:=K) (G:=G2) (d:=.str (qZ p q).how) (oV aF ?_) g2.gh fun v G3 H3 g3 hv=>k v G3 H3 ((g1.trans g2).trans g3) hv
   have e' := of_decide_eq_true e
   unfold cmp at e'
   unfold qZ
   split at e'
   ·cases e'
   ·split at e'
    ·cases e'
    ·rename_i n1 n2;rw [if_neg n1,if_neg n2];rfl
  ·refine bw (K:=K) (G:=G2) (d:=.str (qZ p q).how) (nu (bG (K:=K) (gu (ah rfl (h3.same g2.gg)) aR (bQ _))) (fun f=>oV aF ?_) (fun f=>oV aF ?_)) g2.gh fun v G3 H3 g3 hv=>k v G3 H3 ((g1.trans g2).trans g3) hv
   ·have f' := of_decide_eq_true f
    unfold cmp at f'
    unfold qZ
    split at f'
    ·rename_i n1;rw [if_pos n1];rfl
    ·split at f'
     ·cases f'
     ·cases f'
   ·have f' := of_decide_eq_false f
    have e' := of_decide_eq_false e
    unfold cmp at f' e'
    unfold qZ
    split at f'
    ·exact absurd (by decide) f'
    ·rename_i n1
     rw [if_neg n1] at e' ⊢
     split at f'
     ·rename_i n2;rw [if_pos n2];rfl
     ·rename_i n2;rw [if_neg n2] at e';exact absurd rfl e'
theorem qD (T:Top K mg):bF P w K mg base cF 1 T.ie T.fJ ["part"] (jS K n8):=by
 refine T.jT.ok Be (fun vs H Q E h=>?_) (fun cdv A outer s H vs Q E hr h=>?_)
 ·obtain ⟨G,as,d,sg,hv,⟨h1,_⟩,_⟩:=h
  rw [hv.length]
  rcases h1 with ⟨x,rfl⟩ | ⟨b,rfl⟩ <;> rfl
 ·obtain ⟨G,as,d,sg,hv,⟨h0,rfl⟩,k⟩:=h
  refine ⟨_,(aG (aQ (bY (um (K:=K) rfl) (by rfl) T.n6 OD (aa (pv 0) (aa (wY (v:=.ty "tuple") (by rfl) T.uV E6 rfl) aq))))) ,?_⟩
  rcases h0 with ⟨x,rfl⟩ | ⟨b,rfl⟩
  ·obtain ⟨v1,r1,rfl,h1,hv⟩:=hv.cons
   cases hv.nil
   exact bw (K:=K) (qT (ah rfl h1) T.st) sg k
  ·obtain ⟨v1,r1,rfl,h1,hv⟩:=hv.cons
   cases hv.nil
   exact bw (K:=K) (qT (ah rfl h1) T.bt) sg k
theorem wN (T:Top K mg) (W1:xX K w.params mg "AHEAD" kY):bF P w K mg base cF 1 T.nL T.lI ["word", "how"] (jS K DE):=by
 refine T.uL.ok Ds (fun vs H Q E h=>?_) (fun cdv A outer s H vs Q E hr h=>?_)
 ·obtain ⟨G,as,d,sg,hv,⟨a,h1⟩,_⟩:=h
  rw [hv.length]
  rcases h1 with ⟨rfl,_⟩ | ⟨x,_,rfl,_⟩ <;> rfl
 ·obtain ⟨G,as,d,sg,hv,⟨a,h0⟩,k⟩:=h
  refine ⟨_,(aG (aQ (jh (aV op_eq (pv 0) bg (aY _)) (bf uy (tw (v:=.ref W1.a) (by rfl) W1.m rfl) (pv 1) (fun _ _=>rfl)) (c8 op_eq (pv 1) (pv 0) (aY _))))) ,?_⟩
  rcases h0 with ⟨rfl,rfl⟩ | ⟨x,hx,rfl,rfl⟩
  ·obtain ⟨v1,r1,rfl,h1,hv⟩:=hv.cons
   obtain ⟨v2,r2,rfl,h2,hv⟩:=hv.cons
   cases hv.nil
   exact bw (K:=K) (nu (bG (K:=K) (fM (ah rfl h1) aF)) (fun _=>Gw W1 (ah rfl h2) (Gs a)) (fun z=>absurd (of_decide_eq_false z) (fun n=>n rfl))) sg k
  ·obtain ⟨v1,r1,rfl,h1,hv⟩:=hv.cons
   obtain ⟨v2,r2,rfl,h2,hv⟩:=hv.cons
   cases hv.nil
   exact bw (K:=K) (nu (bG (K:=K) (fM (ah rfl h1) aF)) (fun z=>absurd (of_decide_eq_true z) hx) (fun _=>fM (ah rfl h2) (ah rfl h1))) sg k
theorem wO (T:Top K mg) (W2:xX K w.params mg "OTHER_WAY" ki):bF P w K mg base cF 2 T.fK T.eO ["part"] (jS K Ac):=by
 have gj:bF P w K mg base cF 1 T.ie T.fJ ["part"] (jS K n8):=qD T
 refine T.j8.ok sP (fun vs H Q E h=>?_) (fun cdv A outer s H vs Q E hr h=>?_)
 ·obtain ⟨G,as,d,sg,hv,⟨a,rfl,_⟩,_⟩:=h
  rw [hv.length];rfl
 ·obtain ⟨G,as,d,sg,hv,⟨a,rfl,rfl⟩,k⟩:=h
  obtain ⟨v1,r1,rfl,h1,hv⟩:=hv.cons
  cases hv.nil
  refine ⟨_,(aG (aQ (jh (lQ (aP gj hr (by rfl) T.lH T.jT.kp T.lG .nil bD (aa (pv 0) aq aD))) (dW (aa bg (aa (pv 0) aq aD) aK)) (bf uy (tw (v:=.ref W2.a) (by rfl) W2.m rfl) (pv 0) (fun _ _=>rfl))))) ,?_⟩
  exact bw (K:=K) (nu (nq (K:=K) (bH (E:=E0) (R:=n8) (d:=.bool false) (aj (ah rfl h1) aJ) ⟨.inl ⟨_,rfl⟩,rfl⟩)) (fun z=>nomatch z) (fun _=>Gw W2 (ah rfl h1) (Gu a))) sg k
theorem Jp (T:Top K mg):bF P w K mg base cF 2 T.fY T.eY ["one", "other"] (jS K Gq):=by
 have gj:bF P w K mg base cF 1 T.ie T.fJ ["part"] (jS K n8):=qD T
 refine T.lJ.ok qu (fun vs H Q E h=>?_) (fun cdv A outer s H vs Q E hr h=>?_)
 ·obtain ⟨G,as,d,sg,hv,⟨a,b,rfl,_⟩,_⟩:=h
  rw [hv.length];rfl
 ·obtain ⟨G,as,d,sg,hv,⟨a,b,rfl,rfl⟩,k⟩:=h
  obtain ⟨v1,r1,rfl,h1,hv⟩:=hv.cons
  obtain ⟨v2,r2,rfl,h2,hv⟩:=hv.cons
  cases hv.nil
  refine ⟨_,(aB (bS (lQ (aP gj hr (by rfl) T.lH T.jT.kp T.lG .nil bD (aa (pv 0) aq aD))) (aG (aQ (dW (aa bg (aa (pv 0) (aa (pv 1) aq aD) aD) aK)))) bA)
   (aG (aQ (jh (aV op_eq (pv 0) bg (aY _)) (pv 1) (pv 0))))) ,?_⟩
  refine aM (nq (K:=K) (bH (E:=E0) (R:=n8) (d:=.bool false) (aj (ah rfl h1) aJ) ⟨.inl ⟨_,rfl⟩,rfl⟩)) sg fun G1 H1 g1=>?_
  refine bw (K:=K) (G:=G1) (nu (bG (K:=K) (fM (ah rfl (h1.same g1.gg)) aF)) (fun z=>?_) (fun z=>?_)) g1.gh fun v G' H' g hv=>k v G' H' (g1.trans g) hv
  ·rw [Gv] at z
   rw [if_pos (of_decide_eq_true z)]
   exact ah rfl (h2.same g1.gg)
  ·rw [Gv] at z
   rw [if_neg (of_decide_eq_false z)]
   exact ah rfl (h1.same g1.gg)
theorem DF (T:Top K mg):bF P w K mg base cF 2 T.qy T.oJ ["case", "one", "other"] (jS K Gr):=by
 have gj:bF P w K mg base cF 1 T.ie T.fJ ["part"] (jS K n8):=qD T
 refine T.zP.ok Dt (fun vs H Q E h=>?_) (fun cdv A outer s H vs Q E hr h=>?_)
 ·obtain ⟨G,as,d,sg,hv,⟨c,a,b,rfl,_⟩,_⟩:=h
  rw [hv.length];rfl
 ·obtain ⟨G,as,d,sg,hv,⟨c,a,b,rfl,rfl⟩,k⟩:=h
  obtain ⟨v1,r1,rfl,h1,hv⟩:=hv.cons
  obtain ⟨v2,r2,rfl,h2,hv⟩:=hv.cons
  obtain ⟨v3,r3,rfl,h3,hv⟩:=hv.cons
  cases hv.nil
  refine ⟨_,(aB (bS (lQ (aP gj hr (by rfl) T.lH T.jT.kp T.lG .nil bD (aa (pv 0) aq aD))) (aG (aQ (dW (aa bg (aa (pv 0) (aa (pv 1) (aa (pv 2) aq aD) aD) aD) aK)))) bA)
   (aG (aQ (jh (lQ (pv 0)) (pv 1) (pv 2))))) ,?_⟩
  refine aM (nq (K:=K) (bH (E:=E0) (R:=n8) (d:=.bool false) (aj (ah rfl h1) aJ) ⟨.inr ⟨_,rfl⟩,rfl⟩)) sg fun G1 H1 g1=>?_
  refine bw (K:=K) (G:=G1) (nu (nq (K:=K) (ah rfl (h1.same g1.gg))) (fun z=>?_) (fun z=>?_)) g1.gh fun v G' H' g hv=>k v G' H' (g1.trans g) hv
  ·subst z;exact ah rfl (h2.same g1.gg)
  ·subst z;exact ah rfl (h3.same g1.gg)
end
end K10
namespace K10
open PySem L2 Frac Lw Dig PySem.NumText Nm
open Ord Num Look
section
variable {P:Program}{w:World}{K:PySem.W.Frag}{mg:Str→Option Value}{base:Heap}
theorem CH {σ:St}{G:Hp}{ta:TE}{b:Bool}(h:Ev K ta σ G (.bool b)):Ev K (Mu ta) σ G (.bool (!b)):=
 fun G1 H s1 s2 Q k=>h G1 H s1 s2 _ fun v G2 H2 g2 hv=>⟨b,hv.bl,k _ G2 H2 g2 (bQ _)⟩
theorem OX {σ:St}{G:Hp}{ta tb:TE}{t b c:Bool}(ha:Ev K ta σ G (.bool t)) (hb:Ev K tb σ G (.list [.bool b,.bool c])):Ev K (iV (Rr K false) ta tb) σ G (.bool (b == t || c == t)):=
 jy ha hb fun G1 H u v Q s1 s2 hu hv k=>by
  obtain ⟨p,xs,rfl,hp,hx⟩:=hv.lst
  obtain ⟨y1,r1,rfl,h1,hx⟩:=hx.cons
  obtain ⟨y2,r2,rfl,h2,hx⟩:=hx.cons
  cases hx.nil
  rw [hu.bl]
  rw [h1.bl,h2.bl] at hp
  refine ⟨p,_,rfl,.inl (b9.of (s2 _ _ hp)),rfl,rfl,?_⟩
  have e:inV (.bl t) [.bl b,.bl c] = (b == t || c == t):=by cases t <;> cases b <;> cases c <;> rfl
  show Q (.bl (inV (.bl t) [.bl b,.bl c])) H
  rw [e]
  exact k _ G1 H (bO.refl s2) (bQ _)
theorem u5 (T:Top K mg):bF P w K mg base cF 2 T.iB T.gw ["truth", "word", "parts"] (jS K BA):=by
 have gj:bF P w K mg base cF 1 T.ie T.fJ ["part"] (jS K n8):=qD T
 refine T.jH.ok pe (fun vs H Q E h=>?_) (fun cdv A outer s H vs Q E hr h=>?_)
 ·obtain ⟨G,as,d,sg,hv,⟨t,x,b,c,rfl,_⟩,_⟩:=h
  rw [hv.length];rfl
 ·obtain ⟨G,as,d,sg,hv,⟨t,x,b,c,rfl,rfl⟩,k⟩:=h
  have hu:=hr.units
  obtain ⟨v1,r1,rfl,h1,hv⟩:=hv.cons
  obtain ⟨v2,r2,rfl,h2,hv⟩:=hv.cons
  obtain ⟨v3,r3,rfl,h3,hv⟩:=hv.cons
  cases hv.nil
  refine ⟨_,(aB (bS (aV lB (pv 0) (pv 2) (by rfl)) (aG (aQ (pv 0))) bA)
   (aB (ER (x:= "part") (cap:=[]) (js:=[]) (i:=3) (y:= "rest") ⟨rfl,by decide +kernel,by decide +kernel,rfl,(by show ∀ p∈(_:List (Str × NameKind)),p.2 = NameKind.free→List.lookup p.1 (ak dz).names = some NameKind.cell;decide +kernel),by decide +kernel,by decide +kernel,by decide +kernel⟩ rfl rfl (fun _ _ h=>h) pe.nd rfl rfl (eW (pv 2)) (fun _ _ _ _=>⟨(Cm (lQ (aP gj hr (by rfl) T.lH T.jT.kp T.lG .nil bD (aa (pv 0) aq aD)))),(pv 0)⟩))
   (aB (bS (aV (Cn (K:=K) rfl hu) (pv 3) (cL aq) (aY _)) (aG (aQ (Eu (pv 0)))) bA)
   (aG (aQ (jh (aV op_eq (bY (eT (K:=K) rfl) (by rfl) T.n5 PySem.boot_len (aa (pv 3) aq aD)) au (aY _)) (bf (aT (K:=K) rfl) (pv 3) au (fun _ _=>rfl)) (dW (aa (pv 1) (aa (bf (aT (K:=K) rfl) (pv 3) au (fun _ _=>rfl)) (aa (bf (aT (K:=K) rfl) (pv 3) au (fun _ _=>rfl)) aq aL) aL) aD)))))))) ,?_⟩
  refine iL (bG (K:=K) (OX (ah rfl h1) (ah rfl h3))) sg (fun z G1 H1 g1=>?_) (fun z G1 H1 g1=>?_)
  ·refine bw (K:=K) (G:=G1) (d:=.bool (if t = true then b || c else b && c)) (oV (ah rfl (h1.same g1.gg)) ?_) g1.gh fun v G' H' g hv=>k v G' H' (g1.trans g) hv
   revert z;cases t <;> cases b <;> cases c <;> simp
  ·have h3' : Dat K G1 v3 (.list ([b,c].map PyData.bool)):=h3.same g1.gg
   refine (j4 (K:=K) (G:=G1) [b,c] PyData.bool (fun _=>none) (ah rfl h3') (by show 2 < sizeLine;decide) (fun G2 i a x sG ha hx=>?_)).use g1.gh fun v4 G2 H2 g2 h4=>?_
   ·exact .inr ⟨rfl,nq (K:=K) (bH (E:=E0) (R:=n8) (d:=.bool false) (aj (ah rfl hx) aJ) ⟨.inr ⟨_,rfl⟩,rfl⟩)⟩
   ·have h4' : Dat K G2 v4 (.list []):=by
     have e:[b,c].filterMap (fun _=>(none:Option PyData)) = []:=rfl
     rw [e] at h4;exact h4
    have Sl:Pl 2 (.list []):=xD fun x hx=>by cases hx
    refine iL (bG (K:=K) (EV (ah rfl h4') (d9 aJ (by decide)) Sl Sl (by decide))) g2.gh (fun y G3 H3 g3=>?_) (fun y=>?_)
    ·refine bw (K:=K) (G:=G3) (d:=.bool (if t = true then b || c else b && c)) (oV (CH (ah rfl (((h1.same g1.gg).same g2.gg).same g3.gg))) ?_) g3.gh fun v G' H' g hv=>k v G' H' (((g1.trans g2).trans g3).trans g) hv
     revert z;cases t <;> cases b <;> cases c <;> simp
    ·rw [PySem.Spec.same_self] at y;cases y
def CI:Sp:=fun vs H Q _=>∃ (p:Addr) (n:Nat) (xs:List V),vs = [.ref p,.int (n:Nat)]∧H p = some (.lst xs)∧n≤xs.length∧n≤1000∧
 ∀ l H',H l = none→l≠p→H' l = some (.lst (xs.drop (xs.length - n)).reverse)→H' p = some (.lst (xs.take (xs.length - n)))→(∀ b,b≠l→b≠p→H' b = H b)→Q (.ref l) H'
theorem Gy (T:Top K mg):bF P w K mg base cF 1 T.tG T.qx ["told", "many"] CI:=by
 refine T.CB.ok zG (fun vs H Q E h=>?_) (fun cdv A outer s H vs Q E hr h=>?_)
 ·obtain ⟨p,n,xs,rfl,_⟩:=h
  rfl
 ·obtain ⟨p,n,xs,rfl,hp,hn,hm,k⟩:=h
  have zl:(2000:Nat)≤sizeLine:=by decide
  refine ⟨_,(aB (bx (i:=2) zG.nd rfl (Or.inl rfl) (cL aq))
   (aB (tU PassesOwn.never (aV rO (bY (eT (K:=K) rfl) (by rfl) T.n5 PySem.boot_len (aa (pv 2) aq aD)) (pv 1) (aY _)) (aG (iU (ku PySem.F.plainAttrs_list PySem.F.slot_list_append PySem.F.type_list_append eS (pv 2) (aa (pK PySem.F.plainAttrs_list PySem.F.slot_list_pop PySem.F.type_list_pop pL (pv 0)) aq c9)))))
   (aG (aQ (pv 2))))) ,?_⟩
  refine ⟨(by show 0≤sizeLine;decide),fun l hl=>?_⟩
  have QN:l≠p:=fun z=>by subst z;rw [hp] at hl;cases hl
  refine tW (fun σ H' => ∃ j,j≤n∧σ = [some (.ref p),some (.int (n:Nat)),some (.ref l)]∧H' l = some (.lst (xs.drop (xs.length - j)).reverse)∧H' p = some (.lst (xs.take (xs.length - j)))∧∀ b,b≠l→b≠p→H' b = H b) (fun σ H' => match H' l with | some (.lst ys)=>n - ys.length | _=>0)
   ⟨0,Nat.zero_le _,rfl,by rw [aE];simp,by rw [aI (Ne.symm QN),hp];simp,fun b h1 h2=>by rw [aI h1]⟩ ?_ ?_
  ·rintro σ H1 ⟨j,hj,rfl,h1,h2,h3⟩
   have hlen:((xs.drop (xs.length - j)).reverse).length = j:=by rw [List.length_reverse,List.length_drop];omega
   have hlt:(xs.take (xs.length - j)).length = xs.length - j:=by rw [List.length_take];omega
   have Sq:(match H1 l with | some (.lst ys)=>n - ys.length | _=>0) = n - j:=by rw [h1];show n - _ = _;rw [hlen]
   refine ⟨_,rfl,l,_,rfl,.inl (b9.of h1),_,rfl,_,_,rfl,rfl,_,rfl,?_⟩
   by_cases hjn:j < n
   ·have e:decide (((xs.drop (xs.length - j)).reverse.length:Int) < (n:Nat)) = true:=decide_eq_true (by rw [hlen];omega)
    rw [e]
    refine xC ?_
    have hy:(xs.take (xs.length - j))[(xs.take (xs.length - j)).length - 1]? = some (xs[xs.length - j - 1]'(by omega)):=by
     rw [hlt,List.getElem?_take_of_lt (by omega),List.getElem?_eq_getElem]
    have edl:(xs.take (xs.length - j)).dropLast = xs.take (xs.length - (j + 1)):=by
     rw [List.dropLast_eq_take,hlt,List.take_take]
     congr 1;omega
    have edr:(xs.drop (xs.length - j)).reverse ++ [xs[xs.length - j - 1]'(by omega)] = (xs.drop (xs.length - (j + 1))).reverse:=by
     have:xs.drop (xs.length - (j + 1)) = xs[xs.length - j - 1]'(by omega) :: xs.drop (xs.length - j):=by
      rw [List.drop_eq_getElem_cons (by omega:xs.length - (j + 1) < xs.length)]
      congr 1
      congr 1;omega
     rw [this,List.reverse_cons]
    refine ⟨_,rfl,.inl ⟨rfl,_,b9.of h1⟩,_,rfl,.inl ⟨rfl,_,b9.of h2⟩,p,_,_,rfl,rfl,h2,hy,l,_,_,rfl,rfl,(by rw [aI QN];exact h1),(by rw [hlen];omega),?_,?_⟩
    ·refine ⟨j + 1,hjn,rfl,by rw [aE,edr],by rw [aI (Ne.symm QN),aE,edl],fun b hb1 hb2=>by rw [aI hb1,aI hb2];exact h3 b hb1 hb2⟩
    ·show (match L2.upd _ l _ l with | some (.lst ys)=>n - ys.length | _=>0) < _
     rw [Sq,aE]
     show n - _ < _
     rw [List.length_append,hlen]
     show n - (j + 1) < n - j
     omega
   ·have e:decide (((xs.drop (xs.length - j)).reverse.length:Int) < (n:Nat)) = false:=decide_eq_false (by rw [hlen];omega)
    rw [e]
    refine xB ?_
    have:j = n:=by omega
    subst this
    exact ⟨_,rfl,k l H1 hl QN h1 h2 h3⟩
  ·rintro σ H1 Q1 Q2 hq ⟨v,e1,p',ys,e2,e3,v2,e4,i,j,e5,e6,c,e7,e8⟩
   exact ⟨v,e1,p',ys,e2,e3,v2,e4,i,j,e5,e6,c,e7,hq _ _ e8⟩
end
def Ae:List PyData→PyData→Prop:=fun as d=>∃ (x:Str) (n:Nat) (vs:List Tv),as = [.str x,.list (vs.map Tv.d)]∧d = (xV ⟨fun _=>.like,fun _ _ _=>.like,fun _ _ _=>.like⟩ n vs).d∧
 ((x = S "then" ∧ n = 3∧∃ a b,vs = [.an a,.an b])∨(x = S "turn" ∧ n = 4∧∃ a,vs = [.an a])∨(x = S "pick" ∧ n = 5∧∃ c a b,vs = [.tr c,.an a,.an b])∨(x = S "not" ∧ n = 9∧∃ a,vs = [.tr a])∨(x = S "and" ∧ n = 10∧∃ a b,vs = [.tr a,.tr b])∨(x = S "or" ∧ n = 11∧∃ a b,vs = [.tr a,.tr b]))
theorem Gz:(S "turn" ≠ S "then" ∧ S "pick" ≠ S "then" ∧ S "pick" ≠ S "turn")∧(S "not" ≠ S "then" ∧ S "not" ≠ S "turn" ∧ S "not" ≠ S "pick")∧(S "and" ≠ S "then" ∧ S "and" ≠ S "turn" ∧ S "and" ≠ S "pick" ∧ S "and" ≠ S "not")∧(S "or" ≠ S "then" ∧ S "or" ≠ S "turn" ∧ S "or" ≠ S "pick" ∧ S "or" ≠ S "not")∧S "and" ≠ S "or" := by decide +kernel
section
variable {P:Program}{w:World}{K:PySem.W.Frag}{mg:Str→Option Value}{base:Heap}
theorem cA {G H:Hp}{D:Ends}{σ:St}{tc:TT}{t u:TS}(h:qe tc σ G true) (s:aN G H) (k:∀ G' H',bO G H G' H' → t D σ H'):yL tc t u D σ H:=iL h s (fun _=>k) fun z=>nomatch z
theorem jv {σ:St}{G:Hp}{ta tb:TE}{x y:Str}(ha:Ev K ta σ G (.str x)) (hb:Ev K tb σ G (.str y)) (e:x = y):qe (qb (iV Ob ta tb)) σ G true:=gY (bG (K:=K) (fM ha hb)) (decide_eq_true e)
theorem aH {σ:St}{G:Hp}{ta tb:TE}{x y:Str}(ha:Ev K ta σ G (.str x)) (hb:Ev K tb σ G (.str y)) (e:x≠y):qe (qb (iV Ob ta tb)) σ G false:=gY (bG (K:=K) (fM ha hb)) (decide_eq_false e)
theorem OY (T:Top K mg) (W2:xX K w.params mg "OTHER_WAY" ki):bF P w K mg base cF 3 T.iA T.gH ["word", "parts"] (jS K Ae):=by
 have gj:bF P w K mg base cF 2 T.ie T.fJ ["part"] (jS K n8):=(qD T).mono (by decide)
 have rH:bF P w K mg base cF 2 T.fY T.eY ["one", "other"] (jS K Gq):=Jp T
 have kj:bF P w K mg base cF 2 T.fK T.eO ["part"] (jS K Ac):=wO T W2
 have GA:bF P w K mg base cF 2 T.qy T.oJ ["case", "one", "other"] (jS K Gr):=DF T
 have jQ:bF P w K mg base cF 2 T.iB T.gw ["truth", "word", "parts"] (jS K BA):=u5 T
 obtain ⟨⟨n1,n2,n3⟩,⟨m1,m2,m3⟩,⟨a1,a2,a3,a4⟩,⟨o1,o2,o3,o4⟩,ao⟩:=Gz
 refine T.nK.ok sO (fun vs H Q E h=>?_) (fun cdv A outer s H vs Q E hr h=>?_)
 ·obtain ⟨G,as,d,sg,hv,⟨x,n,us,rfl,_⟩,_⟩:=h
  rw [hv.length];rfl
 ·obtain ⟨G,as,d,sg,hv,⟨x,n,us,rfl,rfl,hx⟩,k⟩:=h
  obtain ⟨v1,r1,rfl,h1,hv⟩:=hv.cons
  obtain ⟨v2,r2,rfl,h2,hv⟩:=hv.cons
  cases hv.nil
  refine ⟨_,(aB (bS (aV op_eq (pv 0) bg (aY _)) (aG (aQ (aP rH hr (by rfl) T.rB T.lJ.kp T.rA .nil bD (aa (bf (aT (K:=K) rfl) (pv 1) au (fun _ _=>rfl)) (aa (bf (aT (K:=K) rfl) (pv 1) au (fun _ _=>rfl)) aq aL) aL)))) bA)
   (aB (bS (aV op_eq (pv 0) bg (aY _)) (aG (aQ (aP kj hr (by rfl) T.nN T.j8.kp T.nM .nil bD (aa (bf (aT (K:=K) rfl) (pv 1) au (fun _ _=>rfl)) aq aL)))) bA)
   (aB (bS (aV op_eq (pv 0) bg (aY _)) (aG (aQ (aP GA hr (by rfl) T.F0 T.zP.kp T.FY .nil bD (aa (bf (aT (K:=K) rfl) (pv 1) au (fun _ _=>rfl)) (aa (bf (aT (K:=K) rfl) (pv 1) au (fun _ _=>rfl)) (aa (bf (aT (K:=K) rfl) (pv 1) au (fun _ _=>rfl)) aq aL) aL) aL)))) bA)
   (aB (bS (aV op_eq (pv 0) bg (aY _)) (aG (aQ (jh (lQ (aP gj hr (by rfl) T.lH T.jT.kp T.lG .nil bD (aa (bf (aT (K:=K) rfl) (pv 1) au (fun _ _=>rfl)) aq aL))) (dW (aa bg (aa (bf (aT (K:=K) rfl) (pv 1) au (fun _ _=>rfl)) aq aL) aK)) (Eu (bf (aT (K:=K) rfl) (pv 1) au (fun _ _=>rfl)))))) bA)
   (aG (aQ (aP jQ hr (by rfl) T.l7 T.jH.kp T.l6 .nil bD (aa (c8 op_eq (pv 0) bg (aY _)) (aa (pv 0) (aa (pv 1) aq aD) aD) gP)))))))) ,?_⟩
  rcases hx with ⟨rfl,rfl,a,b,rfl⟩ | ⟨rfl,rfl,a,rfl⟩ | ⟨rfl,rfl,c,a,b,rfl⟩ | ⟨rfl,rfl,a,rfl⟩ | ⟨rfl,rfl,a,b,rfl⟩ | ⟨rfl,rfl,a,b,rfl⟩
  ·refine cA (jv (K:=K) (ah rfl h1) aF rfl) sg fun G1 H1 g1=>?_
   have h2' := h2.same g1.gg
   exact bw (K:=K) (G:=G1) (bH (E:=E0) (R:=Gq) (aj (cg (ah rfl h2') aR rfl rfl) (aj (cg (ah rfl h2') aR rfl rfl) aJ)) ⟨a,b,rfl,rfl⟩) g1.gh fun v G' H' g hv=>k v G' H' (g1.trans g) hv
  ·refine aM (aH (K:=K) (ah rfl h1) aF n1) sg fun G1 H1 g1=>?_
   refine cA (jv (K:=K) (ah rfl (h1.same g1.gg)) aF rfl) g1.gh fun G2 H2 g2=>?_
   have yF:=g1.trans g2
   have h2' := h2.same yF.gg
   exact bw (K:=K) (G:=G2) (bH (E:=E0) (R:=Ac) (aj (cg (ah rfl h2') aR rfl rfl) aJ) ⟨a,rfl,rfl⟩) g2.gh fun v G' H' g hv=>k v G' H' (yF.trans g) hv
  ·refine aM (aH (K:=K) (ah rfl h1) aF n2) sg fun G1 H1 g1=>?_
   refine aM (aH (K:=K) (ah rfl (h1.same g1.gg)) aF n3) g1.gh fun G2 H2 g2=>?_
   have yF:=g1.trans g2
   refine cA (jv (K:=K) (ah rfl (h1.same yF.gg)) aF rfl) g2.gh fun G3 H3 g3=>?_
   have BC:=yF.trans g3
   have h2' := h2.same BC.gg
   exact bw (K:=K) (G:=G3) (bH (E:=E0) (R:=Gr) (aj (cg (ah rfl h2') aR rfl rfl) (aj (cg (ah rfl h2') aR rfl rfl) (aj (cg (ah rfl h2') aR rfl rfl) aJ))) ⟨c,a,b,rfl,rfl⟩) g3.gh fun v G' H' g hv=>k v G' H' (BC.trans g) hv
  ·refine aM (aH (K:=K) (ah rfl h1) aF m1) sg fun G1 H1 g1=>?_
   refine aM (aH (K:=K) (ah rfl (h1.same g1.gg)) aF m2) g1.gh fun G2 H2 g2=>?_
   have yF:=g1.trans g2
   refine aM (aH (K:=K) (ah rfl (h1.same yF.gg)) aF m3) g2.gh fun G3 H3 g3=>?_
   have BC:=yF.trans g3
   refine cA (jv (K:=K) (ah rfl (h1.same BC.gg)) aF rfl) g3.gh fun G4 H4 g4=>?_
   have Ek:=BC.trans g4
   have h2' := h2.same Ek.gg
   exact bw (K:=K) (G:=G4) (nu (nq (K:=K) (bH (E:=E0) (R:=n8) (d:=.bool false) (aj (cg (ah rfl h2') aR rfl rfl) aJ) ⟨.inr ⟨_,rfl⟩,rfl⟩)) (fun z=>nomatch z) (fun _=>CH (cg (ah rfl h2') aR rfl rfl))) g4.gh fun v G' H' g hv=>k v G' H' (Ek.trans g) hv
  ·refine aM (aH (K:=K) (ah rfl h1) aF a1) sg fun G1 H1 g1=>?_
   refine aM (aH (K:=K) (ah rfl (h1.same g1.gg)) aF a2) g1.gh fun G2 H2 g2=>?_
   have yF:=g1.trans g2
   refine aM (aH (K:=K) (ah rfl (h1.same yF.gg)) aF a3) g2.gh fun G3 H3 g3=>?_
   have BC:=yF.trans g3
   refine aM (aH (K:=K) (ah rfl (h1.same BC.gg)) aF a4) g3.gh fun G4 H4 g4=>?_
   have Ek:=BC.trans g4
   exact bw (K:=K) (G:=G4) (bH (E:=E0) (R:=BA) (aj (oV (fM (ah rfl (h1.same Ek.gg)) aF) (by rw [decide_eq_false ao])) (aj (ah rfl (h1.same Ek.gg)) (aj (ah rfl (h2.same Ek.gg)) aJ))) ⟨false,_,a,b,rfl,rfl⟩) g4.gh fun v G' H' g hv=>k v G' H' (Ek.trans g) hv
  ·refine aM (aH (K:=K) (ah rfl h1) aF o1) sg fun G1 H1 g1=>?_
   refine aM (aH (K:=K) (ah rfl (h1.same g1.gg)) aF o2) g1.gh fun G2 H2 g2=>?_
   have yF:=g1.trans g2
   refine aM (aH (K:=K) (ah rfl (h1.same yF.gg)) aF o3) g2.gh fun G3 H3 g3=>?_
   have BC:=yF.trans g3
   refine aM (aH (K:=K) (ah rfl (h1.same BC.gg)) aF o4) g3.gh fun G4 H4 g4=>?_
   have Ek:=BC.trans g4
   exact bw (K:=K) (G:=G4) (bH (E:=E0) (R:=BA) (aj (oV (fM (ah rfl (h1.same Ek.gg)) aF) (by rw [decide_eq_true rfl])) (aj (ah rfl (h1.same Ek.gg)) (aj (ah rfl (h2.same Ek.gg)) aJ))) ⟨true,_,a,b,rfl,rfl⟩) g4.gh fun v G' H' g hv=>k v G' H' (Ek.trans g) hv
end
end K10
namespace K10
open PySem L2 Frac Lw Dig PySem.NumText Nm
open Ord Num Look
def SD (book:List Str) (E:En):List PyData→PyData→Prop:=fun as d=>∃ z,z∈book∧((as = [.str (S "look"),.str z]∧d = .str (E.look z).t)∨(as = [.str (S "same"),.str z]∧d = .bool (isA (E.look z) .like)))
def Yp (book:List Str) (num:Int→Int→Prop) (E:En):List PyData→PyData→Prop:=fun as d=>∃ z,z∈book∧∃ a b,num a b∧((as = [.str (S "less"),.str z,dF (a,b)]∧d = .list [.bool (isA (E.one z a b) .ahead),.bool (isA (E.two z a b) .ahead)])∨
 (as = [.str (S "same"),.str z,dF (a,b)]∧d = .list [.bool (isA (E.one z a b) .like),.bool (isA (E.two z a b) .like)]))
def RWT (book:List Str) (num:Int→Int→Prop) (E:En):List PyData→PyData→Prop:=fun as d=>∃ (x want:Str) (ps:List Str) (vs:List Tv),as = [.str x,.list (vs.map Tv.d)]∧cD x = some (x,want,ps)∧sM (· ∈ book) num ps vs∧d = (xV E (vC x) vs).d
def BD (P:Program) (w:World) (K:PySem.W.Frag) (mg:Str→Option Value) (base:Heap) (book:List Str) (num:Int→Int→Prop) (E:En) (f1 f2:Addr):Shared→Hp→Prop:=fun s H=>qq P w K mg base 3 f1 2 (jS K (SD book E)) s H∧qq P w K mg base 3 f2 3 (jS K (Yp book num E)) s H
theorem Jq {P:Program}{w:World}{K:PySem.W.Frag}{mg:Str→Option Value}{base:Heap}{book:List Str}{num:Int→Int→Prop}{E:En}{f1 f2:Addr}:∀ (fs:List Addr) (s:Shared) (H:Hp) (s' : Shared) (H' : Hp),Un fs [] H H' s.heap s'.heap→BD P w K mg base book num E f1 f2 s H→BD P w K mg base book num E f1 f2 s' H' :=
 fun _ _ _ _ _ u C=>⟨C.1.un u,C.2.un u⟩
section
variable {P:Program}{w:World}{K:PySem.W.Frag}{mg:Str→Option Value}{base:Heap}
theorem SE (T:Top K mg) (W2:xX K w.params mg "OTHER_WAY" ki) (book:List Str) (num:Int→Int→Prop) (E:En) (f1 f2:Addr):o8 P w K mg base 4 T.kF T.jG ["word", "parts", "by_field", "by_mark"] (fun s vs H Q=>BD P w K mg base book num E f1 f2 s H∧Yk K f1 f2 (RWT book num E) vs H Q E0):=by
 have kj:bF P w K mg base cF 3 T.fK T.eO ["part"] (jS K Ac):=(wO T W2).mono (by decide)
 have jQ:bF P w K mg base cF 3 T.iB T.gw ["truth", "word", "parts"] (jS K BA):=(u5 T).mono (by decide)
 have u6:bF P w K mg base cF 3 T.iA T.gH ["word", "parts"] (jS K Ae):=OY T W2
 obtain ⟨w0,w1,w2,w3,w4,w5,w6,w7,w8,w9,R8,R9,Sa,Sd⟩:=Cz
 refine T.rX.okS xY (fun s vs H Q h=>?_) (fun cdv A outer s H vs Q hr h=>?_)
 ·obtain ⟨_,G,as,d,xs,rfl,sg,hv,⟨x,want,ps,us,rfl,_⟩,_⟩:=h
  rw [List.length_append,hv.length];rfl
 ·obtain ⟨⟨pZ,wQ⟩,G,as,d,xs,rfl,sg,hv,⟨x,want,ps,us,rfl,hw,hty,rfl⟩,k⟩:=h
  have hu:=hr.units
  obtain ⟨v1,r1,rfl,h1,hv⟩:=hv.cons
  obtain ⟨v2,r2,rfl,h2,hv⟩:=hv.cons
  cases hv.nil
  have uF:∀ {p:Str},sM (· ∈ book) num [p] us→∃ v,us = [v]∧Ty (· ∈ book) num p v:=fun h=>by cases h with | cons a b=>cases b;exact ⟨_,rfl,a⟩
  have go2:∀ {p q:Str},sM (· ∈ book) num [p,q] us→∃ v u,us = [v,u]∧Ty (· ∈ book) num p v∧Ty (· ∈ book) num q u:=fun h=>by cases h with | cons a b=>cases b with | cons b c=>cases c;exact ⟨_,_,rfl,a,b⟩
  have Se:∀ {p q r:Str},sM (· ∈ book) num [p,q,r] us→∃ v u t,us = [v,u,t]∧Ty (· ∈ book) num p v∧Ty (· ∈ book) num q u∧Ty (· ∈ book) num r t:=fun h=>by cases h with | cons a b=>cases b with | cons b c=>cases c with | cons c d=>cases d;exact ⟨_,_,_,rfl,a,b,c⟩
  refine ⟨_,(aB (bS (aV op_eq (pv 0) bg (aY _)) (aG (aQ bg)) bA)
   (aB (bS (aV op_eq (pv 0) bg (aY _)) (aG (aQ (nD (i:=2) rfl (Or.inl rfl) (hr.mono (by decide)) rfl pZ (aa bg (aa (bf (aT (K:=K) rfl) (pv 1) au (fun _ _=>rfl)) aq aL) aK)))) bA)
   (aB (bS (aV op_eq (pv 0) bg (aY _)) (aG (aQ (aP kj hr (by rfl) T.nN T.j8.kp T.nM .nil bD (aa (nD (i:=2) rfl (Or.inl rfl) (hr.mono (by decide)) rfl pZ (aa bg (aa (bf (aT (K:=K) rfl) (pv 1) au (fun _ _=>rfl)) aq aL) aK)) aq c9)))) bA)
   (aB (bS (aV op_eq (pv 0) bg (aY _)) (aG (aQ (nD (i:=2) rfl (Or.inl rfl) (hr.mono (by decide)) rfl pZ (aa bg (aa (bf (aT (K:=K) rfl) (pv 1) au (fun _ _=>rfl)) aq aL) aK)))) bA)
   (aB (bS (aV op_eq (pv 0) bg (aY _)) (aG (aQ (nD (i:=3) rfl (Or.inl rfl) (hr.mono (by decide)) rfl wQ (aa bg (aa (bf (aT (K:=K) rfl) (pv 1) au (fun _ _=>rfl)) (aa (bf (aT (K:=K) rfl) (pv 1) au (fun _ _=>rfl)) aq aL) aL) aK)))) bA)
   (aB (bS (aV op_eq (pv 0) bg (aY _)) (aG (aQ (nD (i:=3) rfl (Or.inl rfl) (hr.mono (by decide)) rfl wQ (aa bg (aa (bf (aT (K:=K) rfl) (pv 1) au (fun _ _=>rfl)) (aa (bf (aT (K:=K) rfl) (pv 1) au (fun _ _=>rfl)) aq aL) aL) aK)))) bA)
   (aB (bS (aV op_eq (pv 0) bg (aY _)) (aG (aQ (aP jQ hr (by rfl) T.l7 T.jH.kp T.l6 .nil bD (aa jg (aa bg (aa (bf (aT (K:=K) rfl) (pv 1) au (fun _ _=>rfl)) aq aL) aK) aK)))) bA)
   (aB (bS (aV op_eq (pv 0) bg (aY _)) (aG (aQ (aP jQ hr (by rfl) T.l7 T.jH.kp T.l6 .nil bD (aa jg (aa bg (aa (bf (aT (K:=K) rfl) (pv 1) au (fun _ _=>rfl)) aq aL) aK) aK)))) bA)
   (aG (aQ (aP u6 hr (by rfl) T.uK T.nK.kp T.uJ .nil bD (aa (pv 0) (aa (pv 1) aq aD) aD)))))))))))) ,?_⟩
  rcases Bd hw with ⟨rfl,rfl,rfl⟩ | ⟨rfl,rfl,rfl⟩ | ⟨rfl,rfl,rfl⟩ | ⟨rfl,rfl,rfl⟩ | ⟨rfl,rfl,rfl⟩ | ⟨rfl,rfl,rfl⟩ | ⟨rfl,rfl,rfl⟩ | ⟨rfl,rfl,rfl⟩ | ⟨rfl,rfl,rfl⟩ | ⟨rfl,rfl,rfl⟩ | ⟨rfl,rfl,rfl⟩ | ⟨rfl,rfl,rfl⟩ | ⟨rfl,rfl,rfl⟩ | ⟨rfl,rfl,rfl⟩
  ·rw [w0] at k
   refine cA (jv (K:=K) (ah rfl h1) aF rfl) sg fun G1 H1 q1=>?_
   have g1:=q1
   have h2' := h2.same g1.gg
   exact bw (K:=K) (G:=G1) aF q1.gh fun v G' H' g hv=>k v G' H' (g1.trans g) hv
  ·obtain ⟨v,rfl,t1⟩:=uF hty;obtain ⟨z,hz,rfl⟩:=t1.field;rw [w1] at k
   refine aM (aH (K:=K) (ah rfl h1) aF (by decide +kernel)) sg fun G1 H1 q1=>?_
   have g1:=q1
   refine cA (jv (K:=K) (ah rfl (h1.same g1.gg)) aF rfl) q1.gh fun G2 H2 q2=>?_
   have g2:=g1.trans q2
   have h2' := h2.same g2.gg
   exact bw (K:=K) (G:=G2) (nF (R:=SD book E) rfl (aj aF (aj (cg (ah rfl h2') aR rfl rfl) aJ)) rfl ⟨z,hz,.inl ⟨rfl,rfl⟩⟩) q2.gh fun v G' H' g hv=>k v G' H' (g2.trans g) hv
  ·obtain ⟨v,rfl,t1⟩:=uF hty;obtain ⟨z,hz,rfl⟩:=t1.field;rw [w2] at k
   refine aM (aH (K:=K) (ah rfl h1) aF (by decide +kernel)) sg fun G1 H1 q1=>?_
   have g1:=q1
   refine aM (aH (K:=K) (ah rfl (h1.same g1.gg)) aF (by decide +kernel)) q1.gh fun G2 H2 q2=>?_
   have g2:=g1.trans q2
   refine cA (jv (K:=K) (ah rfl (h1.same g2.gg)) aF rfl) q2.gh fun G3 H3 q3=>?_
   have g3:=g2.trans q3
   have h2' := h2.same g3.gg
   exact bw (K:=K) (G:=G3) (bH (E:=E0) (R:=Ac) (aj (nF (R:=SD book E) rfl (aj aF (aj (cg (ah rfl h2') aR rfl rfl) aJ)) rfl ⟨z,hz,.inl ⟨rfl,rfl⟩⟩) aJ) ⟨_,rfl,rfl⟩) q3.gh fun v G' H' g hv=>k v G' H' (g3.trans g) hv
  ·obtain ⟨v,u,rfl,t1,t2⟩:=go2 hty;obtain ⟨a,rfl⟩:=t1.order;obtain ⟨b,rfl⟩:=t2.order;rw [w3] at k
   refine aM (aH (K:=K) (ah rfl h1) aF (by decide +kernel)) sg fun G1 H1 q1=>?_
   have g1:=q1
   refine aM (aH (K:=K) (ah rfl (h1.same g1.gg)) aF (by decide +kernel)) q1.gh fun G2 H2 q2=>?_
   have g2:=g1.trans q2
   refine aM (aH (K:=K) (ah rfl (h1.same g2.gg)) aF (by decide +kernel)) q2.gh fun G3 H3 q3=>?_
   have g3:=g2.trans q3
   refine aM (aH (K:=K) (ah rfl (h1.same g3.gg)) aF (by decide +kernel)) q3.gh fun G4 H4 q4=>?_
   have g4:=g3.trans q4
   refine aM (aH (K:=K) (ah rfl (h1.same g4.gg)) aF (by decide +kernel)) q4.gh fun G5 H5 q5=>?_
   have g5:=g4.trans q5
   refine aM (aH (K:=K) (ah rfl (h1.same g5.gg)) aF (by decide +kernel)) q5.gh fun G6 H6 q6=>?_
   have g6:=g5.trans q6
   refine aM (aH (K:=K) (ah rfl (h1.same g6.gg)) aF (by decide +kernel)) q6.gh fun G7 H7 q7=>?_
   have g7:=g6.trans q7
   refine aM (aH (K:=K) (ah rfl (h1.same g7.gg)) aF (by decide +kernel)) q7.gh fun G8 H8 q8=>?_
   have g8:=g7.trans q8
   have h2' := h2.same g8.gg
   exact bw (K:=K) (G:=G8) (bH (E:=E0) (R:=Ae) (aj (ah rfl (h1.same g8.gg)) (aj (ah rfl h2') aJ)) ⟨_,3,_,rfl,rfl,.inl ⟨rfl,rfl,a,b,rfl⟩⟩) q8.gh fun v G' H' g hv=>k v G' H' (g8.trans g) hv
  ·obtain ⟨v,rfl,t1⟩:=uF hty;obtain ⟨a,rfl⟩:=t1.order;rw [w4] at k
   refine aM (aH (K:=K) (ah rfl h1) aF (by decide +kernel)) sg fun G1 H1 q1=>?_
   have g1:=q1
   refine aM (aH (K:=K) (ah rfl (h1.same g1.gg)) aF (by decide +kernel)) q1.gh fun G2 H2 q2=>?_
   have g2:=g1.trans q2
   refine aM (aH (K:=K) (ah rfl (h1.same g2.gg)) aF (by decide +kernel)) q2.gh fun G3 H3 q3=>?_
   have g3:=g2.trans q3
   refine aM (aH (K:=K) (ah rfl (h1.same g3.gg)) aF (by decide +kernel)) q3.gh fun G4 H4 q4=>?_
   have g4:=g3.trans q4
   refine aM (aH (K:=K) (ah rfl (h1.same g4.gg)) aF (by decide +kernel)) q4.gh fun G5 H5 q5=>?_
   have g5:=g4.trans q5
   refine aM (aH (K:=K) (ah rfl (h1.same g5.gg)) aF (by decide +kernel)) q5.gh fun G6 H6 q6=>?_
   have g6:=g5.trans q6
   refine aM (aH (K:=K) (ah rfl (h1.same g6.gg)) aF (by decide +kernel)) q6.gh fun G7 H7 q7=>?_
   have g7:=g6.trans q7
   refine aM (aH (K:=K) (ah rfl (h1.same g7.gg)) aF (by decide +kernel)) q7.gh fun G8 H8 q8=>?_
   have g8:=g7.trans q8
   have h2' := h2.same g8.gg
   exact bw (K:=K) (G:=G8) (bH (E:=E0) (R:=Ae) (aj (ah rfl (h1.same g8.gg)) (aj (ah rfl h2') aJ)) ⟨_,4,_,rfl,rfl,.inr (.inl ⟨rfl,rfl,a,rfl⟩)⟩) q8.gh fun v G' H' g hv=>k v G' H' (g8.trans g) hv
  ·obtain ⟨v,u,t,rfl,t1,t2,t3⟩:=Se hty;obtain ⟨c,rfl⟩:=t1.case;obtain ⟨a,rfl⟩:=t2.order;obtain ⟨b,rfl⟩:=t3.order;rw [w5] at k
   refine aM (aH (K:=K) (ah rfl h1) aF (by decide +kernel)) sg fun G1 H1 q1=>?_
   have g1:=q1
   refine aM (aH (K:=K) (ah rfl (h1.same g1.gg)) aF (by decide +kernel)) q1.gh fun G2 H2 q2=>?_
   have g2:=g1.trans q2
   refine aM (aH (K:=K) (ah rfl (h1.same g2.gg)) aF (by decide +kernel)) q2.gh fun G3 H3 q3=>?_
   have g3:=g2.trans q3
   refine aM (aH (K:=K) (ah rfl (h1.same g3.gg)) aF (by decide +kernel)) q3.gh fun G4 H4 q4=>?_
   have g4:=g3.trans q4
   refine aM (aH (K:=K) (ah rfl (h1.same g4.gg)) aF (by decide +kernel)) q4.gh fun G5 H5 q5=>?_
   have g5:=g4.trans q5
   refine aM (aH (K:=K) (ah rfl (h1.same g5.gg)) aF (by decide +kernel)) q5.gh fun G6 H6 q6=>?_
   have g6:=g5.trans q6
   refine aM (aH (K:=K) (ah rfl (h1.same g6.gg)) aF (by decide +kernel)) q6.gh fun G7 H7 q7=>?_
   have g7:=g6.trans q7
   refine aM (aH (K:=K) (ah rfl (h1.same g7.gg)) aF (by decide +kernel)) q7.gh fun G8 H8 q8=>?_
   have g8:=g7.trans q8
   have h2' := h2.same g8.gg
   exact bw (K:=K) (G:=G8) (bH (E:=E0) (R:=Ae) (aj (ah rfl (h1.same g8.gg)) (aj (ah rfl h2') aJ)) ⟨_,5,_,rfl,rfl,.inr (.inr (.inl ⟨rfl,rfl,c,a,b,rfl⟩))⟩) q8.gh fun v G' H' g hv=>k v G' H' (g8.trans g) hv
  ·obtain ⟨v,rfl,t1⟩:=uF hty;obtain ⟨z,hz,rfl⟩:=t1.field;rw [w6] at k
   refine aM (aH (K:=K) (ah rfl h1) aF (by decide +kernel)) sg fun G1 H1 q1=>?_
   have g1:=q1
   refine aM (aH (K:=K) (ah rfl (h1.same g1.gg)) aF (by decide +kernel)) q1.gh fun G2 H2 q2=>?_
   have g2:=g1.trans q2
   refine aM (aH (K:=K) (ah rfl (h1.same g2.gg)) aF (by decide +kernel)) q2.gh fun G3 H3 q3=>?_
   have g3:=g2.trans q3
   refine cA (jv (K:=K) (ah rfl (h1.same g3.gg)) aF rfl) q3.gh fun G4 H4 q4=>?_
   have g4:=g3.trans q4
   have h2' := h2.same g4.gg
   exact bw (K:=K) (G:=G4) (nF (R:=SD book E) rfl (aj aF (aj (cg (ah rfl h2') aR rfl rfl) aJ)) rfl ⟨z,hz,.inr ⟨rfl,rfl⟩⟩) q4.gh fun v G' H' g hv=>k v G' H' (g4.trans g) hv
  ·obtain ⟨v,rfl,t1⟩:=uF hty;obtain ⟨a,b,rfl⟩:=t1.mark;rw [w7] at k
   refine aM (aH (K:=K) (ah rfl h1) aF (by decide +kernel)) sg fun G1 H1 q1=>?_
   have g1:=q1
   refine aM (aH (K:=K) (ah rfl (h1.same g1.gg)) aF (by decide +kernel)) q1.gh fun G2 H2 q2=>?_
   have g2:=g1.trans q2
   refine aM (aH (K:=K) (ah rfl (h1.same g2.gg)) aF (by decide +kernel)) q2.gh fun G3 H3 q3=>?_
   have g3:=g2.trans q3
   refine aM (aH (K:=K) (ah rfl (h1.same g3.gg)) aF (by decide +kernel)) q3.gh fun G4 H4 q4=>?_
   have g4:=g3.trans q4
   refine aM (aH (K:=K) (ah rfl (h1.same g4.gg)) aF (by decide +kernel)) q4.gh fun G5 H5 q5=>?_
   have g5:=g4.trans q5
   refine aM (aH (K:=K) (ah rfl (h1.same g5.gg)) aF (by decide +kernel)) q5.gh fun G6 H6 q6=>?_
   have g6:=g5.trans q6
   refine cA (jv (K:=K) (ah rfl (h1.same g6.gg)) aF rfl) q6.gh fun G7 H7 q7=>?_
   have g7:=g6.trans q7
   have h2' := h2.same g7.gg
   exact bw (K:=K) (G:=G7) (bH (E:=E0) (R:=BA) (aj jx (aj aF (aj (cg (ah rfl h2') aR rfl rfl) aJ))) ⟨false,_,a,b,rfl,rfl⟩) q7.gh fun v G' H' g hv=>k v G' H' (g7.trans g) hv
  ·obtain ⟨v,rfl,t1⟩:=uF hty;obtain ⟨a,b,rfl⟩:=t1.mark;rw [w8] at k
   refine aM (aH (K:=K) (ah rfl h1) aF (by decide +kernel)) sg fun G1 H1 q1=>?_
   have g1:=q1
   refine aM (aH (K:=K) (ah rfl (h1.same g1.gg)) aF (by decide +kernel)) q1.gh fun G2 H2 q2=>?_
   have g2:=g1.trans q2
   refine aM (aH (K:=K) (ah rfl (h1.same g2.gg)) aF (by decide +kernel)) q2.gh fun G3 H3 q3=>?_
   have g3:=g2.trans q3
   refine aM (aH (K:=K) (ah rfl (h1.same g3.gg)) aF (by decide +kernel)) q3.gh fun G4 H4 q4=>?_
   have g4:=g3.trans q4
   refine aM (aH (K:=K) (ah rfl (h1.same g4.gg)) aF (by decide +kernel)) q4.gh fun G5 H5 q5=>?_
   have g5:=g4.trans q5
   refine aM (aH (K:=K) (ah rfl (h1.same g5.gg)) aF (by decide +kernel)) q5.gh fun G6 H6 q6=>?_
   have g6:=g5.trans q6
   refine aM (aH (K:=K) (ah rfl (h1.same g6.gg)) aF (by decide +kernel)) q6.gh fun G7 H7 q7=>?_
   have g7:=g6.trans q7
   refine cA (jv (K:=K) (ah rfl (h1.same g7.gg)) aF rfl) q7.gh fun G8 H8 q8=>?_
   have g8:=g7.trans q8
   have h2' := h2.same g8.gg
   exact bw (K:=K) (G:=G8) (bH (E:=E0) (R:=BA) (aj jx (aj aF (aj (cg (ah rfl h2') aR rfl rfl) aJ))) ⟨true,_,a,b,rfl,rfl⟩) q8.gh fun v G' H' g hv=>k v G' H' (g8.trans g) hv
  ·obtain ⟨v,rfl,t1⟩:=uF hty;obtain ⟨a,rfl⟩:=t1.case;rw [w9] at k
   refine aM (aH (K:=K) (ah rfl h1) aF (by decide +kernel)) sg fun G1 H1 q1=>?_
   have g1:=q1
   refine aM (aH (K:=K) (ah rfl (h1.same g1.gg)) aF (by decide +kernel)) q1.gh fun G2 H2 q2=>?_
   have g2:=g1.trans q2
   refine aM (aH (K:=K) (ah rfl (h1.same g2.gg)) aF (by decide +kernel)) q2.gh fun G3 H3 q3=>?_
   have g3:=g2.trans q3
   refine aM (aH (K:=K) (ah rfl (h1.same g3.gg)) aF (by decide +kernel)) q3.gh fun G4 H4 q4=>?_
   have g4:=g3.trans q4
   refine aM (aH (K:=K) (ah rfl (h1.same g4.gg)) aF (by decide +kernel)) q4.gh fun G5 H5 q5=>?_
   have g5:=g4.trans q5
   refine aM (aH (K:=K) (ah rfl (h1.same g5.gg)) aF (by decide +kernel)) q5.gh fun G6 H6 q6=>?_
   have g6:=g5.trans q6
   refine aM (aH (K:=K) (ah rfl (h1.same g6.gg)) aF (by decide +kernel)) q6.gh fun G7 H7 q7=>?_
   have g7:=g6.trans q7
   refine aM (aH (K:=K) (ah rfl (h1.same g7.gg)) aF (by decide +kernel)) q7.gh fun G8 H8 q8=>?_
   have g8:=g7.trans q8
   have h2' := h2.same g8.gg
   exact bw (K:=K) (G:=G8) (bH (E:=E0) (R:=Ae) (aj (ah rfl (h1.same g8.gg)) (aj (ah rfl h2') aJ)) ⟨_,9,_,rfl,rfl,.inr (.inr (.inr (.inl ⟨rfl,rfl,a,rfl⟩)))⟩) q8.gh fun v G' H' g hv=>k v G' H' (g8.trans g) hv
  ·obtain ⟨v,u,rfl,t1,t2⟩:=go2 hty;obtain ⟨a,rfl⟩:=t1.case;obtain ⟨b,rfl⟩:=t2.case;rw [R8] at k
   refine aM (aH (K:=K) (ah rfl h1) aF (by decide +kernel)) sg fun G1 H1 q1=>?_
   have g1:=q1
   refine aM (aH (K:=K) (ah rfl (h1.same g1.gg)) aF (by decide +kernel)) q1.gh fun G2 H2 q2=>?_
   have g2:=g1.trans q2
   refine aM (aH (K:=K) (ah rfl (h1.same g2.gg)) aF (by decide +kernel)) q2.gh fun G3 H3 q3=>?_
   have g3:=g2.trans q3
   refine aM (aH (K:=K) (ah rfl (h1.same g3.gg)) aF (by decide +kernel)) q3.gh fun G4 H4 q4=>?_
   have g4:=g3.trans q4
   refine aM (aH (K:=K) (ah rfl (h1.same g4.gg)) aF (by decide +kernel)) q4.gh fun G5 H5 q5=>?_
   have g5:=g4.trans q5
   refine aM (aH (K:=K) (ah rfl (h1.same g5.gg)) aF (by decide +kernel)) q5.gh fun G6 H6 q6=>?_
   have g6:=g5.trans q6
   refine aM (aH (K:=K) (ah rfl (h1.same g6.gg)) aF (by decide +kernel)) q6.gh fun G7 H7 q7=>?_
   have g7:=g6.trans q7
   refine aM (aH (K:=K) (ah rfl (h1.same g7.gg)) aF (by decide +kernel)) q7.gh fun G8 H8 q8=>?_
   have g8:=g7.trans q8
   have h2' := h2.same g8.gg
   exact bw (K:=K) (G:=G8) (bH (E:=E0) (R:=Ae) (aj (ah rfl (h1.same g8.gg)) (aj (ah rfl h2') aJ)) ⟨_,10,_,rfl,rfl,.inr (.inr (.inr (.inr (.inl ⟨rfl,rfl,a,b,rfl⟩))))⟩) q8.gh fun v G' H' g hv=>k v G' H' (g8.trans g) hv
  ·obtain ⟨v,u,rfl,t1,t2⟩:=go2 hty;obtain ⟨a,rfl⟩:=t1.case;obtain ⟨b,rfl⟩:=t2.case;rw [R9] at k
   refine aM (aH (K:=K) (ah rfl h1) aF (by decide +kernel)) sg fun G1 H1 q1=>?_
   have g1:=q1
   refine aM (aH (K:=K) (ah rfl (h1.same g1.gg)) aF (by decide +kernel)) q1.gh fun G2 H2 q2=>?_
   have g2:=g1.trans q2
   refine aM (aH (K:=K) (ah rfl (h1.same g2.gg)) aF (by decide +kernel)) q2.gh fun G3 H3 q3=>?_
   have g3:=g2.trans q3
   refine aM (aH (K:=K) (ah rfl (h1.same g3.gg)) aF (by decide +kernel)) q3.gh fun G4 H4 q4=>?_
   have g4:=g3.trans q4
   refine aM (aH (K:=K) (ah rfl (h1.same g4.gg)) aF (by decide +kernel)) q4.gh fun G5 H5 q5=>?_
   have g5:=g4.trans q5
   refine aM (aH (K:=K) (ah rfl (h1.same g5.gg)) aF (by decide +kernel)) q5.gh fun G6 H6 q6=>?_
   have g6:=g5.trans q6
   refine aM (aH (K:=K) (ah rfl (h1.same g6.gg)) aF (by decide +kernel)) q6.gh fun G7 H7 q7=>?_
   have g7:=g6.trans q7
   refine aM (aH (K:=K) (ah rfl (h1.same g7.gg)) aF (by decide +kernel)) q7.gh fun G8 H8 q8=>?_
   have g8:=g7.trans q8
   have h2' := h2.same g8.gg
   exact bw (K:=K) (G:=G8) (bH (E:=E0) (R:=Ae) (aj (ah rfl (h1.same g8.gg)) (aj (ah rfl h2') aJ)) ⟨_,11,_,rfl,rfl,.inr (.inr (.inr (.inr (.inr ⟨rfl,rfl,a,b,rfl⟩))))⟩) q8.gh fun v G' H' g hv=>k v G' H' (g8.trans g) hv
  ·obtain ⟨v,u,rfl,t1,t2⟩:=go2 hty;obtain ⟨z,hz,rfl⟩:=t1.field;obtain ⟨a,b,hab,rfl⟩:=t2.number;rw [Sa] at k
   refine aM (aH (K:=K) (ah rfl h1) aF (by decide +kernel)) sg fun G1 H1 q1=>?_
   have g1:=q1
   refine aM (aH (K:=K) (ah rfl (h1.same g1.gg)) aF (by decide +kernel)) q1.gh fun G2 H2 q2=>?_
   have g2:=g1.trans q2
   refine aM (aH (K:=K) (ah rfl (h1.same g2.gg)) aF (by decide +kernel)) q2.gh fun G3 H3 q3=>?_
   have g3:=g2.trans q3
   refine aM (aH (K:=K) (ah rfl (h1.same g3.gg)) aF (by decide +kernel)) q3.gh fun G4 H4 q4=>?_
   have g4:=g3.trans q4
   refine cA (jv (K:=K) (ah rfl (h1.same g4.gg)) aF rfl) q4.gh fun G5 H5 q5=>?_
   have g5:=g4.trans q5
   have h2' := h2.same g5.gg
   exact bw (K:=K) (G:=G5) (nF (R:=Yp book num E) rfl (aj aF (aj (cg (ah rfl h2') aR rfl rfl) (aj (cg (ah rfl h2') aR rfl rfl) aJ))) rfl ⟨z,hz,a,b,hab,.inl ⟨rfl,rfl⟩⟩) q5.gh fun v G' H' g hv=>k v G' H' (g5.trans g) hv
  ·obtain ⟨v,u,rfl,t1,t2⟩:=go2 hty;obtain ⟨z,hz,rfl⟩:=t1.field;obtain ⟨a,b,hab,rfl⟩:=t2.number;rw [Sd] at k
   refine aM (aH (K:=K) (ah rfl h1) aF (by decide +kernel)) sg fun G1 H1 q1=>?_
   have g1:=q1
   refine aM (aH (K:=K) (ah rfl (h1.same g1.gg)) aF (by decide +kernel)) q1.gh fun G2 H2 q2=>?_
   have g2:=g1.trans q2
   refine aM (aH (K:=K) (ah rfl (h1.same g2.gg)) aF (by decide +kernel)) q2.gh fun G3 H3 q3=>?_
   have g3:=g2.trans q3
   refine aM (aH (K:=K) (ah rfl (h1.same g3.gg)) aF (by decide +kernel)) q3.gh fun G4 H4 q4=>?_
   have g4:=g3.trans q4
   refine aM (aH (K:=K) (ah rfl (h1.same g4.gg)) aF (by decide +kernel)) q4.gh fun G5 H5 q5=>?_
   have g5:=g4.trans q5
   refine cA (jv (K:=K) (ah rfl (h1.same g5.gg)) aF rfl) q5.gh fun G6 H6 q6=>?_
   have g6:=g5.trans q6
   have h2' := h2.same g6.gg
   exact bw (K:=K) (G:=G6) (nF (R:=Yp book num E) rfl (aj aF (aj (cg (ah rfl h2') aR rfl rfl) (aj (cg (ah rfl h2') aR rfl rfl) aJ))) rfl ⟨z,hz,a,b,hab,.inr ⟨rfl,rfl⟩⟩) q6.gh fun v G' H' g hv=>k v G' H' (g6.trans g) hv
end
end K10
namespace K10
open PySem L2 Frac Lw Dig PySem.NumText Nm
open Ord Num Look Rdo
theorem CJ {K:PySem.W.Frag}{a:Addr}{xs:List V}{g:TG}{tb:TS}{D:Ends}{σ:St}{H:Hp}(Pv:Nat→St→Hp→Prop) (h0:Pv 0 σ H) (hl:∀ i σ H,i≤xs.length→Pv i σ H→eV K H a xs)
  (hs:∀ i x σ H,xs.reverse[i]? = some x→Pv i σ H→g x σ H fun σ2 H2=>tb { D with nx:=Pv (i + 1),ct:=Pv (i + 1),bk:=D.nx } σ2 H2) (hd:∀ σ H,Pv xs.length σ H→D.nx σ H):
  ∃ W:Nat→Nat→St→Hp→Prop,(∃ m,W 0 m σ H)∧∀ i m σ H,W i m σ H→
   ((RV K a xs.length).stop i H∧D.nx σ H)∨((RV K a xs.length).go i H∧∃ N:St→Hp→Prop,(∀ σ' H',N σ' H' → ∃ m',m' < m∧W (i + 1) m' σ' H')∧∀ x H',(RV K a xs.length).AD i H x H' → g x σ H' fun σ2 H2=>tb { D with nx:=N,ct:=N,bk:=D.nx } σ2 H2):=by
 refine ⟨fun i m σ H=>m = xs.length - i∧i≤xs.length∧Pv i σ H,⟨xs.length,by simp,Nat.zero_le _,h0⟩,?_⟩
 rintro i m σ H ⟨rfl,hi,p⟩
 have q:=hl i σ H hi p
 by_cases hlt:i < xs.length
 ·refine .inr ⟨⟨hlt,xs,q,rfl⟩,Pv (i + 1),fun σ' H' p' => ⟨xs.length - (i + 1),by omega,rfl,hlt,p'⟩,fun x H' y=>?_⟩
  obtain ⟨e,y⟩:=y
  subst e
  exact hs i x σ _ (y xs q) p
 ·have e:i = xs.length:=by omega
  subst e
  exact .inl ⟨⟨rfl,xs,q⟩,hd σ H p⟩
theorem u7 {fld:Str→Prop}{num:Int→Int→Prop}:∀ {ws:List Wd}{st st' : List Str},Run fld num st ws st' → Kinds st→∀ j,∃ st2,Kinds st2∧Run fld num st2 (ws.drop j) st'
 | ws,st,_,h,hk,0=>⟨st,hk,h⟩
 | [],st,_,h,hk,j + 1=>⟨st,hk,h⟩
 | w :: ws,st,_,h,hk,j + 1=>by
  cases h with
  | cons a b=>exact u7 b (lX a hk) j
def MV (book:List Str) (num:Int→Int→Prop) (E:En):List PyData→PyData→Prop:=fun as d=>∃ (ws:List Wd) (a:An),as = [.tuple (ws.map Wd.d)]∧nB (· ∈ book) num ws∧(∀ R,ev E ws R = .an a :: R)∧ws.length≤900∧d = .str a.t
theorem yi {fld:Str→Prop}{num:Int→Int→Prop}{E:En}:∀ (ws:List Wd),(ev E ws []).length≤ws.length
 | []=>Nat.le_refl _
 | w :: ws=>by
  have ih:=yi (fld:=fld) (num:=num) (E:=E) ws
  show (push E w (ev E ws [])).length≤ws.length + 1
  unfold push
  split
  ·rw [List.length_cons];omega
  ·split
   ·rw [List.length_cons,List.length_drop];omega
   ·rw [List.length_cons];omega
section
variable {P:Program}{w:World}{K:PySem.W.Frag}{mg:Str→Option Value}{base:Heap}
theorem OZ {σ:St}{G:Hp}{tb:TE}{x:Str}{r:Str × Str × List Str}(W:MJ K w.params mg) (hb:Ev K tb σ G (.str x)) (h:cD x = some r):
  Ev K (iV (fun x y H Q=>∃ z a g v u,x = .ref a∧y = .str z∧rR K w.params a g∧g z = some (v,u)∧Q v H) (tC (.ref W.a)) tb) σ G (.tuple [.str r.2.1,.tuple (r.2.2.map PyData.str)]):=
 fun G1 H s1 s2 Q k=>hb G1 H s1 s2 _ fun u G2 H2 g2 hu=>by
  obtain ⟨v,u',hg,hd⟩:=W.yes x r h
  rw [hu.str]
  exact ⟨x,W.a,W.g,v,u',rfl,rfl,W.D,hg,k _ G2 H2 g2 (hd G2)⟩
theorem BE (T:Top K mg) (W:MJ K w.params mg) (W2:xX K w.params mg "OTHER_WAY" ki) (book:List Str) (num:Int→Int→Prop) (E:En) (hf:∀ z∈book,cD z = none) (f1 f2:Addr):
  o8 P w K mg base 5 T.rq T.pY ["order", "by_field", "by_mark"] (fun s vs H Q=>BD P w K mg base book num E f1 f2 s H∧Yk K f1 f2 (MV book num E) vs H Q E0):=by
 have Af:o8 P w K mg base 4 T.kF T.jG ["word", "parts", "by_field", "by_mark"] (fun s vs H Q=>BD P w K mg base book num E f1 f2 s H∧Yk K f1 f2 (RWT book num E) vs H Q E0):=SE T W2 book num E f1 f2
 have Jr:bF P w K mg base cF 4 T.tG T.qx ["told", "many"] CI:=(Gy T).mono (by decide)
 have hst:=Jq (P:=P) (w:=w) (K:=K) (mg:=mg) (base:=base) (book:=book) (num:=num) (E:=E) (f1:=f1) (f2:=f2)
 refine T.wH.okS pW (fun s vs H Q h=>?_) (fun cdv A outer s H vs Q hr h=>?_)
 ·obtain ⟨_,G,as,d,xs,rfl,sg,hv,⟨ws,a,rfl,_⟩,_⟩:=h
  rw [List.length_append,hv.length];rfl
 ·obtain ⟨hC,G,as,d,xs,rfl,sg,hv,⟨ws,a,rfl,ho,hev,hlen,rfl⟩,k⟩:=h
  have hu:=hr.units
  have zl:(2000:Nat)≤sizeLine:=by decide
  obtain ⟨v1,r1,rfl,h1,hv⟩:=hv.cons
  cases hv.nil
  obtain ⟨po,os,rfl,MU,hos⟩:=h1.tup
  have SG:os.length = ws.length:=by rw [hos.length,List.length_map]
  refine ⟨_,(aB (bx (i:=3) pW.nd rfl (Or.inl rfl) (cL aq))
   (aB (jX PassesOwn.never rfl (Fp (by rfl) T.wL (pv 0)) (dj (i:=4) pW.nd rfl (Or.inl rfl)) (aG (bS (aV (IU hu) (pv 4) (tw (v:=.ref W.a) (by rfl) W.m rfl) (by rfl)) (aG (iU (ku PySem.F.plainAttrs_list PySem.F.slot_list_append PySem.F.type_list_append eS (pv 3) (aa (FG Af hC hst rfl hr (by rfl) T.zM T.rX.kp T.zL (aa (pv 4) (aa (aP Jr hr (by rfl) T.Ja T.CB.kp T.I9 .nil bD (aa (pv 3) (aa (bY (eT (K:=K) rfl) (by rfl) T.n5 PySem.boot_len (aa (bf (bU (K:=K) rfl) (bf uy (tw (v:=.ref W.a) (by rfl) W.m rfl) (pv 4) (fun _ _=>rfl)) au (fun _ _=>rfl)) aq aL)) aq c9) aD)) (aa (pv 1) (aa (pv 2) aq aD) aD) c9) aD)) aq c9)))) (aG (iU (ku PySem.F.plainAttrs_list PySem.F.slot_list_append PySem.F.type_list_append eS (pv 3) (aa (pv 4) aq aD)))))))
   (aG (aQ (bf (aT (K:=K) rfl) (pv 3) au (fun _ _=>rfl)))))) ,?_⟩
  refine ⟨(by show 0≤sizeLine;decide),fun pt vK=>?_⟩
  refine ⟨_,rfl,po,os,rfl,(bI vK).tup (sg.tup MU),CJ (fun i σ H' => ∃ (v:Option V) (xs:List V) (G' : Hp),σ = [some (.ref po),some (.ref f1),some (.ref f2),some (.ref pt),v]∧H' pt = some (.lst xs)∧bJ K G' xs ((ev E (ws.drop (ws.length - i)) []).map Tv.d).reverse∧aN G G' ∧ aN G' H' ∧ G' pt = none∧aN H H')
   ⟨_,[],G,rfl,aE,by rw [Nat.sub_zero,List.drop_length];exact bE,aN.refl _,sg.trans (bI vK),sg.free vK,bI vK⟩ ?_ ?_ ?_⟩
  ·rintro i σ H' _ ⟨v,xs,G',rfl,_,_,g1,g2,_,_⟩
   exact (g1.trans g2).tup MU
  ·rintro i x σ H' hx ⟨v,xs,G',rfl,hp,hxs,g1,g2,g3,g4⟩
   have hi:i < ws.length:=by
    have:=(List.getElem?_eq_some_iff.mp hx).1
    rw [List.length_reverse,SG] at this;exact this
   have hdr:ws.drop (ws.length - (i + 1)) = ws[ws.length - (i + 1)] :: ws.drop (ws.length - i):=by
    rw [List.drop_eq_getElem_cons (by omega:ws.length - (i + 1) < ws.length)]
    congr 2;omega
   obtain ⟨st,hks,hrun⟩:=u7 ho xW (ws.length - (i + 1))
   rw [hdr] at hrun
   have hxd:Dat K G x (ws[ws.length - (i + 1)]).d:=by
    obtain ⟨d,e1,e2⟩:=(nj hos).get' hx
    rw [List.getElem?_reverse (by rw [List.length_map];exact hi),List.length_map,List.getElem?_map,List.getElem?_eq_getElem (by omega)] at e1
    have e1:some (ws[ws.length - 1 - i]).d = some d:=e1
    injection e1 with e1
    have e3:ws[ws.length - (i + 1)] = ws[ws.length - 1 - i]:=by congr 1;omega
    rw [e3,e1];exact e2
   have O0:ev E (ws.drop (ws.length - (i + 1))) [] = push E ws[ws.length - (i + 1)] (ev E (ws.drop (ws.length - i)) []):=by rw [hdr];rfl
   have hsl:=yi (fld:=(· ∈ book)) (num:=num) (E:=E) (ws.drop (ws.length - i))
   rw [List.length_drop] at hsl
   rw [O0]
   generalize ws[ws.length - (i + 1)] = wd at hrun hxd
   generalize ws.drop (ws.length - i) = wr at hrun hxs hsl
   cases hrun with
   | @cons _ st1 _ _ _ sa sb=>
    obtain ⟨hty,_⟩:=FH (E:=E) hf sb (lX sa hks) (vs:=[]) .nil
    generalize ev E wr [] = stk at hty hxs hsl
    have tD:xs.length = stk.length:=by rw [hxs.length,List.length_reverse,List.length_map]
    have Ag:=hxd.same g1
    rcases oG sa hks with ⟨z,vB,rfl,rfl,hz,rfl⟩ | ⟨b,c,vB,rfl,rfl,hbc,rfl⟩ | ⟨want,z,ps,vB,rfl,rfl,n1,n2,hw,hl3,rfl⟩
    ·have e:push E (.t z) stk = .wd (.t z) :: stk:=by unfold push;dsimp only;rw [hf z hz]
     rw [e]
     have ez:x = V.str z:=Ag.str
     subst ez
     refine ⟨_,rfl,W.a,W.g,rfl,W.D,.inl ⟨z,rfl,?_⟩⟩
     rw [W.no z (hf z hz)]
     refine ⟨_,rfl,xB ?_⟩
     refine ⟨_,rfl,.inl ⟨rfl,_,b9.of hp⟩,_,rfl,pt,_,_,rfl,rfl,hp,by omega,?_⟩
     refine ⟨_,_,G',rfl,aE,?_,g1,dY g2 g3,g3,dY g4 vK⟩
     rw [List.map_cons,List.reverse_cons]
     exact fV hxs (bM z)
    ·obtain ⟨pn,ns,rfl,MS,hns⟩:=Ag.tup
     obtain ⟨y1,s1,rfl,d1,hns⟩:=hns.cons
     obtain ⟨y2,s2,rfl,d2,hns⟩:=hns.cons
     cases hns.nil
     rw [d1.int,d2.int] at MS
     refine ⟨_,rfl,W.a,W.g,rfl,W.D,.inr ⟨pn,b,c,rfl,g2.tup MS,?_⟩⟩
     refine ⟨_,rfl,xB ?_⟩
     refine ⟨_,rfl,.inl ⟨rfl,_,b9.of hp⟩,_,rfl,pt,_,_,rfl,rfl,hp,by omega,?_⟩
     refine ⟨_,_,G',rfl,aE,?_,g1,dY g2 g3,g3,dY g4 vK⟩
     show bJ K G' _ ((Tv.wd (.n b c) :: stk).map Tv.d).reverse
     rw [List.map_cons,List.reverse_cons]
     exact fV hxs Ag
    ·have e:push E (.t z) stk = xV E (vC z) (stk.take ps.length) :: stk.drop ps.length:=by unfold push;dsimp only;rw [hw]
     rw [e]
     have ez:x = V.str z:=Ag.str
     subst ez
     obtain ⟨u,v',hg,_⟩:=W.yes z _ hw
     refine ⟨_,rfl,W.a,W.g,rfl,W.D,.inl ⟨z,rfl,?_⟩⟩
     rw [hg]
     refine ⟨_,rfl,xC ?_⟩
     have hpl:ps.length≤stk.length:=by have:=hty.length;rw [List.length_append] at this;omega
     have hLn:stk.length - (stk.length - ps.length) = ps.length:=by omega
     refine ⟨_,rfl,.inl ⟨rfl,_,b9.of hp⟩,_,rfl,_,rfl,?_⟩
     refine (IC (K:=K) (G:=G') (aj (cz (OZ W (ah rfl (bM z)) hw) aR rfl rfl) aJ)).use g2 fun v6 G6 H6 g6 h6=>?_
     rw [h6.int,List.length_map]
     have Z4:=g6.hh _ _ hp
     have SH:G6 pt = none:=by
      cases e:G6 pt with
      | none=>rfl
      | some o=>
       rcases g6.fr pt o e with q | q
       ·rw [g3] at q;cases q
       ·rw [hp] at q;cases q
     refine ⟨pt,ps.length,xs,rfl,Z4,by rw [tD];exact hpl,by omega,fun l H7 hl QN h7l h7p h7o=>?_⟩
     have g6l:G6 l = none:=g6.gh.free hl
     have s67:aN (L2.upd G6 l (.lst (xs.drop (xs.length - ps.length)).reverse)) H7:=fun b o q=>by
      by_cases hb:b = l
      ·subst hb;rw [aE] at q;rw [← q];exact h7l
      ·rw [aI hb] at q
       have RN:b≠pt:=fun z=>by subst z;rw [SH] at q;cases q
       rw [h7o b hb RN];exact g6.gh _ _ q
     have SI:=hxs.same g6.gg
     have hys:bJ K G6 (xs.drop (xs.length - ps.length)).reverse ((stk.take ps.length).map Tv.d):=by
      have q:=nj (oE (xs.length - ps.length) SI)
      rw [List.drop_reverse,List.reverse_reverse,List.length_map,tD,hLn,← List.map_take] at q
      rw [tD];exact q
     refine ⟨_,rfl,_,rfl,L2.upd G6 l (.lst (xs.drop (xs.length - ps.length)).reverse),[.str z,.list ((stk.take ps.length).map Tv.d)],_,[.str z,.ref l],rfl,s67,bh (bM z) (bh (cK aE (hys.same (bI g6l))) bE),⟨z,want,ps,_,rfl,hw,(oH hty).1,rfl⟩,fun v8 G8 H8 g8 h8=>?_⟩
     have SJ:G8 pt = none:=by
      cases e:G8 pt with
      | none=>rfl
      | some o=>
       rcases g8.fr pt o e with q | q
       ·rw [aI (Ne.symm QN),SH] at q;cases q
       ·rw [h7p] at q;cases q
     have s68:aN G6 G8:=(bI g6l).trans g8.gg
     refine ⟨pt,_,_,rfl,rfl,g8.hh _ _ h7p,by rw [List.length_take];omega,?_⟩
     refine ⟨_,_,G8,rfl,aE,?_,(g1.trans g6.gg).trans s68,dY g8.gh SJ,SJ,fun b o q=>?_⟩
     ·rw [List.map_cons,List.reverse_cons]
      refine fV ?_ h8
      have q:=qQ (xs.length - ps.length) (SI.same s68)
      rw [List.take_reverse,List.length_map,tD,hLn,← List.map_drop] at q
      rw [tD];exact q
     ·have RN:b≠pt:=aC q vK
      have q6:=g6.hh _ _ (g4 _ _ q)
      have hbl:b≠l:=aC q6 hl
      rw [aI RN]
      exact g8.hh _ _ (by rw [h7o b hbl RN];exact q6)
  ·rintro σ H' ⟨v,xs,G',rfl,hp,hxs,g1,g2,g3,g4⟩
   rw [SG,Nat.sub_self,List.drop_zero,hev] at hxs
   obtain ⟨y,ys,rfl,hy,hr'⟩:=hxs.cons
   cases hr'.nil
   rw [show y = V.str a.t from hy.str] at hp
   exact ⟨_,rfl,pt,_,0,_,rfl,rfl,b9.of hp,rfl,k _ G H' ⟨aN.refl _,g1.trans g2,g4,fun _ _ h=>.inl h⟩ (bM _)⟩
end
end K10
namespace L2
open PySem PySem.Spec PyProof.Rows
section
variable {X:Cx}{o e:Expr}{es:List Expr}{to:TE}{t:TA}{name:Str}{apos cpos:Pos}{id:String}{r:V→List V→Hp→VK→Prop}
def tTM (r:V→List V→Hp→VK→Prop) (to:TE) (t:TA):TE:=fun σ H Q=>to σ H fun x H1=>(∃ p xs,x = .ref p∧H1 p = some (.tup xs))∧t σ H1 fun vs H2=>r x vs H2 Q
theorem GB (slot:Slot "tuple" name id) (hty:typeOf (.builtin id) = pure (.type "method_descriptor")) (hm:EG X id r) (ho:PE X o to) (ha:PA X (e :: es) t)
  (hbase:attributeBase o name X.env (eval o X.env) = eval o X.env:=by rfl)
  (hfew:((backTo cpos (starEach (e :: es) X.env)).all (fun x=>!x.1) && (backToKw cpos (keywordEach [] X.env)).all (fun x=>x.1.isSome)
   && decide ((e :: es).length + ([]:List Keyword).length + (if ([]:List Keyword).isEmpty then 0 else 1) < 30)) = true:=by rfl)
  (hline:(apos.endLine == cpos.line) = true:=by rfl) (hs:starEach (e :: es) X.env = (false,eval e X.env) :: starEach es X.env:=by rfl) (hplain:(backTo cpos (starEach es X.env)).any (·.1) = false:=by rfl):
  PE X (.Call (.Attribute o name apos) (e :: es) [] cpos) (tTM r to t):=by
 intro pins s σ H Q I h
 refine wpAny_Call_method_late hbase hfew hline rfl (cJ (ho pins s σ H _ I h) fun v s1 ⟨x,H1,I1,r1,⟨p,xs,ex,hp⟩,q1⟩=>?_)
 subst ex
 cases (show v = Value.ref p from r1)
 obtain ⟨_,its,_,pt,nd⟩:=I1.hok p _ hp
 refine ⟨"tuple",id,PySem.F.plainAttrs_tuple,slot,hty,pt.typeIs,fun a ea=>?_,?_⟩
 ·cases ea;exact nd
 have hA:=ha cpos pins s1 σ H1 _ I1 q1
 rw [hs] at hA ⊢
 refine Calls.callWith_builtin (by show (false || (backTo cpos (starEach es X.env)).any (·.1)) = false;rw [hplain] <;> rfl) (Calls.evalArgs_plain ?_)
 exact cJ hA fun us s2 ⟨vs,H2,I2,r2,q2⟩=>hm pins s2 σ H2 (.ref p) vs (.ref p) us Q I2 (show RelV (.ref p) (.ref p) from rfl) r2 q2
end
end L2
namespace K10
open PySem L2 Frac Lw Dig PySem.NumText Nm
open Ord Num Look Rdo
section
variable {P:Program}{w:World}{K:PySem.W.Frag}{mg:Str→Option Value}{base:Heap}
theorem yj {f:List (Int × Int)}{n:Nat}(h:n < f.length):(f.map dF)[n]? = some (dF (f.getD n (0,1))):=by
 rw [List.getElem?_map,List.getD_eq_getElem?_getD,List.getElem?_eq_getElem h];rfl
theorem getD_mem {f:List (Int × Int)}{n:Nat}(h:n < f.length):f.getD n (0,1)∈f:=by
 rw [List.getD_eq_getElem?_getD,List.getElem?_eq_getElem h];exact List.getElem_mem h
theorem GD {σ:St}{G:Hp}{i:Nat}{tb:TE}{ws:List Str}{z:Str}{p:Addr}(hi:σ[i]? = some (some (.ref p))) (hp:G p = some (.tup (ws.map V.str))) (hb:Ev K tb σ G (.str z)) (hz:z∈ws):Ev K (tTM (CA K) (cE i) (bV tb kr)) σ G (.int (ws.idxOf z:Nat)):=
 fun G1 H s1 s2 Q k=>⟨_,hi,⟨p,_,rfl,s2 _ _ (s1 _ _ hp)⟩,hb G1 H s1 s2 _ fun u G3 H3 g3 hu=>by
  rw [hu.str]
  exact ⟨p,ws,z,rfl,rfl,eV.of (g3.hh _ _ (s2 _ _ (s1 _ _ hp))),hz,k _ G3 H3 g3 (aX _)⟩⟩
theorem tK (ws:List (Int × Int)):Dr (.tuple (ws.map dF)) = true:=by
 unfold Dr
 induction ws with
 | nil=>rfl
 | cons x r ih=>rw [List.map_cons];unfold xU;rw [ih];rfl
theorem BF (T:Top K mg) (W1:xX K w.params mg "AHEAD" kY) {book:List Str}{f g:List (Int × Int)}(hfl:f.length = book.length) (QO:g.length = book.length) (hf:∀ p∈f,Sz p) (hg:∀ p∈g,Sz p)
  {H0:Hp}{pb:Addr}{vf vg:V}(hb:H0 pb = some (.tup (book.map V.str))) (DG:Dat K H0 vf (.tuple (f.map dF))) (DH:Dat K H0 vg (.tuple (g.map dF)))
  {A:Around}{outer:List Env}{s' : Shared} {H' : Hp} {vs:List V}{Q:VK}{fa c' : Addr} {cl:List (Str × Addr)}(hr:fS 2 (A.deeper (Bc gZ (ak c7) s'.heap.objs.size fa (.ref c') cl))) (kp:Kp H0 H') (h:jS K (SD book (dZ book f g)) vs H' Q E0):
  ∃ t,vA (o9 P w K mg base ((["word", "field"]:List Str) ++ (["place"]:List Str) ++ (["book", "first", "second"]:List Str)) gZ (ak c7) fa c' cl A outer s' H') (aZ c7) t∧t { nx:=fun _ H' => Q .gk H',rt:=Q } (vs.map some ++ List.replicate (["place"]:List Str).length none ++ [some (.ref pb),some vf,some vg]) H' := by
 have u9:bF P w K mg base cF 2 T.nL T.lI ["word", "how"] (jS K DE):=(wN T W1).mono (by decide)
 have mS:bF P w K mg base cF 2 T.iC T.gz ["one", "other"] (jS K Gp):=Gx T
 have hu:=hr.units
 obtain ⟨G,as,d,sg,hv,⟨z,hz,hx⟩,k⟩:=h
 have hi:book.idxOf z < book.length:=List.idxOf_lt_length_of_mem hz
 have hb' := kp.1 _ _ hb
 have hf' := kp.dat _ _ (tK _) DG
 have hg' := kp.dat _ _ (tK _) DH
 have key:∀ {x:Str}{e:PyData}{v1 v2:V},Dat K H' v1 (.str x)→Dat K H' v2 (.str z)→DE [.str x,.str (qZ (f.getD (book.idxOf z) (0,1)) (g.getD (book.idxOf z) (0,1))).how] e→(∀ v G' pR,bO H' H' G' pR→Dat K G' v e→Q v pR)→
   ∃ t,vA (o9 P w K mg base ((["word", "field"]:List Str) ++ (["place"]:List Str) ++ (["book", "first", "second"]:List Str)) gZ (ak c7) fa c' cl A outer s' H') (aZ c7) t∧t { nx:=fun _ H' => Q .gk H',rt:=Q } [some v1,some v2,none,some (.ref pb),some vf,some vg] H' := fun {x e v1 v2} h1 h2 hR hk=>by
  refine ⟨_,(aB (bx (i:=2) nJ.nd rfl (Or.inl rfl) (GB PySem.F.slot_tuple_index PySem.F.type_tuple_index (q9 (K:=K) rfl) (pv 3) (aa (pv 1) aq aD)))
   (aG (aQ (aP u9 hr (by rfl) T.zO T.uL.kp T.zN .nil bD (aa (pv 0) (aa (aP mS hr (by rfl) T.qA T.l9.kp T.qz .nil bD (aa (bf (bU (K:=K) rfl) (pv 4) (pv 2) (fun _ _=>rfl)) (aa (bf (bU (K:=K) rfl) (pv 5) (pv 2) (fun _ _=>rfl)) aq aL) aL)) aq c9) aD))))) ,?_⟩
  refine dN (K:=K) (G:=H') (GD rfl hb' (ah rfl h2) hz) (aN.refl _) fun v3 G1 H1 g1 h3=>?_
  refine bw (K:=K) (G:=G1) (bH (E:=E0) (R:=DE) (aj (ah rfl (h1.same g1.gg)) (aj (bH (E:=E0) (R:=Gp) (aj (cz (ah rfl (hf'.same g1.gg)) (ah rfl h3) (cI (by rw [List.length_map];omega)) (yj (by omega))) (aj (cz (ah rfl (hg'.same g1.gg)) (ah rfl h3) (cI (by rw [List.length_map];omega)) (yj (by omega))) aJ)) ⟨_,_,rfl,hf _ (getD_mem (by omega)),hg _ (getD_mem (by omega)),rfl⟩) aJ)) hR) g1.gh fun v G' pR g hv=>hk v G' pR (g1.trans g) hv
 rcases hx with ⟨rfl,rfl⟩ | ⟨rfl,rfl⟩
 ·obtain ⟨v1,r1,rfl,h1,hv⟩:=hv.cons
  obtain ⟨v2,r2,rfl,h2,hv⟩:=hv.cons
  cases hv.nil
  exact key (h1.same sg) (h2.same sg) ⟨_,.inl ⟨rfl,rfl⟩⟩ fun v G' pR g hv=>by
   rw [hv.str]
   exact k _ G pR ⟨aN.refl _,sg.trans g.hh,g.hh,fun _ _ h=>.inl h⟩ (bM _)
 ·obtain ⟨v1,r1,rfl,h1,hv⟩:=hv.cons
  obtain ⟨v2,r2,rfl,h2,hv⟩:=hv.cons
  cases hv.nil
  refine key (e:=.bool (isA (qZ (f.getD (book.idxOf z) (0,1)) (g.getD (book.idxOf z) (0,1))) .like)) (h1.same sg) (h2.same sg) ⟨_,.inr ⟨_,by decide +kernel,rfl,?_⟩⟩ fun v G' pR g hv=>by
   rw [hv.bl]
   exact k _ G pR ⟨aN.refl _,sg.trans g.hh,g.hh,fun _ _ h=>.inl h⟩ (bQ _)
  congr 1
  generalize qZ _ _ = a
  cases a <;> decide +kernel
end
end K10
namespace K10
open PySem L2 Frac Lw Dig PySem.NumText Nm
open Ord Num Look Rdo
def Ib (G H:Hp):Hp:=fun b=>match G b with
 | some o=>some o
 | none=>match H b with
  | some (.lst _)=>none
  | o=>o
theorem CK {G H:Hp}:aN G (Ib G H):=fun b o e=>by unfold Ib;rw [e]
theorem MW {G H:Hp}(s:aN G H):aN (Ib G H) H:=fun b o e=>by
 unfold Ib at e
 cases hg:G b with
 | some o' => rw [hg] at e;dsimp only at e;rw [← e];exact s _ _ hg
 | none=>
  rw [hg] at e
  dsimp only at e
  split at e
  ·cases e
  ·exact e
theorem O1 {G H:Hp}(s:aN G H):Kp H (Ib G H):=by
 refine ⟨fun b xs e=>?_,fun b o u e=>?_⟩
 ·unfold Ib
  cases hg:G b with
  | some o' => rw [s _ _ hg] at e;exact e
  | none=>dsimp only;rw [e]
 ·unfold Ib
  cases hg:G b with
  | some o' => rw [s _ _ hg] at e;exact e
  | none=>dsimp only;rw [e]
theorem GG {K:PySem.W.Frag}{G H G' H' : Hp} {v:V}{ds:List PyData}(s:aN G H) (g:bO (Ib G H) H G' H') (hv:Dat K G' v (.list ds)) (hf:∀ {G1 G2:Hp}{xs:List V},bJ K G1 xs ds→bJ K G2 xs ds):∃ Yq,bO G H Yq H' ∧ Dat K Yq v (.list ds):=by
 obtain ⟨p,xs,rfl,hp,hx⟩:=hv.lst
 cases hg:G p with
 | some o=>
  have e:=g.gg _ _ (CK (H:=H) _ _ hg)
  rw [hp] at e
  injection e with e
  refine ⟨G,⟨aN.refl _,s.trans g.hh,g.hh,fun _ _ h=>.inl h⟩,cK (xs:=xs) (by rw [hg,← e]) (hf hx)⟩
 | none=>
  have hn:H p = none:=by
   rcases g.fr p _ hp with q | q
   ·have hH:=MW s _ _ q
    unfold Ib at q
    rw [hg] at q
    dsimp only at q
    rw [hH] at q
    cases q
   ·exact q
  have sG:aN G (L2.upd G p (.lst xs)):=bI hg
  refine ⟨L2.upd G p (.lst xs),⟨sG,fun b o e=>?_,g.hh,fun b o e=>?_⟩,cK aE (hf hx)⟩
  ·by_cases hb:b = p
   ·subst hb;rw [aE] at e;rw [← e];exact g.gh _ _ hp
   ·rw [aI hb] at e;exact g.hh _ _ (s _ _ e)
  ·by_cases hb:b = p
   ·subst hb;exact .inr hn
   ·rw [aI hb] at e;exact .inl e
theorem O2 {a:An}{x:Str}{b:An}(h:b.how = x):decide (a.how = x) = isA a b:=by
 subst h
 cases a <;> cases b <;> decide +kernel
section
variable {P:Program}{w:World}{K:PySem.W.Frag}{mg:Str→Option Value}{base:Heap}
theorem DI (T:Top K mg) (W1:xX K w.params mg "AHEAD" kY) {book:List Str}{f g:List (Int × Int)}{num:Int→Int→Prop}(hnum:∀ a b,num a b→Sz (a,b)) (hfl:f.length = book.length) (QO:g.length = book.length) (hf:∀ p∈f,Sz p) (hg:∀ p∈g,Sz p)
  {H0:Hp}{pb:Addr}{vf vg:V}(hb:H0 pb = some (.tup (book.map V.str))) (DG:Dat K H0 vf (.tuple (f.map dF))) (DH:Dat K H0 vg (.tuple (g.map dF)))
  {A:Around}{outer:List Env}{s' : Shared} {H' : Hp} {vs:List V}{Q:VK}{fa c' : Addr} {cl:List (Str × Addr)}(hr:fS 2 (A.deeper (Bc iS (ak d7) s'.heap.objs.size fa (.ref c') cl))) (kp:Kp H0 H') (h:jS K (Yp book num (dZ book f g)) vs H' Q E0):
  ∃ t,vA (o9 P w K mg base ((["word", "field", "number"]:List Str) ++ (["place"]:List Str) ++ (["book", "first", "second"]:List Str)) iS (ak d7) fa c' cl A outer s' H') (aZ d7) t∧t { nx:=fun _ H' => Q .gk H',rt:=Q } (vs.map some ++ List.replicate (["place"]:List Str).length none ++ [some (.ref pb),some vf,some vg]) H' := by
 have u9:bF P w K mg base cF 2 T.nL T.lI ["word", "how"] (jS K DE):=(wN T W1).mono (by decide)
 have mS:bF P w K mg base cF 2 T.iC T.gz ["one", "other"] (jS K Gp):=Gx T
 have hu:=hr.units
 obtain ⟨G,as,d,sg,hv,⟨z,hz,a,b,hab,hx⟩,k⟩:=h
 have hi:book.idxOf z < book.length:=List.idxOf_lt_length_of_mem hz
 have kw:=kp.trans (O1 sg)
 have hb' := kw.1 _ _ hb
 have hf' := kw.dat _ _ (tK _) DG
 have hg' := kw.dat _ _ (tK _) DH
 have key:∀ {x:Str}{c:An}{v1 v2 v3:V},x≠S "look" → c.how = x→Dat K G v1 (.str x)→Dat K G v2 (.str z)→Dat K G v3 (dF (a,b))→
   (∀ v G' pR,bO G H' G' pR→Dat K G' v (.list [.bool (isA (qZ (f.getD (book.idxOf z) (0,1)) (a,b)) c),.bool (isA (qZ (g.getD (book.idxOf z) (0,1)) (a,b)) c)])→Q v pR)→
   ∃ t,vA (o9 P w K mg base ((["word", "field", "number"]:List Str) ++ (["place"]:List Str) ++ (["book", "first", "second"]:List Str)) iS (ak d7) fa c' cl A outer s' H') (aZ d7) t∧t { nx:=fun _ H' => Q .gk H',rt:=Q } [some v1,some v2,some v3,none,some (.ref pb),some vf,some vg] H' := fun {x c v1 v2 v3} tD hc h1 h2 h3 hk=>by
  have Gf:=h1.same (CK (H:=H'))
  have h2' := h2.same (CK (H:=H'))
  have h3' := h3.same (CK (H:=H'))
  refine ⟨_,(aB (bx (i:=3) pX.nd rfl (Or.inr rfl) (GB PySem.F.slot_tuple_index PySem.F.type_tuple_index (q9 (K:=K) rfl) (pv 4) (aa (pv 1) aq aD)))
   (aG (aQ (ni (x:= "thing") (cap:=["word", "place", "number"]) (js:=[0,3,2]) ⟨rfl,by decide +kernel,by decide +kernel,rfl,(by show ∀ p∈(_:List (Str × NameKind)),p.2 = NameKind.free→List.lookup p.1 (ak d7).names = some NameKind.cell;decide +kernel),by decide +kernel,by decide +kernel,by decide +kernel⟩ rfl rfl (fun _ _ h=>h) (Ez (dW (aa (pv 5) (aa (pv 6) aq aD) aD))) (fun _ _ _ _=>⟨eX,(aP u9 hr (by rfl) T.zO T.uL.kp T.zN .nil bD (aa (pv 1) (aa (aP mS hr (by rfl) T.qA T.l9.kp T.qz .nil bD (aa (bf (bU (K:=K) rfl) (pv 0) (pv 2) (fun _ _=>rfl)) (aa (pv 3) aq aD) aL)) aq c9) aD))⟩))))) ,?_⟩
  refine dN (K:=K) (G:=Ib G H') (GD rfl hb' (ah rfl h2') hz) (MW sg) fun v4 G1 H1 g1 h4=>?_
  refine bw (K:=K) (G:=G1) (d:=.list [.bool (isA (qZ (f.getD (book.idxOf z) (0,1)) (a,b)) c),.bool (isA (qZ (g.getD (book.idxOf z) (0,1)) (a,b)) c)])
   (Oz (K:=K) [f,g] (fun l=>.tuple (l.map dF)) (fun l=>some (.bool (isA (qZ (l.getD (book.idxOf z) (0,1)) (a,b)) c))) (j3 (aj (ah rfl (hf'.same g1.gg)) (aj (ah rfl (hg'.same g1.gg)) aJ)) (by show 2≤sizeLine;decide)) (by show 2 < sizeLine;decide) (fun G2 i l y sG hl hy=>?_)) g1.gh fun v G' pR g2 hv=>?_
  ·have hll:l.length = book.length∧∀ p∈l,Sz p:=by
    match i,hl with
    | 0,hl=>cases hl;exact ⟨hfl,hf⟩
    | 1,hl=>cases hl;exact ⟨QO,hg⟩
   refine .inl ⟨_,rfl,gv,bH (E:=E0) (R:=DE) (aj (ah rfl ((Gf.same g1.gg).same sG)) (aj (bH (E:=E0) (R:=Gp) (aj (cz (ah rfl hy) (ah rfl (h4.same sG)) (cI (by rw [List.length_map];omega)) (yj (by omega))) (aj (ah rfl ((h3'.same g1.gg).same sG)) aJ)) ⟨_,(a,b),rfl,hll.2 _ (getD_mem (by omega)),hnum a b hab,rfl⟩) aJ)) ⟨_,.inr ⟨x,tD,rfl,?_⟩⟩⟩
   rw [O2 hc]
  ·obtain ⟨Yq,g3,hv'⟩:=GG sg (g1.trans g2) hv (fun {G1 G2 xs} hd=>by
    obtain ⟨y1,r1,rfl,d1,hd⟩:=hd.cons
    obtain ⟨y2,r2,rfl,d2,hd⟩:=hd.cons
    cases hd.nil
    rw [d1.bl,d2.bl]
    exact bh (bQ _) (bh (bQ _) bE))
   exact hk v Yq pR g3 hv'
 rcases hx with ⟨rfl,rfl⟩ | ⟨rfl,rfl⟩
 ·obtain ⟨v1,r1,rfl,h1,hv⟩:=hv.cons
  obtain ⟨v2,r2,rfl,h2,hv⟩:=hv.cons
  obtain ⟨v3,r3,rfl,h3,hv⟩:=hv.cons
  cases hv.nil
  exact key (c:=.ahead) (by decide +kernel) rfl h1 h2 h3 k
 ·obtain ⟨v1,r1,rfl,h1,hv⟩:=hv.cons
  obtain ⟨v2,r2,rfl,h2,hv⟩:=hv.cons
  obtain ⟨v3,r3,rfl,h3,hv⟩:=hv.cons
  cases hv.nil
  exact key (c:=.like) (by decide +kernel) rfl h1 h2 h3 k
end
end K10
namespace K10
open PySem L2 Frac Lw Dig PySem.NumText Nm
open Ord Num Look Rdo
def ym (K:PySem.W.Frag) (Pt:Addr) (cr:Nat→Nat→Option Str):Sp:=fun vs H Q _=>∃ (G:Hp) (ws:List Wd) (book:List Str) (f g:List (Int × Int)) (num:Int→Int→Prop) (a:An) (vo vf vg:V) (pb:Addr),vs = [vo,.ref pb,vf,vg]∧G Pt = some (.sY cr)∧aN G H∧G pb = some (.tup (book.map V.str))∧
 (Dat K G vo (.tuple (ws.map Wd.d))∧Dat K G vf (.tuple (f.map dF))∧Dat K G vg (.tuple (g.map dF)))∧nB (· ∈ book) num ws∧(∀ a b,num a b→Sz (a,b))∧(f.length = book.length∧g.length = book.length∧(∀ p∈f,Sz p)∧∀ p∈g,Sz p)∧(∀ z∈book,cD z = none)∧ws.length≤900∧
 (∀ R,ev (dZ book f g) ws R = .an a :: R)∧∀ G' H',bO G H G' H' → Q (.str a.t) H'
section
variable {P:Program}{w:World}{K:PySem.W.Frag}{mg:Str→Option Value}{base:Heap}
theorem wR (T:Top K mg) (M:Bs K mg base) (W:MJ K w.params mg) (W1:xX K w.params mg "AHEAD" kY) (W2:xX K w.params mg "OTHER_WAY" ki):bF P w K mg base cF 6 T.jl T.jU ["order", "book", "first", "second"] (ym K T.cu b7):=by
 refine T.zQ.okC rm (fun vs H Q E h=>?_) (fun cdv A outer s H vs Q E hcd hr h=>?_)
 ·obtain ⟨G,ws,book,f,g,num,a,vo,vf,vg,pb,rfl,_⟩:=h
  rfl
 ·obtain ⟨G,ws,book,f,g,num,a,vo,vf,vg,pb,rfl,hP,sg,lM,⟨ho,DG,DH⟩,hord,hnum,⟨hfl,QO,hf,hg⟩,Yr,hlen,hev,k⟩:=h
  have hu:=hr.units
  have DJ:=fun f1 f2=>BE (P:=P) (w:=w) (base:=base) T W W2 book num (dZ book f g) Yr f1 f2
  let RH:Addr→Addr→St→Hp→Prop:=fun f1 f2 σ H1=>(lE H1 f1 "by_field" gZ (bu c7) (aZ c7) (ak c7) (eU (PyProof.Rows.envOfC "looked" (ak cQ) s.heap.objs.size T.jl cdv) (ak c7).names [])∧
   lE H1 f2 "by_mark" iS (bu d7) (aZ d7) (ak d7) (eU (PyProof.Rows.envOfC "looked" (ak cQ) s.heap.objs.size T.jl cdv) (ak d7).names []))∧
   σ = [some vo,some (.ref pb),some vf,some vg,some (.ref f1),some (.ref f2)]∧H1 pb = some (.tup (book.map V.str))∧Dat K H1 vf (.tuple (f.map dF))∧Dat K H1 vg (.tuple (g.map dF))
  have hC:∀ (pins:List (Addr × Obj)) (σ:St) (H1:Hp) (s1:Shared) (f1 f2:Addr),Inv (sJ cF P w K mg base ["order", "book", "first", "second", "by_field", "by_mark"] "looked" (ak cQ) T.jl cdv A outer s H E).CW pins σ H1 s1→RH f1 f2 σ H1→BD P w K mg base book num (dZ book f g) f1 f2 s1 H1:=by
   rintro pins σ H1 s1 f1 f2 I ⟨⟨L1,L2⟩,rfl,hb1,hf1,Yc⟩
   refine ⟨MO (js:=[1,2,3]) I nJ rfl L1 (fun cl us hl doc pm ctv c' => ?_) (fun A outer s' H' vs Q fa c' cl hr' kp hl h=>BF T W1 hfl QO hf hg hb1 hf1 Yc hr' kp h),MO (js:=[1,2,3]) I pX rfl L2 (fun cl us hl doc pm ctv c' => ?_) (fun A outer s' H' vs Q fa c' cl hr' kp hl h=>DI T W1 hnum hfl QO hf hg hb1 hf1 Yc hr' kp h)⟩
   ·match us,hl with
    | [_,_],_=>rfl
   ·match us,hl with
    | [_,_,_],_=>rfl
  refine ⟨_,(aB (FE (i:=4) (P:=T.cu) (cr:=b7) (q:=gZ) nJ (hcd.trans T.wJ) (PySem.W.codeHd_of_K M.Ec T.wK) M.bm rfl rfl rm.nd rfl rfl)
   (aB (FE (i:=5) (P:=T.cu) (cr:=b7) (q:=iS) pX (hcd.trans T.wJ) (PySem.W.codeHd_of_K M.Ec T.wK) M.bm rfl rfl rm.nd rfl rfl)
   (aG (aQ (IY (C:=BD P w K mg base book num (dZ book f g)) (ZV:=fun f1 f2 _=>Yk K f1 f2 (MV book num (dZ book f g))) (RH:=RH) (fun f1 f2 _=>DJ f1 f2) hC hr (by rfl) T.Dw T.wH.kp T.Du (aa (pv 0) (aa (pv 4) (aa (pv 5) aq aD) aD) aD)))))) ,?_⟩
  refine ⟨sg _ _ hP,fun f1 H1 hf1 s1 L1=>⟨s1 _ _ (sg _ _ hP),fun f2 H2 hf2 s2 L2=>?_⟩⟩
  have sH:=s1.trans s2
  have sG:=sg.trans sH
  refine ⟨_,rfl,_,rfl,_,rfl,f1,f2,⟨⟨L1.same fun b o u e=>s2 _ _ e,L2⟩,rfl,sG _ _ lM,DG.same sG,DH.same sG⟩,?_⟩
  refine ⟨G,[.tuple (ws.map Wd.d)],.str a.t,[vo],rfl,sG,bh ho bE,⟨ws,a,rfl,hord,hev,hlen,rfl⟩,fun v G' H' g' hv=>?_⟩
  rw [hv.str]
  exact k G H' ⟨aN.refl _,sG.trans g'.hh,sH.trans g'.hh,fun _ _ h=>.inl h⟩
end
end K10
namespace L2
open PySem PySem.Spec PyProof.Rows Lw Nm Frac
structure Dk (d c:Addr) (G H G' H' : Hp):Prop where
 gg:aN G G'
 gh:aN G' H'
 fr:∀ b o,G' b = some o→G b = some o∨H b = none
 kp:bK d c H H'
 D:bq H' d c
section
variable {K:PySem.W.Frag}{d c:Addr}{σ:St}{G H G' H' : Hp}
theorem Dk.out (k:Dk d c G H G' H') {p:Addr}{o:HO}(hp:H p = some o) (hg:G p = none):G' p = none:=by
 cases e:G' p with
 | none=>rfl
 | some u=>
  rcases k.fr p u e with h | h
  ·rw [hg] at h;cases h
  ·rw [hp] at h;cases h
theorem rJ (D:bq H d c):(∃ o,H d = some o)∧∃ o,H c = some o:=by
 obtain ⟨k,ns,h1,h2,_⟩:=D.ex
 exact ⟨⟨_,h1⟩,_,h2⟩
theorem Dk.gd (k:Dk d c G H G' H') (D:bq H d c) (hg:G d = none):G' d = none:=by
 obtain ⟨⟨o,h⟩,_⟩:=rJ D
 exact k.out h hg
theorem Dk.gc (k:Dk d c G H G' H') (D:bq H d c) (hg:G c = none):G' c = none:=by
 obtain ⟨_,⟨o,h⟩⟩:=rJ D
 exact k.out h hg
theorem bO.dk (g:bO G H G' H') (D:bq H d c):Dk d c G H G' H' := ⟨g.gg,g.gh,g.fr,aN.but g.hh,D.same g.hh⟩
theorem Dk.refl (s:aN G H) (D:bq H d c):Dk d c G H G H:=(bO.refl s).dk D
theorem Dk.trans {G1 H1:Hp}(a:Dk d c G H G1 H1) (b:Dk d c G1 H1 G' H'):Dk d c G H G' H' := by
 refine ⟨a.gg.trans b.gg,b.gh,fun x o e=>?_,a.kp.trans b.kp,b.D⟩
 rcases b.fr x o e with h | h
 ·exact a.fr x o h
 ·exact .inr (bK.free a.kp a.D h)
theorem Js (s:aN G H) (hd:G d = none) (hc:G c = none) (D:bq H' d c) (k:bK d c H H'):Dk d c G H G H' :=
 ⟨aN.refl _,fun b o e=>k b o (s b o e) (aC e hd) (aC e hc),fun _ _ e=>.inl e,k,D⟩
theorem O3 {p:Addr}{o:HO}(s:aN G H) (hd:G d = none) (hc:G c = none) (D:bq H' d c) (k:bK d c H H') (hp:H p = none) (oB:H' p = some o):Dk d c G H (upd G p o) H' := by
 have hg:G p = none:=s.free hp
 refine ⟨fun b u e=>?_,fun b u e=>?_,fun b u e=>?_,k,D⟩
 ·rw [aI (aC e hg)];exact e
 ·by_cases h:b = p
  ·subst h;rw [aE] at e;rw [oB,e]
  ·rw [aI h] at e;exact k b u (s b u e) (aC e hd) (aC e hc)
 ·by_cases h:b = p
  ·subst h;exact .inr hp
  ·rw [aI h] at e;exact .inl e
def Dv (K:PySem.W.Frag) (d c:Addr) (t:TE) (σ:St) (G:Hp) (R:PyData→Prop):Prop:=
 ∀ G1 H,aN G G1→aN G1 H→G1 d = none→G1 c = none→bq H d c→∀ Q:VK,(∀ v x G' H',R x→Dk d c G1 H G' H' → Dat K G' v x→Q v H')→t σ H Q
theorem Dv.mono {t:TE}{R:PyData→Prop}(h:Dv K d c t σ G R) (s:aN G G'):Dv K d c t σ G' R:=fun G1 H s1 s2 a b D Q k=>h G1 H (s.trans s1) s2 a b D Q k
theorem Dv.imp {t:TE}{R R' : PyData→Prop} (h:Dv K d c t σ G R) (hi:∀ x,R x→R' x):Dv K d c t σ G R' := fun G1 H s1 s2 a b D Q k=>h G1 H s1 s2 a b D Q fun v x G' H' r=>k v x G' H' (hi x r)
theorem MX {t:TE}{x:PyData}{R:PyData→Prop}(h:Ev K t σ G x) (hR:R x):Dv K d c t σ G R:=fun G1 H s1 s2 a b D Q k=>h G1 H s1 s2 _ fun v G' H' g hv=>k v x G' H' hR (g.dk D) hv
theorem SK {t:TE}{x:PyData}(h:Ev K t σ G x):Dv K d c t σ G (· = x):=MX h rfl
theorem MY {ta tb:TE}{r:R2}{Ra Rb R:PyData→Prop}(ha:Dv K d c ta σ G Ra) (hb:Dv K d c tb σ G Rb)
  (hr:∀ a b va vb G',Ra a→Rb b→aN G G' → Dat K G' va a→Dat K G' vb b→∃ x,R x∧Ev K (iV r (tC va) (tC vb)) σ G' x):Dv K d c (iV r ta tb) σ G R:=fun G1 H s1 s2 a b D Q k=>
 ha G1 H s1 s2 a b D _ fun va x G2 H2 hx k2 hva=>hb G2 H2 (s1.trans k2.gg) k2.gh (k2.gd D a) (k2.gc D b) k2.D _ fun vb y G3 H3 hy k3 hvb=>by
  have yp:=k2.trans k3
  obtain ⟨z,hz,he⟩:=hr x y va vb G3 hx hy (s1.trans yp.gg) (hva.same k3.gg) hvb
  exact he G3 H3 (aN.refl _) k3.gh Q fun v G4 H4 g4 hv=>k v z G4 H4 hz (yp.trans (g4.dk k3.D)) hv
theorem GH {ta tb:TE}{n:Int}{R:PyData→Prop}(ha:Dv K d c ta σ G fun x=>∃ ds:List PyData,x = .list ds∧(ds.length:Int) = n∧∀ e∈ds,R e) (hb:Dv K d c tb σ G fun x=>∃ r:Int,x = .int r∧0≤r∧r < n):Dv K d c (iV (yQ K) ta tb) σ G R:=
 MY ha hb fun a b va vb G' h1 h2 s hva hvb=>by
  obtain ⟨ds,rfl,hl,hR⟩:=h1
  obtain ⟨r,rfl,r0,r1⟩:=h2
  obtain ⟨j,rfl⟩:=Int.eq_ofNat_of_zero_le r0
  have hj:j < ds.length:=by omega
  exact ⟨ds[j],hR _ (List.getElem_mem hj),cg (n:=j) (yZ hva) (yZ hvb) (cI hj) (List.getElem?_eq_getElem hj)⟩
theorem tL {E:XK}{i:Nat}{tm:TE}{m:Int}(hi:σ[i]? = some (some (.ref d))) (hm:Ev K tm σ G (.int m)) (m1:1≤m) (m2:m.natAbs < 10 ^ 100):Dv K d c (lA lW [] E (bV (cE i) (bV tm kr))) σ G fun x=>∃ r:Int,x = .int r∧0≤r∧r < m:=
 fun G1 H s1 s2 a b D Q k=>⟨_,hi,hm G1 H s1 s2 _ fun v G2 H2 g2 hv=>by
  rw [hv.int]
  refine ⟨d,c,m,rfl,D.same g2.hh,⟨m1,m2⟩,fun r H' r0 r1 D' k' => ?_⟩
  have k2:=g2.dk D
  exact k _ _ G2 H' ⟨r,rfl,r0,r1⟩ (k2.trans (Js k2.gh (k2.gd D a) (k2.gc D b) D' k')) (aX _)⟩
abbrev dFr (p:Int × Int):PyData:=.tuple [.int p.1,.int p.2]
theorem DK {E:XK}{i:Nat}(hi:σ[i]? = some (some (.ref d))):Dv K d c (lA qi [] E (bV (cE i) kr)) σ G fun x=>∃ n:Int × Int,x = dFr n∧QG n∧n.1.natAbs < 10 ^ 20∧n.2.natAbs≤10 ^ 20:=
 fun G1 H s1 s2 a b D Q k=>⟨_,hi,d,c,rfl,D,fun x y p H' y1 hg z1 z2 hp oB D' k' => by
  exact k _ _ _ H' ⟨(x,y),rfl,⟨y1,hg⟩,z1,z2⟩ (O3 s2 a b D' k' hp oB) (d8 (eV.of aE) (bh (aX _) (bh (aX _) bE)))⟩
theorem Ah {E:XK}{ta tb:TE}{a b:Int}(ha:Ev K ta σ G (.int a)) (hb:Ev K tb σ G (.int b)) (h0:b≠0) (z1:a.natAbs < 10 ^ 100) (z2:b.natAbs < 10 ^ 100):Ev K (lA qh [] E (bV ta (bV tb kr))) σ G (dFr (norm a b)):=
 fun G1 H s1 s2 Q k=>ha G1 H s1 s2 _ fun v G2 H2 g2 hv=>hb G2 H2 (s1.trans g2.gg) g2.gh _ fun u G3 H3 g3 hu=>by
  rw [hv.int,hu.int]
  refine ⟨a,b,rfl,h0,⟨z1,z2⟩,fun p hp=>?_⟩
  have g:=b8 (o:=.tup [V.int (norm a b).1,V.int (norm a b).2]) g3.gh hp
  exact k _ _ _ ((g2.trans g3).trans g) (d8 (eV.of aE) (bh (aX _) (bh (aX _) bE)))
theorem Dv.use {t:TE}{R:PyData→Prop}{Q:VK}(h:Dv K d c t σ G R) (s:aN G H) (gd:G d = none) (gc:G c = none) (D:bq H d c) (k:∀ v x G' H',R x→Dk d c G H G' H' → Dat K G' v x→Q v H'):t σ H Q:=h G H (aN.refl _) s gd gc D Q k
theorem BG {te:TE}{Ed:Ends}{i:Nat}{R:PyData→Prop}(h:Dv K d c te σ G R) (s:aN G H) (gd:G d = none) (gc:G c = none) (D:bq H d c) (k:∀ v x G' H',R x→Dk d c G H G' H' → Dat K G' v x→Ed.nx (σ.set i (some v)) H'):AK te (m9 i) Ed σ H:=h.use s gd gc D k
def Jt (K:PySem.W.Frag) (R:List PyData→PyData→Prop):Sp:=fun vs H Q _=>∃ (d c:Addr) (G:Hp) (us:List V) (ds:List PyData),vs = .ref d :: us∧aN G H∧G d = none∧G c = none∧bq H d c∧bJ K G us ds∧(∃ x,R ds x)∧∀ v x G' H',R ds x→Dk d c G H G' H' → Dat K G' v x→Q v H'
theorem Ju {E:XK}{i:Nat}{t:TA}{ds:List PyData}{R:List PyData→PyData→Prop}(hi:σ[i]? = some (some (.ref d))) (h:xE K t σ G ds) (hR:∃ x,R ds x):Dv K d c (lA (Jt K R) [] E (bV (cE i) t)) σ G (R ds):=
 fun G1 H s1 s2 a b D Q k=>⟨_,hi,h G1 H s1 s2 _ fun vs G2 H2 g2 hv=>by
  have k2:=g2.dk D
  show Jt K R ((.ref d :: vs) ++ []) H2 Q E
  rw [List.append_nil]
  exact ⟨d,c,G2,vs,ds,rfl,k2.gh,k2.gd D a,k2.gc D b,k2.D,hv,hR,fun v x G' H' r k3 hx=>k v x G' H' r (k2.trans k3) hx⟩⟩
end
end L2
namespace L2
open PySem PySem.Spec PyProof.Rows
section
variable {X:Cx}
theorem BH (hc:X.calm = true):gU X (.builtin "max") (fun xs H Q=>∃ i j k,xs = [.int i,.int j,.int k]∧Q (.int (if j > i then (if k > j then k else j) else (if k > i then k else i))) H):=by
 intro pins s σ H xs us Q I r h
 obtain ⟨i,j,k,rfl,q⟩:=h
 cases r with
 | cons r1 r=>cases r with
  | cons r2 r=>cases r with
   | cons r3 r=>
    cases r
    obtain ⟨t,rfl⟩:=r1
    obtain ⟨t',rfl⟩:=r2
    obtain ⟨t'',rfl⟩:=r3
    refine max_three_ints (I.ok.hd hc) fun h' tk kk=>⟨_,H,I.kept kk,?_,q⟩
    by_cases h1:j > i <;> by_cases h2:k > j <;> by_cases h3:k > i <;> simp only [h1,h2,h3,if_true,if_false] <;> exact ⟨_,rfl⟩
end
end L2
namespace Look
open PySem Ord Rdo
theorem Jv:cD (S "like") = some (S "like",S "order",[])∧cD (S "turn") = some (S "turn",S "order",[S "order"])∧cD (S "then") = some (S "then",S "order",[S "order",S "order"])∧cD (S "pick") = some (S "pick",S "order",[S "case",S "order",S "order"])∧cD (S "not") = some (S "not",S "case",[S "case"])∧
  cD (S "up") = some (S "up",S "order",[S "field"])∧cD (S "down") = some (S "down",S "order",[S "field"]):=by decide +kernel
theorem O4 {E:En}{x:Str}{r:Str × Str × List Str}(h:cD x = some r) (st:List Tv):push E (.t x) st = xV E (vC x) (st.take r.2.2.length) :: st.drop r.2.2.length:=by unfold push;dsimp only;rw [h]
section
variable {E:En}{one other cs:List Wd}{a b:An}{c:Bool}
end
end Look
namespace Look
open PySem Ord Rdo
section
variable {fld:Str→Prop}{num:Int→Int→Prop}{a b cs:List Wd}
theorem aae {x:Str}(hx:fld x):nB fld num [.t (S "up"),.t x]:=.cons (st1:=[S "field"]) (Ord.Step.word (ps:=[S "field"]) (st:=[]) (by decide +kernel) (by decide +kernel) (by decide +kernel)) (.cons (Ord.Step.field hx) .nil)
end
section
variable {E:En}
theorem SM {x:Str}(hx:cD x = none) (R:List Tv):ev E [.t (S "up"),.t x] R = .an (E.look x) :: R:=by
 show push E (.t (S "up")) (push E (.t x) R) = _
 have e:push E (.t x) R = .wd (.t x) :: R:=by unfold push;dsimp only;rw [hx]
 rw [e,O4 Jv.2.2.2.2.2.1,Cz.2.1];rfl
end
theorem MZ {a b:An}:a.t = b.t↔a = b:=by
 constructor
 ·intro h
  have k:∀ a b:An,a.t = b.t→a = b:=by intro a b;cases a <;> cases b <;> decide +kernel
  exact k a b h
 ·rintro rfl;rfl
end Look
namespace L2
open PySem PySem.Spec PyProof.Rows
section
variable {X:Cx}
end
end L2
namespace K10
open PySem L2 Frac Lw Dig PySem.NumText Nm
open Ord Num Look Rdo
def Gd (n:Int × Int):Prop:=QG n∧n.1.natAbs < 10 ^ 20∧n.2.natAbs≤10 ^ 20
def yq (n:Int × Int):Int × Int:=if (if 0 - n.1 > n.1 then (if n.2 > 0 - n.1 then n.2 else 0 - n.1) else (if n.2 > n.1 then n.2 else n.1)) < (10:Int) ^ 19 then n else norm (n.1 % 10 ^ 19) (n.2 % 10 ^ 19 + 1)
theorem Jw {n:Int × Int}(h:Gd n):Gd (yq n):=by
 unfold yq
 by_cases hh:(if 0 - n.1 > n.1 then (if n.2 > 0 - n.1 then n.2 else 0 - n.1) else (if n.2 > n.1 then n.2 else n.1)) < (10:Int) ^ 19
 ·rw [if_pos hh];exact h
 ·rw [if_neg hh]
  have a0:0≤n.2 % 10 ^ 19:=Int.emod_nonneg _ (by decide)
  have a1:n.2 % 10 ^ 19 < 10 ^ 19:=Int.emod_lt_of_pos _ (by decide)
  have b0:0≤n.1 % 10 ^ 19:=Int.emod_nonneg _ (by decide)
  have b1:n.1 % 10 ^ 19 < 10 ^ 19:=Int.emod_lt_of_pos _ (by decide)
  have hz:n.2 % 10 ^ 19 + 1≠0:=by omega
  have s:=qV (n.1 % 10 ^ 19) (n.2 % 10 ^ 19 + 1) hz
  exact ⟨zg _ _ hz,by omega,by omega⟩
def M0:List PyData→PyData→Prop:=fun as d=>∃ n:Int × Int,Gd n∧as = [dF n]∧d = dF (yq n)
def QS (p:Int × Int):Prop:=Sz p∧1≤p.2
def BI:List PyData→PyData→Prop:=fun as d=>∃ (book:List Str) (nums f:List (Int × Int)),as = [.tuple (book.map PyData.str),.list (nums.map dF)]∧(book.length≤4∧1≤nums.length∧nums.length≤4)∧(∀ n∈nums,Gd n)∧d = .tuple (f.map dF)∧f.length = book.length∧∀ p∈f,QS p
section
variable {P:Program}{w:World}{K:PySem.W.Frag}{mg:Str→Option Value}{base:Heap}
theorem Jx {σ:St}{G:Hp}{t:TA}{i j k:Int}(h:xE K t σ G [.int i,.int j,.int k]):Ev K (C3 (fun xs H Q=>∃ i j k,xs = [.int i,.int j,.int k]∧Q (.int (if j > i then (if k > j then k else j) else (if k > i then k else i))) H) t) σ G (.int (if j > i then (if k > j then k else j) else (if k > i then k else i))):=
 ud h fun G1 H xs Q s1 s2 hx q=>by
  obtain ⟨a,r,rfl,ha,hx⟩:=hx.cons
  obtain ⟨b,r,rfl,hb,hx⟩:=hx.cons
  obtain ⟨c,r,rfl,hc,hx⟩:=hx.cons
  rw [hx.nil,ha.int,hb.int,hc.int]
  exact ⟨i,j,k,rfl,q _ G1 H (bO.refl s2) (aX _)⟩
theorem Jy (T:Top K mg):bF P w K mg base cF 3 T.kO T.jP ["number"] (jS K M0):=by
 have mU:bF P w K mg base cF 2 T.jJ T.jc ["top", "below"] qh:=uY T.f9 T.F6 T.i7 T.i8 T.i9
 refine T.su.ok xZ (fun vs H Q E h=>?_) (fun cdv A outer s H vs Q E hr h=>?_)
 ·obtain ⟨G,as,d,sg,hv,⟨n,_,rfl,_⟩,_⟩:=h
  rw [hv.length];rfl
 ·obtain ⟨G,as,d,sg,hv,⟨n,hn,rfl,rfl⟩,k⟩:=h
  obtain ⟨v1,r1,rfl,h1,hv⟩:=hv.cons
  cases hv.nil
  have cp:EC 10 19:=⟨by decide,by decide,by decide⟩
  have E0' : ∀ {G' : Hp},aN G G' → Ev K (iV (ng K) (cE 0) (tC (.int 0))) [some v1] G' (.int n.1):=fun s=>cz (ah rfl (h1.same s)) aR rfl rfl
  have E1' : ∀ {G' : Hp},aN G G' → Ev K (iV (ng K) (cE 0) (tC (.int 1))) [some v1] G' (.int n.2):=fun s=>cz (ah rfl (h1.same s)) aR rfl rfl
  have EP:∀ {G' : Hp},Ev K (iV (rI EC fun i j=>.int (i ^ j.toNat)) (tC (.int 10)) (tC (.int 19))) [some v1] G' (.int (10 ^ 19)):=fun {G'}=>rP aR aR cp (aX _)
  have s0:=aN.refl G
  refine ⟨_,(aB (bS (aV rO (bY (BH rfl) (by rfl) T.F6 RQ (aa (bf (bU (K:=K) rfl) (pv 0) au (fun _ _=>rfl)) (aa (br jY au (bf (bU (K:=K) rfl) (pv 0) au (fun _ _=>rfl))) (aa (bf (bU (K:=K) rfl) (pv 0) au (fun _ _=>rfl)) aq aL) ji) aL)) (br lR au au) (aY _)) (aG (aQ (pv 0))) bA)
   (aG (aQ (aP mU hr (by rfl) T.jL T.f9.kp T.jK .nil bD (aa (br ir (bf (bU (K:=K) rfl) (pv 0) au (fun _ _=>rfl)) (br lR au au)) (aa (br fc (br ir (bf (bU (K:=K) rfl) (pv 0) au (fun _ _=>rfl)) (br lR au au)) au) aq ji) ji))))) ,?_⟩
  refine iL (bG (K:=K) (gu (Jx (aj (E0' s0) (aj (gu aR (E0' s0) (aX _)) (aj (E1' s0) aJ)))) EP (bQ _))) sg (fun e G1 H1 g1=>?_) (fun e G1 H1 g1=>?_)
  ·refine ⟨v1,rfl,k _ G1 H1 g1 ?_⟩
   have:yq n = n:=by unfold yq;rw [if_pos (of_decide_eq_true e)]
   rw [this];exact h1.same g1.gg
  ·have et:yq n = norm (n.1 % 10 ^ 19) (n.2 % 10 ^ 19 + 1):=by unfold yq;rw [if_neg (of_decide_eq_false e)]
   have a0:0≤n.2 % 10 ^ 19:=Int.emod_nonneg _ (by decide)
   have a1:n.2 % 10 ^ 19 < 10 ^ 19:=Int.emod_lt_of_pos _ (by decide)
   have b0:0≤n.1 % 10 ^ 19:=Int.emod_nonneg _ (by decide)
   have b1:n.1 % 10 ^ 19 < 10 ^ 19:=Int.emod_lt_of_pos _ (by decide)
   have zl:(10:Nat) ^ 20 < 10 ^ 100:=by decide +kernel
   refine bw (K:=K) (Ah (E:=E0) (a:=n.1 % 10 ^ 19) (b:=n.2 % 10 ^ 19 + 1) (rP (E0' g1.gg) EP ?_ (aX _)) (gu (rP (E1' g1.gg) EP ?_ (aX _)) aR (aX _)) (by omega) (by omega) (by omega)) g1.gh fun v G2 H2 g2 hv=>?_
   ·decide
   ·decide
   ·rw [et] at k
    exact k v G2 H2 (g1.trans g2) hv
theorem BJ {tc:TT}{t u rest:TS}{D:Ends}{σ:St}{H:Hp}(R:St→Hp→Prop) (hr:∀ σ' H',R σ' H' → rest D σ' H')
  (h:∀ nx:St→Hp→Prop,(∀ σ' H',R σ' H' → nx σ' H')→yL tc t u { D with nx:=nx } σ H):N3 (yL tc t u) rest D σ H:=h (rest D) hr
theorem BK {σ:St}{G:Hp}{ta:TE}{i:Int}(h:Ev K ta σ G (.int i)):Ev K (tUn (rU fun i=>.int (-i)) ta) σ G (.int (-i)):=
 fun G1 H s1 s2 Q k=>h G1 H s1 s2 _ fun v G2 H2 g2 hv=>⟨i,hv.int,k _ G2 H2 g2 (aX _)⟩
theorem GI (T:Top K mg):bF P w K mg base cF 4 T.jO T.je ["deck", "book", "numbers"] (Jt K BI):=by
 have dJ:bF P w K mg base cF 3 T.jm T.iE ["deck", "many"] lW:=(mQ T.cj T.n5).mono (by decide)
 have mU:bF P w K mg base cF 3 T.jJ T.jc ["top", "below"] qh:=(uY T.f9 T.F6 T.i7 T.i8 T.i9).mono (by decide)
 have vL:bF P w K mg base cF 3 T.kU T.kg ["deck"] qi:=wM T.kW T.n5 T.F6 T.cj T.cT T.cU T.i7 T.i8 T.i9 T.f9 T.jK T.jL T.jB T.jC T.jD
 refine T.qC.ok cS (fun vs H Q E h=>?_) (fun cdv A outer s H vs Q E hr h=>?_)
 ·obtain ⟨d,c,G,us,ds,rfl,_,_,_,_,hv,⟨x,book,nums,f,rfl,_⟩,_⟩:=h
  rw [List.length_cons,hv.length];rfl
 ·obtain ⟨d,c,G,us,ds,rfl,sg,gd,gc,D,hv,⟨x,book,nums,f,rfl,⟨b2,n1,n2⟩,hg,_⟩,k⟩:=h
  obtain ⟨vb,r1,rfl,hb,hv⟩:=hv.cons
  obtain ⟨vn,r2,rfl,hn,hv⟩:=hv.cons
  cases hv.nil
  have zl:(20000:Nat)≤sizeLine:=by decide
  refine ⟨_,(aB (bx (i:=3) cS.nd rfl (Or.inl rfl) (br qN (pv 2) (cL (aa (dW (aa au (aa au aq aK) aK)) (aa (dW (aa au (aa au aq aK) aK)) (aa (dW (aa au (aa au aq aK) aK)) (aa (dW (aa (vQ qJ au) (aa au aq aK) uh)) aq jj) jj) jj) jj))))
   (aB (bx (i:=4) cS.nd rfl (Or.inl rfl) (cL aq))
   (aB (jX PassesOwn.never rfl (Ez (pv 1)) (dj (i:=5) cS.nd rfl (Or.inl rfl)) (aB (bx (i:=6) cS.nd rfl (Or.inl rfl) (bf (aT (K:=K) rfl) (pv 3) (aP dJ hr (by rfl) T.cU T.cj.kp T.cT .nil bD (aa (pv 0) (aa (bY (eT (K:=K) rfl) (by rfl) T.n5 PySem.boot_len (aa (pv 3) aq aD)) aq c9) aD)) (fun _ _=>rfl)))
   (aB (bx (i:=7) cS.nd rfl (Or.inl rfl) (aP dJ hr (by rfl) T.cU T.cj.kp T.cT .nil bD (aa (pv 0) (aa au aq aK) aD)))
   (aB (bS (aV op_eq (pv 7) au (aY _)) (aG (bx (i:=6) cS.nd rfl (Or.inl rfl) (aP mU hr (by rfl) T.jL T.f9.kp T.jK .nil bD (aa (br fc (bf (bU (K:=K) rfl) (pv 6) au (fun _ _=>rfl)) (bf (bU (K:=K) rfl) (pv 6) au (fun _ _=>rfl))) (aa (br dm au (bf (bU (K:=K) rfl) (pv 6) au (fun _ _=>rfl))) aq ji) ji)))) bA)
   (aB (bS (aV op_eq (pv 7) au (aY _)) (aG (bx (i:=6) cS.nd rfl (Or.inl rfl) (aP vL hr (by rfl) T.pD T.kW.kp T.pC .nil bD (aa (pv 0) aq aD)))) bA)
   (aG (iU (ku PySem.F.plainAttrs_list PySem.F.slot_list_append PySem.F.type_list_append eS (pv 4) (aa (pv 6) aq aD)))))))))
   (aG (aQ (cV (nv (K:=K) rfl) (by rfl) T.uV E6 (aa (pv 4) aq aD))))))) ,?_⟩
  have ht:∀ {σ' : St} {G' : Hp} {ta:TE}{a b:Int},Ev K ta σ' G' (.int a)→Ev K (C2 (bV ta (bV (tC (.int b)) kr))) σ' G' (dF (a,b)):=fun h=>j3 (aj h (aj aR aJ)) (by show 2≤sizeLine;decide)
  refine dN (K:=K) (d:=.list ((nums ++ [(0,1),(1,1),(1,2),(-1,1)]).map dF)) (oV (yh (ah rfl hn) (d9 (aj (ht aR) (aj (ht aR) (aj (ht aR) (aj (ht (BK aR)) aJ)))) (by show 4≤sizeLine;decide)) (by rw [List.length_map];show nums.length + 4≤sizeLine;omega)) (by rw [List.map_append];rfl)) sg fun v3 G1 H1 g1 h3=>?_
  have hsome:∀ n∈nums ++ [((0:Int),(1:Int)),(1,1),(1,2),(-1,1)],Gd n:=fun n hn=>by
   rcases List.mem_append.mp hn with hn | hn
   ·exact hg n hn
   ·simp only [List.mem_cons,List.not_mem_nil,or_false] at hn
    rcases hn with rfl | rfl | rfl | rfl <;> exact ⟨⟨by decide,by decide⟩,by decide,by decide⟩
  have hsl:(nums ++ [((0:Int),(1:Int)),(1,1),(1,2),(-1,1)]).length = nums.length + 4:=by rw [List.length_append];rfl
  generalize nums ++ [((0:Int),(1:Int)),(1,1),(1,2),(-1,1)] = sm at h3 hsome hsl
  refine ⟨(by show 0≤sizeLine;decide),fun pp hpp=>?_⟩
  have k1:=g1.dk D
  have gd1:=k1.gd D gd
  have gc1:=k1.gc D gc
  have Ys:=bI (o:=.lst ([]:List V)) hpp
  have hb1:=hb.same g1.gg
  obtain ⟨pb,bs,rfl,lM,QK⟩:=hb1.tup
  have eb:=mR QK
  subst eb
  have OU:=k1.D.free hpp
  refine ⟨_,rfl,pb,rfl,⟨_,(g1.gh.trans Ys).tup lM⟩,Ik (xs:=book.map V.str) (fun i σ H' => ∃ (v5 v6 v7:Option V) (xs:List V) (f:List (Int × Int)) (G' : Hp),σ = [some (.ref d),some (.ref pb),some vn,some v3,some (.ref pp),v5,v6,v7]∧Dk d c G1 H1 G' H' ∧ G' pp = none∧H' pp = some (.lst xs)∧bJ K G' xs (f.map dF)∧f.length = i∧∀ p∈f,QS p)
   ⟨_,_,_,[],[],G1,rfl,⟨aN.refl _,g1.gh.trans Ys,fun _ _ e=>.inl e,aN.but Ys,k1.D.same Ys⟩,g1.gh.free hpp,aE,bE,rfl,fun p hp=>by cases hp⟩ ?_ ?_ ?_⟩
  ·rintro i σ H' _ ⟨v5,v6,v7,xs,f,G',rfl,k2,_⟩
   exact (k2.gg.trans k2.gh).tup lM
  ·rintro i x σ H' hx ⟨v5,v6,v7,xs,f,G2,rfl,k2,Jz,JA,hxs,hfl,hfs⟩
   have hil:i < book.length:=by
    have:=(List.getElem?_eq_some_iff.mp hx).1
    rwa [List.length_map] at this
   have tD:=hxs.length
   rw [List.length_map] at tD
   refine BG (K:=K) (d:=d) (c:=c) (R:=fun x=>∃ n,x = dF n∧Gd n) (GH (n:=((sm.length:Nat):Int)) (MX (ah rfl (h3.same k2.gg)) ⟨_,rfl,by rw [List.length_map],fun e he=>by
    obtain ⟨n,hn,rfl⟩:=List.mem_map.mp he
    exact ⟨n,rfl,hsome n hn⟩⟩) (tL rfl (oV (xF (aj (ah rfl (h3.same k2.gg)) aJ)) (by rw [List.length_map])) (by omega) (by omega))) k2.gh (k2.gd k1.D gd1) (k2.gc k1.D gc1) k2.D fun Si x6 G3 H3 h6 k3 hv6=>?_
   obtain ⟨n,rfl,QT⟩:=h6
   have yp:=k2.trans k3
   refine BG (K:=K) (d:=d) (c:=c) (tL rfl aR (by decide) (by decide)) k3.gh (yp.gd k1.D gd1) (yp.gc k1.D gc1) k3.D fun Z6 x7 G4 H4 h7 k4 QU=>?_
   obtain ⟨r,rfl,r0,r1⟩:=h7
   have e7:=QU.int
   subst e7
   have k24:=yp.trans k4
   have aaf:∀ {Ga Ha:Hp},Dk d c G2 H' Ga Ha→Ga pp = none∧Ha pp = some (.lst xs):=fun q=>⟨q.out JA Jz,q.kp _ _ JA OU.1 OU.2⟩
   have k34:=k3.trans k4
   (try dsimp only)
   refine BJ (fun σ' H' => ∃ (v6:V) (n:Int × Int) (G' : Hp),σ' = [some (.ref d),some (.ref pb),some vn,some v3,some (.ref pp),some x,some v6,some (.int r)]∧Dk d c G4 H4 G' H' ∧ Dat K G' v6 (dF n)∧QS n) ?_ ?_
   ·rintro σ' H5 ⟨v6,n,G5,rfl,k5,h6,z6⟩
    refine BJ (fun σ' H' => ∃ (v6:V) (n:Int × Int) (G' : Hp),σ' = [some (.ref d),some (.ref pb),some vn,some v3,some (.ref pp),some x,some v6,some (.int r)]∧Dk d c G4 H4 G' H' ∧ Dat K G' v6 (dF n)∧QS n) ?_ ?_
    ·rintro σ' H6 ⟨v6,n,G6,rfl,k6,h6,z6⟩
     have q:=aaf (k34.trans k6)
     refine ⟨_,rfl,.inl ⟨rfl,_,b9.of q.2⟩,_,rfl,pp,xs,_,rfl,rfl,q.2,by omega,?_⟩
     have ka:=(k2.trans (k34.trans k6))
     refine ⟨_,_,_,xs ++ [v6],f ++ [n],G6,rfl,⟨ka.gg,dY ka.gh q.1,ka.fr,fun b o e h1 h2=>?_,Nm.bq.upd ka.D OU.1 OU.2⟩,q.1,aE,?_,by simp [hfl],fun p hp=>?_⟩
     ·rw [aI (aC e hpp)];exact ka.kp b o e h1 h2
     ·rw [List.map_append];exact gX (hxs.same (k34.trans k6).gg) (bh h6 bE)
     ·rcases List.mem_append.mp hp with hp | hp
      ·exact hfs p hp
      ·rw [List.mem_singleton.mp hp];exact z6
    ·intro nx M3
     refine iL (G:=G5) (bG (K:=K) (iO (ah rfl (aX r)) aR)) k5.gh (fun e G6 H6 g6=>?_) (fun e G6 H6 g6=>?_)
     ·have k6:=k5.trans (g6.dk k5.D)
      have k26:=k24.trans k6
      refine BG (K:=K) (d:=d) (c:=c) (DK rfl) k6.gh (k26.gd k1.D gd1) (k26.gc k1.D gc1) k6.D fun v x G7 H7 hx7 k7 QU=>?_
      obtain ⟨m,rfl,hm,m1,m2⟩:=hx7
      exact M3 _ _ ⟨v,m,G7,rfl,k6.trans k7,QU,⟨Nat.lt_of_lt_of_le m1 (by decide),Nat.lt_of_le_of_lt m2 (by decide)⟩,hm.pos⟩
     ·exact M3 _ _ ⟨v6,n,G6,rfl,k5.trans (g6.dk k5.D),h6.same g6.gg,z6⟩
   ·intro nx M3
    have hn4:=hv6.same k4.gg
    have hz:QS n:=⟨⟨Nat.lt_of_lt_of_le QT.2.1 (by decide),Nat.lt_of_le_of_lt QT.2.2 (by decide)⟩,QT.1.pos⟩
    refine iL (G:=G4) (bG (K:=K) (iO (ah rfl (aX r)) aR)) k4.gh (fun e G5 H5 g5=>?_) (fun e G5 H5 g5=>?_)
    ·have hn5:=hn4.same g5.gg
     have p1:=QT.1.pos
     have l1:=QT.2.1
     have l2:=QT.2.2
     have zp:(10:Nat) ^ 40 < 10 ^ 100:=by decide +kernel
     have e0:∀ σ' : St,σ'[6]? = some (some Si)→Ev K (iV (ng K) (cE 6) (tC (.int 0))) σ' G5 (.int n.1):=fun σ' e=>cz (ah e hn5) aR rfl rfl
     have e1:∀ σ' : St,σ'[6]? = some (some Si)→Ev K (iV (ng K) (cE 6) (tC (.int 1))) σ' G5 (.int n.2):=fun σ' e=>cz (ah e hn5) aR rfl rfl
     have nz:2 * n.2≠0:=by omega
     have ns:=qV (n.1 + n.2) (2 * n.2) nz
     refine dN (K:=K) (Ah (E:=E0) (a:=n.1 + n.2) (b:=2 * n.2) (gu (e0 _ rfl) (e1 _ rfl) (aX _)) (rP aR (e1 _ rfl) (mw (by decide) (by omega)) (aX _)) nz (by omega) (by omega)) g5.gh fun v G6 H6 g6 hv=>?_
     exact M3 _ _ ⟨v,norm (n.1 + n.2) (2 * n.2),G6,rfl,(g5.trans g6).dk k4.D,hv,⟨by omega,by omega⟩,(zg _ _ nz).pos⟩
    ·exact M3 _ _ ⟨Si,n,G5,rfl,g5.dk k4.D,hn4.same g5.gg,hz⟩
  ·rintro σ H' ⟨v5,v6,v7,xs,f,G2,rfl,k2,Jz,JA,hxs,hfl,hfs⟩
   rw [List.length_map] at hfl
   refine ⟨_,rfl,pp,_,rfl,.inl ⟨b9.of JA,fun p hp=>?_⟩⟩
   have g:=b8 (o:=.tup xs) k2.gh hp
   exact k _ _ _ _ ⟨book,nums,f,rfl,⟨b2,n1,n2⟩,hg,rfl,hfl,hfs⟩ (k1.trans (k2.trans (g.dk k2.D))) (d8 (eV.of aE) (hxs.same g.gg))
end
end K10
namespace K10
open PySem L2 Frac Lw Dig PySem.NumText Nm
open Ord Num Look Rdo
abbrev QV (ws:List Wd):PyData:=.tuple (ws.map Wd.d)
section
variable {P:Program}{w:World}{K:PySem.W.Frag}{mg:Str→Option Value}{base:Heap}
theorem O5 {σ:St}{G:Hp}{ta tb:TE}{x y:Str}(ha:Ev K ta σ G (.str x)) (hb:Ev K tb σ G (.str y)):Ev K (iV X7 ta tb) σ G (.bool (!decide (x = y))):=
 jy ha hb fun G1 H u v Q s1 s2 hu hv k=>by
  rw [hu.str,hv.str]
  refine ⟨rfl,?_⟩
  have e:decide (V.str x = V.str y) = decide (x = y):=decide_eq_decide.mpr ⟨fun z=>by injection z,fun z=>by rw [z]⟩
  rw [e]
  exact k _ G1 H (bO.refl s2) (bQ _)
theorem JB {σ:St}{G:Hp}{ta tf tg:TE}{i:Nat}{ws:List Wd}{book:List Str}{f g:List (Int × Int)}{num:Int→Int→Prop}{a:An}{pb Pt:Addr}{cr:Nat→Nat→Option Str}(hT:G Pt = some (.sY cr)) (lM:G pb = some (.tup (book.map V.str)))
  (hz:(f.length = book.length∧g.length = book.length∧(∀ p∈f,Sz p)∧∀ p∈g,Sz p)∧(∀ a b,num a b→Sz (a,b))∧∀ z∈book,cD z = none) (hi:σ[i]? = some (some (.ref pb))) (ha:Ev K ta σ G (QV ws)) (hf:Ev K tf σ G (.tuple (f.map dF))) (hg:Ev K tg σ G (.tuple (g.map dF)))
  (hord:nB (· ∈ book) num ws) (hlen:ws.length≤900) (hev:∀ R,ev (dZ book f g) ws R = .an a :: R):Ev K (lA (ym K Pt cr) [] E0 (bV ta (bV (cE i) (bV tf (bV tg kr))))) σ G (.str a.t):=
 fun G1 H s1 s2 Q k=>ha G1 H s1 s2 _ fun v1 G2 H2 g2 h1=>⟨_,hi,hf G2 H2 (s1.trans g2.gg) g2.gh _ fun v2 G3 H3 g3 h2=>hg G3 H3 ((s1.trans g2.gg).trans g3.gg) g3.gh _ fun v3 G4 H4 g4 h3=>by
  have SN:=(g2.trans g3).trans g4
  have sG:=s1.trans SN.gg
  exact ⟨G4,ws,book,f,g,num,a,v1,v2,v3,pb,rfl,sG _ _ hT,g4.gh,sG _ _ lM,⟨(h1.same g3.gg).same g4.gg,h2.same g4.gg,h3⟩,hord,hz.2.1,hz.1,hz.2.2,hlen,hev,fun G' H' g' => k _ G' H' (SN.trans g') (bM _)⟩⟩
end
end K10
namespace L2
open PySem PySem.Spec PyProof.Rows
def vc (h:Heap) (d:Addr) (es:Array DictEntry) (ep:Nat):Prop:=∃ o,h.get? d = some o∧o.ExactDict∧o.data = .dict es ep
theorem vc.keep {h h' : Heap} {d:Addr}{es:Array DictEntry}{ep:Nat}(x:vc h d es ep) (k:∀ o,h.get? d = some o→h'.get? d = some o):vc h' d es ep:=let ⟨o,e,r⟩:=x;⟨o,k o e,r⟩
section
variable {prog:Program}{w:World}{A:Around}{E:Value→Shared→Prop}{s:Shared}
theorem vc.ty {d:Addr}{es:Array DictEntry}{ep:Nat}(x:vc s.heap d es ep):s.TypeIs (.ref d) "dict" := let ⟨o,e,c,_⟩:=x;⟨o,e,c.1⟩
abbrev O6 (d:Addr) (n ep:Nat):Obj:={ cls:=.type "dict_keyiterator",data:=.fields #[.ref d,.int 0 0,.int n 0,.int ep 0] }
theorem JC {d:Addr}{es:Array DictEntry}{ep:Nat}{Q:Value→Shared→Prop}(hd:(d == sysModules) = false) (x:vc s.heap d es ep) (q:Q (.ref s.heap.objs.size) { s with heap:=s.heap.push (O6 d es.size ep) }):wpAny (model prog w) A (pyIter (.ref d)) Q E s:=by
 have hT:=x.ty
 obtain ⟨o,e,_,hdat⟩:=x
 refine wpAny_pyIter_slot hT F.slot_dict_iter (wpAny_call_entry F.slot_dict_iter hT F.entry_dict_iter ?_ (F.args_dict_iter_1 _))
 unfold Builtin.«dict.__iter__»;refine wpAny_bind ?_;unfold Builtin.Dict.dictSlotNone
 refine wpAny_bind (wpAny_notOrdered_dict hT (wpAny_pure (a:=Value.ref d) ?_))
 refine wpAny_bind (m:=Builtin.Dict.showsAll d) ?_
 unfold Builtin.Dict.showsAll;rw [if_neg (by rw [hd];exact Bool.false_ne_true)]
 exact wpAny_pure (wpAny_bind (wpAny_dictEntries e hdat (wpAny_bind (wpAny_dictEpoch e hdat (wpAny_bind (wpAny_newObj_type (wpAny_pure ⟨_,rfl, "dict_keyiterator",_,⟨_,Heap.get?_push_size _ rfl,rfl⟩,F.slot_dict_keyiterator_next.lookup,q⟩)))))))
theorem JD {it d:Addr}{i ep:Nat}{es:Array DictEntry}{en:DictEntry}{Q:Option Value→Shared→Prop}(hit:s.heap.IsKeyIter it d i es.size ep) (x:vc s.heap d es ep) (hx:es[i]? = some en)
  (q:∀ h',h'.IsKeyIter it d (i + 1) es.size ep→Heap.SameBut it s.heap h' → Q (some en.key) { s with heap:=h' }):wpAny (model prog w) A (pyNext (.ref it)) Q E s:=by
 obtain ⟨o,ho,hc,hd⟩:=id hit
 obtain ⟨od,hod,_,hdd⟩:=x
 have ty:=hit.typeIs
 unfold pyNext
 refine wpAny_bind (wpAny_attempt (wpAny_callSpecial?_slot (name:=Str.ofString "__next__") ty F.slot_dict_keyiterator_next (wpAny_call_entry F.slot_dict_keyiterator_next ty F.entry_dict_keyiterator_next (wpAny_bind (wpAny_pure (wpAny_bind (wpAny_bind ?_)))) (F.args_dict_keyiterator_next_1 _))))
 first | refine wpAny_bind (wpAny_typeNameOfWhole_keyiter ty (wpAny_pure (wpAny_bind (wpAny_fieldsOf ho hd ?_)))) | refine wpAny_bind (wpAny_typeNameOf_keyiter ty (wpAny_pure (wpAny_bind (wpAny_fieldsOf ho hd ?_))))
 have own:Builtin.Dict_items.ownsTuple "dict_keyiterator" = false:=by decide
 simp only [own,if_false,Bool.false_eq_true]
 show wpAny _ _ (if (Value.ref d == Value.none) = true then _ else _) _ _ s
 rw [if_neg (fun z:(Value.ref d == Value.none) = true=>Bool.false_ne_true z)]
 refine wpAny_bind (wpAny_pure (wpAny_bind (wpAny_dictEntries hod hdd ?_)));rw [if_neg (by simp)]
 refine wpAny_bind (wpAny_pure (wpAny_bind (wpAny_dictEpoch hod hdd ?_)));rw [if_neg (by simp)];refine wpAny_pure ?_
 have lt:i < es.size:=by
  rcases Nat.lt_or_ge i es.size with h | h
  ·exact h
  ·rw [Array.getElem?_eq_none h] at hx;cases hx
 have ee:es[i] = en:=by rw [Array.getElem?_eq_getElem lt] at hx;exact Option.some.inj hx
 simp only [show ¬ ((i:Int) < 0) by omega,if_false,Int.toNat_natCast,Array.getElem?_eq_getElem lt];refine wpAny_bind ?_
 first | refine wpAny_bind (wpAny_typeNameOfWhole_keyiter ty (wpAny_pure (wpAny_bind (wpAny_isOneOf_keyiter ty ?_)))) | refine wpAny_bind (wpAny_typeNameOf_keyiter ty (wpAny_pure (wpAny_bind (wpAny_isOneOf_keyiter ty ?_))))
 refine wpAny_bind (m:=setField (.ref it) 1 (rawInt ((i:Int) + 1))) (wpAny_setField ho hd (by simp) ?_)
 have C9:(s.heap.update it (Obj.mapFields (·.setIfInBounds 1 (rawInt ((i:Int) + 1))))).IsKeyIter it d (i + 1) es.size ep:=⟨_,Heap.get?_update_self _ ho (Obj.isFreed_of_fields (Obj.data_mapFields hd _)),(Obj.cls_mapFields ..).trans hc,by rw [Obj.data_mapFields hd];simp [rawInt]⟩
 refine wpAny_bind (wpAny_holding (wpAny_bind (wpAny_isOneOf_keyiter (s:={ s with heap:=s.heap.update it (Obj.mapFields (·.setIfInBounds 1 (rawInt ((i:Int) + 1)))) }) C9.typeIs ?_)))
 show wpAny _ _ (pure es[i].key) _ _ _
 rw [ee]
 exact wpAny_pure (wpAny_pure ⟨_,rfl,wpAny_pure (q _ C9 (Heap.SameBut.update ..))⟩)
theorem O7 {it d:Addr}{i ep:Nat}{es:Array DictEntry}{Q:Option Value→Shared→Prop}(hh:A.handled = none) (hit:s.heap.IsKeyIter it d i es.size ep) (x:vc s.heap d es ep) (hx:es.size≤i)
  (q:∀ h',Heap.ExtBut it s.heap h' → Q none { s with heap:=h' }):wpAny (model prog w) A (pyNext (.ref it)) Q E s:=by
 obtain ⟨o,ho,hc,hd⟩:=id hit
 obtain ⟨od,hod,_,hdd⟩:=x
 have ty:=hit.typeIs
 unfold pyNext
 refine wpAny_bind (wpAny_attempt (wpAny_callSpecial?_slot (name:=Str.ofString "__next__") ty F.slot_dict_keyiterator_next (wpAny_call_entry F.slot_dict_keyiterator_next ty F.entry_dict_keyiterator_next (wpAny_bind (wpAny_pure (wpAny_bind (wpAny_bind ?_)))) (F.args_dict_keyiterator_next_1 _))))
 first | refine wpAny_bind (wpAny_typeNameOfWhole_keyiter ty (wpAny_pure (wpAny_bind (wpAny_fieldsOf ho hd ?_)))) | refine wpAny_bind (wpAny_typeNameOf_keyiter ty (wpAny_pure (wpAny_bind (wpAny_fieldsOf ho hd ?_))))
 have own:Builtin.Dict_items.ownsTuple "dict_keyiterator" = false:=by decide
 simp only [own,if_false,Bool.false_eq_true]
 show wpAny _ _ (if (Value.ref d == Value.none) = true then _ else _) _ _ s
 rw [if_neg (fun z:(Value.ref d == Value.none) = true=>Bool.false_ne_true z)]
 refine wpAny_bind (wpAny_pure (wpAny_bind (wpAny_dictEntries hod hdd ?_)));rw [if_neg (by simp)]
 refine wpAny_bind (wpAny_pure (wpAny_bind (wpAny_dictEpoch hod hdd ?_)));rw [if_neg (by simp)];refine wpAny_pure ?_
 simp only [show ¬ ((i:Int) < 0) by omega,if_false,Int.toNat_natCast,Array.getElem?_eq_none hx];refine wpAny_bind ?_
 first | refine wpAny_bind (wpAny_typeNameOfWhole_keyiter ty (wpAny_pure ?_)) | refine wpAny_bind (wpAny_typeNameOf_keyiter ty (wpAny_pure ?_))
 refine wpAny_bind (m:=setField (.ref it) 0 .none) (wpAny_setField ho hd (by simp) (wpAny_bind (m:=newExc (.type "StopIteration") []) ?_))
 simp only [newTuple,newExc];refine wpAny_bind (wpAny_newObj_type (wpAny_bind (m:=firstArgMember _ _) (wpAny_of_eq (a:=Value.none) (by first | rfl | (simp only [firstArgMember];rfl)) (wpAny_newObj_type ?_ (by size_fits)))) (by size_fits))
 simp only [raiseNew];refine wpAny_bind (wpAny_handled ?_);rw [show A.in1.handled = none from hh]
 refine wpAny_bind (wpAny_pure (wpAny_throw ?_))
 exact wpAny_bind (wpAny_isInstance (T:= "StopIteration") (b:=true) ⟨_,Heap.get?_push_size _ rfl,rfl⟩ isSubtype_stop (wpAny_pure (q _ (((Heap.SameBut.update ..).extBut.push _).push _))))
theorem JE (hh:A.handled = none) (I d:Addr) (hne:d≠I) (es:Array DictEntry) (ep:Nat):Walks prog w A I [I,d] [I] es.size (fun i v=>∃ en,es[i]? = some en∧v = en.key) (fun i h=>h.IsKeyIter I d i es.size ep∧vc h d es ep) where
 sub:=fun b hb=>by simp at hb;simp [hb]
 frame:=fun _ _ _ st hk=>⟨st.1.at fun o e=>hk I (by simp) o e,st.2.keep fun o e=>hk d (by simp) o e⟩
 item:=fun i s Q E hi st hQ=>JD st.1 st.2 (Array.getElem?_eq_getElem hi) fun h' C9 hs' => hQ _ h' s.toks ⟨_,Array.getElem?_eq_getElem hi,rfl⟩ ⟨C9,st.2.keep fun o e=>hs'.extBut d o hne e⟩ fun b o hb e=>hs'.extBut b o (fun h=>hb (by simp [h])) e
 done:=fun s Q E st hQ=>O7 hh st.1 st.2 (Nat.le_refl _) fun h' he' => hQ h' s.toks fun b o hb e=>he' b o (fun h=>hb (by simp [h])) e
 self:=fun _ _ _ _ st hQ=>wpAny_pyIter_keyiter st.1 hQ
theorem vM:typeLookup (.type "dict") "__len__" = pure (some (.builtin "dict.__len__")):=by rw [typeLookup_type,builtinLookup_eq_fast];kernel_rfl
theorem Ai {R:Result→Shared→Prop}(hh:A.handled = none) (S d:Addr) (res:Value) (c0:Nat) {es:Array DictEntry}{ep:Nat}(hd:(d == sysModules) = false) (x:vc s.heap d es ep) (hSd:S≠d)
  (hS:s.heap.get? S = some { cls:=.type "list",data:=.seq #[] c0 }) (hn:es.size≤sizeLine)
  (hR:∀ s' acc' c',Moved [S,s.heap.objs.size] (fun a b=>b = a) { s with heap:=s.heap.push (O6 d es.size ep) } s' → s'.heap.get? S = some { cls:=.type "list",dict:=none,data:=.seq acc' c',slots:=#[] }→ItemsOf (fun i v=>∃ en,es[i]? = some en∧v = en.key) acc' es.size→R (.ok (.ret res)) s'):
  wpAny (model prog w) A.in1 (Builtin.List.listExtendWith (.ref S) (.ref d) res)
   (fun fin s' => match fin with | .done f=>R (.ok f) s' | .again c' => c'.quiet = true∧codeAny (model prog w) A c' R s') (fun e s' => R (.error e) s') s:=by
 have hT:=x.ty
 have ltS:=Heap.lt_size hS
 have ltd:d < s.heap.objs.size:=by obtain ⟨o,e,_⟩:=id x;exact Heap.lt_size e
 unfold Builtin.List.listExtendWith
 refine wpAny_bind (wpAny_typeOf hT ?_)
 have z1:Builtin.List.listSameRef (.ref S) (.ref d) = false:=by simp [Builtin.List.listSameRef,hSd]
 rw [if_neg (by rw [z1];decide)]
 refine wpAny_bind (JC hd x (wpAny_bind (wpAny_holding ?_)))
 have hT1:Shared.TypeIs { s with heap:=s.heap.push (O6 d es.size ep) } (.ref d) "dict" := by
  obtain ⟨o,e,c,_⟩:=id x
  exact ⟨o,Heap.get?_push_of_some _ e,c.1⟩
 unfold Builtin.List.listLengthHint
 refine wpAny_bind (wpAny_specialOf hT1 vM ?_)
 generalize hid:("dict.__len__" : String) = id0
 wp_delta
 rw [show splitId id0 = some ("dict", "__len__") from by subst hid;decide +kernel]
 subst hid
 refine wpAny_bind (wpAny_isInstance (b:=true) hT1 (by rw [isSubtype_type];kernel_rfl) ?_)
 rw [if_neg (show ¬ ((!true) = true) by decide)]
 dsimp only
 rw [if_pos (by decide +kernel)]
 refine wpAny_bind (wpAny_typeOf hT1 (wpAny_pure ?_))
 rw [if_pos (by decide +kernel)]
 refine wpAny_bind (wpAny_rule (wpAny_bind ?_))
 have hSp:(s.heap.push (O6 d es.size ep)).get? S = some { cls:=.type "list",data:=.seq #[] c0 }:=Heap.get?_push_of_some _ hS
 show wpAny _ A.in1 (updateSeq S (·.push .none) >>= fun _=>updateSeq S (·.pop)) _ _ _
 refine wpAny_bind (wpAny_updateSeq (s:={ s with heap:=s.heap.push (O6 d es.size ep) }) hSp rfl ?_)
 have q2:=Heap.get?_update_self (Obj.mapSeq (·.push Value.none)) hSp rfl
 refine wpAny_updateSeq (hz:=by seq_fits) q2 rfl ?_
 have q3:=Heap.get?_update_self (Obj.mapSeq (·.pop)) q2 rfl
 have SO:∀ b o,b≠S→(s.heap.push (O6 d es.size ep)).get? b = some o→(((s.heap.push (O6 d es.size ep)).update S (Obj.mapSeq (·.push Value.none))).update S (Obj.mapSeq (·.pop))).get? b = some o:=
  fun b o hb e=>(Heap.get?_update_other _ _ (Ne.symm hb)).trans ((Heap.get?_update_other _ _ (Ne.symm hb)).trans e)
 have ndI:d≠s.heap.objs.size:=Nat.ne_of_lt ltd
 have nSI:S≠s.heap.objs.size:=Nat.ne_of_lt ltS
 have W:=(JE (prog:=prog) (w:=w) (A:=A.in1) (show A.in1.handled = none from hh) s.heap.objs.size d ndI es ep).toS
 have hSf:S ∉ [s.heap.objs.size,d]:=fun hm=>by
  rcases List.mem_cons.mp hm with z | z
  ·exact nSI z
  ·exact hSd (List.mem_singleton.mp z)
 refine wpAny_pure ⟨plainId_quiet F.plain_extend_loop _,codeAny_extend_loopS W hn S hSf _ es.size 0 _ _ _ rfl (Nat.zero_le _) ⟨?_,?_⟩ q3 (ItemsOf.nil _) fun s' acc' c' hm hS' hacc=>?_⟩
 ·exact ⟨_,SO _ _ (Ne.symm nSI) (Heap.get?_push_size _ rfl),rfl,rfl⟩
 ·exact x.keep fun o e=>SO d o (Ne.symm hSd) (Heap.get?_push_of_some _ e)
 ·exact hR s' acc' c' ⟨fun b o hb e=>hm.heap b o hb (SO b o (fun h=>hb (by simp [h])) e),hm.gens,hm.drawn,hm.os,hm.toks⟩ hS' hacc
theorem vd {Q:Value→Shared→Prop}(hh:A.handled = none) {d:Addr}{es:Array DictEntry}{ep:Nat}(hd:(d == sysModules) = false) (x:vc s.heap d es ep) (hn:es.size≤sizeLine)
  (q:∀ s' acc' c',(∀ b o,s.heap.get? b = some o→s'.heap.get? b = some o)→s' = { s with heap:=s'.heap,toks:=s'.toks }→s'.heap.get? s.heap.objs.size = some { cls:=.type "list",dict:=none,data:=.seq acc' c',slots:=#[] }→ItemsOf (fun i v=>∃ en,es[i]? = some en∧v = en.key) acc' es.size→Q (.ref s.heap.objs.size) s'):
  wpAny (model prog w) A (call (.type "list") [.ref d]) Q E s:=by
 have ltd:d < s.heap.objs.size:=by obtain ⟨o,e,_⟩:=id x;exact Heap.lt_size e
 refine callType_codes (Q₁:=fun obj s₁=>obj = .ref s.heap.objs.size∧s₁ = { s with heap:=s.heap.push { cls:=.type "list",data:=.seq #[] } }) F.called_list (F.typeCall_list_1 _) F.entry_list_init (code_list_new _ ⟨rfl,rfl⟩) fun obj s1 h1=>?_
 obtain ⟨rfl,rfl⟩:=h1
 have hS:(s.heap.push { cls:=.type "list",data:=.seq #[] }).get? s.heap.objs.size = some { cls:=.type "list",data:=.seq #[] }:=Heap.get?_push_size _ rfl
 refine ⟨⟨_,hS,rfl⟩,F.args_list_init_2 _ _,?_⟩
 refine wpAny_bind (m:=Builtin.List.listItems (.ref s.heap.objs.size)) ?_
 unfold Builtin.List.listItems
 refine wpAny_bind (wpAny_seqItems hS rfl (wpAny_pure ?_))
 refine wpAny_bind (m:=updateSeq s.heap.objs.size (fun _=>#[])) (wpAny_updateSeq hS rfl ?_)
 have hS2:=Heap.get?_update_self (Obj.mapSeq (fun _=>(#[]:Array Value))) hS rfl
 have SO:∀ b o,b≠s.heap.objs.size→(s.heap.push { cls:=.type "list",data:=.seq #[] }).get? b = some o→((s.heap.push { cls:=.type "list",data:=.seq #[] }).update s.heap.objs.size (Obj.mapSeq (fun _=>(#[]:Array Value)))).get? b = some o:=fun b o hb e=>(Heap.get?_update_other _ _ (Ne.symm hb)).trans e
 have old:∀ b o,s.heap.get? b = some o→((s.heap.push { cls:=.type "list",data:=.seq #[] }).update s.heap.objs.size (Obj.mapSeq (fun _=>(#[]:Array Value)))).get? b = some o:=fun b o e=>SO b o (Nat.ne_of_lt (Heap.lt_size e)) (Heap.get?_push_of_some _ e)
 refine wpAny_bind (wpAny_letGo ?_)
 refine Ai (A:=A.in1) (prog:=prog) (w:=w) (s:={ s with heap:=(s.heap.push { cls:=.type "list",data:=.seq #[] }).update s.heap.objs.size (Obj.mapSeq (fun _=>(#[]:Array Value))) }) (show A.in1.handled = none from hh) s.heap.objs.size d .none _ hd (x.keep fun o e=>old d o e) (Nat.ne_of_gt ltd) hS2 hn fun s' acc' c' hm hS' hacc=>?_
 refine ⟨rfl,q s' acc' c' (fun b o e=>?_) ?_ hS' hacc⟩
 ·have hb:=Heap.lt_size e
  refine hm.heap b o (fun hmem=>?_) (Heap.get?_push_of_some _ (old b o e))
  have hsz:((s.heap.push { cls:=.type "list",data:=.seq #[] }).update s.heap.objs.size (Obj.mapSeq (fun _=>(#[]:Array Value)))).objs.size = s.heap.objs.size + 1:=by rw [Heap.size_update,Heap.size_push]
  rcases List.mem_cons.mp hmem with z | z
  ·exact iK hb z
  ·have z' := List.mem_singleton.mp z
   rw [show (Shared.heap { s with heap:=(s.heap.push { cls:=.type "list",data:=.seq #[] }).update s.heap.objs.size (Obj.mapSeq (fun _=>(#[]:Array Value))) }).objs.size = s.heap.objs.size + 1 from hsz] at z'
   exact iK (Nat.lt_succ_of_lt hb) z'
 ·obtain ⟨h1,h2,h3,h4,h5⟩:=s'
  have e1:h2 = s.gens:=hm.gens
  have e2:h3 = s.drawn:=hm.drawn
  have e3:h5 = s.os:=hm.os
  subst e1 e2 e3
  rfl
end
end L2
namespace L2
open PySem PySem.Spec PyProof.Rows
section
variable {prog:Program}{w:World}{K:Type}[DecidableEq K] (knd:KeyKind prog w K)
def CL (h:Heap):List (List K)→List Value→Prop:=Paired fun k v=>∃ b,v = .ref b∧IsTupleKey knd h k b
def gn (h:Heap) (ks:List (List K)) (a:Addr):Prop:=∃ o items n,h.get? a = some o∧o.cls = .type "tuple" ∧ o.data = .seq items n∧CL knd h ks items.toList
variable {knd}
theorem CL.inj {h:Heap}:∀ {x y:List (List K)}{vs:List Value},CL knd h x vs→CL knd h y vs→x = y
 | _,_,_,.nil,.nil=>rfl
 | _,_,_,.cons ⟨b,e,i⟩ r,.cons ⟨b',e',i'⟩ r' => by
  have z:Value.ref b = Value.ref b' := e.symm.trans e'
  cases z
  rw [i.inj i',CL.inj r r']
theorem gn.ty {s:Shared}{ks:List (List K)}{a:Addr}(x:gn knd s.heap ks a):s.TypeIs (.ref a) "tuple" := let ⟨o,_,_,ho,hc,_⟩:=x;⟨o,ho,hc⟩
theorem gn.inj {h:Heap}{a:Addr}{x y:List (List K)}(hx:gn knd h x a) (hy:gn knd h y a):x = y:=by
 obtain ⟨o,its,n,ho,_,hd,hi⟩:=hx
 obtain ⟨o',its',n',ho',_,hd',hi'⟩:=hy
 rw [ho] at ho'
 cases ho'
 rw [hd] at hd'
 cases hd'
 exact hi.inj hi'
theorem CL.map {h h' : Heap} (f:∀ k b,IsTupleKey knd h k b→IsTupleKey knd h' k b):∀ {ks:List (List K)}{vs:List Value},CL knd h ks vs→CL knd h' ks vs
 | _,_,.nil=>.nil
 | _,_,.cons ⟨b,e,i⟩ r=>.cons ⟨b,e,f _ _ i⟩ (CL.map f r)
theorem gn.keeps {h h' : Heap} {ks:List (List K)}{a d:Addr}{o:Obj}{es ep} (x:gn knd h ks a) (ho:h.get? d = some o) (hd:o.data = .dict es ep) (hs:Heap.SameBut d h h'):gn knd h' ks a:=by
 obtain ⟨o',its,n,ho',hc,hd',hi⟩:=x
 have ne:a≠d:=by
  rintro rfl
  rw [ho] at ho';cases ho'
  rw [hd] at hd';cases hd'
 exact ⟨o',its,n,(hs.2 a ne).trans ho',hc,hd',hi.map fun k b i=>i.keeps ho hd hs⟩
def GJ (knd:KeyKind prog w K) (ks:List (List K)):Int:=reduceHash (Builtin.Tuple.tupleHashOf (ks.map (tupleKeyHash knd)))
def mV (ks:List (List K)):Nat:=(ks.map fun k=>k.length + 1).sum
variable {A:Around}{E:Value→Shared→Prop}{s:Shared}
theorem DL {ks:List (List K)}{a:Addr}{Q:Int→Shared→Prop}(hu:A.units + 1 < cLine) (hk:gn knd s.heap ks a) (h:Q (GJ knd ks) { s with toks:=s.toks + (mV ks + 1) }):wpAny (model prog w) A (pyHash (.ref a)) Q E s:=by
 have hT:=hk.ty
 obtain ⟨o,items,n,ho,_,hd,hi⟩:=hk
 unfold pyHash
 first | unfold pyHashByItsType | skip
 first | refine wpAny_bind (wpAny_cRoomFor_or (.inr (by omega)) ?_) | skip
 refine wpAny_bind (wpAny_specialOf hT F.slot_tuple_hash.lookup ?_)
 rw [if_neg (by rw [beq_builtin_none];exact Bool.false_ne_true)]
 refine wpAny_bind (wpAny_specialOf hT F.slot_tuple_hash.lookup ?_)
 refine wpAny_bind (m:=callSpecialIfBoundUnlessNone? (.ref a) "__hash__" _) (wpAny_callSpecialIfBoundUnlessNone?_slot hT F.slot_tuple_hash (wpAny_call_entry F.slot_tuple_hash hT F.entry_tuple_hash (wpAny_bind (m:=Builtin.Tuple.tupleItemsOf (.ref a)) (wpAny_tupleItemsOf ho hd (wpAny_bind ?_))) (F.args_tuple_hash_1 _)))
 rw [← Array.forIn_toList]
 refine wpAny_forIn_list _ (fun rest (b:Array Int) s' => ∃ done left,ks = done ++ left∧CL knd s.heap left rest∧b.toList = done.map (tupleKeyHash knd)∧s' = { s with toks:=s.toks + mV done }) _ ?_ ?_ _ _ ⟨[],ks,rfl,hi,rfl,rfl⟩
 ·rintro x rest b s' ⟨done,left,rfl,hl,hb,rfl⟩
  cases hl with
  | @cons k _ ks' _ h1 hl' =>
   obtain ⟨c,rfl,hc⟩:=h1
   have hdr:mV (done ++ [k]) = mV done + (k.length + 1):=by simp [mV]
   refine wpAny_bind (wpAny_pyHash_tuple (s:={ s with toks:=s.toks + mV done }) (by show A.units + 1 < cLine;exact hu) hc ?_)
   have fin:({ s with toks:=s.toks + mV done + (k.length + 1) }:Shared) = { s with toks:=s.toks + mV (done ++ [k]) }:=by rw [hdr,Nat.add_assoc]
   first
    | exact wpAny_pure ⟨done ++ [k],ks',by simp,hl',by simp [hb],fin⟩
    | exact wpAny_bind (wpAny_pure (wpAny_pure ⟨done ++ [k],ks',by simp,hl',by simp [hb],fin⟩))
 ·rintro b s' ⟨done,left,rfl,hl,hb,rfl⟩
  cases hl
  rw [List.append_nil] at h
  show wpAny _ _ (retInt (Builtin.Tuple.tupleHashOf b.toList)) _ _ _
  rw [hb]
  refine wpAny_ret_mkInt ?_
  unfold GJ at h
  generalize Builtin.Tuple.tupleHashOf (done.map (tupleKeyHash knd)) = x at h
  show wpAny _ _ (if (decide (-(2:Int) ^ 63≤x) && decide (x < 2 ^ 63)) = true then _ else _) Q E _
  unfold reduceHash at h
  by_cases hr:(decide (-(2:Int) ^ 63≤x) && decide (x < 2 ^ 63)) = true
  ·rw [if_pos hr];rw [if_pos hr] at h;exact wpAny_pure (by simpa [Nat.add_assoc] using h)
  ·rw [if_neg hr];rw [if_neg hr] at h;exact wpAny_bind (wpAny_rule (wpAny_pure (by simpa [Nat.add_assoc] using h)))
theorem GK {x y:List (List K)}{a b:Addr}{P:Fin→Shared→Prop}(hu:A.units < cLine) (hx:gn knd s.heap x a) (hy:gn knd s.heap y b) (h:P (.done (.ret (.bool (decide (x = y))))) s):wpAny (model prog w) A (Builtin.«tuple.__eq__» ⟨[.ref a,.ref b],[]⟩) P E s:=by
 have hTb:=hy.ty
 obtain ⟨oa,xs,na,hoa,_,hda,ZS⟩:=hx
 obtain ⟨ob,ys,nb,hob,_,hdb,hib⟩:=hy
 refine wpAny_bind (m:=isInstance (.ref b) (.type "tuple")) (wpAny_isInstance hTb isSubtype_tuple_tuple ?_)
 simp only [Bool.not_true,if_false,Bool.false_eq_true]
 refine wpAny_bind (wpAny_tupleItemsOf hoa hda (wpAny_bind (wpAny_tupleItemsOf hob hdb (wpAny_bind ?_))))
 refine wpAny_forIn_list _ (fun rest r s' => r.1 = none∧s' = s∧∃ x' y' xs' ys',rest = List.zip xs' ys' ∧ CL knd s.heap x' xs' ∧ CL knd s.heap y' ys' ∧ decide (x' = y') = decide (x = y)∧(xs'.length == ys'.length) = (xs.size == ys.size)) _ ?_ ?_ _ _ ⟨rfl,rfl,x,y,xs.toList,ys.toList,rfl,ZS,hib,rfl,by simp⟩
 ·rintro ⟨u,v⟩ rest r s' ⟨hr,rfl,x',y',xs',ys',hz,hx',hy',JF,hlen⟩
  cases hx' with
  | nil=>simp at hz
  | @cons k1 u' x'' aag h1 aah=>
   cases hy' with
   | nil=>simp at hz
   | @cons k2 v' y'' aai h2 aaj=>
    simp only [List.cons.injEq,List.zip_cons_cons,Prod.mk.injEq] at hz
    obtain ⟨⟨rfl,rfl⟩,rfl⟩:=hz
    obtain ⟨c1,rfl,i1⟩:=h1
    obtain ⟨c2,rfl,i2⟩:=h2
    refine wpAny_bind (wpAny_eqBool_tuple hu i1 i2 ?_)
    by_cases hk:k1 = k2
    ·subst hk
     rw [decide_eq_true rfl]
     simp only [Bool.not_true,if_false,Bool.false_eq_true]
     refine wpAny_pure ⟨rfl,rfl,x'',y'',aag,aai,rfl,aah,aaj,?_,by simpa using hlen⟩
     rw [← JF]
     by_cases hxy:x'' = y'' <;> simp [hxy]
    ·rw [decide_eq_false hk]
     simp only [Bool.not_false,if_true]
     have hf:decide (x = y) = false:=by rw [← JF];simp [hk]
     rw [hf] at h
     exact wpAny_bind (wpAny_pure (wpAny_pure (wpAny_pure h)))
 ·rintro ⟨r1,r2⟩ s' ⟨hr,rfl,x',y',xs',ys',hz,hx',hy',JF,hlen⟩
  simp only at hr
  subst hr
  refine wpAny_pure ?_
  have e:(xs.size == ys.size) = decide (x = y):=by
   rw [← JF,← hlen]
   cases hx' with
   | nil=>cases hy' with
    | nil=>simp
    | cons _ _=>simp
   | cons _ _=>cases hy' with
    | nil=>simp
    | cons _ _=>simp at hz
  show P (.done (.ret (.bool (xs.size == ys.size)))) s'
  rw [e];exact h
theorem JG {x y:List (List K)}{a b:Addr}{Q:Bool→Shared→Prop}(hu:A.units + 1 < cLine) (hx:gn knd s.heap x a) (hy:gn knd s.heap y b) (h:Q (decide (x = y)) s):wpAny (model prog w) A (eqBool (.ref a) (.ref b)) Q E s:=by
 unfold eqBool
 try with_reducible refine wpAny_holding ?_
 by_cases hab:(Value.ref a == Value.ref b) = true
 ·rw [if_pos hab]
  have e:a = b:=by have:=eq_of_beq hab;injection this
  subst e
  obtain rfl:=hx.inj hy
  exact wpAny_bind (wpAny_rule (wpAny_pure (by simpa using h)))
 ·rw [if_neg hab]
  exact wpAny_bind (wpAny_richCompare_same_room (op:=.Eq) hx.ty hy.ty F.slot_tuple_eq (wpAny_call_entry F.slot_tuple_eq hx.ty F.entry_tuple_eq (GK (by show A.units + 1 < cLine;exact hu) hx hy ⟨_,rfl,(fun e=>nomatch e),wpAny_truthy_bool h⟩) (F.args_tuple_eq_2 _ _)) (by omega))
theorem O8 {ks:List K}{a:Addr}{m:Nat}{Q:Bool→Shared→Prop}(hk:IsTupleKey knd s.heap ks a) (h:Q true s):wpAny (model prog w) A (eqIsQuiet (m + 1) (.ref a)) Q E s:=by
 have hT:=hk.typeIs
 obtain ⟨o,items,n,ho,_,hd,hi⟩:=hk
 unfold eqIsQuiet
 refine wpAny_bind (wpAny_specialOf hT F.slot_tuple_eq.lookup (wpAny_bind (m:=isInstance (.ref a) (.type "tuple")) (wpAny_isInstance hT isSubtype_tuple_tuple ?_)))
 simp only [Bool.not_true,if_false,Bool.false_eq_true]
 refine wpAny_bind (wpAny_seqItems ho hd (wpAny_bind (m:=forIn items _ _) ?_));rw [← Array.forIn_toList]
 refine wpAny_forIn_list _ (fun rest r s' => r.1 = none∧s' = s∧∀ v∈rest,carriedByValue v = true) _ ?_ ?_ _ _ ⟨rfl,rfl,hi.byValue⟩
 ·rintro v rest r s' ⟨hr,rfl,hall⟩
  rw [eqIsQuiet_byValue _ (hall v List.mem_cons_self)];refine wpAny_bind (wpAny_pure ?_)
  simp only [Bool.not_true,if_false,Bool.false_eq_true]
  exact wpAny_pure ⟨rfl,rfl,fun u RW=>hall u (List.mem_cons_of_mem _ RW)⟩
 ·rintro ⟨r1,r2⟩ s' ⟨hr,rfl,_⟩
  simp only at hr
  subst hr
  exact wpAny_pure h
theorem O9 {ks:List (List K)}{a:Addr}{Q:Bool→Shared→Prop}(hk:gn knd s.heap ks a) (h:Q true s):wpAny (model prog w) A (eqIsQuiet 8 (.ref a)) Q E s:=by
 have hT:=hk.ty
 obtain ⟨o,items,n,ho,_,hd,hi⟩:=hk
 unfold eqIsQuiet
 refine wpAny_bind (wpAny_specialOf hT F.slot_tuple_eq.lookup (wpAny_bind (m:=isInstance (.ref a) (.type "tuple")) (wpAny_isInstance hT isSubtype_tuple_tuple ?_)))
 simp only [Bool.not_true,if_false,Bool.false_eq_true]
 refine wpAny_bind (wpAny_seqItems ho hd (wpAny_bind (m:=forIn items _ _) ?_));rw [← Array.forIn_toList]
 refine wpAny_forIn_list _ (fun rest r s' => r.1 = none∧s' = s∧∃ left,CL knd s.heap left rest) _ ?_ ?_ _ _ ⟨rfl,rfl,ks,hi⟩
 ·rintro v rest r s' ⟨hr,rfl,left,hl⟩
  cases hl with
  | @cons k _ ks' _ h1 hl' =>
   obtain ⟨c,rfl,hc⟩:=h1
   refine wpAny_bind (O8 (m:=6) hc ?_)
   simp only [Bool.not_true,if_false,Bool.false_eq_true]
   exact wpAny_pure ⟨rfl,rfl,ks',hl'⟩
 ·rintro ⟨r1,r2⟩ s' ⟨hr,rfl,_⟩
  simp only at hr
  subst hr
  exact wpAny_pure h
end
def M4 {prog:Program}{w:World}{K:Type}[DecidableEq K] (knd:KeyKind prog w K):HeapKind prog w (List (List K)) where
 is:=gn knd
 hash:=GJ knd
 draws:=fun ks=>mV ks + 1
 room:=fun A=>A.units + 1 < cLine
 inj:=fun hx hy=>hx.inj hy
 keeps:=fun x ho hd hs=>x.keeps ho hd hs
 pyHash:=fun hu hk h=>DL hu hk h
 eqBool:=fun hu hx hy h=>JG hu hx hy h
 quiet:=fun hk h=>O9 hk h
end L2
namespace L2
open PySem PySem.Spec PyProof.Rows
section
variable {X:Cx}
def Pa (g:Bool→Bool):R2:=fun x y H Q=>∃ b,y = .bl b∧Q (.bl (g (decide (x = .bl b)))) H
theorem GO:oX X (compareOp .Is) (Pa fun b=>b):=by
 intro pins s σ H x y v u Q I rx ry h
 obtain ⟨b,rfl,q⟩:=h
 cases ry
 cases x with
 | bl c=>
  cases rx
  refine wpAny_is_plain (by rfl) (bX I q ?_)
  cases b <;> cases c <;> rfl
 | _=>first
  | (cases rx;exact wpAny_is_plain (by rfl) (bX I q (by first | rfl | (cases b <;> rfl))))
  | (obtain ⟨t,rfl⟩:=rx;exact wpAny_is_plain (by rfl) (bX I q (by first | rfl | (cases b <;> rfl))))
end
section
variable {K:PySem.W.Frag}{σ:St}{G:Hp}{ta tb:TE}{a b d:PyData}
theorem GP {g:Bool→Bool}{c t:Bool}(h:Ev K ta σ G (.bool c)):Ev K (iV (Pa g) ta (tC (.bl t))) σ G (.bool (g (decide (c = t)))):=
 jy h jx fun G1 H u v Q s1 s2 hu hv k=>by
  rw [hu.bl,hv.bl]
  refine ⟨t,rfl,?_⟩
  have e:decide (V.bl c = V.bl t) = decide (c = t):=decide_eq_decide.mpr ⟨fun z=>by injection z,fun z=>by rw [z]⟩
  rw [e]
  exact k _ G1 H (bO.refl s2) (bQ _)
theorem GQ {g:Bool→Bool}{ds:List PyData}{t:Bool}(h:Ev K ta σ G (.list ds)):Ev K (iV (Pa g) ta (tC (.bl t))) σ G (.bool (g false)):=
 jy h jx fun G1 H u v Q s1 s2 hu hv k=>by
  obtain ⟨p,xs,rfl,_,_⟩:=hu.lst
  rw [hv.bl]
  refine ⟨t,rfl,?_⟩
  have e:decide (V.ref p = V.bl t) = false:=decide_eq_false fun z=>by cases z
  rw [e]
  exact k _ G1 H (bO.refl s2) (bQ _)
theorem oN {g:Bool→Bool}(ha:Ev K ta σ G a) (hb:Ev K tb σ G b) (sh:SeqAt.shaped a = true∧SeqAt.shaped b = true∧SeqAt.noMix a b = true):Ev K (iV (C7 K g) ta tb) σ G (.bool (g (PySem.Spec.same a b))):=
 jy ha hb fun G1 H x y Q s1 s2 hx hy k=>⟨G1,a,b,s2,hx,hy,sh,k _ G1 H (bO.refl s2) (bQ _)⟩
def kD:Key→PyData
 | .inl i=>.int i
 | .inr x=>.str x
theorem Pb {v:V}{k:Key}(h:Dat K G v (kD k)):v = kV k:=by
 cases k with
 | inl i=>exact h.int
 | inr x=>exact h.str
def Pc (K:PySem.W.Frag) (σ:St) (G:Hp):List (TE × TE)→List (Key × PyData)→Prop
 | [],[]=>True
 | (tk,tv) :: r,(k,d) :: ds=>Ev K tk σ G (kD k)∧Ev K tv σ G d∧Pc K σ G r ds
 | _,_=>False
theorem qE:∀ (more acc:List (Key × V)),((acc ++ more).map (·.1)).Nodup→gQ acc more = acc ++ more
 | [],acc,_=>by simp [gQ]
 | p :: r,acc,h=>by
  have hp:(acc.any fun kv=>decide (kv.1 = p.1)) = false:=by
   rw [List.any_eq_false]
   intro q hq e
   have e' : q.1 = p.1:=of_decide_eq_true e
   rw [List.map_append,List.nodup_append] at h
   exact h.2.2 q.1 (List.mem_map_of_mem hq) p.1 (by simp) e'
  have e1:gQ acc (p :: r) = gQ (acc ++ [p]) r:=by
   show gQ (putK acc p.1 p.2) r = _
   unfold putK
   rw [if_neg (by rw [hp];exact Bool.false_ne_true)]
  rw [e1,qE r (acc ++ [p]) (by simpa using h)]
  simp
theorem Aj:∀ (AE:List (TE × TE)) (yG:List (Key × PyData)),Pc K σ G AE yG→∀ G1 H,aN G G1→aN G1 H→∀ Q:List (V × V)→Hp→Prop,
  (∀ kvs:List (Key × V),∀ G' H',bO G1 H G' H' → kvs.map (·.1) = yG.map (·.1)→bJ K G' (kvs.map (·.2)) (yG.map (·.2))→Q (kvs.map fun kv=>(kV kv.1,kv.2)) H')→xP AE σ H Q
 | [],[],_,G1,H,s1,s2,Q,k=>k [] G1 H (bO.refl s2) rfl bE
 | (tk,tv) :: r,(k0,d0) :: ds,h,G1,H,s1,s2,Q,k=>h.1 G1 H s1 s2 _ fun v1 G2 H2 g2 h1=>h.2.1 G2 H2 (s1.trans g2.gg) g2.gh _ fun v2 G3 H3 g3 h2=>
  Aj r ds h.2.2 G3 H3 ((s1.trans g2.gg).trans g3.gg) g3.gh _ fun kvs G4 H4 g4 e hd=>by
   have:=k ((k0,v2) :: kvs) G4 H4 ((g2.trans g3).trans g4) (by simp [e]) (bh (h2.same g4.gg) hd)
   rw [Pb h1]
   exact this
 | [],_ :: _,h,_,_,_,_,_,_=>h.elim
 | _ :: _,[],h,_,_,_,_,_,_=>h.elim
theorem Ak:∀ (kvs:List (Key × V)) (yG:List (Key × PyData)) (G' : Hp),kvs.map (·.1) = yG.map (·.1)→bJ K G' (kvs.map (·.2)) (yG.map (·.2))→∀ k d,(yG.find? fun kv=>decide (kv.1 = k)).map (·.2) = some d→∃ v,m7 kvs k = some v∧Dat K G' v d
 | [],[],_,_,_,k,d,h=>by cases h
 | (k1,v1) :: r,(k2,d2) :: ds,G',e,hd,k,d,h=>by
  simp only [List.map_cons,List.cons.injEq] at e
  obtain ⟨rfl,e⟩:=e
  obtain ⟨y,ys,ey,hy,hr⟩:=hd.cons
  simp only [List.map_cons,List.cons.injEq] at ey
  obtain ⟨rfl,rfl⟩:=ey
  by_cases hk:k1 = k
  ·subst hk
   rw [qm (by rfl)]
   have:d2 = d:=by simpa using h
   subst this
   exact ⟨_,rfl,hy⟩
  ·have h' : (ds.find? fun kv=>decide (kv.1 = k)).map (·.2) = some d:=by simpa [List.find?_cons,hk] using h
   obtain ⟨v,ev,dv⟩:=Ak r ds G' e hr k d h'
   exact ⟨v,by rw [← ev];simp [m7,List.find?_cons,hk],dv⟩
 | [],_ :: _,_,e,_,_,_,_=>by simp at e
 | _ :: _,[],_,e,_,_,_,_=>by simp at e
theorem yr {AE:List (TE × TE)}{ty:TE}{yG:List (Key × PyData)}{k:Key}(h:Pc K σ G AE yG) (hl:yG.length≤15) (hn:(yG.map (·.1)).Nodup) (hy:Ev K ty σ G (kD k)) (hd:(yG.find? fun kv=>decide (kv.1 = k)).map (·.2) = some d):
  Ev K (MM (MN AE) ty) σ G d:=fun G1 H s1 s2 Q q p hp=>by
 refine Aj AE yG h G1 _ s1 (s2.trans (fun b o e=>by rw [aI (aC e hp)];exact e)) _ fun kvs G2 H2 g2 e1 e2=>?_
 have hlen:kvs.length = yG.length:=by have:=congrArg List.length e1;simpa using this
 have hp2:H2 p = some (.dK []):=g2.hh _ _ aE
 refine ⟨hp2,kvs,rfl,by omega,?_⟩
 have hm:gQ [] kvs = kvs:=by rw [qE kvs [] (by rw [List.nil_append,e1];exact hn)];rfl
 rw [hm]
 have hgp:G1 p = none:=s2.free hp
 have aak:G2 p = none:=g2.out aE hgp
 have s3:aN G2 (upd H2 p (.dK kvs)):=dY g2.gh aak
 refine hy G2 _ (s1.trans g2.gg) s3 _ fun v G3 H3 g3 hv=>?_
 obtain ⟨w,ew,dw⟩:=Ak kvs yG G2 e1 e2 k d hd
 refine ⟨p,w,rfl,?_,q w G3 H3 ⟨g2.gg.trans g3.gg,g3.gh,fun b o e=>?_,fun b o e=>?_⟩ (dw.same g3.gg)⟩
 ·rw [Pb hv,← ew]
  exact uB.k (g3.hh _ _ aE)
 ·exact g3.hh _ _ (by rw [aI (aC e hp)];exact g2.hh _ _ (by rw [aI (aC e hp)];exact e))
 ·rcases g3.fr b o e with e | e
  ·rcases g2.fr b o e with e | e
   ·exact .inl e
   ·by_cases hb:b = p
    ·subst hb;exact .inr hp
    ·rw [aI hb] at e;exact .inr e
  ·by_cases hb:b = p
   ·subst hb;exact .inr hp
   ·rw [aI hb] at e
    refine .inr ?_
    cases eb:H b with
    | none=>rfl
    | some u=>
     have:=g2.hh b u (by rw [aI hb];exact eb)
     rw [e] at this;cases this
end
end L2
namespace L2
open PySem PySem.Spec PyProof.Rows
abbrev KX:=List (List Key)
def Al (k:KX):PyData:=.tuple (k.map fun l=>.tuple (l.map kD))
def SQ (P:Program) (w:World) (a:Addr) (xs:List (KX × Addr)) (h:Heap):Prop:=(a == sysModules) = false∧xs.length≤sizeLine∧∃ o es ep,h.get? a = some o∧o.ExactDict∧o.data = .dict es ep∧es.toList = xs.map (fun x=>entryOfKey (M4 (cy P w)) (x.1,x.2,.bool true))∧(xs.map (·.1)).Nodup
def dX (P:Program) (w:World) (a:Addr) (xs:List (KX × Addr)):HO:=.ext (SQ P w a xs)
def GR (xs:List (KX × Addr)) (k:KX):Bool:=xs.any fun x=>decide (x.1 = k)
theorem ve {xs:List (KX × Addr)}{k:KX}:GR xs k = true↔k∈xs.map (·.1):=by
 unfold GR
 rw [List.any_eq_true]
 constructor
 ·rintro ⟨x,hx,e⟩
  exact List.mem_map.mpr ⟨x,hx,of_decide_eq_true e⟩
 ·intro h
  obtain ⟨x,hx,e⟩:=List.mem_map.mp h
  exact ⟨x,hx,decide_eq_true e⟩
def yt (xs:List (KX × Addr)) (k:KX) (b:Addr):List (KX × Addr):=if GR xs k = true then xs else xs ++ [(k,b)]
theorem GS {P:Program}{w:World}{H:Hp}{h:Heap}{a:Addr}{xs:List (KX × Addr)}(x:SQ P w a xs h):cC P w H h a (dX P w a xs):=by
 refine ⟨x,?_,fun h1 h2 y k=>?_⟩
 ·obtain ⟨_,_,o,_,_,e,_⟩:=x
  exact ⟨o,e⟩
 ·obtain ⟨z1,z2,o,es,ep,e,r⟩:=y
  exact ⟨z1,z2,o,es,ep,k o e,r⟩
section
variable {X:Cx}{pins:List (Addr × Obj)}{σ:St}{H G:Hp}{s:Shared}
theorem GU (I:Inv X pins σ H s) (sg:aN G H):∀ {k:KX}{xs:List V}{its:List Value},Vals xs its→bJ X.K G xs (k.map fun l=>.tuple (l.map kD))→CL (cy X.prog X.w) s.heap k its
 | [],_,_,r,h=>by
  have e:=h.nil
  subst e
  cases r
  exact .nil
 | l :: k,_,_,r,h=>by
  obtain ⟨y,ys,rfl,hy,hr⟩:=h.cons
  cases r with
  | cons r1 r2=>
   obtain ⟨p,zs,rfl,hp,hz⟩:=Dat.tup hy
   cases r1
   obtain ⟨jts,rj,⟨o,h1,h2,n,h3⟩,zz⟩:=I.tuple (sg.tup hp)
   clear zz
   have e:zs = l.map kV:=by
    clear rj hp hr r2 hy h
    induction l generalizing zs with
    | nil=>exact hz.nil
    | cons q l ih=>
     obtain ⟨u,us,rfl,hu,Eh⟩:=hz.cons
     rw [Pb hu,ih us Eh];rfl
   subst e
   exact .cons ⟨p,rfl,o,jts.toArray,n,h1,h2,h3,by simpa using qY rj⟩ (GU I sg r2 hr)
theorem GV (I:Inv X pins σ H s) (sg:aN G H) {k:KX}{b:Addr}(h:Dat X.K G (.ref b) (Al k)):gn (cy X.prog X.w) s.heap k b:=by
 obtain ⟨p,xs,e,hp,hx⟩:=Dat.tup h
 cases e
 obtain ⟨its,r,⟨o,h1,h2,n,h3⟩,_⟩:=I.tuple (sg.tup hp)
 exact ⟨o,its.toArray,n,h1,h2,h3,by simpa using GU I sg r hx⟩
def Pd (P:Program) (w:World):TE:=fun _ H Q=>∀ p,H p = none→Q (.ref p) (upd H p (dX P w p []))
theorem GX {P:Program}{w:World}(eP:X.prog = P) (ew:X.w = w) {pos:Pos}:PE X (.Dict [] [] pos) (Pd P w):=by
 subst eP ew
 exact fun pins s σ H Q I h=>
 wpAny_Dict_empty ⟨.ref s.heap.objs.size,_,I.laid (a:=s.heap.objs.size) (o:=dX X.prog X.w s.heap.objs.size []) (t' := s.toks) (fun _ _ q=>Heap.get?_push_of_some _ q) (Nat.le_refl _)
  (GS ⟨beq_eq_false_iff_ne.mpr (Ne.symm (Nat.ne_of_lt I.big)),Nat.zero_le _,_,#[],0,Heap.get?_push_size _ rfl,⟨rfl,rfl,rfl⟩,rfl,rfl,List.nodup_nil⟩),rfl,h _ (I.hok.fresh (Nat.le_refl _))⟩
def Pe (P:Program) (w:World) (K:PySem.W.Frag) (td ty tv:TE):TS:=fun D σ H=>tv σ H fun v H1=>td σ H1 fun x H2=>ty σ H2 fun y H3=>∃ (a b:Addr) (k:KX) (xs:List (KX × Addr)) (G:Hp),v = .bl true∧x = .ref a∧y = .ref b∧H3 a = some (dX P w a xs)∧aN G H3∧Dat K G (.ref b) (Al k)∧(∀ z∈xs,Dat K G (.ref z.2) (Al z.1))∧xs.length < sizeLine∧D.nx σ (upd H3 a (dX P w a (yt xs k b)))
theorem rK {P:Program}{w:World}:∀ (xs:List (KX × Addr)) (k:KX),(atKey (xs.map fun x=>(x.1,x.2,Value.bool true)) k = none↔k ∉ xs.map (·.1))
 | [],k=>by simp [atKey]
 | x :: r,k=>by
  have ih:=rK (P:=P) (w:=w) r k
  unfold atKey at ih ⊢
  by_cases h:x.1 = k
  ·simp [List.find?_cons,h]
  ·have h' : ¬ k = x.1:=fun e=>h e.symm
   simp only [List.map_cons,List.find?_cons,h,decide_false,List.mem_cons,h',false_or]
   exact ih
theorem BL {P:Program}{w:World}(xs:List (KX × Addr)) (k:KX) (b:Addr):storedH (xs.map fun x=>(x.1,x.2,Value.bool true)) k b (.bool true) = (yt xs k b).map fun x=>(x.1,x.2,Value.bool true):=by
 by_cases h:k∈xs.map (·.1)
 ·have hn:atKey (xs.map fun x=>(x.1,x.2,Value.bool true)) k≠none:=fun e=>((rK (P:=P) (w:=w) xs k).mp e) h
  obtain ⟨p,hp⟩:=Option.ne_none_iff_exists'.mp hn
  rw [storedH_old hp,yt,if_pos (ve.mpr h),List.map_map]
  refine List.map_congr_left fun x _=>?_
  show putAt k (.bool true) (x.1,x.2,.bool true) = _
  unfold putAt
  split <;> rfl
 ·rw [storedH_new ((rK (P:=P) (w:=w) xs k).mpr h),yt,if_neg (fun z=>h (ve.mp z)),List.map_append];rfl
theorem GY {P:Program}{w:World}{K:PySem.W.Frag}(eP:X.prog = P) (ew:X.w = w) (eK:X.K = K) {o i value:Expr}{pos pos' : Pos} {td ty tv:TE}(hu:X.A.units + 64 < cLine) (ho:PE X o td) (hi:PE X i ty) (hv:PE X value tv) (hs:swapsWith value (some (.Subscript o i pos')) pos.line X.env = pure false):
  PS X (.Assign [.Subscript o i pos'] value pos) (Pe P w K td ty tv):=by
 subst eP ew eK
 intro pins s σ H D I h
 refine wpAny_Assign_Subscript (cJ (hv pins s σ H _ I h) fun r s1 ⟨v,H1,I1,rv,q1⟩=>cJ (ho pins s1 σ H1 _ I1 q1) fun u s2 ⟨x,H2,I2,rx,q2⟩=>cJ (hi pins s2 σ H2 _ I2 q2) fun iv s3 ⟨y,H3,I3,ry,a,b,k,xs,G,ev,ex,ey,ha,sg,hb,hxs,hl,q3⟩=>?_) hs
 subst ev ex ey
 obtain rfl:r = Value.bool true:=rv
 obtain rfl:u = Value.ref a:=rx
 obtain rfl:iv = Value.ref b:=ry
 obtain ⟨⟨hsm,_,o',es,ep,h1,h2,h3,h4,h5⟩,_⟩:=(show cC X.prog X.w H3 s3.heap a (dX X.prog X.w a xs) from I3.hok a _ ha)
 have dd:s3.heap.DictOfH (M4 (cy X.prog X.w)) a (xs.map fun x=>(x.1,x.2,Value.bool true)):=⟨o',es,ep,h1,h2,h3,by rw [h4,List.map_map];rfl,fun z hz=>by
  obtain ⟨x,hx,rfl⟩:=List.mem_map.mp hz
  exact GV I3 sg (hxs x hx),by rw [List.map_map];exact h5⟩
 refine wpAny_setItem_heap (hsz:=by rw [List.length_map];omega) (show X.A.units + 1 + 1 < cLine by omega) (GV I3 sg hb) dd fun h' RZ hs=>?_
 rw [BL (P:=X.prog) (w:=X.w)] at RZ
 obtain ⟨q,es',Q7,hq,g2,g3,g4,_,g5⟩:=RZ
 have hlen:(yt xs k b).length≤sizeLine:=by
  unfold yt
  split
  ·omega
  ·rw [List.length_append];show xs.length + 1≤sizeLine;omega
 exact ⟨σ,_,Cv I3 (by rw [ha];exact True.intro) hs ⟨q,hq⟩ (GS ⟨hsm,hlen,q,es',Q7,hq,g2,g3,by rw [g4,List.map_map];rfl,by rw [List.map_map] at g5;exact g5⟩),q3⟩
def SR (P:Program) (w:World):List V→Hp→VK→Prop:=fun vs H Q=>∃ (a:Addr) (xs:List (KX × Addr)),vs = [.ref a]∧H a = some (dX P w a xs)∧∀ l,H l = none→Q (.ref l) (upd H l (.lst (xs.map fun x=>V.ref x.2)))
theorem BN {P:Program}{w:World}(eP:X.prog = P) (ew:X.w = w) (hc:X.calm = true):gU X (.type "list") (SR P w):=by
 subst eP ew
 intro pins s σ H xs us Q I r h
 obtain ⟨a,ks,rfl,ha,q⟩:=h
 obtain ⟨u,rfl,rx⟩:=vals1 r
 cases rx
 obtain ⟨⟨hsm,hl,o',es,ep,h1,h2,h3,h4,h5⟩,_⟩:=(show cC X.prog X.w H s.heap a (dX X.prog X.w a ks) from I.hok a _ ha)
 have hsz:es.size = ks.length:=by rw [← Array.length_toList,h4,List.length_map]
 refine vd (I.ok.hd hc) hsm ⟨o',h1,h2,h3⟩ (by omega) fun s' acc c' hk hs' hS hacc=>?_
 have hv:Vals (ks.map fun x=>V.ref x.2) acc.toList:=by
  have e:acc.toList = ks.map fun x=>Value.ref x.2:=by
   refine List.ext_getElem? fun j=>?_
   rw [List.getElem?_map,Array.getElem?_toList]
   cases ev:acc[j]? with
   | none=>
    have hj:acc.size≤j:=by simpa using ev
    rw [List.getElem?_eq_none (by rw [← hsz,← hacc.1];exact hj)];rfl
   | some v=>
    obtain ⟨en,he,rfl⟩:=hacc.2 j v ev
    rw [← Array.getElem?_toList,h4,List.getElem?_map] at he
    cases ek:ks[j]? with
    | none=>rw [ek] at he;cases he
    | some x=>rw [ek] at he;cases he;rfl
  rw [e]
  have key:∀ l:List (KX × Addr),Vals (l.map fun x=>V.ref x.2) (l.map fun x=>Value.ref x.2):=fun l=>by
   induction l with
   | nil=>exact .nil
   | cons x r ih=>exact .cons rfl ih
  exact key ks
 rw [hs']
 exact ⟨.ref s.heap.objs.size,_,I.laid (t' := s'.toks) hk (Nat.le_refl _) (show cC X.prog X.w _ s'.heap _ (.lst (ks.map fun x=>V.ref x.2)) from ⟨by rw [List.length_map];exact hl,acc.toList,c',hv,by rw [hS]⟩),rfl,q _ (I.hok.fresh (Nat.le_refl _))⟩
end
end L2
namespace Look
open PySem Ord Rdo
abbrev Fs:=List (Int × Int)
def iH (book:List Str) (ws:List Wd) (f g:Fs):An:=match ev (dZ book f g) ws [] with
 | .an a :: _=>a
 | _=>.like
theorem Am {fld:Str→Prop}{num:Int→Int→Prop}{book:List Str}{ws:List Wd}(f g:Fs) (hf:∀ z,fld z→cD z = none) (h:nB fld num ws):∀ R,ev (dZ book f g) ws R = .an (iH book ws f g) :: R:=by
 obtain ⟨a,ha⟩:=FI (dZ book f g) hf h
 have e:iH book ws f g = a:=by unfold iH;rw [ha []]
 rw [e];exact ha
theorem GZ {book:List Str}{ws:List Wd}{f g:Fs}{a:An}(h:∀ R,ev (dZ book f g) ws R = .an a :: R):iH book ws f g = a:=by unfold iH;rw [h []]
def n9 (i j:Nat):An:=if i < j then .ahead else if i > j then .behind else .like
def rk (L:Fs→Fs→An) (gs:List Fs) (f:Fs):Nat:=gs.countP fun g=>decide (L f g = .behind)
def agree (L:Fs→Fs→An) (gs:List Fs):Bool:=gs.all fun f=>gs.all fun g=>decide (L f g = n9 (rk L gs f) (rk L gs g))
structure Wk (L:Fs→Fs→An) (D:Fs→Prop):Prop where
 anti:∀ f g,D f→D g→L g f = (L f g).turn
 trans:∀ f g h,D f→D g→D h→L f g≠.behind→L g h≠.behind→L f h≠.behind
theorem Ao {a:An}(h:a.turn = .behind):a = .ahead:=by cases a <;> first | rfl | cases h
theorem Wk.self {L:Fs→Fs→An}{D:Fs→Prop}(w:Wk L D) {f:Fs}(hf:D f):L f f = .like:=by
 have:=w.anti f f hf hf
 cases e:L f f with
 | like=>rfl
 | ahead=>rw [e] at this;cases this
 | behind=>rw [e] at this;cases this
theorem Wk.sub {L:Fs→Fs→An}{D D' : Fs→Prop} (w:Wk L D) (h:∀ f,D' f→D f):Wk L D' := ⟨fun f g a b=>w.anti f g (h f a) (h g b),fun f g k a b c=>w.trans f g k (h f a) (h g b) (h k c)⟩
theorem Wk.Hf {L:Fs→Fs→An}{D:Fs→Prop}(w:Wk L D) {f g h:Fs}(hf:D f) (hg:D g) (hh:D h) (a:L f g = .ahead) (b:L g h≠.behind):L f h = .ahead:=by
 have n1:L f h≠.behind:=w.trans f g h hf hg hh (by rw [a];decide) b
 cases e:L f h with
 | ahead=>rfl
 | behind=>exact absurd e n1
 | like=>
  have e2:L h f = .like:=by rw [w.anti f h hf hh,e];rfl
  have:=w.trans g h f hg hh hf b (by rw [e2];decide)
  have e3:L g f = .behind:=by rw [w.anti f g hf hg,a];rfl
  exact absurd e3 this
theorem Wk.SS {L:Fs→Fs→An}{D:Fs→Prop}(w:Wk L D) {f g h:Fs}(hf:D f) (hg:D g) (hh:D h) (a:L f g≠.behind) (b:L g h = .ahead):L f h = .ahead:=by
 have n1:L f h≠.behind:=w.trans f g h hf hg hh a (by rw [b];decide)
 cases e:L f h with
 | ahead=>rfl
 | behind=>exact absurd e n1
 | like=>
  have e2:L h f = .like:=by rw [w.anti f h hf hh,e];rfl
  have:=w.trans h f g hh hf hg (by rw [e2];decide) a
  have e3:L h g = .behind:=by rw [w.anti g h hg hh,b];rfl
  exact absurd e3 this
theorem p5 {α:Type}{p q:α→Bool}:∀ {l:List α},(∀ x∈l,p x = true→q x = true)→l.countP p≤l.countP q
 | [],_=>Nat.le_refl _
 | x :: r,h=>by
  have ih:=p5 (p:=p) (q:=q) (l:=r) fun y hy=>h y (List.mem_cons_of_mem _ hy)
  rw [List.countP_cons,List.countP_cons]
  have:=h x List.mem_cons_self
  cases e:p x with
  | false=>simp;omega
  | true=>rw [this e];simp;omega
theorem vh {α:Type}{p q:α→Bool}:∀ {l:List α},(∀ x∈l,p x = true→q x = true)→(∃ x∈l,p x = false∧q x = true)→l.countP p < l.countP q
 | [],_,⟨x,hx,_⟩=>by cases hx
 | x :: r,h,⟨y,hy,e1,e2⟩=>by
  rw [List.countP_cons,List.countP_cons]
  have le:=p5 (p:=p) (q:=q) (l:=r) fun z hz=>h z (List.mem_cons_of_mem _ hz)
  rcases List.mem_cons.mp hy with rfl | hy
  ·rw [e1,e2];simp;omega
  ·have ih:=vh (p:=p) (q:=q) (l:=r) (fun z hz=>h z (List.mem_cons_of_mem _ hz)) ⟨y,hy,e1,e2⟩
   have:=h x List.mem_cons_self
   cases e:p x with
   | false=>simp;omega
   | true=>rw [this e];simp;omega
theorem M5 {L:Fs→Fs→An}{gs:List Fs}(w:Wk L (· ∈ gs)) {f g:Fs}(hf:f∈gs) (hg:g∈gs) (a:L f g = .ahead):rk L gs f < rk L gs g:=by
 refine vh (fun h hh e=>?_) ⟨f,hf,?_,?_⟩
 ·have e' : L f h = .behind:=of_decide_eq_true e
  have e2:L h f = .ahead:=by rw [w.anti f h hf hh,e'];rfl
  have e3:=w.Hf hh hf hg e2 (by rw [a];decide)
  exact decide_eq_true (by rw [w.anti h g hh hg,e3];rfl)
 ·rw [w.self hf];decide
 ·exact decide_eq_true (by rw [w.anti f g hf hg,a];rfl)
theorem M6 {L:Fs→Fs→An}{gs:List Fs}(w:Wk L (· ∈ gs)) {f g:Fs}(hf:f∈gs) (hg:g∈gs) (a:L f g≠.behind):rk L gs f≤rk L gs g:=by
 refine p5 fun h hh e=>?_
 have e' : L f h = .behind:=of_decide_eq_true e
 have e2:L h f = .ahead:=by rw [w.anti f h hf hh,e'];rfl
 have e3:=w.Hf hh hf hg e2 a
 exact decide_eq_true (by rw [w.anti h g hh hg,e3];rfl)
theorem DM (L:Fs→Fs→An) (gs:List Fs):agree L gs = true↔Wk L (· ∈ gs):=by
 constructor
 ·intro h
  have key:∀ f g,f∈gs→g∈gs→L f g = n9 (rk L gs f) (rk L gs g):=fun f g hf hg=>by
   unfold agree at h
   exact of_decide_eq_true (List.all_eq_true.mp (List.all_eq_true.mp h f hf) g hg)
  refine ⟨fun f g hf hg=>?_,fun f g k hf hg hk a b=>?_⟩
  ·rw [key f g hf hg,key g f hg hf]
   unfold n9
   generalize rk L gs f = i
   generalize rk L gs g = j
   by_cases h1:i < j
   ·have:¬ j < i:=by omega
    simp only [h1,this,if_true,if_false,gt_iff_lt];rfl
   ·by_cases h2:j < i
    ·simp only [h1,h2,if_true,if_false,gt_iff_lt];rfl
    ·simp only [h1,h2,if_false,gt_iff_lt];rfl
  ·rw [key f g hf hg] at a
   rw [key g k hg hk] at b
   rw [key f k hf hk]
   revert a b
   unfold n9
   generalize rk L gs f = i
   generalize rk L gs g = j
   generalize rk L gs k = m
   intro a b
   have h1:¬ i > j:=fun z=>a (by rw [if_neg (by omega),if_pos z])
   have h2:¬ j > m:=fun z=>b (by rw [if_neg (by omega),if_pos z])
   by_cases h3:i < m
   ·rw [if_pos h3];decide
   ·rw [if_neg h3,if_neg (by omega)];decide
 ·intro w
  unfold agree
  refine List.all_eq_true.mpr fun f hf=>List.all_eq_true.mpr fun g hg=>decide_eq_true ?_
  unfold n9
  cases e:L f g with
  | ahead=>rw [if_pos (M5 w hf hg e)]
  | behind=>
   have e2:L g f = .ahead:=by rw [w.anti f g hf hg,e];rfl
   have:=M5 w hg hf e2
   rw [if_neg (by omega),if_pos this]
  | like=>
   have e2:L g f = .like:=by rw [w.anti f g hf hg,e];rfl
   have h1:=M6 w hf hg (by rw [e];decide)
   have h2:=M6 w hg hf (by rw [e2];decide)
   rw [if_neg (by omega),if_neg (by omega)]
def uniq (fs:List Fs):List Fs:=fs.foldl (fun acc f=>if (acc.any fun g=>decide (g = f)) = true then acc else acc ++ [f]) []
theorem vj (fs:List Fs):∀ f,f∈uniq fs↔f∈fs:=by
 have key:∀ (l acc:List Fs) (f:Fs),f∈l.foldl (fun acc f=>if (acc.any fun g=>decide (g = f)) = true then acc else acc ++ [f]) acc↔f∈acc∨f∈l:=by
  intro l
  induction l with
  | nil=>intro acc f;simp
  | cons x r ih=>
   intro acc f
   rw [List.foldl_cons,ih]
   by_cases h:(acc.any fun g=>decide (g = x)) = true
   ·rw [if_pos h]
    obtain ⟨y,hy,e⟩:=List.any_eq_true.mp h
    have e' : y = x:=of_decide_eq_true e
    subst e'
    constructor
    ·rintro (q | q)
     ·exact .inl q
     ·exact .inr (List.mem_cons_of_mem _ q)
    ·rintro (q | q)
     ·exact .inl q
     ·rcases List.mem_cons.mp q with rfl | q
      ·exact .inl hy
      ·exact .inr q
   ·rw [if_neg h]
    simp only [List.mem_append,List.mem_cons,List.not_mem_nil,or_false]
    constructor
    ·rintro ((q | q) | q)
     ·exact .inl q
     ·exact .inr (.inl q)
     ·exact .inr (.inr q)
    ·rintro (q | q | q)
     ·exact .inl (.inl q)
     ·exact .inl (.inr q)
     ·exact .inr q
 intro f
 have:=key fs [] f
 unfold uniq
 rw [this];simp
def jE (L:Fs→Fs→An) (fs:List Fs):Bool:=agree L (uniq fs)
theorem lN (L:Fs→Fs→An) (fs:List Fs):jE L fs = true↔Wk L (· ∈ fs):=by
 unfold jE
 rw [DM]
 exact ⟨fun w=>w.sub fun f h=>(vj fs f).mpr h,fun w=>w.sub fun f h=>(vj fs f).mp h⟩
theorem Wk.turn {L:Fs→Fs→An}{D:Fs→Prop}(w:Wk L D):Wk (fun f g=>(L f g).turn) D:=by
 refine ⟨fun f g hf hg=>by rw [w.anti f g hf hg],fun f g h hf hg hh a b=>?_⟩
 have a' : L g f≠.behind:=fun z=>a (by rw [w.anti g f hg hf,z];rfl)
 have b' : L h g≠.behind:=fun z=>b (by rw [w.anti h g hh hg,z];rfl)
 have:=w.trans h g f hh hg hf b' a'
 intro z
 have z' : L f h = .ahead:=Ao z
 exact this (by rw [w.anti f h hf hh,z'];rfl)
theorem DN {a b c d:Int}(hb:1≤b) (h:a * d≤c * d) (hd:1≤d):a≤c:=by
 rcases Int.lt_or_le c a with z | z
 ·have:c * d < a * d:=Int.mul_lt_mul_of_pos_right z (by omega)
  omega
 ·exact z
theorem Aq {a b c:Int × Int}(ha:1≤a.2) (hb:1≤b.2) (hc:1≤c.2) (h1:a.1 * b.2≤b.1 * a.2) (h2:b.1 * c.2≤c.1 * b.2):a.1 * c.2≤c.1 * a.2:=by
 have q1:a.1 * b.2 * c.2≤b.1 * a.2 * c.2:=Int.mul_le_mul_of_nonneg_right h1 (by omega)
 have q2:b.1 * c.2 * a.2≤c.1 * b.2 * a.2:=Int.mul_le_mul_of_nonneg_right h2 (by omega)
 have e1:a.1 * b.2 * c.2 = (a.1 * c.2) * b.2:=by rw [Int.mul_assoc,Int.mul_comm b.2 c.2,← Int.mul_assoc]
 have e2:b.1 * a.2 * c.2 = b.1 * c.2 * a.2:=by rw [Int.mul_assoc,Int.mul_comm a.2 c.2,← Int.mul_assoc]
 have e3:c.1 * b.2 * a.2 = (c.1 * a.2) * b.2:=by rw [Int.mul_assoc,Int.mul_comm b.2 a.2,← Int.mul_assoc]
 exact DN hb (by omega) hb
def JH (n:Nat) (f:Fs):Prop:=f.length = n∧∀ p∈f,1≤p.2
theorem JH.get {n:Nat}{f:Fs}(h:JH n f) (i:Nat):1≤(f.getD i (0,1)).2:=by
 rw [List.getD_eq_getElem?_getD]
 cases e:f[i]? with
 | none=>decide
 | some p=>exact h.2 p (List.mem_of_getElem? e)
theorem BO {a b:Int × Int}:qZ a b≠.behind↔a.1 * b.2≤b.1 * a.2:=by
 unfold qZ
 by_cases h1:a.1 * b.2 < b.1 * a.2
 ·rw [if_pos h1];exact ⟨fun _=>by omega,fun _=>by decide⟩
 ·rw [if_neg h1]
  by_cases h2:a.1 * b.2 > b.1 * a.2
  ·rw [if_pos h2];exact ⟨fun z=>absurd rfl z,fun z=>by omega⟩
  ·rw [if_neg h2];exact ⟨fun _=>by omega,fun _=>by decide⟩
theorem Hg (i n:Nat):Wk (fun f g=>qZ (f.getD i (0,1)) (g.getD i (0,1))) (JH n):=
 ⟨fun f g _ _=>FJ _ _,fun f g h hf hg hh a b=>BO.mpr (Aq (hf.get i) (hg.get i) (hh.get i) (BO.mp a) (BO.mp b))⟩
end Look
namespace L2
open PySem PySem.Spec PyProof.Rows Lw Nm Frac
def qF (p:Addr) (G:Hp):Hp:=fun b=>if b = p then none else G b
theorem BP (p:Addr) (G:Hp):qF p G p = none:=by unfold qF;rw [if_pos rfl]
theorem oO {p b:Addr}{G:Hp}(h:b≠p):qF p G b = G b:=by unfold qF;rw [if_neg h]
theorem wU (p:Addr) (G:Hp):aN (qF p G) G:=fun b o e=>by
 unfold qF at e
 split at e
 ·cases e
 ·exact e
theorem CM {p:Addr}{G G' : Hp} (s:aN G G') (h:G p = none):aN G (qF p G'):=fun b o e=>by
 rw [oO (aC e h)];exact s b o e
theorem JI {K:PySem.W.Frag}{G:Hp}{p q:Addr}{us xs:List V}(hp:G p = some (.lst us)) (h:eV K G q xs):eV K (qF p G) q xs:=by
 rcases h with h | h
 ·refine .inl ?_
  have hq:q≠p:=by
   rintro rfl
   rcases h with h | ⟨o,h⟩
   ·rw [hp] at h;cases h
   ·rw [hp] at h;cases h
  unfold Rd at h ⊢
  rw [oO hq];exact h
 ·exact .inr h
mutual
theorem CN {K:PySem.W.Frag}{G:Hp}{p:Addr}{us:List V}(hp:G p = some (.lst us)):∀ (d:PyData) (v:V),Dr d = true→Dat K G v d→Dat K (qF p G) v d
 | .none,v,_,h=>by rw [h.gk];exact tE
 | .bool b,v,_,h=>by rw [h.bl];exact bQ b
 | .int i,v,_,h=>by rw [h.int];exact aX i
 | .str x,v,_,h=>by rw [h.str];exact bM x
 | .tuple ds,v,n,h=>by
  obtain ⟨q,xs,rfl,hq,hx⟩:=h.tup
  exact d8 (JI hp hq) (Ar hp ds xs (by unfold Dr at n;exact n) hx)
 | .list _,v,n,_=>by unfold Dr at n;cases n
 | .dict _,v,n,_=>by unfold Dr at n;cases n
theorem Ar {K:PySem.W.Frag}{G:Hp}{p:Addr}{us:List V}(hp:G p = some (.lst us)):∀ (ds:List PyData) (xs:List V),xU ds = true→bJ K G xs ds→bJ K (qF p G) xs ds
 | [],xs,_,h=>by rw [h.nil];exact bE
 | d :: r,xs,n,h=>by
  obtain ⟨y,ys,rfl,hy,hr⟩:=h.cons
  unfold xU at n
  rw [Bool.and_eq_true] at n
  exact bh (CN hp d y n.1 hy) (Ar hp r ys n.2 hr)
end
section
variable {K:PySem.W.Frag}{d c:Addr}{σ:St}{G H:Hp}
theorem JJ {t:TA}{js:List Nat}{te:TE}{n:Nat}{R:PyData→Prop}{Q:VK}(hj:xE K t σ G [.int (n:Nat)]) (hn:n < sizeLine) (he:∀ G2 (i:Nat),aN G G2→i < n→Dv K d c te (some (.int (0 + (i:Int))) :: cM σ js) G2 R) (s:aN G H) (gd:G d = none) (gc:G c = none) (D:bq H d c)
  (k:∀ p ys ds G' H',ds.length = n→(∀ e∈ds,R e)→bJ K G' ys ds→H p = none→G' p = none→H' p = some (.lst ys)→Dk d c G H G' H' → Q (.ref p) H'):Oo (Mw t) js vY te σ H Q:=
 hj G H (aN.refl _) s _ fun vs G2 H2 g2 hv=>by
  obtain ⟨y,ys,rfl,hy,r⟩:=hv.cons
  rw [r.nil,hy.int]
  have z:sizeLine < 2 ^ 62:=by decide
  have k2:=g2.dk D
  refine ⟨(n:Int),rfl,by omega,by omega,fun i m ys H' => m = n - i∧i≤n∧∃ (G' : Hp) (ds:List PyData),Dk d c G2 H2 G' H' ∧ ds.length = i∧bJ K G' ys ds∧∀ e∈ds,R e,⟨n,by omega,by omega,G2,[],Dk.refl k2.gh k2.D,rfl,bE,fun e he=>by cases he⟩,?_⟩
  rintro i m ys H' ⟨rfl,hi,G',ds,k3,hl,hys,hall⟩
  have hyl:=hys.length
  have yp:=k2.trans k3
  refine ⟨by omega,?_⟩
  by_cases h:i = n
  ·subst h
   refine .inl ⟨show (i:Int).toNat≤i by omega,fun p hp=>?_⟩
   have sp:aN H' (upd H' p (.lst ys)):=fun b o e=>by rw [aI (aC e hp)];exact e
   exact k p ys ds G' _ hl hall hys (bK.free yp.kp yp.D hp) (k3.gh.free hp) aE ⟨yp.gg,yp.gh.trans sp,yp.fr,yp.kp.trans (aN.but sp),yp.D.same sp⟩
  ·refine .inr ⟨show i < (n:Int).toNat by omega,fun x pR hy=>?_⟩
   obtain ⟨rfl,rfl⟩:=hy
   refine nh ?_
   refine he G' i yp.gg (by omega) G' pR (aN.refl _) k3.gh (yp.gd D gd) (yp.gc D gc) k3.D _ fun v e G4 H4 re k4 hv=>?_
   refine ⟨n - (i + 1),by omega,rfl,by omega,G4,ds ++ [e],k3.trans k4,by simp [hl],gX (hys.same k4.gg) (bh hv bE),fun z hz=>?_⟩
   rcases List.mem_append.mp hz with hz | hz
   ·exact hall z hz
   ·rw [List.mem_singleton.mp hz];exact re
theorem SV {te:TE}{t u:TS}{Ed:Ends}(h:Dv K d c te σ G fun x=>∃ b,x = .bool b) (s:aN G H) (gd:G d = none) (gc:G c = none) (D:bq H d c) (k1:∀ G' H',Dk d c G H G' H' → t Ed σ H') (k2:∀ G' H',Dk d c G H G' H' → u Ed σ H'):yL (qb te) t u Ed σ H:=
 h.use s gd gc D fun v x G' H' hx k hv=>by
  obtain ⟨b,rfl⟩:=hx
  refine ⟨b,hv.bl,?_⟩
  cases b with
  | true=>rw [if_pos rfl];exact k1 G' H' k
  | false=>rw [if_neg Bool.false_ne_true];exact k2 G' H' k
end
end L2
namespace L2
open PySem PySem.Spec PyProof.Rows
theorem countIn_strs (z:Str):∀ ss:List Str,countIn (.str z) (ss.map PyData.str) = ((ss.countP fun s=>decide (s = z):Nat):Int)
 | []=>rfl
 | s :: r=>by
  have ih:=countIn_strs z r
  rw [List.map_cons,countIn,List.countP_cons,ih]
  by_cases h:s = z
  ·subst h;simp [same];omega
  ·have h' : ¬ z = s:=fun e=>h e.symm
   simp [same,h,h']
section
variable {X:Cx}
def Pf (K:PySem.W.Frag):V→List V→Hp→VK→Prop:=fun x vs H Q=>∃ (p:Addr) (ss:List Str) (z:Str),x = .ref p∧vs = [.str z]∧b9 K H p (ss.map V.str)∧Q (.int ((ss.countP fun s=>decide (s = z):Nat):Int)) H
theorem Hh {K:PySem.W.Frag}(eK:X.K = K):X8 X "list.count" (Pf K):=by
 subst eK
 intro pins s σ H x vs v us Q I rx rv h
 obtain ⟨p,ss,z,rfl,rfl,hp,q⟩:=h
 cases rx
 obtain ⟨u,rfl,ru⟩:=vals1 rv
 obtain ⟨t,rfl⟩:=ru
 obtain ⟨its,r,pl,hl⟩:=I.list hp
 exact count_list_strs pl.isList (uf r) ⟨.int _,H,I.tok _,⟨_,by rw [countIn_strs]⟩,q⟩
theorem Pg {K:PySem.W.Frag}(eK:X.K = K) {o e:Expr}{es:List Expr}{to:TE}{t:TA}{name:Str}{apos cpos:Pos}{T id:String}{r:V→List V→Hp→VK→Prop}(pa:PlainAttrs T) (slot:Slot T name id) (hty:typeOf (.builtin id) = pure (.type "method_descriptor")) (hm:EG X id r) (ho:PE X o to) (ha:PA X (e :: es) t) (h1:attributeBase o name X.env (eval o X.env) = eval o X.env:=by rfl) (h2:((backTo cpos (starEach (e :: es) X.env)).all (fun x=>!x.1) && (backToKw cpos (keywordEach [] X.env)).all (fun x=>x.1.isSome) && decide ((e :: es).length + ([]:List Keyword).length + (if ([]:List Keyword).isEmpty then 0 else 1) < 30)) = true:=by rfl) (h3:(apos.endLine == cpos.line) = true:=by rfl) (h4:starEach (e :: es) X.env = (false,eval e X.env) :: starEach es X.env:=by rfl) (h5:(backTo cpos (starEach es X.env)).any (·.1) = false:=by rfl):PE X (.Call (.Attribute o name apos) (e :: es) [] cpos) (tBM K T r to t):=by
 subst eK
 exact ku pa slot hty hm ho ha h1 h2 h3 h4 h5
theorem wV {K:PySem.W.Frag}{a:Addr}{xs:List V}{g:TG}{tb:TS}{D:Ends}{σ:St}{H:Hp}(Pv:Nat→St→Hp→Prop) (h0:Pv 0 σ H) (hl:∀ i σ H,i≤xs.length→Pv i σ H→b9 K H a xs)
  (hs:∀ i x σ H p,xs[i]? = some x→Pv i σ H→H p = none→g (.ref p) σ (upd H p (.tup [.int i,x])) fun σ2 H2=>tb { D with nx:=Pv (i + 1),ct:=Pv (i + 1),bk:=D.nx } σ2 H2) (hd:∀ σ H,Pv xs.length σ H→D.nx σ H):
  ∃ W:Nat→Nat→St→Hp→Prop,(∃ m,W 0 m σ H)∧∀ i m σ H,W i m σ H→
   ((EY K a).stop i H∧D.nx σ H)∨((EY K a).go i H∧∃ N:St→Hp→Prop,(∀ σ' H',N σ' H' → ∃ m',m' < m∧W (i + 1) m' σ' H')∧∀ x H',(EY K a).AD i H x H' → g x σ H' fun σ2 H2=>tb { D with nx:=N,ct:=N,bk:=D.nx } σ2 H2):=by
 refine ⟨fun i m σ H=>m = xs.length - i∧i≤xs.length∧Pv i σ H,⟨xs.length,by simp,Nat.zero_le _,h0⟩,?_⟩
 rintro i m σ H ⟨rfl,hi,p⟩
 have q:=hl i σ H hi p
 by_cases hlt:i < xs.length
 ·refine .inr ⟨⟨xs,_,q,List.getElem?_eq_getElem hlt⟩,Pv (i + 1),fun σ' H' p' => ⟨xs.length - (i + 1),by omega,rfl,hlt,p'⟩,fun x H' y=>?_⟩
  obtain ⟨p',x',oB,rfl,rfl,hx⟩:=y
  exact hs i x' σ H p' (hx xs q) p oB
 ·have e:i = xs.length:=by omega
  subst e
  exact .inl ⟨⟨xs,q,Nat.le_refl _⟩,hd σ H p⟩
end
end L2
namespace K10
open PySem L2 Frac Lw Dig PySem.NumText Nm
open Ord Num Look Rdo
abbrev dT (f:Fs):PyData:=.tuple (f.map dF)
def OC (book:List Str) (num:Int→Int→Prop) (ws:List Wd):Prop:=nB (· ∈ book) num ws∧(∀ a b,num a b→Sz (a,b))∧(∀ z∈book,cD z = none)∧ws.length≤900
def FZ (n:Nat) (f:Fs):Prop:=f.length = n∧∀ p∈f,Sz p
def Ic (K:PySem.W.Frag) (Pt:Addr) (cr:Nat→Nat→Option Str) (R:List Str→List PyData→PyData→Prop):Sp:=fun vs H Q _=>∃ (G:Hp) (book:List Str) (vo:V) (pb:Addr) (us:List V) (ds:List PyData) (d:PyData),vs = vo :: .ref pb :: us∧G Pt = some (.sY cr)∧aN G H∧G pb = some (.tup (book.map V.str))∧bJ K G (vo :: us) ds∧R book ds d∧
 ∀ v G' H',bO G H G' H' → Dat K G' v d→Q v H'
def Hi (book:List Str):List PyData→PyData→Prop:=fun ds d=>∃ (ws:List Wd) (num:Int→Int→Prop) (f:Fs) (gs:List Fs),ds = [QV ws,dT f,.list (gs.map dT)]∧OC book num ws∧FZ book.length f∧(∀ g∈gs,FZ book.length g)∧gs.length≤1000∧d = .list (gs.map fun g=>.str (iH book ws f g).t)
def Hj (L:Fs→Fs→An) (gs:List Fs):PyData:=.list (gs.map fun f=>.list (gs.map fun g=>.str (L f g).t))
def Ph (book:List Str):List PyData→PyData→Prop:=fun ds d=>∃ (ws:List Wd) (num:Int→Int→Prop) (gs:List Fs),ds = [QV ws,.list (gs.map dT)]∧OC book num ws∧(∀ g∈gs,FZ book.length g)∧gs.length≤1000∧d = Hj (iH book ws) gs
def QW (book:List Str):List PyData→PyData→Prop:=fun ds d=>∃ (ws:List Wd) (num:Int→Int→Prop) (gs:List Fs),ds = [QV ws,.list (gs.map dT)]∧OC book num ws∧(∀ g∈gs,FZ book.length g)∧gs.length≤1000∧d = .bool (jE (iH book ws) gs)
def Hl:List PyData→PyData→Prop:=fun ds d=>∃ gs:List Fs,ds = [.list (gs.map dT)]∧gs.length≤1000∧d = .list ((uniq gs).map dT)
def BQ:List PyData→PyData→Prop:=fun ds d=>∃ (L:Fs→Fs→An) (gs:List Fs),ds = [Hj L gs]∧gs.length≤1000∧d = .list (gs.map fun f=>.int (rk L gs f:Nat))
def Ho:List PyData→PyData→Prop:=fun ds d=>∃ i j:Nat,ds = [.int (i:Nat),.int (j:Nat)]∧d = .str (n9 i j).t
def BR:List PyData→PyData→Prop:=fun ds d=>∃ (L:Fs→Fs→An) (gs:List Fs),ds = [Hj L gs]∧gs.length≤1000∧d = .bool (agree L gs)
def wW (K:PySem.W.Frag):Sp:=fun vs H Q _=>∃ (G:Hp) (v1:V) (L:Fs→Fs→An) (gs:List Fs),vs = [v1]∧aN G H∧Dat K G v1 (Hj L gs)∧gs.length≤1000∧(∀ G' H',bO G H G' H' → agree L gs = true→Q .gk H')∧∀ p G' H',bO G H G' H' → agree L gs = false→Q (.ref p) H'
def sS (f:Fs):KX:=f.map fun p=>[.inl p.1,.inl p.2]
theorem As (f:Fs):Al (sS f) = dT f:=by
 unfold Al sS
 rw [List.map_map];rfl
theorem Hq {f g:Fs}(h:sS f = sS g):f = g:=by
 unfold sS at h
 refine (List.map_inj_right fun p q z=>?_).mp h
 injection z with z1 z2
 injection z1 with z1
 injection z2 with z2 _
 injection z2 with z2
 exact Prod.ext z1 z2
theorem Au (gs:List Fs):(uniq gs).length≤gs.length:=by
 have key:∀ (l acc:List Fs),(l.foldl (fun acc f=>if (acc.any fun g=>decide (g = f)) = true then acc else acc ++ [f]) acc).length≤acc.length + l.length:=by
  intro l
  induction l with
  | nil=>intro acc;simp
  | cons x r ih=>
   intro acc
   rw [List.foldl_cons]
   refine Nat.le_trans (ih _) ?_
   split
   ·rw [List.length_cons];omega
   ·simp only [List.length_append,List.length_cons,List.length_nil];omega
 have:=key gs []
 unfold uniq
 simpa using this
theorem DO (gs:List Fs) (f:Fs):uniq (gs ++ [f]) = if ((uniq gs).any fun g=>decide (g = f)) = true then uniq gs else uniq gs ++ [f]:=by
 unfold uniq
 rw [List.foldl_append];rfl
section
variable {P:Program}{w:World}{K:PySem.W.Frag}{mg:Str→Option Value}{base:Heap}
theorem vm {σ:St}{G:Hp}{ta:TE}{t:TA}{i:Nat}{pb Pt:Addr}{cr:Nat→Nat→Option Str}{book:List Str}{d0 d:PyData}{ds:List PyData}{R:List Str→List PyData→PyData→Prop}(hT:G Pt = some (.sY cr)) (lM:G pb = some (.tup (book.map V.str))) (hi:σ[i]? = some (some (.ref pb))) (ha:Ev K ta σ G d0) (h:xE K t σ G ds) (hR:R book (d0 :: ds) d):
  Ev K (lA (Ic K Pt cr R) [] E0 (bV ta (bV (cE i) t))) σ G d:=fun G1 H s1 s2 Q k=>ha G1 H s1 s2 _ fun v1 G2 H2 g2 h1=>⟨_,hi,h G2 H2 (s1.trans g2.gg) g2.gh _ fun vs G3 H3 g3 h3=>by
  have CG:=g2.trans g3
  have sG:=s1.trans CG.gg
  refine ⟨G3,book,v1,pb,vs,d0 :: ds,d,by simp,sG _ _ hT,g3.gh,sG _ _ lM,bh (h1.same g3.gg) h3,hR,fun v G' H' g' hv=>k v G' H' (CG.trans g') hv⟩⟩
theorem BS (T:Top K mg) (M:Bs K mg base) (W:MJ K w.params mg) (W1:xX K w.params mg "AHEAD" kY) (W2:xX K w.params mg "OTHER_WAY" ki):bF P w K mg base cF 7 T.mD T.kK ["order", "book", "one", "things"] (Ic K T.cu b7 Hi):=by
 have Av:bF P w K mg base cF 6 T.jl T.jU ["order", "book", "first", "second"] (ym K T.cu b7):=wR T M W W1 W2
 refine T.uO.ok zJ (fun vs H Q E h=>?_) (fun cdv A outer s H vs Q E hr h=>?_)
 ·obtain ⟨G,book,vo,pb,us,ds,d,rfl,_,_,_,hd,⟨ws,num,f,gs,rfl,_⟩,_⟩:=h
  have:=hd.length
  simp only [List.length_cons,List.length_nil] at this ⊢
  omega
 ·obtain ⟨G,book,vo,pb,us,ds,d,rfl,hT,sg,lM,hd,⟨ws,num,f,gs,rfl,⟨o1,o2,o3,o4⟩,hf,hgs,hl,rfl⟩,k⟩:=h
  obtain ⟨v0,r0,e0,h0,hd⟩:=hd.cons
  cases e0
  rename bJ K G us _=>hd
  obtain ⟨v1,r1,rfl,h1,hd⟩:=hd.cons
  obtain ⟨v2,r2,rfl,h2,hd⟩:=hd.cons
  cases hd.nil
  have zl:(2000:Nat)≤sizeLine:=by decide
  refine ⟨_,(aG (aQ (ni (x:= "other") (cap:=["order", "book", "one"]) (js:=[0,1,2]) ⟨rfl,by decide +kernel,by decide +kernel,rfl,(by show ∀ p∈(_:List (Str × NameKind)),p.2 = NameKind.free→List.lookup p.1 (ak fu).names = some NameKind.cell;decide +kernel),by decide +kernel,by decide +kernel,by decide +kernel⟩ rfl rfl (fun _ _ h=>h) (eW (pv 3)) (fun _ _ _ _=>⟨eX,(aP Av hr (by rfl) T.F4 T.zQ.kp T.F3 .nil bD (aa (pv 1) (aa (pv 2) (aa (pv 3) (aa (pv 0) aq aD) aD) aD) aD))⟩)))) ,?_⟩
  refine bw (K:=K) (j4 (js:=[0,1,2]) gs dT (fun g=>some (.str (iH book ws f g).t)) (ah rfl h2) (by omega) fun G2 i g x s3 hg hx=>HZ gv (JB (s3 _ _ hT) (s3 _ _ lM) ⟨⟨hf.1,(hgs g (List.mem_of_getElem? hg)).1,hf.2,(hgs g (List.mem_of_getElem? hg)).2⟩,o2,o3⟩ rfl (ah rfl (h0.same s3)) (ah rfl (h1.same s3)) (ah rfl hx) o1 o4 (Am f g o3 o1))) sg fun v G' H' g' hv=>k v G' H' g' ?_
  rw [kB] at hv;exact hv
theorem Hr (T:Top K mg) (M:Bs K mg base) (W:MJ K w.params mg) (W1:xX K w.params mg "AHEAD" kY) (W2:xX K w.params mg "OTHER_WAY" ki):bF P w K mg base cF 8 T.mz T.kJ ["order", "book", "things"] (Ic K T.cu b7 Ph):=by
 have BU:bF P w K mg base cF 7 T.mD T.kK ["order", "book", "one", "things"] (Ic K T.cu b7 Hi):=BS T M W W1 W2
 refine T.uN.ok zI (fun vs H Q E h=>?_) (fun cdv A outer s H vs Q E hr h=>?_)
 ·obtain ⟨G,book,vo,pb,us,ds,d,rfl,_,_,_,hd,⟨ws,num,gs,rfl,_⟩,_⟩:=h
  have:=hd.length
  simp only [List.length_cons,List.length_nil] at this ⊢
  omega
 ·obtain ⟨G,book,vo,pb,us,ds,d,rfl,hT,sg,lM,hd,⟨ws,num,gs,rfl,oc,hgs,hl,rfl⟩,k⟩:=h
  obtain ⟨v0,r0,e0,h0,hd⟩:=hd.cons
  cases e0
  rename bJ K G us _=>hd
  obtain ⟨v2,r2,rfl,h2,hd⟩:=hd.cons
  cases hd.nil
  have zl:(2000:Nat)≤sizeLine:=by decide
  refine ⟨_,(aG (aQ (ni (x:= "one") (cap:=["order", "book", "things"]) (js:=[0,1,2]) ⟨rfl,by decide +kernel,by decide +kernel,rfl,(by show ∀ p∈(_:List (Str × NameKind)),p.2 = NameKind.free→List.lookup p.1 (ak fq).names = some NameKind.cell;decide +kernel),by decide +kernel,by decide +kernel,by decide +kernel⟩ rfl rfl (fun _ _ h=>h) (eW (pv 2)) (fun _ _ _ _=>⟨eX,(aP BU hr (by rfl) T.Bm T.uO.kp T.Bl .nil bD (aa (pv 1) (aa (pv 2) (aa (pv 0) (aa (pv 3) aq aD) aD) aD) aD))⟩)))) ,?_⟩
  refine bw (K:=K) (j4 (js:=[0,1,2]) gs dT (fun f=>some (.list (gs.map fun g=>.str (iH book ws f g).t))) (ah rfl h2) (by omega) fun G2 i f x s3 hf hx=>HZ gv (vm (s3 _ _ hT) (s3 _ _ lM) rfl (ah rfl (h0.same s3)) (aj (ah rfl hx) (aj (ah rfl (h2.same s3)) aJ)) ⟨ws,num,f,gs,rfl,oc,hgs f (List.mem_of_getElem? hf),hgs,hl,rfl⟩)) sg fun v G' H' g' hv=>k v G' H' g' ?_
  rw [kB] at hv;exact hv
theorem JK (T:Top K mg):bF P w K mg base cF 2 T.kI T.jI ["things"] (jS K Hl):=by
 refine T.rY.ok lZ (fun vs H Q E h=>?_) (fun cdv A outer s H vs Q E hr h=>?_)
 ·obtain ⟨G,as,d,sg,hv,⟨gs,rfl,_⟩,_⟩:=h
  rw [hv.length];rfl
 ·obtain ⟨G,as,d,sg,hv,⟨gs,rfl,hl,rfl⟩,k⟩:=h
  obtain ⟨v1,r1,rfl,h1,hv⟩:=hv.cons
  cases hv.nil
  have hu:=hr.units
  have zl:(2000:Nat)≤sizeLine:=by decide
  obtain ⟨pt,vs,rfl,vK,hvs⟩:=h1.lst
  have hvl:vs.length = gs.length:=by rw [hvs.length,List.length_map]
  refine ⟨_,(aB (bx (i:=1) lZ.nd rfl (Or.inl rfl) (GX (P:=P) (w:=w) rfl rfl))
   (aB (jX PassesOwn.never rfl (eW (pv 0)) (dj (i:=2) lZ.nd rfl (Or.inl rfl)) (aG (GY (P:=P) (w:=w) (K:=K) rfl rfl rfl hu (pv 1) (pv 2) jg (by rfl))))
   (aG (aQ (cV (BN (P:=P) (w:=w) rfl rfl rfl) (by rfl) T.F5 ug (aa (pv 1) aq aD)))))) ,?_⟩
  refine fun pk hpk=>?_
  have gpk:G pk = none:=sg.free hpk
  have DP:pt≠pk:=aC vK gpk
  refine ⟨_,rfl,pt,rfl,⟨vs,b9.of (by rw [aI DP];exact sg _ _ vK)⟩,tV (xs:=vs) (fun i σ H' => ∃ (v:Option V) (xs:List (KX × Addr)),σ = [some (.ref pt),some (.ref pk),v]∧(∀ b o,b≠pk→H b = some o→H' b = some o)∧H' pk = some (dX P w pk xs)∧xs.map (·.1) = (uniq (gs.take i)).map sS∧(∀ z∈xs,Dat K G (.ref z.2) (Al z.1))∧∀ b,H b = none→b≠pk→H' b = none)
   ⟨_,[],rfl,fun b o n e=>by rw [aI n];exact e,aE,rfl,(fun z hz=>(by cases hz)),fun b e n=>by rw [aI n];exact e⟩ ?_ ?_ ?_⟩
  ·rintro i σ H' _ ⟨v,xs,rfl,kp,_⟩
   exact b9.of (kp _ _ DP (sg _ _ vK))
  ·rintro i x σ H' hx ⟨v,xs,rfl,kp,hk,hkeys,hdat,hfr⟩
   have hi:i < gs.length:=by have:=(List.getElem?_eq_some_iff.mp hx).1;omega
   obtain ⟨dd,hdd,hxd⟩:=hvs.get' hx
   rw [List.getElem?_map,List.getElem?_eq_getElem hi] at hdd
   have hdd:some (dT gs[i]) = some dd:=hdd
   injection hdd with hdd
   subst hdd
   obtain ⟨px,ys,rfl,hpx,hys⟩:=hxd.tup
   have sG' : aN G H' := fun b o e=>kp b o (aC e gpk) (sg b o e)
   have hlx:xs.length≤gs.length:=by
    have e1:xs.length = (uniq (gs.take i)).length:=by have:=congrArg List.length hkeys;simpa using this
    have:=Au (gs.take i)
    rw [List.length_take] at this
    omega
   have hxk:Dat K G (.ref px) (Al (sS gs[i])):=by rw [As];exact hxd
   refine ⟨_,rfl,_,rfl,pk,px,sS gs[i],xs,G,rfl,rfl,rfl,hk,sG',hxk,hdat,by omega,?_⟩
   refine ⟨_,yt xs (sS gs[i]) px,rfl,fun b o n e=>by rw [aI n];exact kp b o n e,aE,?_,fun z hz=>?_,fun b e n=>by rw [aI n];exact hfr b e n⟩
   ·have ht:gs.take (i + 1) = gs.take i ++ [gs[i]]:=by rw [List.take_succ,List.getElem?_eq_getElem hi];rfl
    rw [ht,DO]
    have hiff:GR xs (sS gs[i]) = true↔((uniq (gs.take i)).any fun g=>decide (g = gs[i])) = true:=by
     rw [ve,hkeys,List.any_eq_true]
     constructor
     ·intro h
      obtain ⟨g,hg,e⟩:=List.mem_map.mp h
      exact ⟨g,hg,decide_eq_true (Hq e)⟩
     ·rintro ⟨g,hg,e⟩
      exact List.mem_map.mpr ⟨g,hg,by rw [of_decide_eq_true e]⟩
    unfold yt
    by_cases h:GR xs (sS gs[i]) = true
    ·rw [if_pos h,if_pos (hiff.mp h)];exact hkeys
    ·rw [if_neg h,if_neg (fun z=>h (hiff.mpr z)),List.map_append,List.map_append,hkeys];rfl
   ·unfold yt at hz
    split at hz
    ·exact hdat z hz
    ·rcases List.mem_append.mp hz with hz | hz
     ·exact hdat z hz
     ·rw [List.mem_singleton.mp hz];exact hxk
  ·rintro σ H' ⟨v,xs,rfl,kp,hk,hkeys,hdat,hfr⟩
   refine ⟨_,rfl,pk,xs,rfl,hk,fun l Yt=>?_⟩
   have sG' : aN G H' := fun b o e=>kp b o (aC e gpk) (sg b o e)
   have sH' : aN H H' := fun b o e=>kp b o (aC e hpk) e
   have g1:=b8 (o:=.lst (xs.map fun x=>V.ref x.2)) sG' Yt
   refine k _ _ _ ((EU sg sH').trans g1) (cK aE ?_)
   have ht:gs.take vs.length = gs:=by rw [hvl];exact List.take_length
   rw [ht] at hkeys
   have key:∀ (xs:List (KX × Addr)) (us:List Fs),xs.map (·.1) = us.map sS→(∀ z∈xs,Dat K G (.ref z.2) (Al z.1))→bJ K G (xs.map fun x=>V.ref x.2) (us.map dT):=by
    intro xs
    induction xs with
    | nil=>
     intro us e _
     cases us with
     | nil=>exact bE
     | cons u r=>cases e
    | cons x r ih=>
     intro us e hd
     cases us with
     | nil=>cases e
     | cons u q=>
      simp only [List.map_cons,List.cons.injEq] at e
      have:=hd x List.mem_cons_self
      rw [e.1,As] at this
      exact bh this (ih q e.2 fun z hz=>hd z (List.mem_cons_of_mem _ hz))
   exact (key xs _ hkeys hdat).same g1.gg
theorem Hs (T:Top K mg):bF P w K mg base cF 1 T.mF T.kL ["table"] (jS K BQ):=by
 refine T.uP.ok zK (fun vs H Q E h=>?_) (fun cdv A outer s H vs Q E hr h=>?_)
 ·obtain ⟨G,as,d,sg,hv,⟨L,gs,rfl,_⟩,_⟩:=h
  rw [hv.length];rfl
 ·obtain ⟨G,as,d,sg,hv,⟨L,gs,rfl,hl,rfl⟩,k⟩:=h
  obtain ⟨v1,r1,rfl,h1,hv⟩:=hv.cons
  cases hv.nil
  have zl:(2000:Nat)≤sizeLine:=by decide
  refine ⟨_,(aG (aQ (ni (x:= "row") (cap:=[]) (js:=[]) ⟨rfl,by decide +kernel,by decide +kernel,rfl,(by show ∀ p∈(_:List (Str × NameKind)),p.2 = NameKind.free→List.lookup p.1 (ak fB).names = some NameKind.cell;decide +kernel),by decide +kernel,by decide +kernel,by decide +kernel⟩ rfl rfl (fun _ _ h=>h) (eW (pv 0)) (fun _ _ _ _=>⟨eX,(Pg (K:=K) rfl PySem.F.plainAttrs_list PySem.F.slot_list_count PySem.F.type_list_count (Hh (K:=K) rfl) (pv 0) (aa bg aq aK))⟩)))) ,?_⟩
  refine bw (K:=K) (j4 (js:=[]) gs (fun f=>.list (gs.map fun g=>.str (L f g).t)) (fun f=>some (.int (rk L gs f:Nat))) (ah rfl h1) (by omega) fun G2 i f x s3 hf hx=>HZ gv ?_) sg fun v G' H' g' hv=>k v G' H' g' (by rw [kB] at hv;exact hv)
  refine fun G1 H1 s1 s2 Q' k' => ?_
  have hx' := hx.same s1
  obtain ⟨p,ys,rfl,hp,hys⟩:=hx'.lst
  have e:ys = (gs.map fun g=>(L f g).t).map V.str:=mR (ws:=gs.map fun g=>(L f g).t) (by rw [List.map_map];exact hys)
  subst e
  have oB:=s2 _ _ hp
  refine ⟨_,rfl,.inl ⟨rfl,_,b9.of oB⟩,p,gs.map fun g=>(L f g).t,S "behind",rfl,rfl,b9.of oB,k' _ G1 H1 (bO.refl s2) ?_⟩
  have ec:(gs.map fun g=>(L f g).t).countP (fun s=>decide (s = S "behind")) = rk L gs f:=by
   rw [List.countP_map]
   unfold rk
   congr 1
   funext g
   show decide ((L f g).t = An.behind.t) = decide (L f g = .behind)
   exact decide_eq_decide.mpr MZ
  rw [ec]
  exact aX _
theorem JL (T:Top K mg):bF P w K mg base cF 1 T.oK T.mG ["one", "other"] (jS K Ho):=by
 refine T.wI.ok Bf (fun vs H Q E h=>?_) (fun cdv A outer s H vs Q E hr h=>?_)
 ·obtain ⟨G,as,d,sg,hv,⟨i,j,rfl,_⟩,_⟩:=h
  rw [hv.length];rfl
 ·obtain ⟨G,as,d,sg,hv,⟨i,j,rfl,rfl⟩,k⟩:=h
  obtain ⟨v1,r1,rfl,h1,hv⟩:=hv.cons
  obtain ⟨v2,r2,rfl,h2,hv⟩:=hv.cons
  cases hv.nil
  refine ⟨_,(aB (bS (aV rO (pv 0) (pv 1) (aY _)) (aG (aQ bg)) bA)
   (aG (aQ (jh (aV yM (pv 0) (pv 1) (aY _)) bg bg)))) ,?_⟩
  refine iL (bG (K:=K) (gu (ah rfl h1) (ah rfl h2) (bQ _))) sg (fun e G1 H1 g1=>?_) (fun e G1 H1 g1=>?_)
  ·have e' : (i:Int) < j:=of_decide_eq_true e
   have:n9 i j = .ahead:=by unfold n9;rw [if_pos (by omega)]
   exact k _ G1 H1 g1 (by rw [this];exact bM _)
  ·have e' : ¬ (i:Int) < j:=of_decide_eq_false e
   refine bw (K:=K) (d:=.str (n9 i j).t) (nu (bG (K:=K) (gu (ah rfl (h1.same g1.gg)) (ah rfl (h2.same g1.gg)) (bQ _))) (fun z=>?_) (fun z=>?_)) g1.gh fun v G2 H2 g2 hv=>k v G2 H2 (g1.trans g2) hv
   ·have z' : (i:Int) > j:=of_decide_eq_true z
    have:n9 i j = .behind:=by unfold n9;rw [if_neg (by omega),if_pos (by omega)]
    rw [this];exact aF
   ·have z' : ¬ (i:Int) > j:=of_decide_eq_false z
    have:n9 i j = .like:=by unfold n9;rw [if_neg (by omega),if_neg (by omega)]
    rw [this];exact aF
end
end K10
namespace K10
open PySem L2 Frac Lw Dig PySem.NumText Nm
open Ord Num Look Rdo
section
variable {P:Program}{w:World}{K:PySem.W.Frag}{mg:Str→Option Value}{base:Heap}
theorem oR {α:Type}{l:List α}{i:Nat}{x:α}(h:l[i]? = some x) {p:α→Prop}(h1:∀ y∈l.take i,p y) (h2:p x):∀ y∈l.take (i + 1),p y:=fun y hy=>by
 rw [List.take_succ,h] at hy
 rcases List.mem_append.mp hy with hy | hy
 ·exact h1 y hy
 ·have:y = x:=by simpa using hy
  rw [this];exact h2
theorem BV (T:Top K mg):bF P w K mg base cF 2 T.gI T.fZ ["table"] (wW K):=by
 have BW:bF P w K mg base cF 1 T.mF T.kL ["table"] (jS K BQ):=Hs T
 have DQ:bF P w K mg base cF 1 T.oK T.mG ["one", "other"] (jS K Ho):=JL T
 refine T.mZ.ok cW (fun vs H Q E h=>?_) (fun cdv A outer s H vs Q E hr h=>?_)
 ·obtain ⟨G,v1,L,gs,rfl,_⟩:=h
  rfl
 ·obtain ⟨G,v1,L,gs,rfl,sg,h1,hl,k1,k2⟩:=h
  have zl:(2000:Nat)≤sizeLine:=by decide
  refine ⟨_,(aB (bx (i:=1) cW.nd rfl (Or.inl rfl) (aP BW hr (by rfl) T.Bp T.uP.kp T.Bo .nil bD (aa (pv 0) aq aD)))
   (aB (jX PassesOwn.never rfl (zd (by rfl) T.uW (aa (pv 0) aq aD)) (AJ (n:=2) rfl (lq (dj (i:=2) cW.nd rfl (Or.inl rfl)) (lq (dj (i:=3) cW.nd rfl (Or.inl rfl)) xg)) (by rfl)) (aG (jX PassesOwn.never rfl (zd (by rfl) T.uW (aa (pv 3) aq aD)) (AJ (n:=2) rfl (lq (dj (i:=4) cW.nd rfl (Or.inl rfl)) (lq (dj (i:=5) cW.nd rfl (Or.inl rfl)) xg)) (by rfl)) (aG (bS (aV vR (pv 5) (aP DQ hr (by rfl) T.Dz T.wI.kp T.Dy .nil bD (aa (bf (aT (K:=K) rfl) (pv 1) (pv 2) (fun _ _=>rfl)) (aa (bf (aT (K:=K) rfl) (pv 1) (pv 4) (fun _ _=>rfl)) aq aL) aL)) (aY _)) (aG (aQ (dW (aa (pv 2) (aa (pv 4) aq aD) aD)))) bA)))))
   (aG (aQ AH)))) ,?_⟩
  refine dN (K:=K) (bH (E:=E0) (R:=BQ) (aj (ah rfl h1) aJ) ⟨L,gs,rfl,hl,rfl⟩) sg fun v2 G1 H1 g1 h2=>?_
  have h11:=h1.same g1.gg
  obtain ⟨pt,rows,rfl,vK,M7⟩:=h11.lst
  have hrl:rows.length = gs.length:=by rw [M7.length,List.length_map]
  have RKx:∀ {σ' : St} {G' : Hp} {j i:Nat},aN G1 G' → σ'[1]? = some (some v2)→σ'[j]? = some (some (.int (i:Nat)))→∀ f,gs[i]? = some f→Ev K (iV (yQ K) (cE 1) (cE j)) σ' G' (.int (rk L gs f:Nat)):=fun {σ' G' j i} s e1 e2 f hf=>by
   have hi:i < gs.length:=(List.getElem?_eq_some_iff.mp hf).1
   exact cg (n:=i) (ah e1 (h2.same s)) (ah e2 (aX _)) (by rw [List.length_map];exact cI hi) (by rw [List.getElem?_map,hf];rfl)
  refine ⟨_,rfl,pt,rfl,⟨rows,b9.of (g1.gh _ _ vK)⟩,wV (xs:=rows) (fun i σ H' => ∃ (v2' v3 v4 v5:Option V) (G' : Hp),σ = [some (.ref pt),some v2,v2',v3,v4,v5]∧bO G1 H1 G' H' ∧ ∀ f∈gs.take i,∀ g∈gs,L f g = n9 (rk L gs f) (rk L gs g)) ⟨_,_,_,_,G1,rfl,bO.refl g1.gh,fun f hf=>by simp at hf⟩ ?_ ?_ ?_⟩
  ·rintro i σ H' _ ⟨v2',v3,v4,v5,G',rfl,g,_⟩
   exact b9.of (g.hh _ _ (g1.gh _ _ vK))
  ·rintro i x σ H' p hx ⟨v2',v3,v4,v5,G',rfl,g,hok⟩ hp
   have hi:i < gs.length:=by have:=(List.getElem?_eq_some_iff.mp hx).1;omega
   have El:gs[i]? = some gs[i]:=List.getElem?_eq_getElem hi
   obtain ⟨dd,hdd,hxd⟩:=M7.get' hx
   rw [List.getElem?_map,El] at hdd
   have hdd:some (PyData.list (gs.map fun g=>.str (L gs[i] g).t)) = some dd:=hdd
   injection hdd with hdd
   subst hdd
   generalize gs[i] = f at El hxd
   have gp:=b8 (o:=.tup [.int (i:Nat),x]) g.gh hp
   have gA:=g.trans gp
   refine ⟨p,_,rfl,eV.of aE,rfl,_,_,rfl,_,_,rfl,rfl,?_⟩
   obtain ⟨px,ys,rfl,hpx,hys⟩:=hxd.lst
   have hyl:ys.length = gs.length:=by rw [hys.length,List.length_map]
   have aal:=gA.hh _ _ (g1.gh _ _ hpx)
   refine ⟨_,rfl,px,rfl,⟨ys,b9.of aal⟩,wV (xs:=ys) (fun j σ H' => ∃ (v4 v5:Option V) (G' : Hp),σ = [some (.ref pt),some v2,some (.int (i:Nat)),some (.ref px),v4,v5]∧bO G1 H1 G' H' ∧ ∀ g∈gs.take j,L f g = n9 (rk L gs f) (rk L gs g)) ⟨_,_,_,rfl,gA,fun g hg=>by simp at hg⟩ ?_ ?_ ?_⟩
   ·rintro j σ H' _ ⟨v4,v5,G',rfl,g,_⟩
    exact b9.of (g.hh _ _ (g1.gh _ _ hpx))
   ·rintro j y σ H2 q hy ⟨v4,v5,G2,rfl,gB,yu⟩ hq
    have hj:j < gs.length:=by have:=(List.getElem?_eq_some_iff.mp hy).1;omega
    have Em:gs[j]? = some gs[j]:=List.getElem?_eq_getElem hj
    obtain ⟨dd,hdd,Yn⟩:=hys.get' hy
    rw [List.getElem?_map,Em] at hdd
    have hdd:some (PyData.str (L f gs[j]).t) = some dd:=hdd
    injection hdd with hdd
    subst hdd
    generalize gs[j] = g' at Em Yn
    have gq:=b8 (o:=.tup [.int (j:Nat),y]) gB.gh hq
    have gC:=gB.trans gq
    refine ⟨q,_,rfl,eV.of aE,rfl,_,_,rfl,_,_,rfl,rfl,?_⟩
    refine iL (bG (K:=K) (O5 (ah rfl (Yn.same gC.gg)) (bH (E:=E0) (R:=Ho) (aj (RKx gC.gg rfl rfl f El) (aj (RKx gC.gg rfl rfl g' Em) aJ)) ⟨_,_,rfl,rfl⟩))) gC.gh (fun e G3 H3 g3=>?_) (fun e G3 H3 g3=>?_)
    ·refine ⟨_,rfl,_,rfl,(by show 2≤sizeLine;decide),fun t ht=>?_⟩
     have gD:=gC.trans g3
     have gt:=b8 (o:=.tup [V.int (i:Nat),V.int (j:Nat)]) gD.gh ht
     refine k2 t _ _ (g1.trans (gD.trans gt)) ?_
     cases ea:agree L gs with
     | false=>rfl
     | true=>
      unfold agree at ea
      have:=of_decide_eq_true (List.all_eq_true.mp (List.all_eq_true.mp ea f (List.mem_of_getElem? El)) g' (List.mem_of_getElem? Em))
      rw [this,decide_eq_true rfl] at e
      cases e
    ·have e' : L f g' = n9 (rk L gs f) (rk L gs g'):=by
      by_cases z:(L f g').t = (n9 (rk L gs f) (rk L gs g')).t
      ·exact MZ.mp z
      ·rw [decide_eq_false z] at e;cases e
     exact ⟨_,_,G3,rfl,gC.trans g3,oR Em yu e'⟩
   ·rintro σ H2 ⟨v4,v5,G2,rfl,gB,yu⟩
    have ht:gs.take ys.length = gs:=by rw [hyl];exact List.take_length
    rw [ht] at yu
    exact ⟨_,_,_,_,G2,rfl,gB,oR El hok yu⟩
  ·rintro σ H' ⟨v2',v3,v4,v5,G',rfl,g,hok⟩
   have ht:gs.take rows.length = gs:=by rw [hrl];exact List.take_length
   rw [ht] at hok
   refine k1 G' H' (g1.trans g) ?_
   unfold agree
   exact List.all_eq_true.mpr fun f hf=>List.all_eq_true.mpr fun g hg=>decide_eq_true (hok f hf g hg)
theorem Ht (T:Top K mg):bF P w K mg base cF 3 T.i6 T.iD ["table"] (jS K BR):=by
 have sU:bF P w K mg base cF 2 T.gI T.fZ ["table"] (wW K):=BV T
 refine T.pA.ok uG (fun vs H Q E h=>?_) (fun cdv A outer s H vs Q E hr h=>?_)
 ·obtain ⟨G,as,d,sg,hv,⟨L,gs,rfl,_⟩,_⟩:=h
  rw [hv.length];rfl
 ·obtain ⟨G,as,d,sg,hv,⟨L,gs,rfl,hl,rfl⟩,k⟩:=h
  obtain ⟨v1,r1,rfl,h1,hv⟩:=hv.cons
  cases hv.nil
  refine ⟨_,(aG (aQ (c8 Oc (aP sU hr (by rfl) T.sR T.mZ.kp T.sQ .nil bD (aa (pv 0) aq aD)) AH (aY _)))) ,?_⟩
  refine ⟨_,rfl,G,v1,L,gs,rfl,sg,h1,hl,fun G' H' g ha=>?_,fun p G' H' g ha=>?_⟩
  ·refine ⟨rfl,?_⟩
   rw [ha] at k
   exact k _ G' H' g (bQ _)
  ·refine ⟨rfl,?_⟩
   rw [ha] at k
   exact k _ G' H' g (bQ _)
theorem Hu (T:Top K mg) (M:Bs K mg base) (W:MJ K w.params mg) (W1:xX K w.params mg "AHEAD" kY) (W2:xX K w.params mg "OTHER_WAY" ki):bF P w K mg base cF 9 T.mh T.kH ["order", "book", "things"] (Ic K T.cu b7 QW):=by
 have BX:bF P w K mg base cF 8 T.mz T.kJ ["order", "book", "things"] (Ic K T.cu b7 Ph):=Hr T M W W1 W2
 have vN:bF P w K mg base cF 8 T.i6 T.iD ["table"] (jS K BR):=(Ht T).mono (by decide)
 have Aw:bF P w K mg base cF 8 T.kI T.jI ["things"] (jS K Hl):=(JK T).mono (by decide)
 refine T.j9.ok zH (fun vs H Q E h=>?_) (fun cdv A outer s H vs Q E hr h=>?_)
 ·obtain ⟨G,book,vo,pb,us,ds,d,rfl,_,_,_,hd,⟨ws,num,gs,rfl,_⟩,_⟩:=h
  have:=hd.length
  simp only [List.length_cons,List.length_nil] at this ⊢
  omega
 ·obtain ⟨G,book,vo,pb,us,ds,d,rfl,hT,sg,lM,hd,⟨ws,num,gs,rfl,oc,hgs,hl,rfl⟩,k⟩:=h
  obtain ⟨v0,r0,e0,h0,hd⟩:=hd.cons
  cases e0
  rename bJ K G us _=>hd
  obtain ⟨v2,r2,rfl,h2,hd⟩:=hd.cons
  cases hd.nil
  have hul:=Au gs
  refine ⟨_,(aG (aQ (aP vN hr (by rfl) T.vH T.pA.kp T.vG .nil bD (aa (aP BX hr (by rfl) T.Bk T.uN.kp T.Bj .nil bD (aa (pv 0) (aa (pv 1) (aa (aP Aw hr (by rfl) T.zS T.rY.kp T.zR .nil bD (aa (pv 2) aq aD)) aq c9) aD) aD)) aq c9)))) ,?_⟩
  exact bw (K:=K) (bH (E:=E0) (R:=BR) (aj (vm (R:=Ph) (d:=Hj (iH book ws) (uniq gs)) hT lM rfl (ah rfl h0) (aj (bH (E:=E0) (R:=Hl) (aj (ah rfl h2) aJ) ⟨gs,rfl,hl,rfl⟩) aJ) ⟨ws,num,uniq gs,rfl,oc,fun g hg=>hgs g ((vj gs g).mp hg),by omega,rfl⟩) aJ) ⟨iH book ws,uniq gs,rfl,by omega,rfl⟩) sg fun v G' H' g hv=>k v G' H' g hv
end
end K10
namespace L2
open PySem PySem.Spec PyProof.Rows
structure QX (z TI TO i1 i2:Addr) (f1 f2:List Addr):Prop where
 iz:TI≠z
 oz:TO≠z
 az:i1≠z
 bz:i2≠z
 io:TI≠TO
 ia:TI≠i1
 ib:TI≠i2
 oa:TO≠i1
 ob:TO≠i2
 ab:i1≠i2
 z1:z ∉ f1
 z2:z ∉ f2
 o1:TO ∉ f1
 o2:TO ∉ f2
 b1:i2 ∉ f1
 a2:i1 ∉ f2
section
variable {prog:Program}{w:World}{A:Around}{E:Value→Shared→Prop}{s:Shared}{z TI TO i1 i2:Addr}{f1 f2:List Addr}{n1 n2 k:Nat}{P1 P2:Nat→Value→Prop}{S1 S2:Nat→Heap→Prop}{a b:Value}
theorem iI {c d:Addr}{f:List Addr}(h:d ∉ f) (hc:c∈f):c≠d:=fun e=>h (e ▸ hc)
theorem JM {Q:Value→Shared→Prop}(Z:QX z TI TO i1 i2 f1 f2) (D1:Draws prog w A i1 f1 n1 P1 S1) (D2:Draws prog w A i2 f2 n2 P2 S2) (hz:IsZip s.heap z TI TO .none) (ht:IsPair s.heap TI (.ref i1) (.ref i2)) (ho:IsPair s.heap TO a b) (t1:S1 k s.heap) (t2:S2 k s.heap) (k1:k < n1) (k2:k < n2)
  (q:∀ x y h' tk,P1 k x→P2 k y→IsZip h' z TI TO (rawInt s.heap.objs.size)→IsPair h' TO x y→S1 (k + 1) h' → S2 (k + 1) h' → IsPair h' s.heap.objs.size x y→
   (∀ c o,c≠z→c≠TO→c≠i1→c≠i2→s.heap.get? c = some o→h'.get? c = some o)→Q (.ref s.heap.objs.size) { s with heap:=h',toks:=tk }):
  wpAny (model prog w) A (Builtin.«zip.__next__» ⟨[.ref z],[]⟩) (fun fin s' => ∃ v,fin = .done (.ret v)∧Q v s') E s:=by
 refine wpAny_bind (m:=field (.ref z) 2) (wpAny_field hz rfl (x:=.bool false) rfl (wpAny_bind (m:=field (.ref z) 3) (wpAny_field hz rfl (x:=.ref TI) rfl (wpAny_bind (wpAny_seqItems ht rfl ?_)))))
 refine wpAny_bind (m:=Builtin.SmallTypes.ownedTupleIsFree (.ref z)) ?_
 unfold Builtin.SmallTypes.ownedTupleIsFree;refine wpAny_bind (wpAny_field hz rfl (x:=.none) rfl (wpAny_pure ?_));rw [if_pos (by simp)]
 refine wpAny_bind (wpAny_rule (wpAny_bind (wpAny_field hz rfl (x:=.ref TO) rfl (wpAny_bind (wpAny_setField_rec hz (by simp) fun g1 (z1:IsZip g1 z TI TO .ellipsis) e1=>wpAny_bind ?_)))))
 simp only [List.zipIdx_cons,List.forIn_cons,List.zipIdx_nil,List.forIn_nil]
 refine wpAny_bind (wpAny_bind (wpAny_onRaise (wpAny_bind (m:=Builtin.SmallTypes.nextOf (.ref i1)) ?_)))
 refine D1.item k _ _ _ k1 (D1.frame _ _ _ t1 fun c hc o e=>e1.extBut _ _ (iI Z.z1 hc) e) fun x g2 tk2 px u1 e2=>wpAny_pure ?_
 dsimp only at e2 ⊢
 have o2:IsPair g2 TO a b:=e2.extBut _ _ Z.oa (e1.extBut _ _ Z.oz ho)
 refine wpAny_bind (wpAny_seqItems o2 rfl (wpAny_bind (wpAny_updateSeq_pair o2 fun g3 (o3:IsPair g3 TO x b) e3=>wpAny_bind (wpAny_letGo (wpAny_pure ?_)))))
 refine wpAny_bind (wpAny_bind (wpAny_onRaise (wpAny_bind (m:=Builtin.SmallTypes.nextOf (.ref i2)) ?_)))
 refine D2.item k _ _ _ k2 (D2.frame _ _ _ t2 fun c hc o e=>e3.extBut _ _ (iI Z.o2 hc) (e2.extBut _ _ (iI Z.a2 hc) (e1.extBut _ _ (iI Z.z2 hc) e))) fun y g4 tk4 py u2 e4=>wpAny_pure ?_
 dsimp only at e4 ⊢
 have o4:IsPair g4 TO x b:=e4.extBut _ _ Z.ob o3
 refine wpAny_bind (wpAny_seqItems o4 rfl (wpAny_bind (wpAny_updateSeq_pair o4 fun g5 (o5:IsPair g5 TO x y) e5=>wpAny_bind (wpAny_letGo (wpAny_pure (wpAny_pure (wpAny_bind (wpAny_seqItems o5 rfl (wpAny_bind (wpAny_newTuple ?_))))))))))
 have z5:IsZip g5 z TI TO .ellipsis:=e5.extBut _ _ Z.oz.symm (e4.extBut _ _ Z.bz.symm (e3.extBut _ _ Z.oz.symm (e2.extBut _ _ Z.az.symm z1)))
 have sz:g5.objs.size = s.heap.objs.size:=by rw [e5.1,e4.1,e3.1,e2.1,e1.1]
 have kp:∀ c o,c≠z→c≠TO→c≠i1→c≠i2→s.heap.get? c = some o→g5.get? c = some o:=fun c o c1 c2 c3 c4 e=>e5.extBut _ _ c2 (e4.extBut _ _ c4 (e3.extBut _ _ c2 (e2.extBut _ _ c3 (e1.extBut _ _ c1 e))))
 have u15:S1 (k + 1) g5:=D1.frame _ _ _ u1 fun c hc o e=>e5.extBut _ _ (iI Z.o1 hc) (e4.extBut _ _ (iI Z.b1 hc) (e3.extBut _ _ (iI Z.o1 hc) e))
 have u25:S2 (k + 1) g5:=D2.frame _ _ _ u2 fun c hc o e=>e5.extBut _ _ (iI Z.o2 hc) e
 have lz:=Heap.lt_size z5
 refine wpAny_bind (m:=Builtin.SmallTypes.ownedTupleHandOut (.ref z) (.ref g5.objs.size)) ?_
 unfold Builtin.SmallTypes.ownedTupleHandOut
 have z6:IsZip (g5.push { cls:=.type "tuple",data:=.seq #[x,y] }) z TI TO .ellipsis:=Heap.get?_push_of_some _ z5
 refine wpAny_bind (wpAny_setField_rec z6 (by simp) fun g7 (z7:IsZip g7 z TI TO (rawInt g5.objs.size)) e7=>wpAny_setField_rec z7 (by simp) fun g8 (z8:IsZip g8 z TI TO (rawInt g5.objs.size)) e8=>?_)
 have up:∀ c o,c≠z→g5.get? c = some o→g8.get? c = some o:=fun c o c1 e=>e8.extBut _ _ c1 (e7.extBut _ _ c1 (Heap.get?_push_of_some _ e))
 have t8:IsPair g8 g5.objs.size x y:=e8.extBut _ _ (Nat.ne_of_gt lz) (e7.extBut _ _ (Nat.ne_of_gt lz) (Heap.get?_push_size _ rfl))
 refine wpAny_pure ⟨.ref g5.objs.size,rfl,?_⟩
 rw [sz] at z8 t8 ⊢
 exact q x y g8 _ px py z8 (up _ _ Z.oz o5) (D1.frame _ _ _ u15 fun c hc o e=>up c o (iI Z.z1 hc) e) (D2.frame _ _ _ u25 fun c hc o e=>up c o (iI Z.z2 hc) e) t8 fun c o c1 c2 c3 c4 e=>up c o c1 (kp c o c1 c2 c3 c4 e)
theorem Pj {Q:Fin→Shared→Prop}(Z:QX z TI TO i1 i2 f1 f2) (D1:Draws prog w A i1 f1 n1 P1 S1) (D2:Draws prog w A i2 f2 n2 P2 S2) (hz:IsZip s.heap z TI TO .none) (ht:IsPair s.heap TI (.ref i1) (.ref i2)) (ho:IsPair s.heap TO a b) (t1:S1 k s.heap) (t2:S2 k s.heap) (hk:k = n1∨(k < n1∧k = n2))
  (q:∀ h' e tk,(∀ c o,c≠z→c≠TO→c≠i1→c≠i2→s.heap.get? c = some o→h'.get? c = some o)→(∃ o,h'.get? e = some o∧o.cls = .type "StopIteration")→E (.ref e) { s with heap:=h',toks:=tk }):
  wpAny (model prog w) A (Builtin.«zip.__next__» ⟨[.ref z],[]⟩) Q E s:=by
 refine wpAny_bind (m:=field (.ref z) 2) (wpAny_field hz rfl (x:=.bool false) rfl (wpAny_bind (m:=field (.ref z) 3) (wpAny_field hz rfl (x:=.ref TI) rfl (wpAny_bind (wpAny_seqItems ht rfl ?_)))))
 refine wpAny_bind (m:=Builtin.SmallTypes.ownedTupleIsFree (.ref z)) ?_
 unfold Builtin.SmallTypes.ownedTupleIsFree;refine wpAny_bind (wpAny_field hz rfl (x:=.none) rfl (wpAny_pure ?_));rw [if_pos (by simp)]
 refine wpAny_bind (wpAny_rule (wpAny_bind (wpAny_field hz rfl (x:=.ref TO) rfl (wpAny_bind (wpAny_setField_rec hz (by simp) fun g1 (z1:IsZip g1 z TI TO .ellipsis) e1=>wpAny_bind ?_)))))
 simp only [List.zipIdx_cons,List.forIn_cons,List.zipIdx_nil,List.forIn_nil]
 refine wpAny_bind (wpAny_bind (wpAny_onRaise (wpAny_bind (m:=Builtin.SmallTypes.nextOf (.ref i1)) ?_)))
 have fr1:S1 k g1:=D1.frame _ _ _ t1 fun c hc o e=>e1.extBut _ _ (iI Z.z1 hc) e
 rcases hk with rfl | ⟨k1,rfl⟩
 ·refine D1.done _ _ _ fr1 fun g2 e e2 he=>?_
  obtain ⟨oe,Pn,hce⟩:=he
  have z2:IsZip g2 z TI TO .ellipsis:=e2 _ _ Z.az.symm z1
  have ez:e≠z:=fun x=>by subst x;rw [z2] at Pn;cases Pn;simp at hce
  exact wpAny_setField_rec z2 (by simp) fun g3 _ e3=>q g3 e _ (fun c o c1 _ c3 _ x=>e3.extBut _ _ c1 (e2 _ _ c3 (e1.extBut _ _ c1 x))) ⟨oe,e3.extBut _ _ ez Pn,hce⟩
 ·refine D1.item k _ _ _ k1 fr1 fun x g2 tk2 px u1 e2=>wpAny_pure ?_
  dsimp only at e2 ⊢
  have o2:IsPair g2 TO a b:=e2.extBut _ _ Z.oa (e1.extBut _ _ Z.oz ho)
  refine wpAny_bind (wpAny_seqItems o2 rfl (wpAny_bind (wpAny_updateSeq_pair o2 fun g3 (o3:IsPair g3 TO x b) e3=>wpAny_bind (wpAny_letGo (wpAny_pure ?_)))))
  refine wpAny_bind (wpAny_bind (wpAny_onRaise (wpAny_bind (m:=Builtin.SmallTypes.nextOf (.ref i2)) ?_)))
  refine D2.done _ _ _ (D2.frame _ _ _ t2 fun c hc o e=>e3.extBut _ _ (iI Z.o2 hc) (e2.extBut _ _ (iI Z.a2 hc) (e1.extBut _ _ (iI Z.z2 hc) e))) fun g4 e e4 he=>?_
  dsimp only at e4 ⊢
  obtain ⟨oe,Pn,hce⟩:=he
  have z4:IsZip g4 z TI TO .ellipsis:=e4 _ _ Z.bz.symm (e3.extBut _ _ Z.oz.symm (e2.extBut _ _ Z.az.symm z1))
  have ez:e≠z:=fun x=>by subst x;rw [z4] at Pn;cases Pn;simp at hce
  exact wpAny_setField_rec z4 (by simp) fun g5 _ e5=>q g5 e _ (fun c o c1 c2 c3 c4 x=>e5.extBut _ _ c1 (e4 _ _ c4 (e3.extBut _ _ c2 (e2.extBut _ _ c3 (e1.extBut _ _ c1 x))))) ⟨oe,e5.extBut _ _ ez Pn,hce⟩
end
end L2
namespace L2
open PySem PySem.Spec PyProof.Rows
abbrev Hv (l:Addr):Obj:={ cls:=.type "tuple_iterator",data:=.fields #[.ref l,.int 0 0] }
abbrev Po (h:Heap) (l1 l2:Addr):Heap:=(h.push (Hv l1)).push (Hv l2)
abbrev Yu (h:Heap) (l1 l2:Addr):Heap:=((Po h l1 l2).push { cls:=.type "tuple",data:=.seq #[.ref h.objs.size,.ref (h.push (Hv l1)).objs.size] }).push { cls:=.type "tuple",data:=.seq #[.none,.none] }
abbrev QY (h:Heap) (l1 l2:Addr):Heap:=(Yu h l1 l2).push { cls:=.type "zip",data:=.fields #[.none,.bool false,.bool false,.ref (Po h l1 l2).objs.size,.ref ((Po h l1 l2).push { cls:=.type "tuple",data:=.seq #[.ref h.objs.size,.ref (h.push (Hv l1)).objs.size] }).objs.size] }
theorem IsTuple.SW {h:Heap}{l:Addr}{xs:Array Value}(hl:h.IsTuple l xs) (o:Obj):(h.push o).IsTuple l xs:=by
 obtain ⟨ob,e,r⟩:=hl
 exact ⟨ob,Heap.get?_push_of_some _ e,r⟩
theorem Hw (l1 l2:Addr) (xs ys:Array Value):
  Meets (Builtin.«zip.__new__» ⟨[.type "zip",.ref l1,.ref l2],[]⟩) (fun _ R s=>s.heap.IsTuple l1 xs∧s.heap.IsTuple l2 ys∧R (.ok (.ret (.ref (Yu s.heap l1 l2).objs.size))) { s with heap:=QY s.heap l1 l2 }):=
 .of_wp fun prog w A R s h=>by
  obtain ⟨hp,g,d,tk,os⟩:=s;obtain ⟨t1,t2,h⟩:=h
  have q0:=sub_zip
  have q1:Heap.IsTuple (Shared.heap ⟨hp,g,d,tk,os⟩) l1 xs:=t1
  have q2:Heap.IsTuple (Shared.heap ⟨hp.push (Hv l1),g,d,tk,os⟩) l2 ys:=IsTuple.SW t2 _
  wp_walk using wpAny_pyIter_tuple q1,wpAny_pyIter_tuple q2
  exact ⟨_,rfl,h⟩
section
variable {prog:Program}{w:World}{A:Around}{E:Value→Shared→Prop}{s:Shared}
theorem DR {l1 l2:Addr}{xs ys:Array Value}{Q:Value→Shared→Prop}(q1:s.heap.IsTuple l1 xs) (q2:s.heap.IsTuple l2 ys)
  (h:∀ h',IsZip h' (s.heap.objs.size + 4) (s.heap.objs.size + 2) (s.heap.objs.size + 3) .none→IsPair h' (s.heap.objs.size + 2) (.ref s.heap.objs.size) (.ref (s.heap.objs.size + 1))→IsPair h' (s.heap.objs.size + 3) .none .none→
   h'.IsTupleIter s.heap.objs.size l1 0→h'.IsTupleIter (s.heap.objs.size + 1) l2 0→(∀ c o,s.heap.get? c = some o→h'.get? c = some o)→Q (.ref (s.heap.objs.size + 4)) { s with heap:=h' }):
  wpAny (model prog w) A (call (.type "zip") [.ref l1,.ref l2]) Q E s:=by
 refine callType_new F.called_zip (by decide) (F.typeCall_zip_2 _ _) (F.newCall_zip_2 _ _) (fun obj=>F.args_object_init_3 obj _ _) F.entry_zip_new (Hw l1 l2 xs ys) ⟨q1,q2,?_⟩
 have a1:(s.heap.push (Hv l1)).objs.size = s.heap.objs.size + 1:=Heap.size_push ..
 have a2:(Po s.heap l1 l2).objs.size = s.heap.objs.size + 2:=by rw [Heap.size_push,a1]
 have a3:((Po s.heap l1 l2).push { cls:=.type "tuple",data:=.seq #[.ref s.heap.objs.size,.ref (s.heap.push (Hv l1)).objs.size] }).objs.size = s.heap.objs.size + 3:=by rw [Heap.size_push,a2]
 have a4:(Yu s.heap l1 l2).objs.size = s.heap.objs.size + 4:=by rw [Heap.size_push,a3]
 have u:∀ {hh:Heap}{o:Obj}{c:Addr}{ob:Obj},hh.get? c = some ob→(hh.push o).get? c = some ob:=fun e=>Heap.get?_push_of_some _ e
 have g5:(QY s.heap l1 l2).get? (Yu s.heap l1 l2).objs.size = some _:=Heap.get?_push_size _ rfl
 have g4:(QY s.heap l1 l2).get? ((Po s.heap l1 l2).push { cls:=.type "tuple",data:=.seq #[.ref s.heap.objs.size,.ref (s.heap.push (Hv l1)).objs.size] }).objs.size = some _:=u (Heap.get?_push_size _ rfl)
 have g3:(QY s.heap l1 l2).get? (Po s.heap l1 l2).objs.size = some _:=u (u (Heap.get?_push_size _ rfl))
 have g2:(QY s.heap l1 l2).get? (s.heap.push (Hv l1)).objs.size = some (Hv l2):=u (u (u (Heap.get?_push_size _ rfl)))
 have g1:(QY s.heap l1 l2).get? s.heap.objs.size = some (Hv l1):=u (u (u (u (Heap.get?_push_size _ rfl))))
 rw [a2,a3,a4] at g5
 rw [a1,a2] at g3
 rw [a3] at g4
 rw [a1] at g2
 show _∧_
 rw [a4]
 exact ⟨⟨_,g5,rfl⟩,h _ g5 g3 g4 ⟨_,g1,rfl,rfl⟩ ⟨_,g2,rfl,rfl⟩ fun c o x=>u (u (u (u (u x))))⟩
theorem JN {z TI TO i1 i2:Addr}{f1 f2:List Addr}{n1 n2 k:Nat}{P1 P2:Nat→Value→Prop}{S1 S2:Nat→Heap→Prop}{a b:Value}{Q:Option Value→Shared→Prop}(Z:QX z TI TO i1 i2 f1 f2) (D1:Draws prog w A.in1 i1 f1 n1 P1 S1) (D2:Draws prog w A.in1 i2 f2 n2 P2 S2) (hz:IsZip s.heap z TI TO .none) (ht:IsPair s.heap TI (.ref i1) (.ref i2)) (ho:IsPair s.heap TO a b)
  (t1:S1 k s.heap) (t2:S2 k s.heap) (k1:k < n1) (k2:k < n2)
  (q:∀ x y h' tk,P1 k x→P2 k y→IsZip h' z TI TO (rawInt s.heap.objs.size)→IsPair h' TO x y→S1 (k + 1) h' → S2 (k + 1) h' → IsPair h' s.heap.objs.size x y→
   (∀ c o,c≠z→c≠TO→c≠i1→c≠i2→s.heap.get? c = some o→h'.get? c = some o)→Q (some (.ref s.heap.objs.size)) { s with heap:=h',toks:=tk }):wpAny (model prog w) A (pyNext (.ref z)) Q E s:=by
 have hT:s.TypeIs (.ref z) "zip" := ⟨_,hz,rfl⟩
 unfold pyNext
 exact wpAny_bind (wpAny_attempt (wpAny_callSpecial?_slot (name:=Str.ofString "__next__") hT F.slot_zip_next (wpAny_call_entry F.slot_zip_next hT F.entry_zip_next (JM Z D1 D2 hz ht ho t1 t2 k1 k2 fun x y h' tk p1 p2 b1 b2 b3 b4 b5 b6=>wpAny_pure (q x y h' tk p1 p2 b1 b2 b3 b4 b5 b6)) (F.args_zip_next_1 _))))
theorem JO {z TI TO i1 i2:Addr}{f1 f2:List Addr}{n1 n2 k:Nat}{P1 P2:Nat→Value→Prop}{S1 S2:Nat→Heap→Prop}{a b:Value}{Q:Option Value→Shared→Prop}(Z:QX z TI TO i1 i2 f1 f2) (D1:Draws prog w A.in1 i1 f1 n1 P1 S1) (D2:Draws prog w A.in1 i2 f2 n2 P2 S2) (hz:IsZip s.heap z TI TO .none) (ht:IsPair s.heap TI (.ref i1) (.ref i2)) (ho:IsPair s.heap TO a b)
  (t1:S1 k s.heap) (t2:S2 k s.heap) (hk:k = n1∨(k < n1∧k = n2))
  (q:∀ h' tk,(∀ c o,c≠z→c≠TO→c≠i1→c≠i2→s.heap.get? c = some o→h'.get? c = some o)→Q none { s with heap:=h',toks:=tk }):wpAny (model prog w) A (pyNext (.ref z)) Q E s:=by
 have hT:s.TypeIs (.ref z) "zip" := ⟨_,hz,rfl⟩
 unfold pyNext
 refine wpAny_bind (wpAny_attempt (wpAny_callSpecial?_slot (name:=Str.ofString "__next__") hT F.slot_zip_next (wpAny_call_entry F.slot_zip_next hT F.entry_zip_next (Pj Z D1 D2 hz ht ho t1 t2 hk fun h' e tk hk' he=>?_) (F.args_zip_next_1 _))))
 obtain ⟨o,ho',hc⟩:=he
 exact wpAny_bind (wpAny_isInstance (T:= "StopIteration") (b:=true) ⟨o,ho',hc⟩ isSubtype_stop (wpAny_pure (q _ _ hk')))
end
def SX (K:PySem.W.Frag) (a1 a2:Addr):It:=
 ⟨fun i H=>∃ xs x ys y,eV K H a1 xs∧xs[i]? = some x∧eV K H a2 ys∧ys[i]? = some y,fun i H v H' => ∃ p x y,H p = none∧v = .ref p∧H' = upd H p (.tup [x,y])∧(∀ xs,eV K H a1 xs→xs[i]? = some x)∧∀ ys,eV K H a2 ys→ys[i]? = some y,
  fun i H=>∃ xs ys,eV K H a1 xs∧eV K H a2 ys∧(i = xs.length∨(i < xs.length∧i = ys.length))⟩
theorem DS {P:Program}{w:World}{K:PySem.W.Frag}{elts:List Expr}{tk:Nat}{tpos:Pos}{a1 a2 z TI TO i1 i2:Addr}(Z:QX z TI TO i1 i2 [i1,a1] [i2,a2]) (n1:a1≠i1) (n2:a2≠i2):Turn P w K (.Tuple elts tk tpos) (SX K a1 a2) [z,TI,TO,i1,i2] z (fun i h=>IsZip h z TI TO .none∧IsPair h TI (.ref i1) (.ref i2)∧(∃ a b,IsPair h TO a b)∧h.IsTupleIter i1 a1 i∧h.IsTupleIter i2 a2 i) where
 mem:=by simp
 obj:=fun i h st c hc=>by
  obtain ⟨hz,ht,⟨a,b,ho⟩,⟨o1,e1,_,d1⟩,⟨o2,e2,_,d2⟩⟩:=st
  simp only [List.mem_cons,List.not_mem_nil,or_false] at hc
  rcases hc with rfl | rfl | rfl | rfl | rfl
  ·exact ⟨_,hz,fun v q=>by cases q⟩
  ·exact ⟨_,ht,fun v q=>by cases q⟩
  ·exact ⟨_,ho,fun v q=>by cases q⟩
  ·exact ⟨o1,e1,fun v q=>by rw [d1] at q;cases q⟩
  ·exact ⟨o2,e2,fun v q=>by rw [d2] at q;cases q⟩
 keep:=fun i h h' st k=>by
  obtain ⟨hz,ht,⟨a,b,ho⟩,⟨o1,e1,r1⟩,⟨o2,e2,r2⟩⟩:=st
  exact ⟨k z (by simp) _ hz,k TI (by simp) _ ht,⟨a,b,k TO (by simp) _ ho⟩,⟨o1,k i1 (by simp) _ e1,r1⟩,⟨o2,k i2 (by simp) _ e2,r2⟩⟩
 item:=by
  intro X hP hw hK hc i pins s σ H E I hf st hg
  subst hP hw hK
  obtain ⟨xs,x,ys,y,hq1,hx,hq2,hy⟩:=hg
  obtain ⟨BY,Yv,p1,_⟩:=I.tuple hq1
  obtain ⟨its2,Yw,p2,_⟩:=I.tuple hq2
  obtain ⟨u1,hu1,ru1⟩:=Yv.get hx
  obtain ⟨u2,hu2,ru2⟩:=Yw.get hy
  obtain ⟨hz,ht,⟨a,b,ho⟩,t1,t2⟩:=st
  have l1:i < BY.toArray.size:=by have:=(List.getElem?_eq_some_iff.mp hu1).1;simpa using this
  have l2:i < its2.toArray.size:=by have:=(List.getElem?_eq_some_iff.mp hu2).1;simpa using this
  have hh:X.A.in1.handled = none:=I.ok.hd hc
  refine JN Z (oF hh i1 a1 n1 BY.toArray) (oF hh i2 a2 n2 its2.toArray) hz ht ho ⟨t1,p1⟩ ⟨t2,p2⟩ l1 l2 fun x' y' h' tk' hP1 hP2 b1 b2 b3 b4 b5 b6=>?_
  have ex:x' = u1:=by
   have:BY[i]? = some x' := by simpa using hP1
   rw [hu1] at this;exact (Option.some.inj this).symm
  have ey:y' = u2:=by
   have:its2[i]? = some y' := by simpa using hP2
   rw [hu2] at this;exact (Option.some.inj this).symm
  subst ex ey
  refine ⟨_,rfl,wpAny_letOwnedTupleGo_zip b1 fun h2 hz2 hs2=>?_⟩
  have zt:z≠s.heap.objs.size:=Nat.ne_of_lt (Heap.lt_size hz)
  have new:cC X.prog X.w (upd H s.heap.objs.size (.tup [x,y])) h2 s.heap.objs.size (.tup [x,y]):=
   ⟨by show 2≤sizeLine;decide,[x',y'],.cons ru1 (.cons ru2 .nil),⟨_,(hs2.2 _ (Ne.symm zt)).trans b5,rfl,_,rfl⟩,_,(hs2.2 _ (Ne.symm zt)).trans b5,rfl⟩
  have kk:∀ b o,b ∉ [z,TI,TO,i1,i2]→s.heap.get? b = some o→h2.get? b = some o:=fun b o hb q=>by
   simp only [List.mem_cons,List.not_mem_nil,or_false,not_or] at hb
   exact (hs2.2 b hb.1).trans (b6 b o hb.1 hb.2.2.1 hb.2.2.2.1 hb.2.2.2.2 q)
  have fresh:=I.hok.fresh (Nat.le_refl s.heap.objs.size)
  refine ⟨.ref s.heap.objs.size,_,I.zc (t' := tk') kk hf (Nat.le_refl _) new,rfl,⟨_,x,y,fresh,rfl,rfl,fun zs hy' => by rw [I.ou hy' hq1];exact hx,fun zs hy' => by rw [I.ou hy' hq2];exact hy⟩,⟨hz2,?_,⟨_,_,(hs2.2 TO Z.oz).trans b2⟩,?_,?_⟩,fun c hc=>?_⟩
  ·exact (hs2.2 TI Z.iz).trans (b6 TI _ Z.iz Z.io Z.ia Z.ib ht)
  ·obtain ⟨o3,g1,g2⟩:=b3.1
   exact ⟨o3,(hs2.2 i1 Z.az).trans g1,g2⟩
  ·obtain ⟨o3,g1,g2⟩:=b4.1
   exact ⟨o3,(hs2.2 i2 Z.bz).trans g1,g2⟩
  ·have lt:∃ o,s.heap.get? c = some o:=by
    simp only [List.mem_cons,List.not_mem_nil,or_false] at hc
    rcases hc with rfl | rfl | rfl | rfl | rfl
    ·exact ⟨_,hz⟩
    ·exact ⟨_,ht⟩
    ·exact ⟨_,ho⟩
    ·obtain ⟨o,e,_⟩:=t1;exact ⟨o,e⟩
    ·obtain ⟨o,e,_⟩:=t2;exact ⟨o,e⟩
   obtain ⟨o,e⟩:=lt
   rw [aI (Nat.ne_of_lt (Heap.lt_size e))];exact (hf c hc).1
 done:=by
  intro X hP hw hK hc i pins s σ H E I hf st hg
  subst hP hw hK
  obtain ⟨xs,ys,hq1,hq2,hi⟩:=hg
  obtain ⟨BY,Yv,p1,_⟩:=I.tuple hq1
  obtain ⟨its2,Yw,p2,_⟩:=I.tuple hq2
  have e1:=Yv.length
  have e2:=Yw.length
  obtain ⟨hz,ht,⟨a,b,ho⟩,t1,t2⟩:=st
  have hh:X.A.in1.handled = none:=I.ok.hd hc
  refine JO Z (oF hh i1 a1 n1 BY.toArray) (oF hh i2 a2 n2 its2.toArray) hz ht ho ⟨t1,p1⟩ ⟨t2,p2⟩ (by simp only [List.size_toArray];omega) fun h' tk' b6=>?_
  exact ⟨rfl,I.turns (t' := tk') (fun c u hc' q=>by
   simp only [List.mem_cons,List.not_mem_nil,or_false,not_or] at hc'
   exact b6 c u hc'.1 hc'.2.2.1 hc'.2.2.2.1 hc'.2.2.2.2 q) hf⟩
 self:=fun _ _ _ _ _ st h=>wpAny_pyIter_zip st.1 h
theorem Pp {n l1 l2:Nat}(b1:l1 < n) (b2:l2 < n):QX (n + 4) (n + 2) (n + 3) n (n + 1) [n,l1] [n + 1,l2]:=by
 have h:∀ {a b c:Nat},a≠b→a≠c→a ∉ [b,c]:=fun h1 h2 hm=>by
  rcases List.mem_cons.mp hm with e | e
  ·exact h1 e
  ·exact h2 (List.mem_singleton.mp e)
 constructor
 all_goals first
  | exact h (by omega) (by omega)
  | (show (_:Nat)≠_;omega)
section
variable {X:Cx}
def SY (K:PySem.W.Frag) (ta:TA):TI:=fun σ H R=>ta σ H fun vs H1=>∃ a1 a2,vs = [.ref a1,.ref a2]∧(∃ xs,eV K H1 a1 xs)∧(∃ ys,eV K H1 a2 ys)∧R (SX K a1 a2) H1
theorem boot_zip:bootBuiltins "zip" = some (.type "zip"):=by decide +kernel
theorem JP {K:PySem.W.Frag}(eK:X.K = K) {a b:Expr}{ta:TA}{p pos:Pos}{elts:List Expr}{tk:Nat}{tpos:Pos}(hg:Gl X "zip") (hm:X.mg "zip" = none) (ha:PA X [a,b] ta) (hs:starEach [a,b] X.env = [(false,eval a X.env),(false,eval b X.env)]:=by rfl) (hs2:starEach [b] X.env = [(false,eval b X.env)]:=by rfl):
  PI X (.Tuple elts tk tpos) (.Call (.Name "zip" p) [a,b] [] pos) (SY K ta):=by
 subst eK
 intro pins s σ H R I h
 refine Call_ (lP I hg hm boot_zip (PyProof.Rows.callWith_type1 (cJ (ha pos pins s σ H _ I h) fun us s1 ⟨vs,H1,I1,r1,q1⟩=>?_) (by rw [hs,hs2]) (by rw [hs2];rfl)))
 obtain ⟨l1,l2,e,⟨xs,hq1⟩,⟨ys,hq2⟩,q⟩:=q1
 subst e
 cases r1 with
 | cons r rr=>
  cases rr with
  | cons r' rr=>
   cases rr
   cases (show _ = Value.ref l1 from r)
   cases (show _ = Value.ref l2 from r')
   obtain ⟨BY,Yv,p1,_⟩:=I1.tuple hq1
   obtain ⟨its2,Yw,p2,_⟩:=I1.tuple hq2
   have b1:l1 < s1.heap.objs.size:=by obtain ⟨o,e,_⟩:=id p1;exact Heap.lt_size e
   have b2:l2 < s1.heap.objs.size:=by obtain ⟨o,e,_⟩:=id p2;exact Heap.lt_size e
   refine DR (show s1.heap.IsTuple l1 BY.toArray from p1) (show s1.heap.IsTuple l2 its2.toArray from p2) fun h' hz ht ho i1 i2 hk=>?_
   have Z:=Pp b1 b2
   refine wpAny_pyIter_zip hz ⟨s1.heap.objs.size + 4,_,_,_,H1,rfl,I1.kept (t' := s1.toks) hk,DS Z (Nat.ne_of_lt b1) (Nat.ne_of_lt (Nat.lt_succ_of_lt b2)),⟨hz,ht,⟨_,_,ho⟩,i1,i2⟩,fun c hc=>?_,q⟩
   have hc' : s1.heap.objs.size≤c:=by
    simp only [List.mem_cons,List.not_mem_nil,or_false] at hc
    rcases hc with rfl | rfl | rfl | rfl | rfl
    ·exact Nat.le_add_right _ _
    ·exact Nat.le_add_right _ _
    ·exact Nat.le_add_right _ _
    ·exact Nat.le_refl _
    ·exact Nat.le_add_right _ _
   exact I1.CY hc' (I1.hok.fresh hc')
end
end L2
namespace L2
open PySem PySem.Spec PyProof.Rows
structure fO (fr sc:Scope) (x x2:Str) (cap:List Str):Prop where
 kind:sc.kind = .function
 cell:∀ p∈sc.names,p.2≠.cell
 names:∀ p∈sc.names,p.2 = .local→sc.names.lookup p.1 = some .local
 tgt:sc.names.lookup x = some .local
 aam:sc.names.lookup x2 = some .local
 free:∀ p∈sc.names,p.2 = .free→fr.names.lookup p.1 = some .cell
 caps:∀ y∈cap,(y,NameKind.free)∈sc.names
 nd:(x :: x2 :: cap).Nodup
 tZ:∀ y∈cap,sc.names.lookup y≠some .local
section
variable {X:Cx}{pins:List (Addr × Obj)}{σ:St}{H:Hp}{s:Shared}{sc:Scope}{x x2:Str}{cap:List Str}
theorem fO.cells (S:fO X.env.scope sc x x2 cap) (ok:X.Ok):∀ p∈sc.names,p.2 = .free→∃ c,X.env.cells.lookup p.1 = some c:=
 fun p hp e=>ok.has p.1 (.inl (S.free p hp e))
theorem fO.sub (S:fO X.env.scope sc x x2 cap) (ok:X.Ok) {y:Str}{c:Addr}(h:(eU X.env sc.names []).lookup y = some c):X.env.cells.lookup y = some c:=
 lC (S.cells ok) (fun _ _ z=>by simp at z) h
theorem DT (S:fO X.env.scope sc x x2 cap) {js:List Nat}(qO:js.map (fun j=>X.N[j]?) = cap.map some) (I:Inv X pins σ H s) {fp:List Addr}(hf:∀ b∈fp,lu X pins H b) (hlt:∀ b∈fp,b < s.heap.objs.size)
  {h1:Heap}{tk:Nat}{D C:Addr}{oD:Obj}{m:Str→Option Value}(hD:D = s.heap.objs.size) (hC:C = s.heap.objs.size + 1) (keep:∀ b o,s.heap.get? b = some o→h1.get? b = some o) (EL:h1.get? D = some oD) (hnc:∀ v,oD.data≠.cell v) (hns:h1.Ns C m):
  Inv (bR X sc (x :: x2 :: cap) C s H fp) [(D,oD)] (none :: none :: cM σ js) H { s with heap:=h1,toks:=tk }:=by
 subst hD hC
 have AS:js.length = cap.length:=by have:=congrArg List.length qO;simpa using this
 have ok:=I.ok
 refine ⟨⟨ok.mod,S.kind,ok.glob,ok.blt,?_,fun y z c h1 h2=>ok.inj y z c (S.sub ok h1) (S.sub ok h2),fun y hy=>?_,(fun y c h=>Bool.noConfusion h),ok.hd,ok.frames,.inl rfl,fun b hb=>⟨?_,fun y c e=>(hf b hb).2.2.2.2.1 y c (S.sub ok e)⟩,I.bs,Nat.le_trans ok.Ef I.sz,fun b o e hb=>?_,fun b hb hb' => ?_,I.stack,I.sZ⟩,
  rfl,I.bare,Un.kept keep,⟨m,hns,fun i y v e1 e2 e3=>?_⟩,fun y c e=>?_,I.hok.fresh (Nat.le_succ _),fun y c e=>I.kZ y c (S.sub ok e),fun p hp=>?_,I.hok.kept keep,?_⟩
 ·exact Nat.le_succ _
 ·have hy' : ∃ k,(y,k)∈(relabel sc X.env).names∧(k = .cell∨k = .free):=by
   rcases hy with hy | hy
   ·exact ⟨_,PySem.mem_of_lookup hy,.inl rfl⟩
   ·exact ⟨_,PySem.mem_of_lookup hy,.inr rfl⟩
  obtain ⟨k,hm,hk⟩:=hy'
  obtain ⟨k',hm',hk'⟩:=gW hm
  have hfree:k' = .free:=by
   rcases hk' with e | ⟨e,_⟩
   ·subst e
    rcases hk with e | e
    ·exact absurd e (S.cell _ hm')
    ·exact e
   ·exact e
  subst hfree
  exact Option.isSome_iff_exists.mp (iu hm')
 ·exact iK (Nat.lt_succ_of_lt (hlt b hb))
 ·obtain ⟨_,_,_,z,_⟩:=hf b hb
  rcases z with z | z
  ·exact ok.AF b o e z
  ·have:=Heap.lt_size (ok.bs b o e).1
   exact absurd (Nat.lt_of_lt_of_le this z) (Nat.lt_irrefl _)
 ·obtain ⟨_,z1,z2,_⟩:=hf b hb
  rcases List.mem_cons.mp (I.tR b hb') with z | z
  ·exact z1 z
  ·exact z2 z
 ·match i,e1,e2 with
  | 0,e1,e2=>
   have qG:(none:Option V) = some v:=by simpa using e2
   cases qG
  | 1,e1,e2=>
   have qG:(none:Option V) = some v:=by simpa using e2
   cases qG
  | i + 2,e1,e2=>
   have MB:cap[i]? = some y:=by simpa using e1
   have qG:(cM σ js)[i]? = some (some v):=by simpa using e2
   have hy:y∈cap:=List.mem_of_getElem? MB
   unfold cM at qG
   rw [List.getElem?_map] at qG
   cases ej:js[i]? with
   | none=>rw [ej] at qG;cases qG
   | some j=>
    rw [ej] at qG
    have lU:(σ[j]?).join = some v:=Option.some.inj qG
    have eN:X.N[j]? = some y:=by
     have:=congrArg (fun l=>l[i]?) qO
     simp only [List.getElem?_map,ej,MB,Option.map_some] at this
     exact Option.some.inj this
    have eσ:σ[j]? = some (some v):=by
     cases q:σ[j]? with
     | none=>rw [q] at lU;cases lU
     | some w' =>
      rw [q] at lU
      have:w' = some v:=by simpa using lU
      rw [this]
    have kc:X.env.scope.names.lookup y = some .cell:=S.free (y,.free) (S.caps y hy) rfl
    obtain ⟨m0,hn0,Om⟩:=I.loc
    obtain ⟨u,ru,lk⟩:=Om j y v eN eσ (.inr (.inl kc))
    refine ⟨u,ru,?_⟩
    rcases lk with ⟨k,_⟩ | ⟨_,c,ec,hc⟩
    ·have k' : X.env.scope.names.lookup y = some .local:=k
     rw [kc] at k';cases k'
    ·obtain ⟨c',hc'⟩:=Option.isSome_iff_exists.mp (iu (env:=X.env) (acc:=[]) (S.caps y hy))
     have hcc:c' = c:=Option.some.inj ((S.sub ok hc').symm.trans ec)
     subst hcc
     refine .inr ⟨?_,c',hc',?_⟩
     ·rcases e3 with e3 | e3 | e3
      ·exfalso
       have hm:=PySem.mem_of_lookup e3
       obtain ⟨k',hm',hk'⟩:=gW hm
       rcases hk' with e | ⟨_,e⟩
       ·subst e
        exact S.tZ y hy (S.names _ hm' rfl)
       ·cases e
      ·exact .inl e3
      ·exact .inr e3
     ·obtain ⟨o,ho,hd⟩:=hc
      exact ⟨o,keep _ o ho,hd⟩
 ·obtain ⟨v,o,ho,hd⟩:=I.cell y c (S.sub ok e)
  exact ⟨v,o,keep _ o ho,hd⟩
 ·have oB:p = (s.heap.objs.size,oD):=by simpa using hp
  subst oB
  refine ⟨EL,I.hok.fresh (Nat.le_refl _),iK (Nat.lt_succ_self _),fun hb=>?_,hnc⟩
  obtain ⟨_,o,ho,_⟩:=I.stack.mem hb
  exact Nat.lt_irrefl _ (Heap.lt_size ho)
 ·show (none :: none :: cM σ js).length = (x :: x2 :: cap).length
  unfold cM
  simp [AS]
theorem DU (S:fO X.env.scope sc x x2 cap) (I:Inv X pins σ H s) {fp:List Addr}(hf:∀ b∈fp,lu X pins H b) {D C:Addr}{Ry:List (Addr × Obj)}{σ' : St} {H' : Hp} {s' : Shared} {ys:List V}{its:List Value}{k:Nat}{h' : Heap}
  (hD:D = s.heap.objs.size) (hC:C = s.heap.objs.size + 1) (J:Inv (bR X sc (x :: x2 :: cap) C s H fp) Ry σ' H' s') (EM:H' D = none) (EL:s'.heap.get? D = some { cls:=.type "list",data:=.seq its.toArray k }) (rv:Vals ys its) (hz:ys.length≤sizeLine)
  (hs:Heap.SameBut C s'.heap h'):Inv X pins σ (upd H' D (.lst ys)) { s' with heap:=h' }:=by
 subst hD hC
 have base:Un (frs X.stack) fp H H' s.heap s'.heap:=J.base
 have MC:H' (s.heap.objs.size + 1) = none:=J.free
 have AB:∀ {b:Addr}{o:Obj},s.heap.get? b = some o→b≠s.heap.objs.size + 1:=fun e=>iK (Nat.lt_succ_of_lt (Heap.lt_size e))
 have Rz:∀ {b:Addr}{o:Obj},s.heap.get? b = some o→b≠s.heap.objs.size:=fun e=>iK (Heap.lt_size e)
 have uc:∀ {b:Addr}{o:HO},H b = some o→b≠s.heap.objs.size:=fun e=>iK (I.hok.lt e)
 refine I.Er (s' := { s' with heap:=h' }) (ch:=fp) J.os ⟨fun b o e n hb hx=>?_,fun b o e n hb hx=>?_,fun b o e n hx=>?_,fun b o e hx=>?_,fun b xs e=>?_,fun b o u e=>?_,fun b ps e=>?_⟩ (fun b u e=>?_) J.bare fun b hb=>?_
 ·exact (hs.2 b (AB e)).trans (base.keep b o e n hb hx)
 ·obtain ⟨sl,q⟩:=base.slot b o e n hb hx
  exact ⟨sl,(hs.2 b (AB e)).trans q⟩
 ·rw [aI (Rz e)];exact base.free b o e n hx
 ·obtain ⟨o',q⟩:=base.there b o e hx
  exact ⟨o',(hs.2 b (AB e)).trans q⟩
 ·rw [aI (uc e)];exact base.tups b xs e
 ·rw [aI (uc e)];exact base.m5 b o u e
 ·rw [aI (uc e)];exact base.oU b ps e
 ·by_cases hb:b = s.heap.objs.size
  ·subst hb
   rw [aE] at e
   cases e
   exact ⟨hz,its,k,rv,(hs.2 _ (iK (Nat.lt_succ_self _))).trans EL⟩
  ·rw [aI hb] at e
   have J' : cC X.prog X.w H' s'.heap b u:=J.hok b u e
   refine J'.stay (fun c v hc q=>(hs.2 c ?_).trans q) (fun c q=>?_) (fun c xs q=>?_) fun c o u q=>?_
   ·rintro rfl
    rcases hc with rfl | hc
    ·rw [MC] at e;cases e
    ·rw [MC] at hc;cases hc
   ·rw [aI (aC q EM)];exact q
   ·rw [aI (aC q EM)];exact q
   ·rw [aI (aC q EM)];exact q
 ·obtain ⟨_,z1,_,z3,z4,z5⟩:=hf b hb
  exact ⟨z3,z1,z4,z5⟩
end
section
variable {X:Cx}{pins:List (Addr × Obj)}{σ:St}{H:Hp}{s:Shared}{sc:Scope}{x x2:Str}{cap:List Str}
def S0 (K:PySem.W.Frag) (J:It) (js:List Nat) (σ:St) (tt:TT) (te:TE) (Q:VK) (W:Nat→Nat→List V→Hp→Prop):Prop:=
 ∀ i m ys H,W i m ys H→ys.length < sizeLine∧
  ((J.stop i H∧∀ p,H p = none→Q (.ref p) (upd H p (.lst ys)))∨
   (J.go i H∧∀ x H',J.AD i H x H' → ∃ p u1 u2,x = .ref p∧eV K H' p [u1,u2]∧tt (some u1 :: some u2 :: cM σ js) H' fun b H2=>if b = true then te (some u1 :: some u2 :: cM σ js) H2 fun v H3=>∃ m',m' < m∧W (i + 1) m' (ys ++ [v]) H3 else ∃ m',m' < m∧W (i + 1) m' ys H2))
def S3 (K:PySem.W.Frag) (wi:TI) (js:List Nat) (tt:TT) (te:TE):TE:=fun σ H Q=>wi σ H fun J H1=>∃ W:Nat→Nat→List V→Hp→Prop,(∃ m,W 0 m [] H1)∧S0 K J js σ tt te Q W
theorem DV (S:fO X.env.scope sc x x2 cap) {js:List Nat}(qO:js.map (fun j=>X.N[j]?) = cap.map some) (hc:X.calm = true) {elt iter:Expr}{ifs:List Expr}{pos px py tpos:Pos}{tk:Nat}{tt:TT}{te:TE}
  (hb:∀ C s0 H0 ex,IA (bR X sc (x :: x2 :: cap) C s0 H0 ex) ifs tt∧PE (bR X sc (x :: x2 :: cap) C s0 H0 ex) elt te)
  (I:Inv X pins σ H s) {J:It}{fp:List Addr}{it:Addr}{tn:Nat→Heap→Prop}(T:Turn X.prog X.w X.K (.Tuple [.Name x px,.Name x2 py] tk tpos) J fp it tn) (st:tn 0 s.heap) (hf:∀ b∈fp,lu X pins H b)
  {Q:VK}{W:Nat→Nat→List V→Hp→Prop}(w0:∃ m,W 0 m [] H) (turn:S0 X.K J js σ tt te Q W) {RR:Value→Addr→Result→Shared→Prop}{E:Value→Shared→Prop}
  (hR:∀ D C s' σ' H' ys its k,D = s.heap.objs.size→C = s.heap.objs.size + 1→Inv (bR X sc (x :: x2 :: cap) C s H fp) [(D,{ cls:=.type "list",data:=.seq its.toArray k })] σ' H' s' → Vals ys its→ys.length≤sizeLine→(∀ p,H' p = none→Q (.ref p) (upd H' p (.lst ys)))→RR (.ref D) C (.ok .next) s'):
  wpAny (model X.prog X.w) X.A (newList []) (fun acc s₃=>wpAny (model X.prog X.w) X.A (newFunctionEnv sc X.env.globals (eU X.env sc.names []) [] X.env.qual none .none (some X.env)) (fun cenv s₄=>
   codeAny (model X.prog X.w) X.A (.compStart (.ListComp elt [⟨(.Tuple [.Name x px,.Name x2 py] tk tpos),iter,ifs,0⟩] sc pos) 0 (.ref it) acc { cenv with scope:=relabel sc X.env }) (RR acc cenv.locals) s₄) E s₃) E s:=by
 refine wpAny_newObj_type (wpAny_newFunctionEnv S.cell (by intro y hy;simp at hy) (fun h₁ pN qP=>?_) S.kind)
 dsimp only at pN qP ⊢
 have hlt:∀ b∈fp,b < s.heap.objs.size:=fun b hb' => by
  obtain ⟨o,e,_⟩:=T.obj 0 _ st b hb'
  exact Heap.lt_size e
 generalize Oq:s.heap.push { cls:=.type "list",dict:=none,data:=.seq ([]:List Value).toArray } = H2 at pN qP ⊢
 have hC:H2.objs.size = s.heap.objs.size + 1:=by rw [← Oq,Heap.size_push]
 have old:∀ b o,s.heap.get? b = some o→h₁.get? b = some o:=fun b o e=>
  qP.extBut b o (by rw [hC];exact iK (Nat.lt_succ_of_lt (Heap.lt_size e))) (Heap.get?_push_of_some _ (Oq ▸ Heap.get?_push_of_some _ e))
 have hacc:h₁.get? s.heap.objs.size = some { cls:=.type "list",data:=.seq ([]:List Value).toArray }:=
  qP.extBut _ _ (by rw [hC];exact iK (Nat.lt_succ_self _)) (Heap.get?_push_of_some _ (Oq ▸ Heap.get?_push_size _ rfl))
 have MD:tn 0 h₁:=T.keep _ _ _ st fun b _ o e=>old b o e
 obtain ⟨m0,w0⟩:=w0
 rw [hC] at pN qP ⊢
 generalize Ot:s.heap.objs.size + 1 = C at pN qP hR ⊢
 generalize Ei:s.heap.objs.size = D at hacc hR ⊢
 have C6:=Ei.symm
 have QE:C = s.heap.objs.size + 1:=Ot.symm
 have EN:∀ {b:Addr},b < s.heap.objs.size→b≠D:=fun h=>by rw [← Ei];exact iK h
 have loop:∀ s₃:Shared,s₃ = { s with heap:=h₁,toks:=s.toks + ([]:List (Str × Value)).length }→
   codeAny (model X.prog X.w) X.A (.compLoop (.ListComp elt [⟨(.Tuple [.Name x px,.Name x2 py] tk tpos),iter,ifs,0⟩] sc pos) 0 (.ref it) (.ref D) (compEnvC sc (eU X.env sc.names []) C X.env)) (RR (.ref D) C) s₃:=by
  rintro s₃ rfl
  have I0:Inv (bR X sc (x :: x2 :: cap) C s H fp) [(D,{ cls:=.type "list",data:=.seq ([]:List Value).toArray })] (none :: none :: cM σ js) H { s with heap:=h₁,toks:=s.toks + ([]:List (Str × Value)).length }:=
   DT S qO I hf hlt C6 QE old hacc (fun v z=>by cases z) pN
  have QF:(bR X sc (x :: x2 :: cap) C s H fp).N.Nodup:=S.nd
  have tD:(bR X sc (x :: x2 :: cap) C s H fp).env.scope.names.lookup x = some .local:=lookup_relabel_local S.tgt
  have S4:(bR X sc (x :: x2 :: cap) C s H fp).env.scope.names.lookup x2 = some .local:=lookup_relabel_local S.aam
  have EO:∀ b∈fp,b≠D:=fun b hb' => EN (hlt b hb')
  refine pM (fun n s' => ∃ i v0 v1 H' ys its k,Inv (bR X sc (x :: x2 :: cap) C s H fp) [(D,{ cls:=.type "list",data:=.seq its.toArray k })] (v0 :: v1 :: cM σ js) H' s' ∧ tn i s'.heap∧(∀ b∈fp,H' b = none)∧Vals ys its∧W i n ys H')
   ?_ m0 ⟨0,none,none,H,[],[],0,I0,MD,fun b hb' => (hf b hb').1,.nil,w0⟩
  rintro n s3 ⟨i,v0,v1,H3,ys,its,k,I3,st3,EB,rv,w3⟩
  obtain ⟨hlen,hor⟩:=turn i n ys H3 w3
  have pH:∀ {H' : Hp} {o:Obj},(∀ b∈fp,H' b = none)→∀ b∈fp,lu (bR X sc (x :: x2 :: cap) C s H fp) [(D,o)] H' b:=fun {H' o} hn b hb' =>
   ⟨hn b hb',(I3.ok.HY b hb').1,I3.ok.AG b hb',.inl hb',(I3.ok.HY b hb').2,fun p hp=>by
    have oB:p = (D,o):=by simpa using hp
    rw [oB]
    exact Ne.symm (EO b hb')⟩
  rcases hor with ⟨stop,qn⟩ | ⟨go,step⟩
  ·refine cJ (T.done (bR X sc (x :: x2 :: cap) C s H fp) rfl rfl rfl hc i _ s3 _ H3 _ I3 (pH EB) st3 stop) fun r s4 ⟨hr,I4⟩=>?_
   subst hr
   exact hR D C s4 _ H3 ys its k rfl rfl I4 rv (Nat.le_of_lt hlen) qn
  ·refine cJ (T.item (bR X sc (x :: x2 :: cap) C s H fp) rfl rfl rfl hc i _ s3 _ H3 _ I3 (pH EB) st3 go) fun r s4 ⟨u,hr,h4⟩=>?_
   subst hr
   refine cJ h4 fun _ s5 ⟨xv,H5,I5,r5,y5,AN,N7⟩=>?_
   have N8:=I5.pinned (pH N7) (T.obj _ _ AN)
   have hg:PG (bR X sc (x :: x2 :: cap) C s H fp) (.Tuple [.Name x px,.Name x2 py] tk tpos) (Rk X.K 2 (Ew (m9 0) (Ew (m9 1) Rj))):=AJ hc (lq (dj QF rfl (.inl tD) (.inr tD)) (lq (dj QF rfl (.inl S4) (.inr S4)) xg))
   obtain ⟨pv',u1,u2,exv,hsq,st'⟩:=step xv H5 y5
   subst exv
   refine cJ (hg _ s5 _ H5 (.ref pv') u (fun σ2 H2=>σ2 = some u1 :: some u2 :: cM σ js∧H2 = H5) N8 r5 ⟨pv',[u1,u2],rfl,hsq,rfl,u1,[u2],rfl,u2,[],rfl,rfl,rfl,rfl⟩) fun _ s6 ⟨σ6,H6,I6,e6,RA⟩=>?_
   subst e6 RA
   refine cJ ((hb C s H fp).1 _ s6 _ H6 _ I6 st') fun ok s7 ⟨H7,I7,q7⟩=>?_
   have fin:∀ {s8:Shared}{H8:Hp}{v8 v9:Option V},Inv (bR X sc (x :: x2 :: cap) C s H fp) ([(D,{ cls:=.type "list",data:=.seq its.toArray k })] ++ gm fp s5.heap) (v8 :: v9 :: cM σ js) H8 s8→tn (i + 1) s8.heap∧(∀ b∈fp,H8 b = none)∧s8.heap.get? D = some { cls:=.type "list",data:=.seq its.toArray k }∧H8 D = none∧D≠C:=fun {s8 H8 v8 v9} I8=>by
    have iN:=I8.pin (D,{ cls:=.type "list",data:=.seq its.toArray k }) (List.mem_append_right _ (List.mem_append_left _ (List.mem_singleton.mpr rfl)))
    have yW:∀ b∈fp,∀ o,s5.heap.get? b = some o→s8.heap.get? b = some o∧H8 b = none:=fun b hb' o e=>
     have z:=I8.pin (b,o) (List.mem_append_right _ (List.mem_append_right _ (jV hb' e)))
     ⟨z.1,z.2.1⟩
    refine ⟨T.keep _ _ _ AN fun b hb' o e=>(yW b hb' o e).1,fun b hb' => ?_,iN.1,iN.2.1,iN.2.2.1⟩
    obtain ⟨o,e,_⟩:=T.obj _ _ AN b hb'
    exact (yW b hb' o e).2
   cases ok with
   | false=>
    rw [if_neg Bool.false_ne_true] at q7 ⊢
    obtain ⟨m',hm,w7⟩:=q7
    obtain ⟨f1,f2,_⟩:=fin I7
    exact ⟨m',hm,i + 1,some u1,some u2,H7,ys,its,k,I7.jW,f1,f2,rv,w7⟩
   | true=>
    rw [if_pos rfl] at q7 ⊢
    refine cJ ((hb C s H fp).2 _ s7 _ H7 _ I7 q7) fun u8 s8 ⟨v,H8,I8,r8,q8⟩=>?_
    obtain ⟨f1,f2,f3,f4,f5⟩:=fin I8
    obtain ⟨m',hm,w8⟩:=q8
    have RB:Vals (ys ++ [v]) (its ++ [u8]):=rv.append (.cons r8 .nil)
    refine wpAny_list_append_plain ⟨k,f3⟩ (fun h9 RC ME=>?_) (by rw [List.size_toArray,← rv.length];exact Nat.le_of_lt hlen)
    obtain ⟨k9,e9⟩:=RC
    have RD:h9.get? D = some { cls:=.type "list",data:=.seq (its ++ [u8]).toArray k9 }:=by rw [e9];simp
    have In:Inv (bR X sc (x :: x2 :: cap) C s H fp) (gm fp s5.heap) (some u1 :: some u2 :: cM σ js) H8 s8:=I8.iT fun p hp=>I8.pin p (List.mem_append_right _ (List.mem_append_right _ hp))
    have RE:Inv (bR X sc (x :: x2 :: cap) C s H fp) (gm fp s5.heap) (some u1 :: some u2 :: cM σ js) H8 { s8 with heap:=h9 }:=
     In.turned (it:=D) (h' := h9) (t' := s8.toks) (fun b o hb' e=>ME.extBut b o hb' e) f4 f5 (.inr (Nat.le_of_eq Ei)) (fun y c e z=>by
      obtain ⟨v',o,ho,_⟩:=I.cell y c (S.sub I.ok e)
      exact EN (Heap.lt_size ho) z) fun p hp z=>by
      have oB:p∈gm fp s5.heap:=by simpa using hp
      exact EO p.1 (ow oB).1 z
    refine ⟨m',hm,i + 1,some u1,some u2,H8,ys ++ [v],its ++ [u8],k9,RE.iT fun p hp=>?_,T.keep _ _ _ f1 fun b hb' o e=>ME.extBut b o (EO b hb') e,f2,RB,w8⟩
    have oB:p = (D,{ cls:=.type "list",data:=.seq (its ++ [u8]).toArray k9 }):=by simpa using hp
    subst oB
    refine ⟨RD,f4,f5,fun hb' => ?_,fun v z=>by cases z⟩
    obtain ⟨_,o,ho,_⟩:=I.stack.mem hb'
    exact EN (Heap.lt_size ho) rfl
 exact codeAny_compStart_list (loop _ rfl) (T.self X.A 0 _ _ _ MD (loop _ rfl))
theorem Pq (S:fO X.env.scope sc x x2 cap) {js:List Nat}(qO:js.map (fun j=>X.N[j]?) = cap.map some) (hc:X.calm = true) (ZF:∀ e s,¬ X.xe e s) {elt iter:Expr}{ifs:List Expr}{pos px py tpos:Pos}{tk:Nat}{wi:TI}{tt:TT}{te:TE}
  (hi:PI X (.Tuple [.Name x px,.Name x2 py] tk tpos) iter wi) (hb:∀ C s0 H0 ex,IA (bR X sc (x :: x2 :: cap) C s0 H0 ex) ifs tt∧PE (bR X sc (x :: x2 :: cap) C s0 H0 ex) elt te)
  (hs:∀ x,foldedSetIterable iter X.env x = pure x:=by intro _;rfl):PE X (.ListComp elt [⟨(.Tuple [.Name x px,.Name x2 py] tk tpos),iter,ifs,0⟩] sc pos) (S3 X.K wi js tt te):=by
 intro pins s σ H Q I h
 rw [eval_ListComp]
 refine wpAny_comprehension_free (use:=none) rfl hs (gr (S.cells I.ok)) S.kind S.names (cJ (hi pins s σ H _ I h) fun xv s₁ h₁=>cJ h₁ fun itv s₂ h₂=>?_)
 obtain ⟨it,fp,tn,J,H2,e,I2,T,st2,f2,W,w0,turn⟩:=h₂
 subst e
 refine DV (Q:=Q) (RR:=fun acc C=>compPost (model X.prog X.w) X.A X.xe none (EP X pins σ Q) acc C) S qO hc hb I2 T st2 f2 w0 turn ?_
 intro D C s' σ' H' ys its k hD hC J' rv hz q
 obtain ⟨m,hn,_⟩:=J'.loc
 have iN:=J'.pin (D,{ cls:=.type "list",data:=.seq its.toArray k }) (List.mem_append_right _ (List.mem_singleton.mpr rfl))
 exact ⟨m,hn,fun h' hs' => ⟨.ref D,_,DU S I2 f2 hD hC J' iN.2.1 iN.1 rv hz hs',rfl,q D iN.2.1⟩⟩
end
end L2
namespace L2
open PySem PySem.Spec PyProof.Rows
section
variable {K:PySem.W.Frag}{σ:St}{G:Hp}
theorem Pr {ta:TA}{js:List Nat}{te:TE}{ds es:List PyData}(f:PyData→PyData→PyData) (h:xE K ta σ G [.tuple ds,.tuple es]) (hj:ds.length < sizeLine)
  (hc:∀ G2 (i:Nat) a b x y,aN G G2→ds[i]? = some a→es[i]? = some b→Dat K G2 x a→Dat K G2 y b→Ev K te (some x :: some y :: cM σ js) G2 (f a b)):Ev K (S3 K (SY K ta) js vY te) σ G (.list ((ds.zip es).map fun p=>f p.1 p.2)):=fun G1 H s1 s2 Q k=>
 h G1 H s1 s2 _ fun vs G2 H2 g2 hv=>by
  obtain ⟨v1,r,rfl,h1,hv⟩:=hv.cons
  obtain ⟨v2,r,rfl,h2,hv⟩:=hv.cons
  rw [hv.nil]
  obtain ⟨p1,xs,rfl,hp1,hx⟩:=h1.tup
  obtain ⟨p2,ys,rfl,hp2,hy⟩:=h2.tup
  have lx:=hx.length
  have ly:=hy.length
  refine ⟨p1,p2,rfl,⟨xs,g2.gh.tup hp1⟩,⟨ys,g2.gh.tup hp2⟩,fun i m us H' => m = (ds.zip es).length - i∧i≤(ds.zip es).length∧us.length = i∧∃ G',bO G2 H2 G' H' ∧ bJ K G' us (((ds.zip es).take i).map fun p=>f p.1 p.2),⟨_,rfl,Nat.zero_le _,rfl,G2,bO.refl g2.gh,by simpa using bE⟩,?_⟩
  rintro i m us H' ⟨rfl,hi,hul,G',g',Eh⟩
  have hzl:(ds.zip es).length = min ds.length es.length:=List.length_zip
  refine ⟨by omega,?_⟩
  have t1:eV K H' p1 xs:=(g'.gg.trans g'.gh).tup hp1
  have t2:eV K H' p2 ys:=(g'.gg.trans g'.gh).tup hp2
  by_cases hin:i = (ds.zip es).length
  ·refine .inl ⟨⟨xs,ys,t1,t2,by omega⟩,fun p hp=>?_⟩
   have g3:=b8 (o:=.lst us) g'.gh hp
   rw [hin,List.take_length] at Eh
   exact k _ _ _ ((g2.trans g').trans g3) (cK aE (Eh.same g3.gg))
  ·have i1:i < ds.length:=by omega
   have i2:i < es.length:=by omega
   obtain ⟨x,ex,dx⟩:=hx.get (List.getElem?_eq_getElem i1)
   obtain ⟨y,ey,dy⟩:=hy.get (List.getElem?_eq_getElem i2)
   refine .inr ⟨⟨xs,x,ys,y,t1,ex,t2,ey⟩,fun v pR hyl=>?_⟩
   obtain ⟨p,x',y',hp,rfl,rfl,hx',hy'⟩:=hyl
   have e1:=hx' xs t1
   rw [ex] at e1
   have e2:=hy' ys t2
   rw [ey] at e2
   cases e1
   cases e2
   refine ⟨p,x,y,rfl,eV.of aE,nh ?_⟩
   have g3:=b8 (o:=.tup [x,y]) g'.gh hp
   have CG:=g'.trans g3
   refine hc (upd G' p (.tup [x,y])) i ds[i] es[i] x y (s1.trans (g2.gg.trans CG.gg)) (List.getElem?_eq_getElem i1) (List.getElem?_eq_getElem i2) (dx.same CG.gg) (dy.same CG.gg) _ _ (aN.refl _) g3.gh _ fun v G4 H4 g4 hv=>?_
   refine ⟨_,by omega,rfl,by omega,by simp [hul],G4,CG.trans g4,?_⟩
   have hz:(ds.zip es).take (i + 1) = (ds.zip es).take i ++ [(ds[i],es[i])]:=by
    rw [List.take_succ,List.getElem?_eq_getElem (by omega),List.getElem_zip];rfl
   rw [hz,List.map_append]
   exact gX ((Eh.same g3.gg).same g4.gg) (bh hv bE)
end
end L2
namespace K10
open PySem L2 Frac Lw Dig PySem.NumText Nm
open Ord Num Look Rdo
def sN:An→Int
 | .ahead=>-1
 | .like=>0
 | .behind=>1
def dP:Tv→PyData
 | .an a=>.tuple [.int (sN a),.int (0 - sN a)]
 | .tr b=>.bool b
 | .mk b c=>.list [.bool b,.bool c]
 | .wd w=>w.d
def oh:List PyData→PyData→Prop:=fun as d=>∃ p q:Int × Int,as = [dF p,dF q]∧Sz p∧Sz q∧d = .int (sN (qZ p q))
structure Pk (pp:Addr) (us:List V) (G H G' H' : Hp):Prop where
 gg:aN G G'
 gh:aN G' H'
 out:G' pp = none
 at_:H' pp = some (.lst us)
 kp:∀ b o,b≠pp→H b = some o→H' b = some o
 fr:∀ b o,G' b = some o→G b = some o∨H b = none
theorem Pk.free {pp:Addr}{us:List V}{G H G1 H1:Hp}(p:Pk pp us G H G1 H1) {b:Addr}(h:H1 b = none):H b = none:=by
 cases e:H b with
 | none=>rfl
 | some o=>
  by_cases hb:b = pp
  ·subst hb;rw [p.at_] at h;cases h
  ·rw [p.kp b o hb e] at h;cases h
theorem Pk.grow {pp:Addr}{us:List V}{G H G1 H1 G2 H2:Hp}(p:Pk pp us G H G1 H1) (g:bO G1 H1 G2 H2):Pk pp us G H G2 H2:=
 ⟨p.gg.trans g.gg,g.gh,g.out p.at_ p.out,g.hh _ _ p.at_,fun b o n e=>g.hh _ _ (p.kp b o n e),fun b o e=>by
  rcases g.fr b o e with e | e
  ·exact p.fr b o e
  ·exact .inr (p.free e)⟩
theorem Pk.set {pp:Addr}{us:List V}{G H G1 H1:Hp}(p:Pk pp us G H G1 H1) (vs:List V):Pk pp vs G H G1 (L2.upd H1 pp (.lst vs)):=
 ⟨p.gg,dY p.gh p.out,p.out,aE,fun b o n e=>by rw [aI n];exact p.kp b o n e,p.fr⟩
def Hx (K:PySem.W.Frag):Sp:=fun vs H Q _=>∃ (G:Hp) (x want:Str) (ps:List Str) (args:List Tv) (book:List Str) (f g:List (Int × Int)) (num:Int→Int→Prop) (us ys:List V) (pp pb:Addr) (vf vg:V),vs = [.str x,.ref pp,.ref pb,vf,vg]∧cD x = some (x,want,ps)∧sM (· ∈ book) num ps args∧
 (∀ a b,num a b→Sz (a,b))∧(f.length = book.length∧g.length = book.length∧(∀ p∈f,Sz p)∧∀ p∈g,Sz p)∧aN G H∧G pb = some (.tup (book.map V.str))∧(Dat K G vf (.tuple (f.map dF))∧Dat K G vg (.tuple (g.map dF)))∧G pp = none∧H pp = some (.lst (us ++ ys))∧bJ K G ys (args.map dP).reverse∧
 ∀ v G' H',Pk pp us G H G' H' → Dat K G' v (dP (xV (dZ book f g) (vC x) args))→Q v H'
theorem gF {f:List (Int × Int)}{i:Nat}(h:i < f.length):(f.map dF)[i]? = some (dF (f.getD i (0,1))):=by
 rw [List.getElem?_map,List.getD_eq_getElem?_getD,List.getElem?_eq_getElem h];rfl
theorem dM {f:List (Int × Int)}{i:Nat}(h:i < f.length) (hs:∀ p∈f,Sz p):Sz (f.getD i (0,1)):=by
 rw [List.getD_eq_getElem?_getD,List.getElem?_eq_getElem h];exact hs _ (List.getElem_mem h)
section
variable {P:Program}{w:World}{K:PySem.W.Frag}{mg:Str→Option Value}{base:Heap}
theorem yw {σ:St}{G:Hp}{ta tb:TE}{x:Str}{ys:List Str}(ha:Ev K ta σ G (.str x)) (hb:Ev K tb σ G (.tuple (ys.map PyData.str))):Ev K (iV (Rr K false) ta tb) σ G (.bool (decide (x∈ys))):=
 jy ha hb fun G1 H u v Q s1 s2 hu hv k=>by
  obtain ⟨p,xs,rfl,hp,hxs⟩:=hv.tup
  have e:=mR hxs
  subst e
  have fl:(ys.map V.str).all oY = true:=by
   rw [List.all_eq_true];intro v m;obtain ⟨s,_,rfl⟩:=List.mem_map.mp m;rfl
  have iv:inV (.str x) (ys.map V.str) = decide (x∈ys):=by
   clear fl hp hb hv hxs k
   unfold inV
   induction ys with
   | nil=>simp
   | cons y r ih=>
    rw [List.map_cons,List.any_cons,ih]
    by_cases h:y = x
    ·subst h;simp [Eg]
    ·have h2:¬ x = y:=fun e=>h e.symm
     simp [Eg,h,h2]
  rw [hu.str]
  refine ⟨p,_,rfl,.inr (s2.tup hp),rfl,fl,?_⟩
  rw [if_neg Bool.false_ne_true,iv]
  exact k _ G1 H (bO.refl s2) (bQ _)
theorem BZ {σ:St}{G:Hp}{ta tb:TE}{c e:Bool}(h:Ev K ta σ G (.bool c)) (h' : Ev K tb σ G (.bool e)):Ev K (Rc ta tb) σ G (.bool (c || e)):=fun G1 H s1 s2 Q k=>h G1 H s1 s2 _ fun v G' H' g hv=>⟨c,hv.bl,by
 cases c with
 | true=>rw [if_pos rfl];exact k _ G' H' g (bQ _)
 | false=>rw [if_neg Bool.false_ne_true];exact h' G' H' (s1.trans g.gg) g.gh _ fun v2 G2 H2 g2 hv2=>k v2 G2 H2 (g.trans g2) hv2⟩
theorem eG {σ:St}{H:Hp}{D:Ends}{i j:Nat}{pp:Addr}{us:List V}{y:V}(hi:σ[i]? = some (some (.ref pp))) (h:H pp = some (.lst (us ++ [y]))) (k:D.nx (σ.set j (some y)) (L2.upd H pp (.lst us))):AK (Rt K "list" Rv (cE i)) (m9 j) D σ H:=by
 refine ⟨_,hi,.inl ⟨rfl,_,b9.of h⟩,pp,_,y,rfl,rfl,h,by simp,?_⟩
 rw [List.dropLast_concat]
 exact k
theorem JQ (T:Top K mg):bF P w K mg base cF 1 T.gK T.gf ["one", "other"] (jS K oh):=by
 refine T.gM.ok lF (fun vs H Q E h=>?_) (fun cdv A outer s H vs Q E hr h=>?_)
 ·obtain ⟨G,as,d,sg,hv,⟨p,q,rfl,_⟩,_⟩:=h
  rw [hv.length];rfl
 ·obtain ⟨G,as,d,sg,hv,⟨p,q,rfl,hp,hq,rfl⟩,k⟩:=h
  obtain ⟨v1,r1,rfl,h1,hv⟩:=hv.cons
  obtain ⟨v2,r2,rfl,h2,hv⟩:=hv.cons
  cases hv.nil
  have zz:∀ {x:Int},x.natAbs < 10 ^ 40→x.natAbs < 10 ^ 100:=fun h=>Nat.lt_of_lt_of_le h (by decide)
  refine ⟨_,(aB (bx (i:=2) lF.nd rfl (Or.inl rfl) (br jY (br dm (bf (bU (K:=K) rfl) (pv 0) au (fun _ _=>rfl)) (bf (bU (K:=K) rfl) (pv 1) au (fun _ _=>rfl))) (br dm (bf (bU (K:=K) rfl) (pv 1) au (fun _ _=>rfl)) (bf (bU (K:=K) rfl) (pv 0) au (fun _ _=>rfl)))))
   (aG (aQ (br jY (cV iM (by rfl) T.Bt A0 (aa (c8 yM (pv 2) au (aY _)) aq gP)) (cV iM (by rfl) T.Bt A0 (aa (c8 rO (pv 2) au (aY _)) aq gP)))))) ,?_⟩
  refine dN (K:=K) (gu (rP (cz (ah rfl h1) aR rfl rfl) (cz (ah rfl h2) aR rfl rfl) (mw (zz hp.1) (zz hq.2)) (aX _)) (rP (cz (ah rfl h2) aR rfl rfl) (cz (ah rfl h1) aR rfl rfl) (mw (zz hq.1) (zz hp.2)) (aX _)) (aX _)) sg fun v3 G1 H1 g1 h3=>?_
  refine bw (K:=K) (gu (iZ (aj (gu (ah rfl h3) aR (bQ _)) aJ)) (iZ (aj (gu (ah rfl h3) aR (bQ _)) aJ)) (aX _)) g1.gh fun v G2 H2 g2 hv=>k v G2 H2 (g1.trans g2) ?_
  have e:(if decide (p.1 * q.2 - q.1 * p.2 > 0) = true then (1:Int) else 0) - (if decide (p.1 * q.2 - q.1 * p.2 < 0) = true then 1 else 0) = sN (qZ p q):=by
   unfold qZ
   generalize p.1 * q.2 = a
   generalize q.1 * p.2 = b
   by_cases h1:a < b
   ·have n1:¬ a - b > 0:=by omega
    have n2:a - b < 0:=by omega
    simp only [h1,n1,n2,decide_true,decide_false,if_true];rfl
   ·by_cases h2:a > b
    ·have n1:a - b > 0:=by omega
     have n2:¬ a - b < 0:=by omega
     simp only [h1,h2,n1,n2,decide_true,decide_false,if_true,if_false];rfl
    ·have n1:¬ a - b > 0:=by omega
     have n2:¬ a - b < 0:=by omega
     simp only [h1,h2,n1,n2,decide_false,if_false];rfl
  rw [← e];exact hv
theorem JR (T:Top K mg):bF P w K mg base cF 2 T.kM T.jN ["word", "pile", "book", "early", "late"] (Hx K):=by
 have jw:bF P w K mg base cF 1 T.gK T.gf ["one", "other"] (jS K oh):=JQ T
 obtain ⟨w0,w1,w2,w3,w4,w5,w6,w7,w8,w9,R8,R9,Sa,Sd⟩:=Cz
 refine T.sr.ok dI (fun vs H Q E h=>?_) (fun cdv A outer s H vs Q E hr h=>?_)
 ·obtain ⟨G,x,want,ps,args,book,f,g,num,us,ys,pp,pb,vf,vg,rfl,_⟩:=h
  rfl
 ·obtain ⟨G,x,want,ps,args,book,f,g,num,us,ys,pp,pb,vf,vg,rfl,hw,hty,hnum,⟨hfl,QO,hf,hg⟩,sg,lM,⟨DG,DH⟩,Jz,hpp,hys,k⟩:=h
  have hu:=hr.units
  have hu1:=Nat.lt_of_le_of_lt (Nat.add_le_add_left (show 1≤64 by decide) _) hr.units
  have uF:∀ {p:Str},sM (· ∈ book) num [p] args→∃ v,args = [v]∧Ty (· ∈ book) num p v:=fun h=>by cases h with | cons a b=>cases b;exact ⟨_,rfl,a⟩
  have go2:∀ {p q:Str},sM (· ∈ book) num [p,q] args→∃ v u,args = [v,u]∧Ty (· ∈ book) num p v∧Ty (· ∈ book) num q u:=fun h=>by cases h with | cons a b=>cases b with | cons b c=>cases c;exact ⟨_,_,rfl,a,b⟩
  have Se:∀ {p q r:Str},sM (· ∈ book) num [p,q,r] args→∃ v u t,args = [v,u,t]∧Ty (· ∈ book) num p v∧Ty (· ∈ book) num q u∧Ty (· ∈ book) num r t:=fun h=>by cases h with | cons a b=>cases b with | cons b c=>cases c with | cons c d=>cases d;exact ⟨_,_,_,rfl,a,b,c⟩
  have B0:Pk pp (us ++ ys) G H G H:=⟨aN.refl _,sg,Jz,hpp,fun b o n e=>e,fun b o e=>.inl e⟩
  have W5:∀ {σ' : St} {G' : Hp} (x:Str) (c:Bool),σ'[0]? = some (some (.str x))→decide (x∈[S "up",S "down",S "same",S "under",S "is"]) = c→qe (qb (iV (Rr K false) (cE 0) (C2 (bV (tC (.str (S "up"))) (bV (tC (.str (S "down"))) (bV (tC (.str (S "same"))) (bV (tC (.str (S "under"))) (bV (tC (.str (S "is"))) kr)))))))) σ' G' c:=fun x c e hd=>
   gY (bG (K:=K) (yw (ys:=[S "up",S "down",S "same",S "under",S "is"]) (ah e (bM x)) (j3 (aj aF (aj aF (aj aF (aj aF (aj aF aJ))))) (by show 5≤sizeLine;decide)))) hd
  have W3:∀ {σ' : St} {G' : Hp} (x:Str) (c:Bool),σ'[0]? = some (some (.str x))→decide (x∈[S "both",S "either",S "not"]) = c→qe (qb (iV (Rr K false) (cE 0) (C2 (bV (tC (.str (S "both"))) (bV (tC (.str (S "either"))) (bV (tC (.str (S "not"))) kr)))))) σ' G' c:=fun x c e hd=>
   gY (bG (K:=K) (yw (ys:=[S "both",S "either",S "not"]) (ah e (bM x)) (j3 (aj aF (aj aF (aj aF aJ))) (by show 3≤sizeLine;decide)))) hd
  have WE:∀ {σ' : St} {G' : Hp} (x y:Str) (c:Bool),σ'[0]? = some (some (.str x))→decide (x = y) = c→qe (qb (iV Ob (cE 0) (tC (.str y)))) σ' G' c:=fun x y c e hd=>gY (bG (K:=K) (fM (ah e (bM x)) aF)) hd
  refine ⟨_,(aB (bS (aV op_eq (pv 0) bg (aY _)) (aG (aQ (dW (aa au (aa au aq aK) aK)))) bA)
   (aB (bS (aV lB (pv 0) (dW (aa bg (aa bg (aa bg (aa bg (aa bg aq aK) aK) aK) aK) aK)) (by rfl)) (aB (bx (i:=5) dI.nd rfl (Or.inl rfl) (GB PySem.F.slot_tuple_index PySem.F.type_tuple_index (q9 (K:=K) rfl) (pv 2) (aa (pK PySem.F.plainAttrs_list PySem.F.slot_list_pop PySem.F.type_list_pop pL (pv 1)) aq c9)))
   (aB (bx (i:=6) dI.nd rfl (Or.inl rfl) (aP jw hr (by rfl) T.ju T.gM.kp T.jt .nil bD (aa (bf (bU (K:=K) rfl) (pv 3) (pv 5) (fun _ _=>rfl)) (aa (bf (bU (K:=K) rfl) (pv 4) (pv 5) (fun _ _=>rfl)) aq aL) aL)))
   (aB (bS (aV op_eq (pv 0) bg (aY _)) (aG (aQ (c8 op_eq (pv 6) au (aY _)))) bA)
   (aB (bS ((tT (aV op_eq (pv 0) bg (aY _)) (qH (aV op_eq (pv 0) bg (aY _))))).pt (aG (aQ (bf (aT (K:=K) rfl) (cL (aa (dW (aa (pv 6) (aa (br jY au (pv 6)) aq ji) aD)) (aa (dW (aa (br jY au (pv 6)) (aa (pv 6) aq aD) ji)) aq jj) jj)) (cV iM (by rfl) T.Bt A0 (aa (c8 op_eq (pv 0) bg (aY _)) aq gP)) (fun _ _=>rfl)))) bA)
   (aB (bx (i:=7) dI.nd rfl (Or.inl rfl) (pK PySem.F.plainAttrs_list PySem.F.slot_list_pop PySem.F.type_list_pop pL (pv 1)))
   (aB (bx (i:=8) dI.nd rfl (Or.inl rfl) (cL (aa (aP jw hr (by rfl) T.ju T.gM.kp T.jt .nil bD (aa (bf (bU (K:=K) rfl) (pv 3) (pv 5) (fun _ _=>rfl)) (aa (pv 7) aq aD) aL)) (aa (aP jw hr (by rfl) T.ju T.gM.kp T.jt .nil bD (aa (bf (bU (K:=K) rfl) (pv 4) (pv 5) (fun _ _=>rfl)) (aa (pv 7) aq aD) aL)) aq c9) c9)))
   (aG (aQ (ni (x:= "side") (cap:=["word"]) (js:=[0]) ⟨rfl,by decide +kernel,by decide +kernel,rfl,(by show ∀ p∈(_:List (Str × NameKind)),p.2 = NameKind.free→List.lookup p.1 (ak dH).names = some NameKind.cell;decide +kernel),by decide +kernel,by decide +kernel,by decide +kernel⟩ rfl rfl (fun _ _ h=>h) (eW (pv 8)) (fun _ _ _ _=>⟨eX,(c8 op_eq (pv 0) (bf (aT (K:=K) rfl) (cL (aa au (aa (vQ qJ au) aq uh) aK)) (cV iM (by rfl) T.Bt A0 (aa (c8 op_eq (pv 1) bg (aY _)) aq gP)) (fun _ _=>rfl)) (aY _))⟩)))))))))) bA)
   (aB (bx (i:=9) dI.nd rfl (Or.inl rfl) (pK PySem.F.plainAttrs_list PySem.F.slot_list_pop PySem.F.type_list_pop pL (pv 1)))
   (aB (bS (aV op_eq (pv 0) bg (aY _)) (aG (aQ (dW (aa (bf (bU (K:=K) rfl) (pv 9) au (fun _ _=>rfl)) (aa (bf (bU (K:=K) rfl) (pv 9) au (fun _ _=>rfl)) aq aL) aL)))) bA)
   (aB (bS (aV lB (pv 0) (dW (aa bg (aa bg (aa bg aq aK) aK) aK)) (by rfl)) (aG (aQ (IM hu1 (Cy (lD bg (c8 (Cn (K:=K) rfl hu) (pv 9) (cL (aa jg (aa jg aq aK) aK)) (aY _)) (lD bg (c8 (xG (K:=K) rfl hu) (pv 9) (cL (aa jg (aa jg aq aK) aK)) (aY _)) (lD bg (c8 GO (pv 9) jg (aY _)) Cw))) rfl rfl (by simp) (by decide)) (pv 0) (fun _ _=>rfl)))) bA)
   (aB (bx (i:=10) dI.nd rfl (Or.inl rfl) (pK PySem.F.plainAttrs_list PySem.F.slot_list_pop PySem.F.type_list_pop pL (pv 1)))
   (aB (bS ((tT (aV op_eq (pv 0) bg (aY _)) (qH (aV op_eq (pv 0) bg (aY _))))).pt (aG (aQ (bf (aT (K:=K) rfl) (cL (aa (Mv (pv 9) (wZ (pv 10))) (aa (Et (pv 9) (wZ (pv 10))) aq we) we)) (cV iM (by rfl) T.Bt A0 (aa (c8 op_eq (pv 0) bg (aY _)) aq gP)) (fun _ _=>rfl)))) bA)
   (aB (bS (aV op_eq (pv 0) bg (aY _)) (aG (aQ (cV (nv (K:=K) rfl) (by rfl) T.uV E6 (aa (Pq (x:= "a") (x2:= "b") (cap:=[]) (js:=[]) ⟨rfl,by decide +kernel,by decide +kernel,rfl,rfl,(by show ∀ p∈(_:List (Str × NameKind)),p.2 = NameKind.free→List.lookup p.1 (ak dH).names = some NameKind.cell;decide +kernel),by decide +kernel,by decide +kernel,by decide +kernel⟩ rfl rfl (fun _ _ h=>h) (JP (K:=K) rfl (by rfl) T.ZY (aa (pv 9) (aa (pv 10) aq aD) aD)) (fun _ _ _ _=>⟨eX,(bf (aT (K:=K) rfl) (cL (aa (pv 0) (aa (pv 1) aq aD) aD)) (cV iM (by rfl) T.Bt A0 (aa (c8 op_eq (pv 0) au (aY _)) aq gP)) (fun _ _=>rfl))⟩)) aq rQ)))) bA)
   (aB (bx (i:=11) dI.nd rfl (Or.inl rfl) (pK PySem.F.plainAttrs_list PySem.F.slot_list_pop PySem.F.type_list_pop pL (pv 1)))
   (aG (aQ (bf (aT (K:=K) rfl) (cL (aa (pv 11) (aa (pv 10) aq aD) aD)) (cV iM (by rfl) T.Bt A0 (aa (pv 9) aq aD)) (fun _ _=>rfl))))))))))))) ,?_⟩
  rcases Bd hw with ⟨rfl,rfl,rfl⟩ | ⟨rfl,rfl,rfl⟩ | ⟨rfl,rfl,rfl⟩ | ⟨rfl,rfl,rfl⟩ | ⟨rfl,rfl,rfl⟩ | ⟨rfl,rfl,rfl⟩ | ⟨rfl,rfl,rfl⟩ | ⟨rfl,rfl,rfl⟩ | ⟨rfl,rfl,rfl⟩ | ⟨rfl,rfl,rfl⟩ | ⟨rfl,rfl,rfl⟩ | ⟨rfl,rfl,rfl⟩ | ⟨rfl,rfl,rfl⟩ | ⟨rfl,rfl,rfl⟩
  ·rw [w0] at k
   cases hty
   have aan:ys = []:=hys.nil
   subst aan
   rw [List.append_nil] at hpp B0
   refine cA (WE (S "like") _ true rfl (by decide +kernel)) sg fun G1 H1 q1=>?_
   exact bw (K:=K) (j3 (aj aR (aj aR aJ)) (by show 2≤sizeLine;decide)) q1.gh fun v G' H' q hv=>k v G' H' ((B0.grow q1).grow q) hv
  ·obtain ⟨v,rfl,t1⟩:=uF hty;obtain ⟨z,hz,rfl⟩:=t1.field;rw [w1] at k
   obtain ⟨y1,r1,rfl,d1,hys⟩:=hys.cons
   cases hys.nil
   have JS:=d1.str
   subst JS
   refine aM (WE (S "up") _ false rfl (by decide +kernel)) sg fun G1 H1 q1=>?_
   have sV:=B0.grow q1
   refine cA (W5 (S "up") true rfl (by decide +kernel)) q1.gh fun G2 H2 q2=>?_
   have iJ:=sV.grow q2
   have ig:H2 pp = some (.lst (us ++ [V.str z])):=iJ.at_
   have rL:=iJ.gh _ _ (iJ.gg _ _ lM)
   have Yx:pb≠pp:=aC lM Jz
   have fP:=iJ.set (us)
   refine ⟨_,rfl,⟨pb,_,rfl,rL⟩,_,rfl,.inl ⟨rfl,_,b9.of ig⟩,pp,_,V.str z,rfl,rfl,ig,by simp,?_⟩
   rw [List.dropLast_concat]
   refine ⟨pb,book,z,rfl,rfl,eV.of (fP.gh _ _ (fP.gg _ _ lM)),hz,?_⟩
   have Yy:book.idxOf z < book.length:=List.idxOf_lt_length_iff.mpr hz
   have hz1:book.idxOf z < f.length:=by omega
   have hz2:book.idxOf z < g.length:=by omega
   (try dsimp only)
   generalize QH:L2.upd H2 pp (.lst (us)) = H3 at fP
   have F1:∀ {σ' : St} {G' : Hp},aN G G' → σ'[3]? = some (some vf)→σ'[5]? = some (some (.int ((book.idxOf z:Nat):Int)))→Ev K (iV (ng K) (cE 3) (cE 5)) σ' G' (dF (f.getD (book.idxOf z) (0,1))):=fun s e1 e2=>cz (n:=book.idxOf z) (ah e1 (DG.same s)) (ah e2 (aX _)) (by rw [List.length_map];exact cI hz1) (gF hz1)
   have F2:∀ {σ' : St} {G' : Hp},aN G G' → σ'[4]? = some (some vg)→σ'[5]? = some (some (.int ((book.idxOf z:Nat):Int)))→Ev K (iV (ng K) (cE 4) (cE 5)) σ' G' (dF (g.getD (book.idxOf z) (0,1))):=fun s e1 e2=>cz (n:=book.idxOf z) (ah e1 (DH.same s)) (ah e2 (aX _)) (by rw [List.length_map];exact cI hz2) (gF hz2)
   refine dN (K:=K) (d:=.int (sN ((dZ book f g).look z))) (bH (E:=E0) (R:=oh) (aj (F1 fP.gg rfl rfl) (aj (F2 fP.gg rfl rfl) aJ)) ⟨_,_,rfl,dM hz1 hf,dM hz2 hg,rfl⟩) fP.gh fun v6 G4 H4 q4 h6=>?_
   have sA:=fP.grow q4
   refine aM (WE (S "up") _ false rfl (by decide +kernel)) q4.gh fun G5 H5 q5=>?_
   have p7:=sA.grow q5
   refine cA (gY (e:=true) (gO (e:=false) (WE (S "up") _ true rfl (by decide +kernel)) (fun z=>nomatch z)) rfl) q5.gh fun G6 H6 q6=>?_
   have sW:=p7.grow q6
   have JT:=(h6.same q5.gg).same q6.gg
   refine bw (K:=K) (cg (n:=0) (d9 (aj (j3 (aj (ah rfl JT) (aj (gu aR (ah rfl JT) (aX _)) aJ)) (by show 2≤sizeLine;decide)) (aj (j3 (aj (gu aR (ah rfl JT) (aX _)) (aj (ah rfl JT) aJ)) (by show 2≤sizeLine;decide)) aJ)) (by show 2≤sizeLine;decide)) (iZ (aj (fM (ah rfl (bM (S "up"))) aF) aJ)) (by show yP 2 (if decide (S "up" = S "down") = true then 1 else 0) = some 0;decide +kernel) rfl) q6.gh fun v G' H' q hv=>k v G' H' (sW.grow q) ?_
   exact hv
  ·obtain ⟨v,rfl,t1⟩:=uF hty;obtain ⟨z,hz,rfl⟩:=t1.field;rw [w2] at k
   obtain ⟨y1,r1,rfl,d1,hys⟩:=hys.cons
   cases hys.nil
   have JS:=d1.str
   subst JS
   refine aM (WE (S "down") _ false rfl (by decide +kernel)) sg fun G1 H1 q1=>?_
   have sV:=B0.grow q1
   refine cA (W5 (S "down") true rfl (by decide +kernel)) q1.gh fun G2 H2 q2=>?_
   have iJ:=sV.grow q2
   have ig:H2 pp = some (.lst (us ++ [V.str z])):=iJ.at_
   have rL:=iJ.gh _ _ (iJ.gg _ _ lM)
   have Yx:pb≠pp:=aC lM Jz
   have fP:=iJ.set (us)
   refine ⟨_,rfl,⟨pb,_,rfl,rL⟩,_,rfl,.inl ⟨rfl,_,b9.of ig⟩,pp,_,V.str z,rfl,rfl,ig,by simp,?_⟩
   rw [List.dropLast_concat]
   refine ⟨pb,book,z,rfl,rfl,eV.of (fP.gh _ _ (fP.gg _ _ lM)),hz,?_⟩
   have Yy:book.idxOf z < book.length:=List.idxOf_lt_length_iff.mpr hz
   have hz1:book.idxOf z < f.length:=by omega
   have hz2:book.idxOf z < g.length:=by omega
   (try dsimp only)
   generalize QH:L2.upd H2 pp (.lst (us)) = H3 at fP
   have F1:∀ {σ' : St} {G' : Hp},aN G G' → σ'[3]? = some (some vf)→σ'[5]? = some (some (.int ((book.idxOf z:Nat):Int)))→Ev K (iV (ng K) (cE 3) (cE 5)) σ' G' (dF (f.getD (book.idxOf z) (0,1))):=fun s e1 e2=>cz (n:=book.idxOf z) (ah e1 (DG.same s)) (ah e2 (aX _)) (by rw [List.length_map];exact cI hz1) (gF hz1)
   have F2:∀ {σ' : St} {G' : Hp},aN G G' → σ'[4]? = some (some vg)→σ'[5]? = some (some (.int ((book.idxOf z:Nat):Int)))→Ev K (iV (ng K) (cE 4) (cE 5)) σ' G' (dF (g.getD (book.idxOf z) (0,1))):=fun s e1 e2=>cz (n:=book.idxOf z) (ah e1 (DH.same s)) (ah e2 (aX _)) (by rw [List.length_map];exact cI hz2) (gF hz2)
   refine dN (K:=K) (d:=.int (sN ((dZ book f g).look z))) (bH (E:=E0) (R:=oh) (aj (F1 fP.gg rfl rfl) (aj (F2 fP.gg rfl rfl) aJ)) ⟨_,_,rfl,dM hz1 hf,dM hz2 hg,rfl⟩) fP.gh fun v6 G4 H4 q4 h6=>?_
   have sA:=fP.grow q4
   refine aM (WE (S "down") _ false rfl (by decide +kernel)) q4.gh fun G5 H5 q5=>?_
   have p7:=sA.grow q5
   refine cA (gY (e:=true) (gO (WE (S "down") _ false rfl (by decide +kernel)) (fun _=>WE (S "down") _ true rfl (by decide +kernel))) rfl) q5.gh fun G6 H6 q6=>?_
   have sW:=p7.grow q6
   have JT:=(h6.same q5.gg).same q6.gg
   refine bw (K:=K) (cg (n:=1) (d9 (aj (j3 (aj (ah rfl JT) (aj (gu aR (ah rfl JT) (aX _)) aJ)) (by show 2≤sizeLine;decide)) (aj (j3 (aj (gu aR (ah rfl JT) (aX _)) (aj (ah rfl JT) aJ)) (by show 2≤sizeLine;decide)) aJ)) (by show 2≤sizeLine;decide)) (iZ (aj (fM (ah rfl (bM (S "down"))) aF) aJ)) (by show yP 2 (if decide (S "down" = S "down") = true then 1 else 0) = some 1;decide +kernel) rfl) q6.gh fun v G' H' q hv=>k v G' H' (sW.grow q) ?_
   have e:dP (.an ((dZ book f g).look z).turn) = .tuple [.int (0 - sN ((dZ book f g).look z)),.int (sN ((dZ book f g).look z))]:=by cases (dZ book f g).look z <;> rfl
   show Dat K G' v (dP (.an ((dZ book f g).look z).turn))
   rw [e];exact hv
  ·obtain ⟨v,u,rfl,t1,t2⟩:=go2 hty;obtain ⟨a,rfl⟩:=t1.order;obtain ⟨b,rfl⟩:=t2.order;rw [w3] at k
   obtain ⟨y2,r2,rfl,d2,hys⟩:=hys.cons
   obtain ⟨y1,r1,rfl,d1,hys⟩:=hys.cons
   cases hys.nil
   refine aM (WE (S "then") _ false rfl (by decide +kernel)) sg fun G1 H1 q1=>?_
   have sV:=B0.grow q1
   refine aM (W5 (S "then") false rfl (by decide +kernel)) q1.gh fun G2 H2 q2=>?_
   have iJ:=sV.grow q2
   have ig:H2 pp = some (.lst ((us ++ [y2]) ++ [y1])):=by first | exact iJ.at_ | (rw [iJ.at_];simp)
   refine eG (K:=K) rfl ig ?_
   have fP:=iJ.set (us ++ [y2])
   generalize L2.upd H2 pp (.lst (us ++ [y2])) = H3 at fP
   (try dsimp only)
   refine aM (WE (S "then") _ false rfl (by decide +kernel)) fP.gh fun G4 H4 q4=>?_
   have sA:=fP.grow q4
   refine aM (W3 (S "then") false rfl (by decide +kernel)) q4.gh fun G5 H5 q5=>?_
   have p7:=sA.grow q5
   have B3:H5 pp = some (.lst ((us) ++ [y2])):=by rw [p7.at_]
   refine eG (K:=K) rfl B3 ?_
   have sW:=p7.set (us)
   generalize L2.upd H5 pp (.lst (us)) = H6 at sW
   (try dsimp only)
   refine aM (gY (gO (WE (S "then") _ false rfl (by decide +kernel)) (fun _=>WE (S "then") _ false rfl (by decide +kernel))) rfl) sW.gh fun G7 H7 q7=>?_
   have sX:=sW.grow q7
   refine cA (WE (S "then") _ true rfl (by decide +kernel)) q7.gh fun G8 H8 q8=>?_
   have Ie:=sX.grow q8
   have tM:Dat K G8 y1 (.tuple [.int (sN a),.int (0 - sN a)]):=d1.same Ie.gg
   have B4:Dat K G8 y2 (.tuple [.int (sN b),.int (0 - sN b)]):=d2.same Ie.gg
   refine bw (K:=K) (C8 (aj (Pr (js:=[]) (ds:=[.int (sN a),.int (0 - sN a)]) (es:=[.int (sN b),.int (0 - sN b)]) (fun x y=>match x,y with | .int i,.int j=>.int (if i = 0 then j else i) | _,_=>.none) (aj (ah rfl tM) (aj (ah rfl B4) aJ)) (by show 2 < sizeLine;decide) fun G9 i xa xb vx vy s9 h1 h2 hx hy=>?_) aJ)) q8.gh fun v G' H' q hv=>k v G' H' (Ie.grow q) ?_
   ·have key:∀ m n:Int,Dat K G9 vx (.int m)→Dat K G9 vy (.int n)→Ev K (iV (yQ K) (Io (bV (cE 0) (bV (cE 1) kr))) (C3 (fun xs H Q=>(∃ i,xs = [.int i]∧Q (.int i) H)∨∃ k,xs = [.bl k]∧Q (.int (if k then 1 else 0)) H) (bV (iV Ob (cE 0) (tC (.int 0))) kr))) [some vx,some vy] G9 (.int (if m = 0 then n else m)):=fun m n hm hn=>
     cg (n:=if m = 0 then 1 else 0) (d9 (aj (ah rfl hm) (aj (ah rfl hn) aJ)) (by show 2≤sizeLine;decide)) (iZ (aj (iO (ah rfl hm) aR) aJ)) (by by_cases e:m = 0 <;> simp only [e,decide_true,decide_false,if_true,if_false] <;> rfl) (by by_cases e:m = 0 <;> simp [e])
    match i,h1,h2 with
    | 0,h1,h2=>cases h1;cases h2;exact key _ _ hx hy
    | 1,h1,h2=>cases h1;cases h2;exact key _ _ hx hy
    | _ + 2,h1,h2=>simp at h1
   ·have e:dP (.an (if a = .like then b else a)) = .tuple [.int (if sN a = 0 then sN b else sN a),.int (if 0 - sN a = 0 then 0 - sN b else 0 - sN a)]:=by cases a <;> cases b <;> rfl
    show Dat K G' v (dP (.an (if a = .like then b else a)))
    rw [e];exact hv
  ·obtain ⟨v,rfl,t1⟩:=uF hty;obtain ⟨a,rfl⟩:=t1.order;rw [w4] at k
   obtain ⟨y1,r1,rfl,d1,hys⟩:=hys.cons
   cases hys.nil
   refine aM (WE (S "turn") _ false rfl (by decide +kernel)) sg fun G1 H1 q1=>?_
   have sV:=B0.grow q1
   refine aM (W5 (S "turn") false rfl (by decide +kernel)) q1.gh fun G2 H2 q2=>?_
   have iJ:=sV.grow q2
   have ig:H2 pp = some (.lst ((us) ++ [y1])):=by first | exact iJ.at_ | (rw [iJ.at_];simp)
   refine eG (K:=K) rfl ig ?_
   have fP:=iJ.set (us)
   generalize L2.upd H2 pp (.lst (us)) = H3 at fP
   (try dsimp only)
   refine cA (WE (S "turn") _ true rfl (by decide +kernel)) fP.gh fun G4 H4 q4=>?_
   have sA:=fP.grow q4
   have tM:Dat K G4 y1 (.tuple [.int (sN a),.int (0 - sN a)]):=d1.same sA.gg
   refine bw (K:=K) (j3 (aj (cz (ah rfl tM) aR rfl rfl) (aj (cz (ah rfl tM) aR rfl rfl) aJ)) (by show 2≤sizeLine;decide)) q4.gh fun v G' H' q hv=>k v G' H' (sA.grow q) ?_
   have e:dP (.an a.turn) = .tuple [.int (0 - sN a),.int (sN a)]:=by cases a <;> rfl
   show Dat K G' v (dP (.an a.turn))
   rw [e];exact hv
  ·obtain ⟨v,u,t,rfl,t1,t2,t3⟩:=Se hty;obtain ⟨c,rfl⟩:=t1.case;obtain ⟨a,rfl⟩:=t2.order;obtain ⟨b,rfl⟩:=t3.order;rw [w5] at k
   obtain ⟨y3,r3,rfl,d3,hys⟩:=hys.cons
   obtain ⟨y2,r2,rfl,d2,hys⟩:=hys.cons
   obtain ⟨y1,r1,rfl,d1,hys⟩:=hys.cons
   cases hys.nil
   refine aM (WE (S "pick") _ false rfl (by decide +kernel)) sg fun G1 H1 q1=>?_
   have sV:=B0.grow q1
   refine aM (W5 (S "pick") false rfl (by decide +kernel)) q1.gh fun G2 H2 q2=>?_
   have iJ:=sV.grow q2
   have ig:H2 pp = some (.lst ((us ++ [y3] ++ [y2]) ++ [y1])):=by first | exact iJ.at_ | (rw [iJ.at_];simp)
   refine eG (K:=K) rfl ig ?_
   have fP:=iJ.set (us ++ [y3] ++ [y2])
   generalize L2.upd H2 pp (.lst (us ++ [y3] ++ [y2])) = H3 at fP
   (try dsimp only)
   refine aM (WE (S "pick") _ false rfl (by decide +kernel)) fP.gh fun G4 H4 q4=>?_
   have sA:=fP.grow q4
   refine aM (W3 (S "pick") false rfl (by decide +kernel)) q4.gh fun G5 H5 q5=>?_
   have p7:=sA.grow q5
   have B3:H5 pp = some (.lst ((us ++ [y3]) ++ [y2])):=by rw [p7.at_]
   refine eG (K:=K) rfl B3 ?_
   have sW:=p7.set (us ++ [y3])
   generalize L2.upd H5 pp (.lst (us ++ [y3])) = H6 at sW
   (try dsimp only)
   refine aM (gY (gO (WE (S "pick") _ false rfl (by decide +kernel)) (fun _=>WE (S "pick") _ false rfl (by decide +kernel))) rfl) sW.gh fun G7 H7 q7=>?_
   have sX:=sW.grow q7
   refine aM (WE (S "pick") _ false rfl (by decide +kernel)) q7.gh fun G8 H8 q8=>?_
   have Ie:=sX.grow q8
   refine eG (K:=K) rfl Ie.at_ ?_
   have QZ:=Ie.set us
   generalize L2.upd H8 pp (.lst us) = H9 at QZ
   (try dsimp only)
   have tM:Dat K G8 y1 (.bool c):=d1.same QZ.gg
   have B4:=d2.same QZ.gg
   have d3' := d3.same QZ.gg
   refine bw (K:=K) (cg (n:=if c then 1 else 0) (d:=dP (.an (if c = true then a else b))) (d9 (aj (ah rfl d3') (aj (ah rfl B4) aJ)) (by show 2≤sizeLine;decide)) (iZ (aj (ah rfl tM) aJ)) (by cases c <;> rfl) (by cases c <;> rfl)) QZ.gh fun v G' H' q hv=>k v G' H' (QZ.grow q) hv
  ·obtain ⟨v,rfl,t1⟩:=uF hty;obtain ⟨z,hz,rfl⟩:=t1.field;rw [w6] at k
   obtain ⟨y1,r1,rfl,d1,hys⟩:=hys.cons
   cases hys.nil
   have JS:=d1.str
   subst JS
   refine aM (WE (S "same") _ false rfl (by decide +kernel)) sg fun G1 H1 q1=>?_
   have sV:=B0.grow q1
   refine cA (W5 (S "same") true rfl (by decide +kernel)) q1.gh fun G2 H2 q2=>?_
   have iJ:=sV.grow q2
   have ig:H2 pp = some (.lst (us ++ [V.str z])):=iJ.at_
   have rL:=iJ.gh _ _ (iJ.gg _ _ lM)
   have Yx:pb≠pp:=aC lM Jz
   have fP:=iJ.set (us)
   refine ⟨_,rfl,⟨pb,_,rfl,rL⟩,_,rfl,.inl ⟨rfl,_,b9.of ig⟩,pp,_,V.str z,rfl,rfl,ig,by simp,?_⟩
   rw [List.dropLast_concat]
   refine ⟨pb,book,z,rfl,rfl,eV.of (fP.gh _ _ (fP.gg _ _ lM)),hz,?_⟩
   have Yy:book.idxOf z < book.length:=List.idxOf_lt_length_iff.mpr hz
   have hz1:book.idxOf z < f.length:=by omega
   have hz2:book.idxOf z < g.length:=by omega
   (try dsimp only)
   generalize QH:L2.upd H2 pp (.lst (us)) = H3 at fP
   have F1:∀ {σ' : St} {G' : Hp},aN G G' → σ'[3]? = some (some vf)→σ'[5]? = some (some (.int ((book.idxOf z:Nat):Int)))→Ev K (iV (ng K) (cE 3) (cE 5)) σ' G' (dF (f.getD (book.idxOf z) (0,1))):=fun s e1 e2=>cz (n:=book.idxOf z) (ah e1 (DG.same s)) (ah e2 (aX _)) (by rw [List.length_map];exact cI hz1) (gF hz1)
   have F2:∀ {σ' : St} {G' : Hp},aN G G' → σ'[4]? = some (some vg)→σ'[5]? = some (some (.int ((book.idxOf z:Nat):Int)))→Ev K (iV (ng K) (cE 4) (cE 5)) σ' G' (dF (g.getD (book.idxOf z) (0,1))):=fun s e1 e2=>cz (n:=book.idxOf z) (ah e1 (DH.same s)) (ah e2 (aX _)) (by rw [List.length_map];exact cI hz2) (gF hz2)
   refine dN (K:=K) (d:=.int (sN ((dZ book f g).look z))) (bH (E:=E0) (R:=oh) (aj (F1 fP.gg rfl rfl) (aj (F2 fP.gg rfl rfl) aJ)) ⟨_,_,rfl,dM hz1 hf,dM hz2 hg,rfl⟩) fP.gh fun v6 G4 H4 q4 h6=>?_
   have sA:=fP.grow q4
   refine cA (WE (S "same") _ true rfl (by decide +kernel)) q4.gh fun G5 H5 q5=>?_
   have p7:=sA.grow q5
   refine bw (K:=K) (iO (ah rfl (h6.same q5.gg)) aR) q5.gh fun v G' H' q hv=>k v G' H' (p7.grow q) ?_
   have e:decide (sN ((dZ book f g).look z) = 0) = isA ((dZ book f g).look z) .like:=by cases (dZ book f g).look z <;> rfl
   rw [e] at hv;exact hv
  ·obtain ⟨v,rfl,t1⟩:=uF hty;obtain ⟨a,b,rfl⟩:=t1.mark;rw [w7] at k
   obtain ⟨y1,r1,rfl,d1,hys⟩:=hys.cons
   cases hys.nil
   refine aM (WE (S "both") _ false rfl (by decide +kernel)) sg fun G1 H1 q1=>?_
   have sV:=B0.grow q1
   refine aM (W5 (S "both") false rfl (by decide +kernel)) q1.gh fun G2 H2 q2=>?_
   have iJ:=sV.grow q2
   have ig:H2 pp = some (.lst ((us) ++ [y1])):=by first | exact iJ.at_ | (rw [iJ.at_];simp)
   refine eG (K:=K) rfl ig ?_
   have fP:=iJ.set (us)
   generalize L2.upd H2 pp (.lst (us)) = H3 at fP
   (try dsimp only)
   refine aM (WE (S "both") _ false rfl (by decide +kernel)) fP.gh fun G4 H4 q4=>?_
   have sA:=fP.grow q4
   refine cA (W3 (S "both") true rfl (by decide +kernel)) q4.gh fun G5 H5 q5=>?_
   have p7:=sA.grow q5
   have tM:Dat K G5 y1 (.list [.bool a,.bool b]):=d1.same p7.gg
   have sh:∀ t:Bool,SeqAt.shaped (.list [.bool a,.bool b]) = true∧SeqAt.shaped (.list [.bool t,.bool t]) = true∧SeqAt.noMix (.list [.bool a,.bool b]) (.list [.bool t,.bool t]) = true:=by intro t;cases t <;> cases a <;> cases b <;> decide +kernel
   refine bw (K:=K) (yr (yG:=[(.inr (S "both"),.bool (PySem.Spec.same (.list [.bool a,.bool b]) (.list [.bool true,.bool true]))),(.inr (S "either"),.bool (!PySem.Spec.same (.list [.bool a,.bool b]) (.list [.bool false,.bool false]))),(.inr (S "not"),.bool (false))]) (k:=.inr (S "both")) ⟨aF,oN (g:=fun b=>b) (ah rfl tM) (d9 (aj jx (aj jx aJ)) (by show 2≤sizeLine;decide)) (sh true),aF,oN (g:=fun b=>!b) (ah rfl tM) (d9 (aj jx (aj jx aJ)) (by show 2≤sizeLine;decide)) (sh false),aF,GQ (g:=fun b=>b) (ah rfl tM),trivial⟩ (by show 3≤15;decide) (by show ([.inr (S "both"),.inr (S "either"),.inr (S "not")]:List Key).Nodup;decide +kernel) (ah rfl (bM (S "both"))) (by rfl)) q5.gh fun v G' H' q hv=>k v G' H' (p7.grow q) ?_
   have e:PySem.Spec.same (.list [.bool a,.bool b]) (.list [.bool true,.bool true]) = (a && b):=by cases a <;> cases b <;> decide +kernel
   rw [e] at hv;exact hv
  ·obtain ⟨v,rfl,t1⟩:=uF hty;obtain ⟨a,b,rfl⟩:=t1.mark;rw [w8] at k
   obtain ⟨y1,r1,rfl,d1,hys⟩:=hys.cons
   cases hys.nil
   refine aM (WE (S "either") _ false rfl (by decide +kernel)) sg fun G1 H1 q1=>?_
   have sV:=B0.grow q1
   refine aM (W5 (S "either") false rfl (by decide +kernel)) q1.gh fun G2 H2 q2=>?_
   have iJ:=sV.grow q2
   have ig:H2 pp = some (.lst ((us) ++ [y1])):=by first | exact iJ.at_ | (rw [iJ.at_];simp)
   refine eG (K:=K) rfl ig ?_
   have fP:=iJ.set (us)
   generalize L2.upd H2 pp (.lst (us)) = H3 at fP
   (try dsimp only)
   refine aM (WE (S "either") _ false rfl (by decide +kernel)) fP.gh fun G4 H4 q4=>?_
   have sA:=fP.grow q4
   refine cA (W3 (S "either") true rfl (by decide +kernel)) q4.gh fun G5 H5 q5=>?_
   have p7:=sA.grow q5
   have tM:Dat K G5 y1 (.list [.bool a,.bool b]):=d1.same p7.gg
   have sh:∀ t:Bool,SeqAt.shaped (.list [.bool a,.bool b]) = true∧SeqAt.shaped (.list [.bool t,.bool t]) = true∧SeqAt.noMix (.list [.bool a,.bool b]) (.list [.bool t,.bool t]) = true:=by intro t;cases t <;> cases a <;> cases b <;> decide +kernel
   refine bw (K:=K) (yr (yG:=[(.inr (S "both"),.bool (PySem.Spec.same (.list [.bool a,.bool b]) (.list [.bool true,.bool true]))),(.inr (S "either"),.bool (!PySem.Spec.same (.list [.bool a,.bool b]) (.list [.bool false,.bool false]))),(.inr (S "not"),.bool (false))]) (k:=.inr (S "either")) ⟨aF,oN (g:=fun b=>b) (ah rfl tM) (d9 (aj jx (aj jx aJ)) (by show 2≤sizeLine;decide)) (sh true),aF,oN (g:=fun b=>!b) (ah rfl tM) (d9 (aj jx (aj jx aJ)) (by show 2≤sizeLine;decide)) (sh false),aF,GQ (g:=fun b=>b) (ah rfl tM),trivial⟩ (by show 3≤15;decide) (by show ([.inr (S "both"),.inr (S "either"),.inr (S "not")]:List Key).Nodup;decide +kernel) (ah rfl (bM (S "either"))) (by rfl)) q5.gh fun v G' H' q hv=>k v G' H' (p7.grow q) ?_
   have e:(!PySem.Spec.same (.list [.bool a,.bool b]) (.list [.bool false,.bool false])) = (a || b):=by cases a <;> cases b <;> decide +kernel
   rw [e] at hv;exact hv
  ·obtain ⟨v,rfl,t1⟩:=uF hty;obtain ⟨a,rfl⟩:=t1.case;rw [w9] at k
   obtain ⟨y1,r1,rfl,d1,hys⟩:=hys.cons
   cases hys.nil
   refine aM (WE (S "not") _ false rfl (by decide +kernel)) sg fun G1 H1 q1=>?_
   have sV:=B0.grow q1
   refine aM (W5 (S "not") false rfl (by decide +kernel)) q1.gh fun G2 H2 q2=>?_
   have iJ:=sV.grow q2
   have ig:H2 pp = some (.lst ((us) ++ [y1])):=by first | exact iJ.at_ | (rw [iJ.at_];simp)
   refine eG (K:=K) rfl ig ?_
   have fP:=iJ.set (us)
   generalize L2.upd H2 pp (.lst (us)) = H3 at fP
   (try dsimp only)
   refine aM (WE (S "not") _ false rfl (by decide +kernel)) fP.gh fun G4 H4 q4=>?_
   have sA:=fP.grow q4
   refine cA (W3 (S "not") true rfl (by decide +kernel)) q4.gh fun G5 H5 q5=>?_
   have p7:=sA.grow q5
   have tM:Dat K G5 y1 (.bool a):=d1.same p7.gg
   have sh:∀ t:Bool,SeqAt.shaped (.bool a) = true∧SeqAt.shaped (.list [.bool t,.bool t]) = true∧SeqAt.noMix (.bool a) (.list [.bool t,.bool t]) = true:=by intro t;cases t <;> cases a <;> decide +kernel
   refine bw (K:=K) (yr (yG:=[(.inr (S "both"),.bool (PySem.Spec.same (.bool a) (.list [.bool true,.bool true]))),(.inr (S "either"),.bool (!PySem.Spec.same (.bool a) (.list [.bool false,.bool false]))),(.inr (S "not"),.bool (decide (a = false)))]) (k:=.inr (S "not")) ⟨aF,oN (g:=fun b=>b) (ah rfl tM) (d9 (aj jx (aj jx aJ)) (by show 2≤sizeLine;decide)) (sh true),aF,oN (g:=fun b=>!b) (ah rfl tM) (d9 (aj jx (aj jx aJ)) (by show 2≤sizeLine;decide)) (sh false),aF,GP (g:=fun b=>b) (ah rfl tM),trivial⟩ (by show 3≤15;decide) (by show ([.inr (S "both"),.inr (S "either"),.inr (S "not")]:List Key).Nodup;decide +kernel) (ah rfl (bM (S "not"))) (by rfl)) q5.gh fun v G' H' q hv=>k v G' H' (p7.grow q) ?_
   have e:decide (a = false) = (!a):=by cases a <;> rfl
   rw [e] at hv;exact hv
  ·obtain ⟨v,u,rfl,t1,t2⟩:=go2 hty;obtain ⟨a,rfl⟩:=t1.case;obtain ⟨b,rfl⟩:=t2.case;rw [R8] at k
   obtain ⟨y2,r2,rfl,d2,hys⟩:=hys.cons
   obtain ⟨y1,r1,rfl,d1,hys⟩:=hys.cons
   cases hys.nil
   refine aM (WE (S "and") _ false rfl (by decide +kernel)) sg fun G1 H1 q1=>?_
   have sV:=B0.grow q1
   refine aM (W5 (S "and") false rfl (by decide +kernel)) q1.gh fun G2 H2 q2=>?_
   have iJ:=sV.grow q2
   have ig:H2 pp = some (.lst ((us ++ [y2]) ++ [y1])):=by first | exact iJ.at_ | (rw [iJ.at_];simp)
   refine eG (K:=K) rfl ig ?_
   have fP:=iJ.set (us ++ [y2])
   generalize L2.upd H2 pp (.lst (us ++ [y2])) = H3 at fP
   (try dsimp only)
   refine aM (WE (S "and") _ false rfl (by decide +kernel)) fP.gh fun G4 H4 q4=>?_
   have sA:=fP.grow q4
   refine aM (W3 (S "and") false rfl (by decide +kernel)) q4.gh fun G5 H5 q5=>?_
   have p7:=sA.grow q5
   have B3:H5 pp = some (.lst ((us) ++ [y2])):=by rw [p7.at_]
   refine eG (K:=K) rfl B3 ?_
   have sW:=p7.set (us)
   generalize L2.upd H5 pp (.lst (us)) = H6 at sW
   (try dsimp only)
   refine cA (gY (e:=true) (gO (e:=false) (WE (S "and") _ true rfl (by decide +kernel)) (fun z=>nomatch z)) rfl) sW.gh fun G7 H7 q7=>?_
   have sX:=sW.grow q7
   have tM:Dat K G7 y1 (.bool a):=d1.same sX.gg
   have B4:Dat K G7 y2 (.bool b):=d2.same sX.gg
   refine bw (K:=K) (cg (n:=1) (d9 (aj (BZ (ah rfl tM) (ah rfl B4)) (aj (AU (ah rfl tM) fun _=>ah rfl B4) aJ)) (by show 2≤sizeLine;decide)) (iZ (aj (fM (ah rfl (bM (S "and"))) aF) aJ)) (by show yP 2 (if decide (S "and" = S "and") = true then 1 else 0) = some 1;decide +kernel) rfl) q7.gh fun v G' H' q hv=>k v G' H' (sX.grow q) hv
  ·obtain ⟨v,u,rfl,t1,t2⟩:=go2 hty;obtain ⟨a,rfl⟩:=t1.case;obtain ⟨b,rfl⟩:=t2.case;rw [R9] at k
   obtain ⟨y2,r2,rfl,d2,hys⟩:=hys.cons
   obtain ⟨y1,r1,rfl,d1,hys⟩:=hys.cons
   cases hys.nil
   refine aM (WE (S "or") _ false rfl (by decide +kernel)) sg fun G1 H1 q1=>?_
   have sV:=B0.grow q1
   refine aM (W5 (S "or") false rfl (by decide +kernel)) q1.gh fun G2 H2 q2=>?_
   have iJ:=sV.grow q2
   have ig:H2 pp = some (.lst ((us ++ [y2]) ++ [y1])):=by first | exact iJ.at_ | (rw [iJ.at_];simp)
   refine eG (K:=K) rfl ig ?_
   have fP:=iJ.set (us ++ [y2])
   generalize L2.upd H2 pp (.lst (us ++ [y2])) = H3 at fP
   (try dsimp only)
   refine aM (WE (S "or") _ false rfl (by decide +kernel)) fP.gh fun G4 H4 q4=>?_
   have sA:=fP.grow q4
   refine aM (W3 (S "or") false rfl (by decide +kernel)) q4.gh fun G5 H5 q5=>?_
   have p7:=sA.grow q5
   have B3:H5 pp = some (.lst ((us) ++ [y2])):=by rw [p7.at_]
   refine eG (K:=K) rfl B3 ?_
   have sW:=p7.set (us)
   generalize L2.upd H5 pp (.lst (us)) = H6 at sW
   (try dsimp only)
   refine cA (gY (e:=true) (gO (WE (S "or") _ false rfl (by decide +kernel)) (fun _=>WE (S "or") _ true rfl (by decide +kernel))) rfl) sW.gh fun G7 H7 q7=>?_
   have sX:=sW.grow q7
   have tM:Dat K G7 y1 (.bool a):=d1.same sX.gg
   have B4:Dat K G7 y2 (.bool b):=d2.same sX.gg
   refine bw (K:=K) (cg (n:=0) (d9 (aj (BZ (ah rfl tM) (ah rfl B4)) (aj (AU (ah rfl tM) fun _=>ah rfl B4) aJ)) (by show 2≤sizeLine;decide)) (iZ (aj (fM (ah rfl (bM (S "or"))) aF) aJ)) (by show yP 2 (if decide (S "or" = S "and") = true then 1 else 0) = some 0;decide +kernel) rfl) q7.gh fun v G' H' q hv=>k v G' H' (sX.grow q) hv
  ·obtain ⟨v,u,rfl,t1,t2⟩:=go2 hty;obtain ⟨z,hz,rfl⟩:=t1.field;obtain ⟨a,b,hab,rfl⟩:=t2.number;rw [Sa] at k
   obtain ⟨y2,r2,rfl,d2,hys⟩:=hys.cons
   obtain ⟨y1,r1,rfl,d1,hys⟩:=hys.cons
   cases hys.nil
   have JS:=d1.str
   subst JS
   refine aM (WE (S "under") _ false rfl (by decide +kernel)) sg fun G1 H1 q1=>?_
   have sV:=B0.grow q1
   refine cA (W5 (S "under") true rfl (by decide +kernel)) q1.gh fun G2 H2 q2=>?_
   have iJ:=sV.grow q2
   have ig:H2 pp = some (.lst ((us ++ [y2]) ++ [V.str z])):=by first | exact iJ.at_ | (rw [iJ.at_];simp)
   have rL:=iJ.gh _ _ (iJ.gg _ _ lM)
   have Yx:pb≠pp:=aC lM Jz
   have fP:=iJ.set (us ++ [y2])
   refine ⟨_,rfl,⟨pb,_,rfl,rL⟩,_,rfl,.inl ⟨rfl,_,b9.of ig⟩,pp,_,V.str z,rfl,rfl,ig,by simp,?_⟩
   rw [List.dropLast_concat]
   refine ⟨pb,book,z,rfl,rfl,eV.of (fP.gh _ _ (fP.gg _ _ lM)),hz,?_⟩
   have Yy:book.idxOf z < book.length:=List.idxOf_lt_length_iff.mpr hz
   have hz1:book.idxOf z < f.length:=by omega
   have hz2:book.idxOf z < g.length:=by omega
   (try dsimp only)
   generalize QH:L2.upd H2 pp (.lst (us ++ [y2])) = H3 at fP
   have F1:∀ {σ' : St} {G' : Hp},aN G G' → σ'[3]? = some (some vf)→σ'[5]? = some (some (.int ((book.idxOf z:Nat):Int)))→Ev K (iV (ng K) (cE 3) (cE 5)) σ' G' (dF (f.getD (book.idxOf z) (0,1))):=fun s e1 e2=>cz (n:=book.idxOf z) (ah e1 (DG.same s)) (ah e2 (aX _)) (by rw [List.length_map];exact cI hz1) (gF hz1)
   have F2:∀ {σ' : St} {G' : Hp},aN G G' → σ'[4]? = some (some vg)→σ'[5]? = some (some (.int ((book.idxOf z:Nat):Int)))→Ev K (iV (ng K) (cE 4) (cE 5)) σ' G' (dF (g.getD (book.idxOf z) (0,1))):=fun s e1 e2=>cz (n:=book.idxOf z) (ah e1 (DH.same s)) (ah e2 (aX _)) (by rw [List.length_map];exact cI hz2) (gF hz2)
   refine dN (K:=K) (d:=.int (sN ((dZ book f g).look z))) (bH (E:=E0) (R:=oh) (aj (F1 fP.gg rfl rfl) (aj (F2 fP.gg rfl rfl) aJ)) ⟨_,_,rfl,dM hz1 hf,dM hz2 hg,rfl⟩) fP.gh fun v6 G4 H4 q4 h6=>?_
   have sA:=fP.grow q4
   refine aM (WE (S "under") _ false rfl (by decide +kernel)) q4.gh fun G5 H5 q5=>?_
   have p7:=sA.grow q5
   refine aM (gY (gO (WE (S "under") _ false rfl (by decide +kernel)) (fun _=>WE (S "under") _ false rfl (by decide +kernel))) rfl) q5.gh fun G6 H6 q6=>?_
   have sW:=p7.grow q6
   refine eG (K:=K) rfl sW.at_ ?_
   have sX:=sW.set us
   generalize L2.upd H6 pp (.lst us) = H7 at sX
   (try dsimp only)
   have B4:=d2.same sX.gg
   have Hy:=hnum a b hab
   refine dN (K:=K) (d:=.list [.int (sN ((dZ book f g).one z a b)),.int (sN ((dZ book f g).two z a b))]) (d9 (aj (bH (E:=E0) (R:=oh) (aj (F1 sX.gg rfl rfl) (aj (ah rfl B4) aJ)) ⟨_,(a,b),rfl,dM hz1 hf,Hy,rfl⟩) (aj (bH (E:=E0) (R:=oh) (aj (F2 sX.gg rfl rfl) (aj (ah rfl B4) aJ)) ⟨_,(a,b),rfl,dM hz2 hg,Hy,rfl⟩) aJ)) (by show 2≤sizeLine;decide)) sX.gh fun v8 G8 H8 q8 h8=>?_
   have Ie:=sX.grow q8
   refine bw (K:=K) (j4 (js:=[0]) [sN ((dZ book f g).one z a b),sN ((dZ book f g).two z a b)] PyData.int (fun i=>some (.bool (decide (i = -1)))) (ah rfl h8) (by show 2 < sizeLine;decide) fun G9 i n y s9 hn hy=>HZ gv (iO (ah rfl hy) (cg (n:=1) (d9 (aj aR (aj (BK aR) aJ)) (by show 2≤sizeLine;decide)) (iZ (aj (fM (ah rfl (bM (S "under"))) aF) aJ)) (by decide +kernel) rfl))) q8.gh fun v G' H' q hv=>k v G' H' (Ie.grow q) ?_
   have e:∀ t:An,decide (sN t = -1) = isA t .ahead:=by intro t;cases t <;> rfl
   have hv' : Dat K G' v (.list [.bool (decide (sN ((dZ book f g).one z a b) = -1)),.bool (decide (sN ((dZ book f g).two z a b) = -1))]):=hv
   rw [e,e] at hv';exact hv'
  ·obtain ⟨v,u,rfl,t1,t2⟩:=go2 hty;obtain ⟨z,hz,rfl⟩:=t1.field;obtain ⟨a,b,hab,rfl⟩:=t2.number;rw [Sd] at k
   obtain ⟨y2,r2,rfl,d2,hys⟩:=hys.cons
   obtain ⟨y1,r1,rfl,d1,hys⟩:=hys.cons
   cases hys.nil
   have JS:=d1.str
   subst JS
   refine aM (WE (S "is") _ false rfl (by decide +kernel)) sg fun G1 H1 q1=>?_
   have sV:=B0.grow q1
   refine cA (W5 (S "is") true rfl (by decide +kernel)) q1.gh fun G2 H2 q2=>?_
   have iJ:=sV.grow q2
   have ig:H2 pp = some (.lst ((us ++ [y2]) ++ [V.str z])):=by first | exact iJ.at_ | (rw [iJ.at_];simp)
   have rL:=iJ.gh _ _ (iJ.gg _ _ lM)
   have Yx:pb≠pp:=aC lM Jz
   have fP:=iJ.set (us ++ [y2])
   refine ⟨_,rfl,⟨pb,_,rfl,rL⟩,_,rfl,.inl ⟨rfl,_,b9.of ig⟩,pp,_,V.str z,rfl,rfl,ig,by simp,?_⟩
   rw [List.dropLast_concat]
   refine ⟨pb,book,z,rfl,rfl,eV.of (fP.gh _ _ (fP.gg _ _ lM)),hz,?_⟩
   have Yy:book.idxOf z < book.length:=List.idxOf_lt_length_iff.mpr hz
   have hz1:book.idxOf z < f.length:=by omega
   have hz2:book.idxOf z < g.length:=by omega
   (try dsimp only)
   generalize QH:L2.upd H2 pp (.lst (us ++ [y2])) = H3 at fP
   have F1:∀ {σ' : St} {G' : Hp},aN G G' → σ'[3]? = some (some vf)→σ'[5]? = some (some (.int ((book.idxOf z:Nat):Int)))→Ev K (iV (ng K) (cE 3) (cE 5)) σ' G' (dF (f.getD (book.idxOf z) (0,1))):=fun s e1 e2=>cz (n:=book.idxOf z) (ah e1 (DG.same s)) (ah e2 (aX _)) (by rw [List.length_map];exact cI hz1) (gF hz1)
   have F2:∀ {σ' : St} {G' : Hp},aN G G' → σ'[4]? = some (some vg)→σ'[5]? = some (some (.int ((book.idxOf z:Nat):Int)))→Ev K (iV (ng K) (cE 4) (cE 5)) σ' G' (dF (g.getD (book.idxOf z) (0,1))):=fun s e1 e2=>cz (n:=book.idxOf z) (ah e1 (DH.same s)) (ah e2 (aX _)) (by rw [List.length_map];exact cI hz2) (gF hz2)
   refine dN (K:=K) (d:=.int (sN ((dZ book f g).look z))) (bH (E:=E0) (R:=oh) (aj (F1 fP.gg rfl rfl) (aj (F2 fP.gg rfl rfl) aJ)) ⟨_,_,rfl,dM hz1 hf,dM hz2 hg,rfl⟩) fP.gh fun v6 G4 H4 q4 h6=>?_
   have sA:=fP.grow q4
   refine aM (WE (S "is") _ false rfl (by decide +kernel)) q4.gh fun G5 H5 q5=>?_
   have p7:=sA.grow q5
   refine aM (gY (gO (WE (S "is") _ false rfl (by decide +kernel)) (fun _=>WE (S "is") _ false rfl (by decide +kernel))) rfl) q5.gh fun G6 H6 q6=>?_
   have sW:=p7.grow q6
   refine eG (K:=K) rfl sW.at_ ?_
   have sX:=sW.set us
   generalize L2.upd H6 pp (.lst us) = H7 at sX
   (try dsimp only)
   have B4:=d2.same sX.gg
   have Hy:=hnum a b hab
   refine dN (K:=K) (d:=.list [.int (sN ((dZ book f g).one z a b)),.int (sN ((dZ book f g).two z a b))]) (d9 (aj (bH (E:=E0) (R:=oh) (aj (F1 sX.gg rfl rfl) (aj (ah rfl B4) aJ)) ⟨_,(a,b),rfl,dM hz1 hf,Hy,rfl⟩) (aj (bH (E:=E0) (R:=oh) (aj (F2 sX.gg rfl rfl) (aj (ah rfl B4) aJ)) ⟨_,(a,b),rfl,dM hz2 hg,Hy,rfl⟩) aJ)) (by show 2≤sizeLine;decide)) sX.gh fun v8 G8 H8 q8 h8=>?_
   have Ie:=sX.grow q8
   refine bw (K:=K) (j4 (js:=[0]) [sN ((dZ book f g).one z a b),sN ((dZ book f g).two z a b)] PyData.int (fun i=>some (.bool (decide (i = 0)))) (ah rfl h8) (by show 2 < sizeLine;decide) fun G9 i n y s9 hn hy=>HZ gv (iO (ah rfl hy) (cg (n:=0) (d9 (aj aR (aj (BK aR) aJ)) (by show 2≤sizeLine;decide)) (iZ (aj (fM (ah rfl (bM (S "is"))) aF) aJ)) (by decide +kernel) rfl))) q8.gh fun v G' H' q hv=>k v G' H' (Ie.grow q) ?_
   have e:∀ t:An,decide (sN t = 0) = isA t .like:=by intro t;cases t <;> rfl
   have hv' : Dat K G' v (.list [.bool (decide (sN ((dZ book f g).one z a b) = 0)),.bool (decide (sN ((dZ book f g).two z a b) = 0))]):=hv
   rw [e,e] at hv';exact hv'
end
end K10
namespace K10
open PySem L2 Frac Lw Dig PySem.NumText Nm
open Ord Num Look Rdo
theorem aao:bootBuiltins "str" = some (.type "str"):=by decide +kernel
def B5 (K:PySem.W.Frag):Sp:=fun vs H Q _=>∃ (G:Hp) (ws:List Wd) (book:List Str) (f g:List (Int × Int)) (num:Int→Int→Prop) (a:An) (vo vf vg:V) (pb:Addr),vs = [vo,.ref pb,vf,vg]∧aN G H∧G pb = some (.tup (book.map V.str))∧
 (Dat K G vo (.tuple (ws.map Wd.d))∧Dat K G vf (.tuple (f.map dF))∧Dat K G vg (.tuple (g.map dF)))∧nB (· ∈ book) num ws∧(∀ a b,num a b→Sz (a,b))∧(f.length = book.length∧g.length = book.length∧(∀ p∈f,Sz p)∧∀ p∈g,Sz p)∧(∀ z∈book,cD z = none)∧ws.length≤900∧
 (∀ R,ev (dZ book f g) ws R = .an a :: R)∧∀ v G' H',bO G H G' H' → Dat K G' v (dP (.an a))→Q v H'
section
variable {P:Program}{w:World}{K:PySem.W.Frag}{mg:Str→Option Value}{base:Heap}
theorem vp {G:Hp}:∀ {ds es:List PyData}{xs:List V},bJ K G xs (ds ++ es)→∃ us ys,xs = us ++ ys∧bJ K G us ds∧bJ K G ys es
 | [],es,xs,h=>⟨[],xs,rfl,bE,h⟩
 | d :: ds,es,xs,h=>by
  obtain ⟨y,r,rfl,hy,hr⟩:=bJ.cons h
  obtain ⟨us,ys,rfl,h1,h2⟩:=vp hr
  exact ⟨y :: us,ys,rfl,bh hy h1,h2⟩
theorem JU (T:Top K mg):bF P w K mg base cF 3 T.gi T.eZ ["order", "book", "early", "late"] (B5 K):=by
 have Ax:bF P w K mg base cF 2 T.kM T.jN ["word", "pile", "book", "early", "late"] (Hx K):=JR T
 refine T.lK.ok iy (fun vs H Q E h=>?_) (fun cdv A outer s H vs Q E hr h=>?_)
 ·obtain ⟨G,ws,book,f,g,num,a,vo,vf,vg,pb,rfl,_⟩:=h
  rfl
 ·obtain ⟨G,ws,book,f,g,num,a,vo,vf,vg,pb,rfl,sg,lM,⟨h1,DG,DH⟩,ho,hnum,hsz,hf,hlen,hev,k⟩:=h
  have zl:(2000:Nat)≤sizeLine:=by decide
  obtain ⟨po,os,rfl,MU,hos⟩:=h1.tup
  have SG:os.length = ws.length:=by rw [hos.length,List.length_map]
  let E:=dZ book f g
  refine ⟨_,(aB (bx (i:=4) iy.nd rfl (Or.inl rfl) (cL aq))
   (aB (jX PassesOwn.never rfl (Fp (by rfl) T.wL (pv 0)) (dj (i:=5) iy.nd rfl (Or.inl rfl)) (aG (bS ((tT (AI (lQ (bY (um (K:=K) rfl) (by rfl) T.n6 OD (aa (pv 5) (aa (wY (v:=.ty "str") (by rfl) T.ZX aao rfl) aq))))) (qH (aV lB (pv 5) (pv 1) (by rfl))))).pt (aG (iU (ku PySem.F.plainAttrs_list PySem.F.slot_list_append PySem.F.type_list_append eS (pv 4) (aa (pv 5) aq aD)))) (aG (iU (ku PySem.F.plainAttrs_list PySem.F.slot_list_append PySem.F.type_list_append eS (pv 4) (aa (aP Ax hr (by rfl) T.zY T.sr.kp T.zX .nil bD (aa (pv 5) (aa (pv 4) (aa (pv 1) (aa (pv 2) (aa (pv 3) aq aD) aD) aD) aD) aD)) aq c9)))))))
   (aG (aQ (bf (aT (K:=K) rfl) (pv 4) au (fun _ _=>rfl)))))) ,?_⟩
  refine ⟨(by show 0≤sizeLine;decide),fun pt vK=>?_⟩
  have k0:Pk pt [] G H G (L2.upd H pt (.lst [])):=⟨aN.refl _,sg.trans (bI vK),sg.free vK,aE,fun b o n e=>by rw [aI n];exact e,fun b o e=>.inl e⟩
  refine ⟨_,rfl,po,os,rfl,(bI vK).tup (sg.tup MU),CJ (fun i σ H' => ∃ (v:Option V) (xs:List V) (G' : Hp),σ = [some (.ref po),some (.ref pb),some vf,some vg,some (.ref pt),v]∧Pk pt xs G H G' H' ∧ bJ K G' xs ((ev E (ws.drop (ws.length - i)) []).map dP).reverse)
   ⟨_,[],G,rfl,k0,by rw [Nat.sub_zero,List.drop_length];exact bE⟩ ?_ ?_ ?_⟩
  ·rintro i σ H' _ ⟨v,xs,G',rfl,kk,_⟩
   exact (kk.gg.trans kk.gh).tup MU
  ·rintro i x σ H' hx ⟨v,xs,G',rfl,kk,hxs⟩
   have hi:i < ws.length:=by
    have:=(List.getElem?_eq_some_iff.mp hx).1
    rw [List.length_reverse,SG] at this;exact this
   have hdr:ws.drop (ws.length - (i + 1)) = ws[ws.length - (i + 1)] :: ws.drop (ws.length - i):=by
    rw [List.drop_eq_getElem_cons (by omega:ws.length - (i + 1) < ws.length)]
    congr 2;omega
   obtain ⟨st,hks,hrun⟩:=u7 ho xW (ws.length - (i + 1))
   rw [hdr] at hrun
   have hxd:Dat K G x (ws[ws.length - (i + 1)]).d:=by
    obtain ⟨d,e1,e2⟩:=(nj hos).get' hx
    rw [List.getElem?_reverse (by rw [List.length_map];exact hi),List.length_map,List.getElem?_map,List.getElem?_eq_getElem (by omega)] at e1
    have e1:some (ws[ws.length - 1 - i]).d = some d:=e1
    injection e1 with e1
    have e3:ws[ws.length - (i + 1)] = ws[ws.length - 1 - i]:=by congr 1;omega
    rw [e3,e1];exact e2
   have O0:ev E (ws.drop (ws.length - (i + 1))) [] = push E ws[ws.length - (i + 1)] (ev E (ws.drop (ws.length - i)) []):=by rw [hdr];rfl
   have hsl:=yi (fld:=(· ∈ book)) (num:=num) (E:=E) (ws.drop (ws.length - i))
   rw [List.length_drop] at hsl
   rw [O0]
   generalize ws[ws.length - (i + 1)] = wd at hrun hxd
   generalize ws.drop (ws.length - i) = wr at hrun hxs hsl
   cases hrun with
   | @cons _ st1 _ _ _ sa sb=>
    obtain ⟨hty,_⟩:=FH (E:=E) hf sb (lX sa hks) (vs:=[]) .nil
    generalize ev E wr [] = stk at hty hxs hsl
    have tD:xs.length = stk.length:=by rw [hxs.length,List.length_reverse,List.length_map]
    have Ag:=hxd.same kk.gg
    have hbk:Dat K G' (.ref pb) (.tuple (book.map PyData.str)):=d8 (eV.of (kk.gg _ _ lM)) (oM book)
    rcases oG sa hks with ⟨z,vB,rfl,rfl,hz,rfl⟩ | ⟨b,c,vB,rfl,rfl,hbc,rfl⟩ | ⟨want,z,ps,vB,rfl,rfl,n1,n2,hw,hl3,rfl⟩
    ·have e:push E (.t z) stk = .wd (.t z) :: stk:=by unfold push;dsimp only;rw [hf z hz]
     rw [e]
     have ez:x = V.str z:=Ag.str
     subst ez
     refine cA (gY (e:=true) (gO (qg (nq (K:=K) (qT (ah rfl (bM z)) T.ss))) fun _=>bG (K:=K) (yw (ah rfl (bM z)) (ah rfl hbk))) (by rw [decide_eq_true hz];rfl)) kk.gh fun G2 H2 q2=>?_
     have k2:=kk.grow q2
     refine ⟨_,rfl,.inl ⟨rfl,_,b9.of k2.at_⟩,_,rfl,pt,_,_,rfl,rfl,k2.at_,by omega,?_⟩
     refine ⟨_,_,G2,rfl,k2.set _,?_⟩
     rw [List.map_cons,List.reverse_cons]
     exact fV (hxs.same q2.gg) (bM z)
    ·have hxn:Dat K G' x (.tuple [.int b,.int c]):=Ag
     refine cA (gY (e:=true) (gO (e:=false) (qg (nq (K:=K) (qT (ah rfl hxn) T.ts))) (fun z=>nomatch z)) rfl) kk.gh fun G2 H2 q2=>?_
     have k2:=kk.grow q2
     refine ⟨_,rfl,.inl ⟨rfl,_,b9.of k2.at_⟩,_,rfl,pt,_,_,rfl,rfl,k2.at_,by omega,?_⟩
     refine ⟨_,_,G2,rfl,k2.set _,?_⟩
     show bJ K G2 _ ((Tv.wd (.n b c) :: stk).map dP).reverse
     rw [List.map_cons,List.reverse_cons]
     exact fV (hxs.same q2.gg) (hxn.same q2.gg)
    ·have e:push E (.t z) stk = xV E (vC z) (stk.take ps.length) :: stk.drop ps.length:=by unfold push;dsimp only;rw [hw]
     rw [e]
     have ez:x = V.str z:=Ag.str
     subst ez
     have hzb:z ∉ book:=fun hm=>by have:=hf z hm;rw [hw] at this;cases this
     refine aM (gY (e:=false) (gO (qg (nq (K:=K) (qT (ah rfl (bM z)) T.ss))) fun _=>bG (K:=K) (yw (ah rfl (bM z)) (ah rfl hbk))) (by rw [decide_eq_false hzb];rfl)) kk.gh fun G2 H2 q2=>?_
     have k2:=kk.grow q2
     have hpl:ps.length≤stk.length:=by have:=hty.length;rw [List.length_append] at this;omega
     have S5:=hxs.same q2.gg
     have yN:(stk.map dP).reverse = ((stk.drop ps.length).map dP).reverse ++ ((stk.take ps.length).map dP).reverse:=by
      rw [← List.reverse_append,← List.map_append,List.take_append_drop]
     rw [yN] at S5
     obtain ⟨us,ys,rfl,Eh,hys⟩:=vp S5
     refine ⟨_,rfl,.inl ⟨rfl,_,b9.of k2.at_⟩,_,rfl,_,rfl,_,rfl,_,rfl,_,rfl,G2,z,want,ps,stk.take ps.length,book,f,g,num,us,ys,pt,pb,vf,vg,rfl,hw,(oH hty).1,hnum,hsz,k2.gh,k2.gg _ _ lM,⟨DG.same k2.gg,DH.same k2.gg⟩,k2.out,k2.at_,hys,fun v3 G3 H3 k3 hv3=>?_⟩
     have yp:Pk pt us G H G3 H3:=⟨k2.gg.trans k3.gg,k3.gh,k3.out,k3.at_,fun b o n e=>k3.kp b o n (k2.kp b o n e),fun b o e=>by
      rcases k3.fr b o e with e | e
      ·exact k2.fr b o e
      ·exact .inr (k2.free e)⟩
     have hul:us.length≤ws.length:=by
      have e1:(us ++ ys).length = stk.length:=tD
      rw [List.length_append] at e1
      omega
     refine ⟨pt,us,v3,rfl,rfl,k3.at_,by omega,?_⟩
     refine ⟨_,_,G3,rfl,yp.set _,?_⟩
     rw [List.map_cons,List.reverse_cons]
     exact fV (Eh.same k3.gg) hv3
  ·rintro σ H' ⟨v,xs,G',rfl,kk,hxs⟩
   rw [SG,Nat.sub_self,List.drop_zero,hev] at hxs
   have hx2:bJ K G' xs [dP (.an a)]:=hxs
   obtain ⟨y,r,rfl,hy,hr'⟩:=hx2.cons
   cases hr'.nil
   refine ⟨_,rfl,pt,_,0,y,rfl,rfl,b9.of kk.at_,rfl,k y G' H' ⟨kk.gg,kk.gh,fun b o e=>?_,kk.fr⟩ hy⟩
   exact kk.kp b o (fun z=>by subst z;rw [vK] at e;cases e) e
end
end K10
namespace L2
open PySem PySem.Spec PyProof.Rows
structure fQ (fr sc:Scope) (x:Str) (cap:List Str):Prop where
 kind:sc.kind = .function
 one:∀ a cl,cellsFrom a sc.names cl = (x,a) :: cl
 push:∀ h,pushCells h sc.names = h.push { cls:=.type "cell",data:=.cell none }
 cell:∀ p∈sc.names,p.2 = .cell→p.1 = x
 names:∀ p∈sc.names,p.2 = .local→sc.names.lookup p.1 = some .local
 tgt:sc.names.lookup x = some .cell
 free:∀ p∈sc.names,p.2 = .free→fr.names.lookup p.1 = some .cell
 caps:∀ y∈cap,(y,NameKind.free)∈sc.names
 nd:(x :: cap).Nodup
 tZ:∀ y∈cap,sc.names.lookup y≠some .local
def JV (X:Cx) (sc:Scope) (x:Str) (Ce:Addr):List (Str × Addr):=(x,Ce) :: eU X.env sc.names []
theorem kq {X:Cx}{sc:Scope}{x y:Str}{Ce c:Addr}(h:(JV X sc x Ce).lookup y = some c):(y = x∧c = Ce)∨(y≠x∧(eU X.env sc.names []).lookup y = some c):=by
 unfold JV at h
 rw [List.lookup_cons] at h
 cases e:y == x with
 | true=>
  rw [e] at h
  have e' : y = x:=by simpa using e
  exact .inl ⟨e',(Option.some.inj h).symm⟩
 | false=>
  rw [e] at h
  have e' : y≠x:=by simpa using e
  exact .inr ⟨e',h⟩
theorem Hz {X:Cx}{sc:Scope}{x y:Str}{Ce:Addr}(h:y≠x):(JV X sc x Ce).lookup y = (eU X.env sc.names []).lookup y:=by
 unfold JV
 rw [List.lookup_cons]
 have e:(y == x) = false:=by simpa using h
 rw [e]
theorem HA {X:Cx}{sc:Scope}{x:Str}{Ce:Addr}:(JV X sc x Ce).lookup x = some Ce:=by unfold JV;rw [List.lookup_cons];simp
theorem yx {sc:Scope}{env:Env}{x:Str}(h:sc.names.lookup x = some .cell):(relabel sc env).names.lookup x = some .cell:=by
 unfold relabel
 show (sc.names.map fun (n,k)=>if (k == NameKind.free && env.scope.kind == .function && env.kindOf n == some .cell) then (n,NameKind.cell) else (n,k)).lookup x = some .cell
 generalize sc.names = l at h
 induction l with
 | nil=>cases h
 | cons p r ih=>
  obtain ⟨n,k⟩:=p
  rw [List.lookup_cons] at h
  rw [List.map_cons]
  cases e:x == n with
  | true=>
   rw [e] at h
   have hk:k = .cell:=Option.some.inj h
   subst hk
   have z:(NameKind.cell == NameKind.free && env.scope.kind == .function && env.kindOf n == some .cell) = false:=by
    have:(NameKind.cell == NameKind.free) = false:=by decide
    rw [this];rfl
   simp only [z,Bool.false_eq_true,if_false,List.lookup_cons,e]
  | false=>
   rw [e] at h
   by_cases hc:(k == NameKind.free && env.scope.kind == .function && env.kindOf n == some .cell) = true
   ·simp only [hc,if_true,List.lookup_cons,e];exact ih h
   ·simp only [hc,Bool.false_eq_true,if_false,List.lookup_cons,e];exact ih h
abbrev dc (X:Cx) (scope:Scope) (x:Str) (Nc:List Str) (C Ce:Addr) (s0:Shared) (H0:Hp) (ex:List Addr):Cx:=
 { X with N:=Nc,s₀:=s0,H₀:=H0,env:=compEnvC scope (JV X scope x Ce) C X.env,outer:=X.stack,ex:=ex,fn:=fun y=>y == x,pn:=[],xe:=fun _ _=>False }
section
variable {M:Model}{A:Around}{E:Value→Shared→Prop}{s:Shared}
theorem JW {scope:Scope}{globals:Addr}{closure:List (Str × Addr)}{qual:Str}{env:Env}{x:Str}{Q:Env→Shared→Prop}(h1:∀ a cl,cellsFrom a scope.names cl = (x,a) :: cl) (h2:∀ h,pushCells h scope.names = h.push { cls:=.type "cell",data:=.cell none })
  (q:Q { scope,locals:=s.heap.objs.size,globals,cells:=(x,s.heap.objs.size + 1) :: closure,qual,func:=none,code:=env.code,frame:=env.frame,builtins:=env.builtins } { s with heap:=(s.heap.push { cls:=.type "dict",data:=.dict #[] }).push { cls:=.type "cell",data:=.cell none } }):
  wpAny M A (newFunctionEnv scope globals closure [] qual none .none (some env)) Q E s:=by
 simp only [newFunctionEnv,Option.isSome_some,if_true]
 refine wpAny_bind (wpAny_alloc ?_)
 refine wpAny_bind (wpAny_layCells _ (fun name kind cells=>by cases hkc:kind == NameKind.cell <;> simp [hkc]) _ _ _ _ ?_)
 rw [h1,h2]
 have z:(s.heap.push { cls:=.type "dict",data:=.dict #[] }).objs.size = s.heap.objs.size + 1:=Heap.size_push ..
 show wpAny _ _ _ _ _ _
 simp only [List.forIn_nil]
 refine wpAny_bind (wpAny_pure (wpAny_pure ?_))
 rw [z]
 exact q
end
section
variable {X:Cx}{pins:List (Addr × Obj)}{σ:St}{H:Hp}{s:Shared}{sc:Scope}{x:Str}{cap:List Str}
theorem fQ.cells (S:fQ X.env.scope sc x cap) (ok:X.Ok):∀ p∈sc.names,p.2 = .free→∃ c,X.env.cells.lookup p.1 = some c:=
 fun p hp e=>ok.has p.1 (.inl (S.free p hp e))
theorem fQ.sub (S:fQ X.env.scope sc x cap) (ok:X.Ok) {y:Str}{c:Addr}(h:(eU X.env sc.names []).lookup y = some c):X.env.cells.lookup y = some c:=
 lC (S.cells ok) (fun _ _ z=>by simp at z) h
theorem DW (S:fQ X.env.scope sc x cap) {js:List Nat}(qO:js.map (fun j=>X.N[j]?) = cap.map some) (I:Inv X pins σ H s) {fp:List Addr}(hf:∀ b∈fp,lu X pins H b) (hlt:∀ b∈fp,b < s.heap.objs.size)
  {h1:Heap}{tk:Nat}{D C Ce:Addr}{oD:Obj}{m:Str→Option Value}(hD:D = s.heap.objs.size) (hC:C = s.heap.objs.size + 1) (Ot:Ce = s.heap.objs.size + 2) (keep:∀ b o,s.heap.get? b = some o→h1.get? b = some o) (EL:h1.get? D = some oD) (hnc:∀ v,oD.data≠.cell v) (hns:h1.Ns C m) (hcl:h1.IsCell Ce none):
  Inv (dc X sc x (x :: cap) C Ce s H fp) [(D,oD)] (none :: cM σ js) H { s with heap:=h1,toks:=tk }:=by
 subst hD hC Ot
 have ltc:∀ {y:Str}{c:Addr},(eU X.env sc.names []).lookup y = some c→c < s.heap.objs.size:=fun e=>by
  obtain ⟨v,o,ho,_⟩:=I.cell _ _ (S.sub I.ok e)
  exact Heap.lt_size ho
 have AS:js.length = cap.length:=by have:=congrArg List.length qO;simpa using this
 have ok:=I.ok
 refine ⟨⟨ok.mod,S.kind,ok.glob,ok.blt,?_,fun y z c h1 h2=>?inj,fun y hy=>?_,(fun y c h e=>?NZ),ok.hd,ok.frames,.inl rfl,fun b hb=>⟨?_,fun y c e=>?HY⟩,I.bs,Nat.le_trans ok.Ef I.sz,fun b o e hb=>?_,fun b hb hb' => ?_,I.stack,I.sZ⟩,
  rfl,I.bare,Un.kept keep,⟨m,hns,fun i y v e1 e2 e3=>?_⟩,fun y c e=>?_,I.hok.fresh (Nat.le_succ _),fun y c e=>?frc,fun p hp=>?_,I.hok.kept keep,?_⟩
 case inj=>
  rcases kq h1 with ⟨rfl,rfl⟩ | ⟨n1,Gf⟩ <;> rcases kq h2 with ⟨rfl,e⟩ | ⟨n2,h2'⟩
  ·rfl
  ·have:=ltc h2'
   exact absurd this (by show ¬ (s.heap.objs.size + 2 < s.heap.objs.size);omega)
  ·subst e
   have:=ltc Gf
   exact absurd this (by show ¬ (s.heap.objs.size + 2 < s.heap.objs.size);omega)
  ·exact ok.inj y z c (S.sub ok Gf) (S.sub ok h2')
 case NZ=>
  have hy:y = x:=by simpa using h
  subst hy
  rcases kq e with ⟨_,rfl⟩ | ⟨n,_⟩
  ·exact Nat.le_add_right _ _
  ·exact absurd rfl n
 case HY=>
  rcases kq e with ⟨_,rfl⟩ | ⟨_,e'⟩
  ·exact Ol (Nat.lt_of_lt_of_le (hlt b hb) (Nat.le_add_right _ _))
  ·exact (hf b hb).2.2.2.2.1 y c (S.sub ok e')
 case frc=>
  rcases kq e with ⟨_,rfl⟩ | ⟨_,e'⟩
  ·exact I.hok.fresh (Nat.le_add_right _ _)
  ·exact I.kZ y c (S.sub ok e')
 ·exact Nat.le_succ _
 ·have hy' : ∃ k,(y,k)∈(relabel sc X.env).names∧(k = .cell∨k = .free):=by
   rcases hy with hy | hy
   ·exact ⟨_,PySem.mem_of_lookup hy,.inl rfl⟩
   ·exact ⟨_,PySem.mem_of_lookup hy,.inr rfl⟩
  obtain ⟨k,hm,hk⟩:=hy'
  obtain ⟨k',hm',hk'⟩:=gW hm
  by_cases hyx:y = x
  ·subst hyx;exact ⟨_,HA⟩
  ·have hfree:k' = .free:=by
    rcases hk' with e | ⟨e,_⟩
    ·subst e
     rcases hk with e | e
     ·exact absurd (S.cell _ hm' e) hyx
     ·exact e
    ·exact e
   subst hfree
   show ∃ c,(JV X sc x _).lookup y = some c
   rw [Hz hyx]
   exact Option.isSome_iff_exists.mp (iu hm')
 ·exact iK (Nat.lt_succ_of_lt (hlt b hb))
 ·obtain ⟨_,_,_,z,_⟩:=hf b hb
  rcases z with z | z
  ·exact ok.AF b o e z
  ·have:=Heap.lt_size (ok.bs b o e).1
   exact absurd (Nat.lt_of_lt_of_le this z) (Nat.lt_irrefl _)
 ·obtain ⟨_,z1,z2,_⟩:=hf b hb
  rcases List.mem_cons.mp (I.tR b hb') with z | z
  ·exact z1 z
  ·exact z2 z
 ·cases i with
  | zero=>
   have qG:(none:Option V) = some v:=by simpa using e2
   cases qG
  | succ i=>
   have MB:cap[i]? = some y:=by simpa using e1
   have qG:(cM σ js)[i]? = some (some v):=by simpa using e2
   have hy:y∈cap:=List.mem_of_getElem? MB
   unfold cM at qG
   rw [List.getElem?_map] at qG
   cases ej:js[i]? with
   | none=>rw [ej] at qG;cases qG
   | some j=>
    rw [ej] at qG
    have lU:(σ[j]?).join = some v:=Option.some.inj qG
    have eN:X.N[j]? = some y:=by
     have:=congrArg (fun l=>l[i]?) qO
     simp only [List.getElem?_map,ej,MB,Option.map_some] at this
     exact Option.some.inj this
    have eσ:σ[j]? = some (some v):=by
     cases q:σ[j]? with
     | none=>rw [q] at lU;cases lU
     | some w' =>
      rw [q] at lU
      have:w' = some v:=by simpa using lU
      rw [this]
    have kc:X.env.scope.names.lookup y = some .cell:=S.free (y,.free) (S.caps y hy) rfl
    obtain ⟨m0,hn0,Om⟩:=I.loc
    obtain ⟨u,ru,lk⟩:=Om j y v eN eσ (.inr (.inl kc))
    refine ⟨u,ru,?_⟩
    rcases lk with ⟨k,_⟩ | ⟨_,c,ec,hc⟩
    ·have k' : X.env.scope.names.lookup y = some .local:=k
     rw [kc] at k';cases k'
    ·obtain ⟨c',hc'⟩:=Option.isSome_iff_exists.mp (iu (env:=X.env) (acc:=[]) (S.caps y hy))
     have hcc:c' = c:=Option.some.inj ((S.sub ok hc').symm.trans ec)
     subst hcc
     have hyx:y≠x:=fun z=>by subst z;exact (List.nodup_cons.mp S.nd).1 hy
     refine .inr ⟨?_,c',(Hz hyx).trans hc',?_⟩
     ·rcases e3 with e3 | e3 | e3
      ·exfalso
       have hm:=PySem.mem_of_lookup e3
       obtain ⟨k',hm',hk'⟩:=gW hm
       rcases hk' with e | ⟨_,e⟩
       ·subst e
        exact S.tZ y hy (S.names _ hm' rfl)
       ·cases e
      ·exact .inl e3
      ·exact .inr e3
     ·obtain ⟨o,ho,hd⟩:=hc
      exact ⟨o,keep _ o ho,hd⟩
 ·rcases kq e with ⟨_,rfl⟩ | ⟨_,e'⟩
  ·exact ⟨_,hcl⟩
  ·obtain ⟨v,o,ho,hd⟩:=I.cell y c (S.sub ok e')
   exact ⟨v,o,keep _ o ho,hd⟩
 ·have oB:p = (s.heap.objs.size,oD):=by simpa using hp
  subst oB
  refine ⟨EL,I.hok.fresh (Nat.le_refl _),iK (Nat.lt_succ_self _),fun hb=>?_,hnc⟩
  obtain ⟨_,o,ho,_⟩:=I.stack.mem hb
  exact Nat.lt_irrefl _ (Heap.lt_size ho)
 ·show (none :: cM σ js).length = (x :: cap).length
  unfold cM
  simp [AS]
theorem DX (S:fQ X.env.scope sc x cap) (I:Inv X pins σ H s) {fp:List Addr}(hf:∀ b∈fp,lu X pins H b) {D C Ce:Addr}{Ry:List (Addr × Obj)}{σ' : St} {H' : Hp} {s' : Shared} {ys:List V}{its:List Value}{k:Nat}{h' : Heap}
  (hD:D = s.heap.objs.size) (hC:C = s.heap.objs.size + 1) (J:Inv (dc X sc x (x :: cap) C Ce s H fp) Ry σ' H' s') (EM:H' D = none) (EL:s'.heap.get? D = some { cls:=.type "list",data:=.seq its.toArray k }) (rv:Vals ys its) (hz:ys.length≤sizeLine)
  (hs:Heap.SameBut C s'.heap h'):Inv X pins σ (upd H' D (.lst ys)) { s' with heap:=h' }:=by
 subst hD hC
 have base:Un (frs X.stack) fp H H' s.heap s'.heap:=J.base
 have MC:H' (s.heap.objs.size + 1) = none:=J.free
 have AB:∀ {b:Addr}{o:Obj},s.heap.get? b = some o→b≠s.heap.objs.size + 1:=fun e=>iK (Nat.lt_succ_of_lt (Heap.lt_size e))
 have Rz:∀ {b:Addr}{o:Obj},s.heap.get? b = some o→b≠s.heap.objs.size:=fun e=>iK (Heap.lt_size e)
 have uc:∀ {b:Addr}{o:HO},H b = some o→b≠s.heap.objs.size:=fun e=>iK (I.hok.lt e)
 refine I.Er (s' := { s' with heap:=h' }) (ch:=fp) J.os ⟨fun b o e n hb hx=>?_,fun b o e n hb hx=>?_,fun b o e n hx=>?_,fun b o e hx=>?_,fun b xs e=>?_,fun b o u e=>?_,fun b ps e=>?_⟩ (fun b u e=>?_) J.bare fun b hb=>?_
 ·exact (hs.2 b (AB e)).trans (base.keep b o e n hb hx)
 ·obtain ⟨sl,q⟩:=base.slot b o e n hb hx
  exact ⟨sl,(hs.2 b (AB e)).trans q⟩
 ·rw [aI (Rz e)];exact base.free b o e n hx
 ·obtain ⟨o',q⟩:=base.there b o e hx
  exact ⟨o',(hs.2 b (AB e)).trans q⟩
 ·rw [aI (uc e)];exact base.tups b xs e
 ·rw [aI (uc e)];exact base.m5 b o u e
 ·rw [aI (uc e)];exact base.oU b ps e
 ·by_cases hb:b = s.heap.objs.size
  ·subst hb
   rw [aE] at e
   cases e
   exact ⟨hz,its,k,rv,(hs.2 _ (iK (Nat.lt_succ_self _))).trans EL⟩
  ·rw [aI hb] at e
   have J' : cC X.prog X.w H' s'.heap b u:=J.hok b u e
   refine J'.stay (fun c v hc q=>(hs.2 c ?_).trans q) (fun c q=>?_) (fun c xs q=>?_) fun c o u q=>?_
   ·rintro rfl
    rcases hc with rfl | hc
    ·rw [MC] at e;cases e
    ·rw [MC] at hc;cases hc
   ·rw [aI (aC q EM)];exact q
   ·rw [aI (aC q EM)];exact q
   ·rw [aI (aC q EM)];exact q
 ·obtain ⟨_,z1,_,z3,z4,z5⟩:=hf b hb
  exact ⟨z3,z1,z4,z5⟩
end
section
variable {X:Cx}{pins:List (Addr × Obj)}{σ:St}{H:Hp}{s:Shared}{sc:Scope}{x:Str}{cap:List Str}
theorem DY (S:fQ X.env.scope sc x cap) {js:List Nat}(qO:js.map (fun j=>X.N[j]?) = cap.map some) (hc:X.calm = true) {elt iter:Expr}{ifs:List Expr}{pos px:Pos}{tt:TT}{te:TE}
  (hb:∀ C Ce s0 H0 ex,IA (dc X sc x (x :: cap) C Ce s0 H0 ex) ifs tt∧PE (dc X sc x (x :: cap) C Ce s0 H0 ex) elt te)
  (I:Inv X pins σ H s) {J:It}{fp:List Addr}{it:Addr}{tn:Nat→Heap→Prop}(T:Turn X.prog X.w X.K (.Name x px) J fp it tn) (st:tn 0 s.heap) (hf:∀ b∈fp,lu X pins H b)
  {Q:VK}{W:Nat→Nat→List V→Hp→Prop}(w0:∃ m,W 0 m [] H) (turn:ZE J js σ tt te Q W) {RR:Value→Addr→Result→Shared→Prop}{E:Value→Shared→Prop}
  (hR:∀ D C Ce s' σ' H' ys its k,D = s.heap.objs.size→C = s.heap.objs.size + 1→Inv (dc X sc x (x :: cap) C Ce s H fp) [(D,{ cls:=.type "list",data:=.seq its.toArray k })] σ' H' s' → Vals ys its→ys.length≤sizeLine→(∀ p,H' p = none→Q (.ref p) (upd H' p (.lst ys)))→RR (.ref D) C (.ok .next) s'):
  wpAny (model X.prog X.w) X.A (newList []) (fun acc s₃=>wpAny (model X.prog X.w) X.A (newFunctionEnv sc X.env.globals (eU X.env sc.names []) [] X.env.qual none .none (some X.env)) (fun cenv s₄=>
   codeAny (model X.prog X.w) X.A (.compStart (.ListComp elt [⟨.Name x px,iter,ifs,0⟩] sc pos) 0 (.ref it) acc { cenv with scope:=relabel sc X.env }) (RR acc cenv.locals) s₄) E s₃) E s:=by
 refine wpAny_newObj_type (JW S.one S.push ?_)
 dsimp only
 have hlt:∀ b∈fp,b < s.heap.objs.size:=fun b hb' => by
  obtain ⟨o,e,_⟩:=T.obj 0 _ st b hb'
  exact Heap.lt_size e
 have hC0:(s.heap.push { cls:=.type "list",dict:=none,data:=.seq ([]:List Value).toArray }).objs.size = s.heap.objs.size + 1:=Heap.size_push ..
 rw [hC0]
 have u:∀ {hh:Heap}{o:Obj}{c:Addr}{ob:Obj},hh.get? c = some ob→(hh.push o).get? c = some ob:=fun e=>Heap.get?_push_of_some _ e
 have pN:(((s.heap.push { cls:=.type "list",dict:=none,data:=.seq ([]:List Value).toArray }).push { cls:=.type "dict",data:=.dict #[] }).push { cls:=.type "cell",data:=.cell none }).Ns (s.heap.objs.size + 1) (fun _=>none):=by
  have:=Heap.Ns.new (s.heap.push { cls:=.type "list",dict:=none,data:=.seq ([]:List Value).toArray }) (.type "dict")
  rw [hC0] at this
  obtain ⟨o,es,ep,e,r⟩:=this
  exact ⟨o,es,ep,u e,r⟩
 have old:∀ b o,s.heap.get? b = some o→(((s.heap.push { cls:=.type "list",dict:=none,data:=.seq ([]:List Value).toArray }).push { cls:=.type "dict",data:=.dict #[] }).push { cls:=.type "cell",data:=.cell none }).get? b = some o:=fun b o e=>u (u (u e))
 have hacc:(((s.heap.push { cls:=.type "list",dict:=none,data:=.seq ([]:List Value).toArray }).push { cls:=.type "dict",data:=.dict #[] }).push { cls:=.type "cell",data:=.cell none }).get? s.heap.objs.size = some { cls:=.type "list",data:=.seq ([]:List Value).toArray }:=u (u (Heap.get?_push_size _ rfl))
 have hcl:(((s.heap.push { cls:=.type "list",dict:=none,data:=.seq ([]:List Value).toArray }).push { cls:=.type "dict",data:=.dict #[] }).push { cls:=.type "cell",data:=.cell none }).IsCell (s.heap.objs.size + 2) none:=by
  have z:((s.heap.push { cls:=.type "list",dict:=none,data:=.seq ([]:List Value).toArray }).push { cls:=.type "dict",data:=.dict #[] }).objs.size = s.heap.objs.size + 2:=by rw [Heap.size_push,hC0]
  have:=Heap.get?_push_size ((s.heap.push { cls:=.type "list",dict:=none,data:=.seq ([]:List Value).toArray }).push { cls:=.type "dict",data:=.dict #[] }) (o:={ cls:=.type "cell",data:=.cell none }) rfl
  rw [z] at this
  exact ⟨_,this,rfl⟩
 generalize ((s.heap.push { cls:=.type "list",dict:=none,data:=.seq ([]:List Value).toArray }).push { cls:=.type "dict",data:=.dict #[] }).push { cls:=.type "cell",data:=.cell none } = h₁ at pN old hacc hcl ⊢
 have MD:tn 0 h₁:=T.keep _ _ _ st fun b _ o e=>old b o e
 obtain ⟨m0,w0⟩:=w0
 generalize aap:s.heap.objs.size + 2 = Ce at hcl ⊢
 generalize Ot:s.heap.objs.size + 1 = C at pN ⊢
 generalize Ei:s.heap.objs.size = D at hacc ⊢
 have C6:=Ei.symm
 have QE:C = s.heap.objs.size + 1:=Ot.symm
 have S6:Ce = s.heap.objs.size + 2:=aap.symm
 have EN:∀ {b:Addr},b < s.heap.objs.size→b≠D:=fun h=>by rw [← Ei];exact iK h
 have loop:∀ s₃:Shared,s₃ = { s with heap:=h₁,toks:=s.toks }→
   codeAny (model X.prog X.w) X.A (.compLoop (.ListComp elt [⟨.Name x px,iter,ifs,0⟩] sc pos) 0 (.ref it) (.ref D) (compEnvC sc (JV X sc x Ce) C X.env)) (RR (.ref D) C) s₃:=by
  rintro s₃ rfl
  have I0:Inv (dc X sc x (x :: cap) C Ce s H fp) [(D,{ cls:=.type "list",data:=.seq ([]:List Value).toArray })] (none :: cM σ js) H { s with heap:=h₁,toks:=s.toks }:=
   DW S qO I hf hlt C6 QE S6 old hacc (fun v z=>by cases z) pN hcl
  have QF:(dc X sc x (x :: cap) C Ce s H fp).N.Nodup:=S.nd
  have tD:(dc X sc x (x :: cap) C Ce s H fp).env.scope.names.lookup x = some .cell:=yx S.tgt
  have EO:∀ b∈fp,b≠D:=fun b hb' => EN (hlt b hb')
  refine pM (fun n s' => ∃ i v0 H' ys its k,Inv (dc X sc x (x :: cap) C Ce s H fp) [(D,{ cls:=.type "list",data:=.seq its.toArray k })] (v0 :: cM σ js) H' s' ∧ tn i s'.heap∧(∀ b∈fp,H' b = none)∧Vals ys its∧W i n ys H')
   ?_ m0 ⟨0,none,H,[],[],0,I0,MD,fun b hb' => (hf b hb').1,.nil,w0⟩
  rintro n s3 ⟨i,v0,H3,ys,its,k,I3,st3,EB,rv,w3⟩
  obtain ⟨hlen,hor⟩:=turn i n ys H3 w3
  have pH:∀ {H' : Hp} {o:Obj},(∀ b∈fp,H' b = none)→∀ b∈fp,lu (dc X sc x (x :: cap) C Ce s H fp) [(D,o)] H' b:=fun {H' o} hn b hb' =>
   ⟨hn b hb',(I3.ok.HY b hb').1,I3.ok.AG b hb',.inl hb',(I3.ok.HY b hb').2,fun p hp=>by
    have oB:p = (D,o):=by simpa using hp
    rw [oB]
    exact Ne.symm (EO b hb')⟩
  rcases hor with ⟨stop,qn⟩ | ⟨go,step⟩
  ·refine cJ (T.done (dc X sc x (x :: cap) C Ce s H fp) rfl rfl rfl hc i _ s3 _ H3 _ I3 (pH EB) st3 stop) fun r s4 ⟨hr,I4⟩=>?_
   subst hr
   exact hR D C Ce s4 _ H3 ys its k C6 QE I4 rv (Nat.le_of_lt hlen) qn
  ·refine cJ (T.item (dc X sc x (x :: cap) C Ce s H fp) rfl rfl rfl hc i _ s3 _ H3 _ I3 (pH EB) st3 go) fun r s4 ⟨u,hr,h4⟩=>?_
   subst hr
   refine cJ h4 fun _ s5 ⟨xv,H5,I5,r5,y5,AN,N7⟩=>?_
   have N8:=I5.pinned (pH N7) (T.obj _ _ AN)
   have hg:PG (dc X sc x (x :: cap) C Ce s H fp) (.Name x px) (m9 0):=dj QF rfl (.inr tD) (.inl (by show (x == x) = true;simp))
   refine cJ (hg _ s5 _ H5 xv u (fun σ2 H2=>σ2 = some xv :: cM σ js∧H2 = H5) N8 r5 ⟨rfl,rfl⟩) fun _ s6 ⟨σ6,H6,I6,e6,RA⟩=>?_
   subst e6 RA
   refine cJ ((hb C Ce s H fp).1 _ s6 _ H6 _ I6 (step xv H6 y5)) fun ok s7 ⟨H7,I7,q7⟩=>?_
   have fin:∀ {s8:Shared}{H8:Hp}{v8:Option V},Inv (dc X sc x (x :: cap) C Ce s H fp) ([(D,{ cls:=.type "list",data:=.seq its.toArray k })] ++ gm fp s5.heap) (v8 :: cM σ js) H8 s8→tn (i + 1) s8.heap∧(∀ b∈fp,H8 b = none)∧s8.heap.get? D = some { cls:=.type "list",data:=.seq its.toArray k }∧H8 D = none∧D≠C:=fun {s8 H8 v8} I8=>by
    have iN:=I8.pin (D,{ cls:=.type "list",data:=.seq its.toArray k }) (List.mem_append_right _ (List.mem_append_left _ (List.mem_singleton.mpr rfl)))
    have yW:∀ b∈fp,∀ o,s5.heap.get? b = some o→s8.heap.get? b = some o∧H8 b = none:=fun b hb' o e=>
     have z:=I8.pin (b,o) (List.mem_append_right _ (List.mem_append_right _ (jV hb' e)))
     ⟨z.1,z.2.1⟩
    refine ⟨T.keep _ _ _ AN fun b hb' o e=>(yW b hb' o e).1,fun b hb' => ?_,iN.1,iN.2.1,iN.2.2.1⟩
    obtain ⟨o,e,_⟩:=T.obj _ _ AN b hb'
    exact (yW b hb' o e).2
   cases ok with
   | false=>
    rw [if_neg Bool.false_ne_true] at q7 ⊢
    obtain ⟨m',hm,w7⟩:=q7
    obtain ⟨f1,f2,_⟩:=fin I7
    exact ⟨m',hm,i + 1,some xv,H7,ys,its,k,I7.jW,f1,f2,rv,w7⟩
   | true=>
    rw [if_pos rfl] at q7 ⊢
    refine cJ ((hb C Ce s H fp).2 _ s7 _ H7 _ I7 q7) fun u8 s8 ⟨v,H8,I8,r8,q8⟩=>?_
    obtain ⟨f1,f2,f3,f4,f5⟩:=fin I8
    obtain ⟨m',hm,w8⟩:=q8
    have RB:Vals (ys ++ [v]) (its ++ [u8]):=rv.append (.cons r8 .nil)
    refine wpAny_list_append_plain ⟨k,f3⟩ (fun h9 RC ME=>?_) (by rw [List.size_toArray,← rv.length];exact Nat.le_of_lt hlen)
    obtain ⟨k9,e9⟩:=RC
    have RD:h9.get? D = some { cls:=.type "list",data:=.seq (its ++ [u8]).toArray k9 }:=by rw [e9];simp
    have In:Inv (dc X sc x (x :: cap) C Ce s H fp) (gm fp s5.heap) (some xv :: cM σ js) H8 s8:=I8.iT fun p hp=>I8.pin p (List.mem_append_right _ (List.mem_append_right _ hp))
    have RE:Inv (dc X sc x (x :: cap) C Ce s H fp) (gm fp s5.heap) (some xv :: cM σ js) H8 { s8 with heap:=h9 }:=
     In.turned (it:=D) (h' := h9) (t' := s8.toks) (fun b o hb' e=>ME.extBut b o hb' e) f4 f5 (.inr (Nat.le_of_eq Ei)) (fun y c e z=>by
      rcases kq e with ⟨_,rfl⟩ | ⟨_,e'⟩
      ·rw [← Ei] at z;exact Ol (by show s.heap.objs.size < c;rw [S6];exact Nat.lt_succ_of_lt (Nat.lt_succ_self _)) z
      ·obtain ⟨v',o,ho,_⟩:=I.cell y c (S.sub I.ok e')
       exact EN (Heap.lt_size ho) z) fun p hp z=>by
      have oB:p∈gm fp s5.heap:=by simpa using hp
      exact EO p.1 (ow oB).1 z
    refine ⟨m',hm,i + 1,some xv,H8,ys ++ [v],its ++ [u8],k9,RE.iT fun p hp=>?_,T.keep _ _ _ f1 fun b hb' o e=>ME.extBut b o (EO b hb') e,f2,RB,w8⟩
    have oB:p = (D,{ cls:=.type "list",data:=.seq (its ++ [u8]).toArray k9 }):=by simpa using hp
    subst oB
    refine ⟨RD,f4,f5,fun hb' => ?_,fun v z=>by cases z⟩
    obtain ⟨_,o,ho,_⟩:=I.stack.mem hb'
    exact EN (Heap.lt_size ho) rfl
 exact codeAny_compStart_list (loop _ rfl) (T.self X.A 0 _ _ _ MD (loop _ rfl))
theorem Pu (S:fQ X.env.scope sc x cap) {js:List Nat}(qO:js.map (fun j=>X.N[j]?) = cap.map some) (hc:X.calm = true) (ZF:∀ e s,¬ X.xe e s) {elt iter:Expr}{ifs:List Expr}{pos px:Pos}{wi:TI}{tt:TT}{te:TE}
  (hi:PI X (.Name x px) iter wi) (hb:∀ C Ce s0 H0 ex,IA (dc X sc x (x :: cap) C Ce s0 H0 ex) ifs tt∧PE (dc X sc x (x :: cap) C Ce s0 H0 ex) elt te)
  (hs:∀ x,foldedSetIterable iter X.env x = pure x:=by intro _;rfl):PE X (.ListComp elt [⟨.Name x px,iter,ifs,0⟩] sc pos) (Oo wi js tt te):=by
 intro pins s σ H Q I h
 rw [eval_ListComp]
 refine wpAny_comprehension_free (use:=none) rfl hs (gr (S.cells I.ok)) S.kind S.names (cJ (hi pins s σ H _ I h) fun xv s₁ h₁=>cJ h₁ fun itv s₂ h₂=>?_)
 obtain ⟨it,fp,tn,J,H2,e,I2,T,st2,f2,W,w0,turn⟩:=h₂
 subst e
 refine DY (Q:=Q) (RR:=fun acc C=>compPost (model X.prog X.w) X.A X.xe none (EP X pins σ Q) acc C) S qO hc hb I2 T st2 f2 w0 turn ?_
 intro D C Ce s' σ' H' ys its k hD hC J' rv hz q
 obtain ⟨m,hn,_⟩:=J'.loc
 have iN:=J'.pin (D,{ cls:=.type "list",data:=.seq its.toArray k }) (List.mem_append_right _ (List.mem_singleton.mpr rfl))
 exact ⟨m,hn,fun h' hs' => ⟨.ref D,_,DX S I2 f2 hD hC J' iN.2.1 iN.1 rv hz hs',rfl,q D iN.2.1⟩⟩
end
end L2
namespace L2
open PySem PySem.Spec PyProof.Rows
def aaq (sc fr:Scope):List (Str × NameKind):=sc.names.map fun (n,k)=>if (k == NameKind.free && fr.kind == .function && (fr.names.lookup n) == some .cell) = true then (n,NameKind.cell) else (n,k)
theorem HB {X:Cx}{K:PySem.W.Frag}(eK:X.K = K) {tg l:Expr}{tl:TE}(hl:PE X l tl):PI X tg l (Ey K tl):=by
 subst eK
 exact eW hl
theorem lO {α β:Type}{f g:α→Option β}:∀ {l:List α},(∀ x∈l,f x = g x)→l.filterMap f = l.filterMap g
 | [],_=>rfl
 | x :: r,h=>by rw [List.filterMap_cons,List.filterMap_cons,h x List.mem_cons_self,lO fun y hy=>h y (List.mem_cons_of_mem _ hy)]
theorem HC {α:Type}(xs:List α):(List.range xs.length).filterMap (fun k=>xs[xs.length - 1 - k]?) = xs.reverse:=by
 refine List.ext_getElem? fun i=>?_
 have e:(List.range xs.length).filterMap (fun k=>xs[xs.length - 1 - k]?) = (List.range xs.length).pmap (fun k (h:k < xs.length)=>xs[xs.length - 1 - k]'(by omega)) (fun k hk=>List.mem_range.mp hk):=by
  have key:∀ (l:List Nat) (h:∀ k∈l,k < xs.length),l.filterMap (fun k=>xs[xs.length - 1 - k]?) = l.pmap (fun k (h:k < xs.length)=>xs[xs.length - 1 - k]'(by omega)) h:=by
   intro l
   induction l with
   | nil=>intro h;rfl
   | cons k r ih=>
    intro h
    have hk:=h k List.mem_cons_self
    rw [List.filterMap_cons,List.pmap_cons,List.getElem?_eq_getElem (by omega)]
    dsimp only
    rw [ih fun j hj=>h j (List.mem_cons_of_mem _ hj)]
  exact key _ _
 rw [e]
 by_cases hi:i < xs.length
 ·rw [List.getElem?_reverse hi,List.getElem?_eq_getElem (by simp;exact hi),List.getElem?_eq_getElem (by omega)]
  simp
 ·rw [List.getElem?_eq_none (by simp;omega),List.getElem?_eq_none (by simp;omega)]
end L2
namespace L2
open PySem PySem.Spec PyProof.Rows
theorem DZ {α:Type}(xs:List α):jz xs none none (some (-1)) = xs.reverse:=by
 unfold jz
 have e1:sliceBounds none none (some (-1)) xs.length = ((xs.length:Int) - 1,-1,-1):=by simp [sliceBounds]
 rw [e1]
 dsimp only
 unfold sliceRange
 rw [← HC,List.filterMap_map]
 have ec:(if (-1:Int) > 0 then (if (xs.length:Int) - 1 < -1 then (-1 - ((xs.length:Int) - 1) + -1 - 1) / -1 else 0) else (if (xs.length:Int) - 1 > -1 then ((xs.length:Int) - 1 - -1 - -1 - 1) / (- -1) else 0)).toNat = xs.length:=by
  rw [if_neg (by decide)]
  split
  ·have:((xs.length:Int) - 1 - -1 - -1 - 1) / (- -1) = xs.length:=by
    show ((xs.length:Int) - 1 - -1 - -1 - 1) / 1 = xs.length
    rw [Int.ediv_one];omega
   rw [this];simp
  ·simp;omega
 rw [show (List.range (if (-1:Int) > 0 then (if (xs.length:Int) - 1 < -1 then (-1 - ((xs.length:Int) - 1) + -1 - 1) / -1 else 0) else (if (xs.length:Int) - 1 > -1 then ((xs.length:Int) - 1 - -1 - -1 - 1) / (- -1) else 0)).toNat) = List.range xs.length by rw [ec]]
 skip
 refine lO fun k hk=>?_
 have hk' := List.mem_range.mp hk
 show xs[((xs.length:Int) - 1 + -1 * (k:Int)).toNat]? = xs[xs.length - 1 - k]?
 congr 1
 omega
end L2
namespace L2
open PySem PySem.Spec PyProof.Rows
section
variable {K:PySem.W.Frag}{X:Cx}
theorem B6 (e:X.K = K):gU X (.type "list") (fun xs H Q=>∃ p ys,xs = [.ref p]∧(b9 K H p ys∨eV K H p ys)∧∀ l,H l = none→Q (.ref l) (upd H l (.lst ys))):=by subst e;exact xA
theorem HD {σ:St}{G:Hp}{t:TA}{ds:List PyData}(h:xE K t σ G [.list ds]):Ev K (C3 (fun xs H Q=>∃ p ys,xs = [.ref p]∧(b9 K H p ys∨eV K H p ys)∧∀ l,H l = none→Q (.ref l) (upd H l (.lst ys))) t) σ G (.list ds):=
 ud h fun G1 H xs Q s1 s2 hx k=>by
  obtain ⟨y,ys,rfl,hy,r⟩:=hx.cons
  rw [r.nil]
  obtain ⟨p,zs,rfl,hp,hz⟩:=hy.lst
  refine ⟨p,zs,rfl,.inl (b9.of (s2 _ _ hp)),fun l hl=>?_⟩
  have g:=b8 (o:=.lst zs) s2 hl
  exact k _ _ _ g (cK aE (hz.same g.gg))
end
end L2
namespace K10
open PySem L2 Frac Lw Dig PySem.NumText Nm
open Ord Num Look Rdo
def vq:Scope:=match aZ cP with
 | .Assign _ (.ListComp _ _ sc _) _ :: _=>sc
 | _=>ak cP
def gT (a b c:An):Bool:=if a = .behind∨b = .behind then true else if c = .behind then false else (!decide (c = .like)) || (decide (a = .like) && decide (b = .like))
def B7 (L:Fs→Fs→An) (gs:List Fs):PyData:=.list (gs.map fun f=>.list (gs.map fun g=>.int (sN (L f g))))
def Pw:List PyData→PyData→Prop:=fun ds d=>∃ (L:Fs→Fs→An) (gs:List Fs) (i j k:Nat) (f g h:Fs),ds = [B7 L gs,.int (i:Nat),.int (j:Nat),.int (k:Nat)]∧gs[i]? = some f∧gs[j]? = some g∧gs[k]? = some h∧d = .bool (gT (L f g) (L g h) (L f h))
def vt (L:Fs→Fs→An) (gs:List Fs) (f g:Fs):Prop:=sN (L f g) + sN (L g f) = 0∧∀ h∈gs,gT (L f g) (L g h) (L f h) = true
theorem CO {a b:An}:sN a + sN b = 0↔b = a.turn:=by cases a <;> cases b <;> decide
theorem HE {L:Fs→Fs→An}{gs:List Fs}(w:Wk L (· ∈ gs)) {f g:Fs}(hf:f∈gs) (hg:g∈gs):vt L gs f g:=by
 refine ⟨CO.mpr (w.anti f g hf hg),fun h hh=>?_⟩
 unfold gT
 by_cases hb:L f g = .behind∨L g h = .behind
 ·rw [if_pos hb]
 ·rw [if_neg hb]
  have n1:L f g≠.behind:=fun z=>hb (.inl z)
  have n2:L g h≠.behind:=fun z=>hb (.inr z)
  rw [if_neg (w.trans f g h hf hg hh n1 n2)]
  cases e1:L f g with
  | behind=>exact absurd e1 n1
  | ahead=>rw [w.Hf hf hg hh e1 n2];rfl
  | like=>
   cases e2:L g h with
   | behind=>exact absurd e2 n2
   | ahead=>rw [w.SS hf hg hh n1 e2];rfl
   | like=>simp
theorem HF {L:Fs→Fs→An}{gs:List Fs}(h:∀ f∈gs,∀ g∈gs,vt L gs f g):Wk L (· ∈ gs):=by
 refine ⟨fun f g hf hg=>CO.mp (h f hf g hg).1,fun f g k hf hg hk a b z=>?_⟩
 have:=(h f hf g hg).2 k hk
 unfold gT at this
 rw [if_neg (by rintro (q | q);exact a q;exact b q),if_pos z] at this
 cases this
theorem HG (a:An):decide (sN a = 1) = decide (a = .behind):=by cases a <;> rfl
theorem HH (a:An):decide (sN a = 0) = decide (a = .like):=by cases a <;> rfl
section
variable {P:Program}{w:World}{K:PySem.W.Frag}{mg:Str→Option Value}{base:Heap}
theorem Px {σ:St}{G:Hp}{t:TE}{bs:List Bool}(h:Ev K t σ G (.list (bs.map PyData.bool))):Ev K (C3 (fun xs H Q=>∃ (p:Addr) (bs:List Bool),xs = [.ref p]∧b9 K H p (bs.map V.bl)∧Q (.bl (bs.all id)) H) (bV t kr)) σ G (.bool (bs.all id)):=
 ud (aj h aJ) fun G1 H xs Q s1 s2 hx q=>by
  obtain ⟨v,r,rfl,hv,hx⟩:=hx.cons
  rw [hx.nil]
  obtain ⟨p,ys,rfl,hp,hys⟩:=hv.lst
  have key:∀ (bs:List Bool) (ys:List V),bJ K G1 ys (bs.map PyData.bool)→ys = bs.map V.bl:=by
   intro bs
   induction bs with
   | nil=>intro ys h;exact h.nil
   | cons b bs ih=>
    intro ys h
    obtain ⟨y,r,rfl,hy,hr⟩:=h.cons
    rw [hy.bl,ih r hr];rfl
  have e:=key bs ys hys
  subst e
  exact ⟨p,bs,rfl,b9.of (s2 _ _ hp),q _ G1 H (bO.refl s2) (bQ _)⟩
theorem JX {σ:St}{G:Hp}{ta tf tg:TE}{i:Nat}{ws:List Wd}{book:List Str}{f g:List (Int × Int)}{num:Int→Int→Prop}{a:An}{pb:Addr}(lM:G pb = some (.tup (book.map V.str)))
  (hz:(f.length = book.length∧g.length = book.length∧(∀ p∈f,Sz p)∧∀ p∈g,Sz p)∧(∀ a b,num a b→Sz (a,b))∧∀ z∈book,cD z = none) (hi:σ[i]? = some (some (.ref pb))) (ha:Ev K ta σ G (QV ws)) (hf:Ev K tf σ G (.tuple (f.map dF))) (hg:Ev K tg σ G (.tuple (g.map dF)))
  (hord:nB (· ∈ book) num ws) (hlen:ws.length≤900) (hev:∀ R,ev (dZ book f g) ws R = .an a :: R):Ev K (lA (B5 K) [] E0 (bV ta (bV (cE i) (bV tf (bV tg kr))))) σ G (dP (.an a)):=
 fun G1 H s1 s2 Q k=>ha G1 H s1 s2 _ fun v1 G2 H2 g2 h1=>⟨_,hi,hf G2 H2 (s1.trans g2.gg) g2.gh _ fun v2 G3 H3 g3 h2=>hg G3 H3 ((s1.trans g2.gg).trans g3.gg) g3.gh _ fun v3 G4 H4 g4 h3=>by
  have SN:=(g2.trans g3).trans g4
  have sG:=s1.trans SN.gg
  exact ⟨G4,ws,book,f,g,num,a,v1,v2,v3,pb,rfl,g4.gh,sG _ _ lM,⟨(h1.same g3.gg).same g4.gg,h2.same g4.gg,h3⟩,hord,hz.2.1,hz.1,hz.2.2,hlen,hev,fun v G' H' g' hv=>k v G' H' (SN.trans g') hv⟩⟩
theorem kP {σ:St}{G:Hp}{L:Fs→Fs→An}{gs:List Fs}{a b c i j:Nat}{v:V}{f g:Fs}(h:Dat K G v (B7 L gs)) (ha:σ[a]? = some (some v)) (hb:σ[b]? = some (some (.int (i:Nat)))) (hc:σ[c]? = some (some (.int (j:Nat)))) (hf:gs[i]? = some f) (hg:gs[j]? = some g):Ev K (iV (yQ K) (iV (yQ K) (cE a) (cE b)) (cE c)) σ G (.int (sN (L f g))):=by
 have hi:i < gs.length:=(List.getElem?_eq_some_iff.mp hf).1
 have hj:j < gs.length:=(List.getElem?_eq_some_iff.mp hg).1
 exact cg (n:=j) (cg (n:=i) (ah ha h) (ah hb (aX _)) (by rw [List.length_map];exact cI hi) (by rw [List.getElem?_map,hf];rfl)) (ah hc (aX _)) (by rw [List.length_map];exact cI hj) (by rw [List.getElem?_map,hg];rfl)
theorem HJ {σ:St}{G H:Hp}{D:Ends}{ta:TA}{i n:Nat}(h:xE K ta σ G [.int (n:Nat)]) (hn:n≤2 ^ 24) (s:aN G H) (k:∀ l G' H',bO G H G' H' → H' l = some (.lst ((List.range n).map fun (i:Nat)=>V.int i))→Dat K G' (.ref l) (.list ((List.range n).map fun (i:Nat)=>PyData.int i))→D.nx (σ.set i (some (.ref l))) H'):AK (MH ta) (m9 i) D σ H:=
 h G H (aN.refl _) s _ fun vs G2 H2 g2 hv=>by
  obtain ⟨y,ys,rfl,hy,r⟩:=hv.cons
  rw [r.nil,hy.int]
  refine ⟨((n:Nat):Int),rfl,by omega,by rw [Int.toNat_natCast];exact hn,fun l hl=>?_⟩
  rw [Int.toNat_natCast]
  have g:=b8 (o:=.lst ((List.range n).map fun (i:Nat)=>V.int i)) g2.gh hl
  exact k l _ _ (g2.trans g) aE (cK aE (vZ _))
theorem D9 (T:Top K mg):bF P w K mg base cF 1 T.jf T.iG ["sides", "early", "late", "third"] (jS K Pw):=by
 refine T.pF.ok uH (fun vs H Q E h=>?_) (fun cdv A outer s H vs Q E hr h=>?_)
 ·obtain ⟨G,as,d,sg,hv,⟨L,gs,i,j,k',f,g,h,rfl,_⟩,_⟩:=h
  rw [hv.length];rfl
 ·obtain ⟨G,as,d,sg,hv,⟨L,gs,i,j,m,f,g,h,rfl,hf,hg,hh,rfl⟩,k⟩:=h
  obtain ⟨v1,r1,rfl,h1,hv⟩:=hv.cons
  obtain ⟨v2,r2,rfl,h2,hv⟩:=hv.cons
  obtain ⟨v3,r3,rfl,h3,hv⟩:=hv.cons
  obtain ⟨v4,r4,rfl,h4,hv⟩:=hv.cons
  cases hv.nil
  have e2:=h2.int
  have e3:=h3.int
  have e4:=h4.int
  subst e2 e3 e4
  refine ⟨_,(aB (bS ((tT (aV op_eq (bf (aT (K:=K) rfl) (bf (aT (K:=K) rfl) (pv 0) (pv 1) (fun _ _=>rfl)) (pv 2) (fun _ _=>rfl)) au (aY _)) (qH (aV op_eq (bf (aT (K:=K) rfl) (bf (aT (K:=K) rfl) (pv 0) (pv 2) (fun _ _=>rfl)) (pv 3) (fun _ _=>rfl)) au (aY _))))).pt (aG (aQ jg)) bA)
   (aB (bS (aV op_eq (bf (aT (K:=K) rfl) (bf (aT (K:=K) rfl) (pv 0) (pv 1) (fun _ _=>rfl)) (pv 3) (fun _ _=>rfl)) au (aY _)) (aG (aQ jg)) bA)
   (aG (aQ (Mv (c8 vR (bf (aT (K:=K) rfl) (bf (aT (K:=K) rfl) (pv 0) (pv 1) (fun _ _=>rfl)) (pv 3) (fun _ _=>rfl)) au (aY _)) (wZ (Et (c8 op_eq (bf (aT (K:=K) rfl) (bf (aT (K:=K) rfl) (pv 0) (pv 1) (fun _ _=>rfl)) (pv 2) (fun _ _=>rfl)) au (aY _)) (wZ (c8 op_eq (bf (aT (K:=K) rfl) (bf (aT (K:=K) rfl) (pv 0) (pv 2) (fun _ _=>rfl)) (pv 3) (fun _ _=>rfl)) au (aY _)))))))))) ,?_⟩
  refine iL (G:=G) (c:=decide (L f g = .behind) || decide (L g h = .behind)) (gY (gO (bG (K:=K) (iO (kP h1 rfl rfl rfl hf hg) aR)) fun _=>bG (K:=K) (iO (kP h1 rfl rfl rfl hg hh) aR)) (by rw [HG,HG])) sg (fun e G1 H1 g1=>?_) (fun e G1 H1 g1=>?_)
  ·have e' : L f g = .behind∨L g h = .behind:=by simpa using e
   have:gT (L f g) (L g h) (L f h) = true:=by unfold gT;rw [if_pos e']
   rw [this] at k
   exact k _ G1 H1 g1 (bQ _)
  ·have e' : ¬ (L f g = .behind∨L g h = .behind):=by simpa using e
   have h11:=h1.same g1.gg
   refine iL (G:=G1) (c:=decide (L f h = .behind)) (gY (bG (K:=K) (iO (kP h11 rfl rfl rfl hf hh) aR)) (HG _)) g1.gh (fun z G2 H2 g2=>?_) (fun z G2 H2 g2=>?_)
   ·have z' : L f h = .behind:=of_decide_eq_true z
    have:gT (L f g) (L g h) (L f h) = false:=by unfold gT;rw [if_neg e',if_pos z']
    rw [this] at k
    exact k _ G2 H2 (g1.trans g2) (bQ _)
   ·have z' : ¬ L f h = .behind:=of_decide_eq_false z
    have h12:=h11.same g2.gg
    refine bw (K:=K) (BZ (MG (kP h12 rfl rfl rfl hf hh) aR) (AU (iO (kP h12 rfl rfl rfl hf hg) aR) fun _=>iO (kP h12 rfl rfl rfl hg hh) aR)) g2.gh fun v G3 H3 g3 hv=>k v G3 H3 ((g1.trans g2).trans g3) ?_
    have:gT (L f g) (L g h) (L f h) = ((!decide (L f h = .like)) || (decide (L f g = .like) && decide (L g h = .like))):=by unfold gT;rw [if_neg e',if_neg z']
    rw [this,← HH,← HH,← HH]
    exact hv
theorem Py (T:Top K mg):bF P w K mg base cF 4 T.mO T.kN ["order", "book", "things"] (Ic K T.cu b7 QW):=by
 have rM:bF P w K mg base cF 3 T.gi T.eZ ["order", "book", "early", "late"] (B5 K):=JU T
 have vO:bF P w K mg base cF 3 T.jf T.iG ["sides", "early", "late", "third"] (jS K Pw):=(D9 T).mono (by decide)
 refine T.uU.ok jk (fun vs H Q E h=>?_) (fun cdv A outer s H vs Q E hr h=>?_)
 ·obtain ⟨G,book,vo,pb,us,ds,d,rfl,_,_,_,hd,⟨ws,num,gs,rfl,_⟩,_⟩:=h
  have:=hd.length
  simp only [List.length_cons,List.length_nil] at this ⊢
  omega
 ·obtain ⟨G,book,vo,pb,us,ds,d,rfl,hT,sg,lM,hd,⟨ws,num,gs,rfl,⟨o1,o2,o3,o4⟩,hgs,hl,rfl⟩,k⟩:=h
  obtain ⟨v0,r0,e0,h0,hd⟩:=hd.cons
  cases e0
  rename bJ K G us _=>hd
  obtain ⟨v2,r2,rfl,h2,hd⟩:=hd.cons
  cases hd.nil
  have zl:(2000:Nat)≤sizeLine:=by decide
  let L:=iH book ws
  refine ⟨_,(aB (bx (i:=3) jk.nd rfl (Or.inr rfl) (Pu (x:= "one") (cap:=["things", "order", "book"]) (js:=[2,0,1]) ⟨rfl,(fun _ _=>rfl),(fun _=>rfl),by decide +kernel,by decide +kernel,rfl,(by show ∀ p∈(_:List (Str × NameKind)),p.2 = NameKind.free→List.lookup p.1 (ak cP).names = some NameKind.cell;decide +kernel),by decide +kernel,by decide +kernel,by decide +kernel⟩ rfl rfl (fun _ _ h=>h) (eW (pv 2)) (fun _ _ _ _ _=>⟨eX,(ni (x:= "other") (cap:=["order", "book", "one"]) (js:=[2,3,0]) ⟨rfl,by decide +kernel,by decide +kernel,rfl,(by show ∀ p∈(_:List (Str × NameKind)),p.2 = NameKind.free→List.lookup p.1 (aaq vq (ak cP)) = some NameKind.cell;decide +kernel),by decide +kernel,by decide +kernel,by decide +kernel⟩ rfl rfl (fun _ _ h=>h) (HB (K:=K) rfl (pv 1)) (fun _ _ _ _=>⟨eX,(bf (bU (K:=K) rfl) (aP rM hr (by rfl) T.rD T.lK.kp T.rC .nil bD (aa (pv 1) (aa (pv 2) (aa (pv 3) (aa (pv 0) aq aD) aD) aD) aD)) au (fun _ _=>rfl))⟩))⟩)))
   (aB (bx (i:=4) jk.nd rfl (Or.inl rfl) (De rfl (by rfl) T.F5 (by rfl) T.rE (aa (bY (eT (K:=K) rfl) (by rfl) T.n5 PySem.boot_len (aa (pv 2) aq aD)) aq c9)))
   (aB (jX PassesOwn.never rfl (eW (pv 4)) (dj (i:=5) jk.nd rfl (Or.inr rfl)) (aG (jX PassesOwn.never rfl (eW (pv 4)) (dj (i:=6) jk.nd rfl (Or.inr rfl)) (aB (bS (aV vR (br fc (bf (aT (K:=K) rfl) (bf (aT (K:=K) rfl) (pv 3) (pv 5) (fun _ _=>rfl)) (pv 6) (fun _ _=>rfl)) (bf (aT (K:=K) rfl) (bf (aT (K:=K) rfl) (pv 3) (pv 6) (fun _ _=>rfl)) (pv 5) (fun _ _=>rfl))) au (aY _)) (aG (aQ jg)) bA)
   (aG (bS (AI (lQ (bY (ES rfl) (by rfl) T.ZZ ZP (aa (ni (x:= "third") (cap:=["sides", "early", "late"]) (js:=[3,5,6]) ⟨rfl,by decide +kernel,by decide +kernel,rfl,(by show ∀ p∈(_:List (Str × NameKind)),p.2 = NameKind.free→List.lookup p.1 (ak cP).names = some NameKind.cell;decide +kernel),by decide +kernel,by decide +kernel,by decide +kernel⟩ rfl rfl (fun _ _ h=>h) (eW (pv 4)) (fun _ _ _ _=>⟨eX,(aP vO hr (by rfl) T.vJ T.pF.kp T.vI .nil bD (aa (pv 1) (aa (pv 2) (aa (pv 3) (aa (pv 0) aq aD) aD) aD) aD))⟩)) aq rQ)))) (aG (aQ jg)) bA))))))
   (aG (aQ jg))))) ,?_⟩
  refine dN (K:=K) (d:=B7 L gs) (oV (j4 (js:=[2,0,1]) gs dT (fun f=>some (.list (gs.map fun g=>.int (sN (L f g))))) (ah rfl h2) (by omega) fun G2 i f x s3 hf hx=>HZ gv (oV (j4 (js:=[2,3,0]) gs dT (fun g=>some (.int (sN (L f g)))) (ah rfl (h2.same s3)) (by omega) fun G3 j g y s4 hg hy=>HZ gv (cz (JX ((s3.trans s4) _ _ lM) ⟨⟨(hgs f (List.mem_of_getElem? hf)).1,(hgs g (List.mem_of_getElem? hg)).1,(hgs f (List.mem_of_getElem? hf)).2,(hgs g (List.mem_of_getElem? hg)).2⟩,o2,o3⟩ rfl (ah rfl (h0.same (s3.trans s4))) (ah rfl (hx.same s4)) (ah rfl hy) o1 o4 (Am f g o3 o1)) aR rfl rfl)) (by rw [kB]))) (by rw [kB];rfl)) sg fun v3 G1 H1 g1 h3=>?_
  refine HJ (K:=K) (n:=gs.length) (aj (oV (xF (aj (ah rfl (h2.same g1.gg)) aJ)) (by rw [List.length_map])) aJ) (Nat.le_trans hl (by decide)) g1.gh fun pm G3 H3 g3 Yz hmd=>?_
  have BC:=g1.trans g3
  have h33:=h3.same g3.gg
  have hrl:((List.range gs.length).map fun (i:Nat)=>V.int i).length = gs.length:=by rw [List.length_map,List.length_range]
  have itm:∀ (i:Nat) (x:V),((List.range gs.length).map fun (i:Nat)=>V.int i)[i]? = some x→i < gs.length∧x = .int (i:Nat):=fun i x hx=>by
   have hi:i < gs.length:=by have:=(List.getElem?_eq_some_iff.mp hx).1;omega
   rw [List.getElem?_map,List.getElem?_range hi] at hx
   exact ⟨hi,(Option.some.inj hx).symm⟩
  have bad:∀ {f g:Fs},f∈gs→g∈gs→¬ vt L gs f g→jE L gs = false:=fun hf hg hn=>by
   cases e:jE L gs with
   | false=>rfl
   | true=>exact absurd (HE ((lN _ _).mp e) hf hg) hn
  (try dsimp only)
  refine ⟨_,rfl,pm,rfl,⟨_,b9.of Yz⟩,tV (xs:=(List.range gs.length).map fun (i:Nat)=>V.int i) (fun i σ H' => ∃ (v5 v6:Option V) (G' : Hp),σ = [some vo,some (.ref pb),some v2,some v3,some (.ref pm),v5,v6]∧bO G3 H3 G' H' ∧ ∀ f∈gs.take i,∀ g∈gs,vt L gs f g) ⟨_,_,G3,rfl,bO.refl g3.gh,fun f hf=>by simp at hf⟩ ?_ ?_ ?_⟩
  ·rintro i σ H' _ ⟨v5,v6,G',rfl,g,_⟩
   exact b9.of (g.hh _ _ Yz)
  ·rintro i x σ H' hx ⟨v5,v6,G',rfl,gA,hok⟩
   obtain ⟨hi,rfl⟩:=itm i x hx
   have El:gs[i]? = some gs[i]:=List.getElem?_eq_getElem hi
   generalize gs[i] = f at El
   have hfm:=List.mem_of_getElem? El
   refine ⟨_,rfl,pm,rfl,⟨_,b9.of (gA.hh _ _ Yz)⟩,tV (xs:=(List.range gs.length).map fun (i:Nat)=>V.int i) (fun j σ H' => ∃ (v6:Option V) (G' : Hp),σ = [some vo,some (.ref pb),some v2,some v3,some (.ref pm),some (.int (i:Nat)),v6]∧bO G3 H3 G' H' ∧ ∀ g∈gs.take j,vt L gs f g) ⟨_,G',rfl,gA,fun g hg=>by simp at hg⟩ ?_ ?_ ?_⟩
   ·rintro j σ H' _ ⟨v6,G',rfl,g,_⟩
    exact b9.of (g.hh _ _ Yz)
   ·rintro j y σ H' hy ⟨v6,G',rfl,gB,yu⟩
    obtain ⟨hj,rfl⟩:=itm j y hy
    have Em:gs[j]? = some gs[j]:=List.getElem?_eq_getElem hj
    generalize gs[j] = g at Em
    have hgm:=List.mem_of_getElem? Em
    refine iL (bG (K:=K) (MG (gu (kP (h33.same gB.gg) rfl rfl rfl El Em) (kP (h33.same gB.gg) rfl rfl rfl Em El) (aX _)) aR)) gB.gh (fun e G4 H4 g4=>?_) (fun e G4 H4 g4=>?_)
    ·have hne:¬ (sN (L f g) + sN (L g f) = 0):=fun z=>by rw [decide_eq_true z] at e;cases e
     have hb:=bad hfm hgm fun z=>hne z.1
     rw [show jE (iH book ws) gs = false from hb] at k
     exact k _ G4 H4 (BC.trans (gB.trans g4)) (bQ _)
    ·have he:sN (L f g) + sN (L g f) = 0:=by
      by_cases z:sN (L f g) + sN (L g f) = 0
      ·exact z
      ·rw [decide_eq_false z] at e;cases e
     have gC:=gB.trans g4
     refine iL (G:=G4) (c:=!((List.range gs.length).map fun m=>gT (L f g) (L g (gs.getD m [])) (L f (gs.getD m []))).all id) (qg (nq (K:=K) (Px (oV (j4 (js:=[3,5,6]) (List.range gs.length) (fun (i:Nat)=>PyData.int i) (fun m=>some (.bool (gT (L f g) (L g (gs.getD m [])) (L f (gs.getD m []))))) (ah rfl (hmd.same gC.gg)) (by rw [List.length_range];omega) fun G5 q m x s5 hm hx=>HZ gv ?_) (by rw [kB,List.map_map];rfl))))) g4.gh (fun z G5 H5 g5=>?_) (fun z G5 H5 g5=>?_)
     ·have hml:m < gs.length:=by
       have:=List.mem_of_getElem? hm
       exact List.mem_range.mp this
      have aar:gs[m]? = some (gs.getD m []):=by rw [List.getD_eq_getElem?_getD,List.getElem?_eq_getElem hml];rfl
      exact bH (E:=E0) (R:=Pw) (aj (ah rfl ((h33.same gC.gg).same s5)) (aj (ah rfl (aX _)) (aj (ah rfl (aX _)) (aj (ah rfl hx) aJ)))) ⟨L,gs,i,j,m,f,g,_,rfl,El,Em,aar,rfl⟩
     ·have hb:=bad hfm hgm fun ⟨_,q⟩=>by
       have:((List.range gs.length).map fun m=>gT (L f g) (L g (gs.getD m [])) (L f (gs.getD m []))).all id = true:=by
        refine List.all_eq_true.mpr fun b hb=>?_
        obtain ⟨m,hm,rfl⟩:=List.mem_map.mp hb
        have hml:=List.mem_range.mp hm
        refine q _ ?_
        rw [List.getD_eq_getElem?_getD,List.getElem?_eq_getElem hml]
        exact List.getElem_mem hml
       rw [this] at z;cases z
      rw [show jE (iH book ws) gs = false from hb] at k
      exact k _ G5 H5 (BC.trans (gC.trans g5)) (bQ _)
     ·refine ⟨_,G5,rfl,gC.trans g5,oR Em yu ⟨he,fun h hh=>?_⟩⟩
      have z' : ((List.range gs.length).map fun m=>gT (L f g) (L g (gs.getD m [])) (L f (gs.getD m []))).all id = true:=by
       cases e:((List.range gs.length).map fun m=>gT (L f g) (L g (gs.getD m [])) (L f (gs.getD m []))).all id with
       | true=>rfl
       | false=>rw [e] at z;cases z
      obtain ⟨m,hm,rfl⟩:=List.mem_iff_getElem.mp hh
      have:=List.all_eq_true.mp z' _ (List.mem_map_of_mem (List.mem_range.mpr hm))
      rw [List.getD_eq_getElem?_getD,List.getElem?_eq_getElem hm] at this
      exact this
   ·rintro σ H' ⟨v6,G',rfl,gB,yu⟩
    rw [hrl,List.take_length] at yu
    exact ⟨_,_,G',rfl,gB,oR El hok yu⟩
  ·rintro σ H' ⟨v5,v6,G',rfl,g,hok⟩
   rw [hrl,List.take_length] at hok
   have:=(lN _ _).mpr (HF hok)
   rw [show jE (iH book ws) gs = true from this] at k
   exact k _ G' H' (BC.trans g) (bQ _)
end
end K10
namespace K10
open PySem L2 Frac Lw Dig PySem.NumText Nm
open Ord Num Look Rdo
def rN (d c:Addr) (H:Hp):Hp:=fun b=>if b = d∨b = c then none else H b
theorem Ea (d c:Addr) (H:Hp):aN (rN d c H) H:=fun b o e=>by
 unfold rN at e
 split at e
 ·cases e
 ·exact e
theorem tN {d c b:Addr}{H:Hp}{o:HO}(h:H b = some o) (h1:b≠d) (h2:b≠c):rN d c H b = some o:=by
 unfold rN;rw [if_neg (by rintro (z | z);exact h1 z;exact h2 z)];exact h
theorem Pz (d c:Addr) (H:Hp):rN d c H d = none:=by unfold rN;rw [if_pos (.inl rfl)]
theorem PB (d c:Addr) (H:Hp):rN d c H c = none:=by unfold rN;rw [if_pos (.inr rfl)]
theorem CP {K:PySem.W.Frag}{d c:Addr}{H:Hp}(D:bq H d c):∀ ps:List Addr,(∀ p∈ps,∃ b,qo H p b)→∃ nums:List (Int × Int),nums.length = ps.length∧bJ K (rN d c H) (ps.map V.ref) (nums.map dF)∧∀ n∈nums,Gd n
 | [],_=>⟨[],rfl,bE,fun _ h=>by cases h⟩
 | p :: ps,h=>by
  obtain ⟨nums,e1,e2,e3⟩:=CP D ps fun q hq=>h q (List.mem_cons_of_mem _ hq)
  obtain ⟨b,nb⟩:=h p List.mem_cons_self
  obtain ⟨k,ns,hd,hc,_⟩:=id D.ex
  have n1:p≠d:=tO nb.tup hd (by intro z;cases z)
  have n2:p≠c:=tO nb.tup hc (by intro z;cases z)
  refine ⟨b :: nums,by rw [List.length_cons,List.length_cons,e1],bh (d8 (eV.of (tN nb.tup n1 n2)) (bh (aX _) (bh (aX _) bE))) e2,fun n hn=>?_⟩
  rcases List.mem_cons.mp hn with rfl | hn
  ·exact ⟨⟨nb.pos,nb.gcd⟩,nb.s1,nb.s2⟩
  ·exact e3 n hn
theorem S7 {n:Int × Int}(h:Gd n):Sz n:=⟨Nat.lt_of_lt_of_le h.2.1 (by decide),Nat.lt_of_le_of_lt h.2.2 (by decide)⟩
def JY (n:Nat) (f:Fs):Prop:=f.length = n∧∀ p∈f,QS p
theorem JY.fz {n:Nat}{f:Fs}(h:JY n f):FZ n f:=⟨h.1,fun p hp=>(h.2 p hp).1⟩
theorem JY.pos {n:Nat}{f:Fs}(h:JY n f):JH n f:=⟨h.1,fun p hp=>(h.2 p hp).2⟩
theorem M8 {n:Nat}:∀ ds:List PyData,(∀ e∈ds,∃ f,e = dT f∧JY n f)→∃ fs:List Fs,ds = fs.map dT∧∀ f∈fs,JY n f
 | [],_=>⟨[],rfl,fun f hf=>by cases hf⟩
 | x :: r,h=>by
  obtain ⟨fs,e,h'⟩:=M8 r fun e he=>h e (List.mem_cons_of_mem _ he)
  obtain ⟨f,ef,hf⟩:=h x List.mem_cons_self
  exact ⟨f :: fs,by rw [e,ef];rfl,fun g hg=>by
   rcases List.mem_cons.mp hg with rfl | hg
   ·exact hf
   ·exact h' g hg⟩
theorem sC {L:Fs→Fs→An}{x y:List Fs}(h:∀ f,f∈x↔f∈y):jE L x = jE L y:=by
 have e:jE L x = true↔jE L y = true:=by
  rw [lN,lN]
  exact ⟨fun w=>w.sub fun f hf=>(h f).mpr hf,fun w=>w.sub fun f hf=>(h f).mp hf⟩
 cases h1:jE L x <;> cases h2:jE L y <;> first | rfl | (rw [h1,h2] at e;simp at e)
theorem S8 (f:Fs):Dr (.tuple (f.map dF)) = true:=by
 show xU (f.map dF) = true
 induction f with
 | nil=>rfl
 | cons p r ih=>
  show (Dr (dF p) && xU (r.map dF)) = true
  rw [ih];rfl
theorem M9 (fs:List Fs):Pl 8 (.list (fs.map dT)):=xD (n:=7) fun x hx=>by
 obtain ⟨f,_,rfl⟩:=List.mem_map.mp hx
 exact ET (n:=6) fun y hy=>by
  obtain ⟨r,_,rfl⟩:=List.mem_map.mp hy
  exact ET (n:=5) fun z hz=>by
   simp only [List.mem_cons,List.not_mem_nil,or_false] at hz
   rcases hz with rfl | rfl <;> exact Ow _
section
variable {P:Program}{w:World}{K:PySem.W.Frag}{mg:Str→Option Value}{base:Heap}
theorem PC {σ:St}{G:Hp}{te:TE}{tl th ts:TO}{ds es:List PyData}{lo hi st:Option Int}(h:Ev K te σ G (.list ds)) (hl:∀ H (Q:Option Int→Hp→Prop),Q lo H→tl σ H Q) (hh:∀ H (Q:Option Int→Hp→Prop),Q hi H→th σ H Q) (hst:∀ H (Q:Option Int→Hp→Prop),Q st H→ts σ H Q) (h0:st≠some 0)
  (hp:∀ (G' : Hp) (xs:List V),bJ K G' xs ds→bJ K G' (jz xs lo hi st) es) (hz:es.length≤sizeLine):Ev K (RL K te tl th ts) σ G (.list es):=fun G1 H s1 s2 Q k=>h G1 H s1 s2 _ fun v G2 H2 g2 hv=>hl _ _ (hh _ _ (hst _ _ (by
  obtain ⟨p,xs,rfl,hq,hx⟩:=hv.lst
  have hd:=hp G2 xs hx
  refine ⟨p,xs,rfl,b9.of (g2.gh _ _ hq),h0,by rw [hd.length];exact hz,fun l Yt=>?_⟩
  have g:=b8 (o:=.lst (jz xs lo hi st)) g2.gh Yt
  exact k _ _ _ (g2.trans g) (cK aE (hd.same g.gg)))))
theorem B8 {σ:St}{G:Hp}{ta tb:TE}{x y:Bool}(ha:Ev K ta σ G (.bool x)) (hb:Ev K tb σ G (.bool y)):Ev K (iV X7 ta tb) σ G (.bool (!decide (x = y))):=
 jy ha hb fun G1 H u v Q s1 s2 hu hv k=>by
  rw [hu.bl,hv.bl]
  refine ⟨rfl,?_⟩
  have e:decide (V.bl x = V.bl y) = decide (x = y):=decide_eq_decide.mpr ⟨fun z=>by injection z,fun z=>by rw [z]⟩
  rw [e]
  exact k _ G1 H (bO.refl s2) (bQ _)
theorem HK {d c:Addr}{σ:St}{G H:Hp}{t1:TT}{te:TE}{t u:TS}{Ed:Ends}{c1:Bool}(h1:qe t1 σ G c1) (h:Dv K d c te σ G fun x=>∃ b,x = .bool b) (s:aN G H) (gd:G d = none) (gc:G c = none) (D:bq H d c) (k1:c1 = true→∀ G' H',Dk d c G H G' H' → t Ed σ H') (k2:∀ G' H',Dk d c G H G' H' → u Ed σ H'):yL (Q8 t1 (qb te)) t u Ed σ H:=
 h1.use s fun G1 H1 g1=>by
  have k:=g1.dk D
  cases c1 with
  | false=>
   rw [if_neg Bool.false_ne_true]
   show (if (false:Bool) = true then t Ed σ H1 else u Ed σ H1)
   rw [if_neg Bool.false_ne_true];exact k2 G1 H1 k
  | true=>
   rw [if_pos rfl]
   exact SV (h.mono g1.gg) k.gh (k.gd D gd) (k.gc D gc) k.D (fun G' H' k' => k1 rfl G' H' (k.trans k')) (fun G' H' k' => k2 G' H' (k.trans k'))
theorem PD {f:Addr}{fd:FuncData}(F:fR K "law" "law" nH f fd) (T:Top K mg) (W:MJ K w.params mg) (W1:xX K w.params mg "AHEAD" kY) (W2:xX K w.params mg "OTHER_WAY" ki) (M:Bs K mg base):bF P w K mg base cF 10 f fd ["script"] (xT K [(T.cu,b7)]):=by
 have Ay:bF P w K mg base cF 9 T.nP T.mH ["script"] (E8 K):=(Jb T.rZ T.n5 T.Sf T.rE).mono (by decide)
 have Az:bF P w K mg base cF 9 T.nR T.mJ ["deck"] Fg:=(Jd T.r9 T.n5 T.rE T.uV T.cj T.cT T.cU).mono (by decide)
 have vv:bF P w K mg base cF 9 T.kh T.jr ["deck"] wD:=(Bx T.nZ T.n5 T.F6 T.rE T.cj T.cT T.cU T.i7 T.i8 T.i9 T.f9 T.jK T.jL T.jB T.jC T.jD T.kW T.pC T.pD).mono (by decide)
 have yy:bF P w K mg base cF 9 T.jM T.jd ["deck", "book", "numbers", "most"] (CF K):=(Gk T).mono (by decide)
 have AA:bF P w K mg base cF 9 T.kO T.jP ["number"] (jS K M0):=(Jy T).mono (by decide)
 have yz:bF P w K mg base cF 9 T.jO T.je ["deck", "book", "numbers"] (Jt K BI):=(GI T).mono (by decide)
 have dJ:bF P w K mg base cF 9 T.jm T.iE ["deck", "many"] lW:=(mQ T.cj T.n5).mono (by decide)
 have Av:bF P w K mg base cF 9 T.jl T.jU ["order", "book", "first", "second"] (ym K T.cu b7):=(wR T M W W1 W2).mono (by decide)
 have mX:bF P w K mg base cF 9 T.mh T.kH ["order", "book", "things"] (Ic K T.cu b7 QW):=Hu T M W W1 W2
 have B9:bF P w K mg base cF 9 T.mO T.kN ["order", "book", "things"] (Ic K T.cu b7 QW):=(Py T).mono (by decide)
 refine F.ok l5 (fun vs H Q E h=>?_) (fun cdv A outer s H vs Q E hr h=>?_)
 ·obtain ⟨a,ns,rfl,_⟩:=h
  rfl
 ·obtain ⟨a,ns,rfl,hS,hlen,hTs,fin⟩:=h
  have hT0:H T.cu = some (.sY b7):=hTs _ List.mem_cons_self
  have zl:(2000:Nat)≤sizeLine:=by decide
  have hu:=hr.units
  have hu1:=Nat.lt_of_le_of_lt (Nat.add_le_add_left (show 1≤64 by decide) _) hr.units
  refine ⟨_,(aB (bx (i:=1) l5.nd rfl (Or.inr rfl) (aP Ay hr (by rfl) T.zU T.rZ.kp T.zT .nil bD (aa (pv 0) aq aD)))
   (aB (bx (i:=2) l5.nd rfl (Or.inr rfl) (aP Az hr (by rfl) T.zW T.r9.kp T.zV .nil bD (aa (pv 1) aq aD)))
   (aB (bx (i:=3) l5.nd rfl (Or.inr rfl) (ni (x:= "number") (cap:=[]) (js:=[]) ⟨rfl,by decide +kernel,by decide +kernel,rfl,(by show ∀ p∈(_:List (Str × NameKind)),p.2 = NameKind.free→List.lookup p.1 (ak nH).names = some NameKind.cell;decide +kernel),by decide +kernel,by decide +kernel,by decide +kernel⟩ rfl rfl (fun _ _ h=>h) (eW (aP vv hr (by rfl) T.uT T.nZ.kp T.uS .nil bD (aa (pv 1) aq aD))) (fun _ _ _ _=>⟨eX,(aP AA hr (by rfl) T.z0 T.su.kp T.zZ .nil bD (aa (pv 0) aq aD))⟩)))
   (aB (jX PassesOwn.never rfl (jR (by rfl) T.rE (aa au aq aK)) (dj (i:=4) l5.nd rfl (Or.inl rfl)) (aB (bx (i:=5) l5.nd rfl (Or.inl rfl) (aP yy hr (by rfl) T.yd T.qB.kp T.yc .nil bD (aa (pv 1) (aa (pv 2) (aa (pv 3) (aa (bf (aT (K:=K) rfl) (cL (aa au (aa au (aa au (aa au (aa au aq aK) aK) aK) aK) aK)) (pv 4) (fun _ _=>rfl)) aq aL) aD) aD) aD)))
   (aB (ER (x:= "j") (cap:=["deck", "book", "numbers"]) (js:=[1,2,3]) (i:=6) (y:= "things") ⟨rfl,by decide +kernel,by decide +kernel,rfl,(by show ∀ p∈(_:List (Str × NameKind)),p.2 = NameKind.free→List.lookup p.1 (ak nH).names = some NameKind.cell;decide +kernel),by decide +kernel,by decide +kernel,by decide +kernel⟩ rfl rfl (fun _ _ h=>h) l5.nd rfl rfl (jR (by rfl) T.rE (aa (aP dJ hr (by rfl) T.cU T.cj.kp T.cT .nil bD (aa (pv 1) (aa (bf (aT (K:=K) rfl) (cL (aa au (aa au (aa au (aa au (aa au aq aK) aK) aK) aK) aK)) (pv 4) (fun _ _=>rfl)) aq aL) aD)) aq c9)) (fun _ _ _ _=>⟨eX,(aP yz hr (by rfl) T.yg T.qC.kp T.yf .nil bD (aa (pv 1) (aa (pv 2) (aa (pv 3) aq aD) aD) aD))⟩))
   (aB (bS ((N2 (aV yM (bY (eT (K:=K) rfl) (by rfl) T.n5 PySem.boot_len (aa (pv 6) aq aD)) au (aY _)) (Ii (aV op_eq (aP dJ hr (by rfl) T.cU T.cj.kp T.cT .nil bD (aa (pv 1) (aa au aq aK) aD)) au (aY _))))).pt (aG (xj (bf (aT (K:=K) rfl) (pv 6) au (fun _ _=>rfl)) (xh (pv 6) au set_list))) bA)
   (aB (bx (i:=7) l5.nd rfl (Or.inl rfl) (cV (B6 (K:=K) rfl) (by rfl) T.F5 ug (aa (pv 6) aq aD)))
   (aB (bx (i:=8) l5.nd rfl (Or.inl rfl) (aP mX hr (by rfl) T.mq T.j9.kp T.mj .nil bD (aa (pv 5) (aa (pv 2) (aa (pv 7) aq aD) aD) aD)))
   (aB (bS ((tT (AI (lQ (bY (um (K:=K) rfl) (by rfl) T.n6 OD (aa (pv 8) (aa (wY (v:=.ty "bool") (by rfl) T.Sg RP rfl) aq))))) (tT (aV vR (pv 8) (aP B9 hr (by rfl) T.Br T.uU.kp T.Bq .nil bD (aa (pv 5) (aa (pv 2) (aa (pv 6) aq aD) aD) aD)) (aY _)) (qH (aV (xG (K:=K) rfl hu) (pv 7) (pv 6) (aY _)))))).pt (aG (aQ jg)) bA)
   (aG (bS ((tT (aV vR (aP mX hr (by rfl) T.mq T.j9.kp T.mj .nil bD (aa (pv 5) (aa (pv 2) (aa (wg (pv 6) iW iW (iX (vQ qJ au))) aq aL) aD) aD)) (pv 8) (aY _)) (qH (aV vR (aP mX hr (by rfl) T.mq T.j9.kp T.mj .nil bD (aa (pv 5) (aa (pv 2) (aa (br qN (pv 6) (jZ (ze (K:=K) rfl) (pv 6) iW (iX au))) aq ji) aD) aD)) (pv 8) (aY _))))).pt (aG (aQ jg)) bA)))))))))
   (aG (aQ (c8 GO (aP mX hr (by rfl) T.mq T.j9.kp T.mj .nil bD (aa (dW (aa bg (aa (bf (bU (K:=K) rfl) (pv 2) au (fun _ _=>rfl)) aq aL) aK)) (aa (pv 2) (aa (pv 6) aq aD) aD) jj)) jg (aY _)))))))) ,?_⟩
  refine ⟨_,rfl,a,ns,rfl,hS,hlen,fun d c H1 D1 hd hc s1=>?_⟩
  refine ⟨_,rfl,d,c,rfl,D1,fun book pb H2 b1 b2 bn lM rL D2 K2=>?_⟩
  refine ⟨_,rfl,d,c,rfl,D2,fun ps pn H3 l1 l2 hnum MS aas D3 K3=>?_⟩
  obtain ⟨CQ,e1,Na,Nb⟩:=CP (K:=K) D3 ps hnum
  obtain ⟨dk2,ab3,hd2,hc2,_⟩:=id D2.ex
  have nb1:pb≠d:=tO rL hd2 (by intro z;cases z)
  have nb2:pb≠c:=tO rL hc2 (by intro z;cases z)
  have aat:=K3 _ _ rL nb1 nb2
  have nn1:pn≠d:=Ne.symm (aC hd2 MS)
  have nn2:pn≠c:=Ne.symm (aC hc2 MS)
  have R4:rN d c H3 pb = some (.tup (book.map V.str)):=tN aat nb1 nb2
  have hn0:Dat K (rN d c H3) (.ref pn) (.list (CQ.map dF)):=cK (tN aas nn1 nn2) Na
  have nT1:T.cu≠d:=aC hT0 hd
  have nT2:T.cu≠c:=aC hT0 hc
  have hT3:rN d c H3 T.cu = some (.sY b7):=tN (K3 _ _ (K2 _ _ (s1 _ _ hT0) nT1 nT2) nT1 nT2) nT1 nT2
  have sg:=Ea d c H3
  have gd:=Pz d c H3
  have gc:=PB d c H3
  generalize rN d c H3 = G3 at R4 hn0 sg gd gc Na hT3
  have Yr:∀ z∈book,cD z = none:=fun z hz=>A7 (by have:=(bn z hz).now;rw [Dg] at this;exact this)
  refine (j4 (K:=K) (σ:=[some (.ref a),some (.ref d),some (.ref pb),none,none,none,none,none,none]) (js:=[]) (tl:=tC (.ref pn)) CQ dF (fun n=>some (dF (yq n))) (yZ hn0) (by omega) fun G2 i n x s3 hn hx=>HZ gv (bH (aj (ah rfl hx) aJ) ⟨n,Nb n (List.mem_of_getElem? hn),rfl,rfl⟩)).use sg fun vn G4 H4 g4 hvn=>?_
  rw [kB] at hvn
  obtain ⟨nums,enums⟩:∃ nums,CQ.map yq = nums:=⟨_,rfl⟩
  have S9:Dat K G4 vn (.list (nums.map dF)):=by rw [← enums,List.map_map];exact hvn
  have hlen2:nums.length = CQ.length:=by rw [← enums,List.length_map]
  have hall:∀ n∈nums,Gd n:=fun n hn=>by
   rw [← enums] at hn
   obtain ⟨m,hm,rfl⟩:=List.mem_map.mp hn
   exact Jw (Nb m hm)
  have n1:1≤nums.length:=by omega
  have n2:nums.length≤4:=by omega
  have k4:=g4.dk D3
  have gd4:=k4.gd D3 gd
  have gc4:=k4.gc D3 gc
  have D4:=k4.D
  have hb4:Dat K G4 (.ref pb) (.tuple (book.map PyData.str)):=d8 (eV.of (g4.gg _ _ R4)) (oM book)
  have hT4:=g4.gg _ _ hT3
  have aau:=g4.gg _ _ R4
  have hSz:∀ a b:Int,(a,b)∈nums→Sz (a,b):=fun a b h=>S7 (hall _ h)
  have IS:∀ {σ' : St} {G' : Hp} {ta tt:TE}{ws:List Wd}{gs:List Fs}{i:Nat},aN G4 G' → σ'[i]? = some (some (.ref pb))→Ev K ta σ' G' (QV ws)→Ev K tt σ' G' (.list (gs.map dT))→nB (· ∈ book) (fun a b=>(a,b)∈nums) ws→ws.length≤900→(∀ f∈gs,FZ book.length f)→gs.length≤1000→
    Ev K (lA (Ic K T.cu b7 QW) [] E0 (bV ta (bV (cE i) (bV tt kr)))) σ' G' (.bool (jE (iH book ws) gs)):=fun s hi ha ht ho hl hs hg=>vm (R:=QW) (s _ _ hT4) (s _ _ aau) hi ha (aj ht aJ) ⟨_,_,_,rfl,⟨ho,hSz,Yr,hl⟩,hs,hg,rfl⟩
  refine ⟨5,rfl,by decide,by decide,qI (n:=5) (fun i σ H' => ∃ (v4 v5 v6 v7 v8:Option V) (G' : Hp),σ = [some (.ref a),some (.ref d),some (.ref pb),some vn,v4,v5,v6,v7,v8]∧aN G4 G' ∧ aN G' H' ∧ G' d = none∧G' c = none∧bq H' d c∧(i = 0∨∃ (pt:Addr) (fs:List Fs),v6 = some (.ref pt)∧Dat K G' (.ref pt) (.list (fs.map dT))∧(∀ f∈fs,JY book.length f)∧fs.length≤30)) ⟨_,_,_,_,_,G4,rfl,aN.refl _,g4.gh,gd4,gc4,D4,.inl rfl⟩ ?_ ?_⟩
  ·rintro i σ H5 hi ⟨v4,v5,v6,v7,v8,G5,rfl,Q0,s5,gd5,gc5,D5,_⟩
   refine ⟨_,rfl,_,rfl,_,rfl,(by show 5≤sizeLine;decide),fun q hq=>?_⟩
   obtain ⟨Tc,hm,hat⟩:∃ Tc:Int,(1≤Tc∧Tc≤100)∧yE [V.int 40,V.int 12,V.int 6,V.int 25,V.int 9] (0 + (i:Int)) = some (V.int Tc):=by
    have:i = 0∨i = 1∨i = 2∨i = 3∨i = 4:=by omega
    rcases this with rfl | rfl | rfl | rfl | rfl
    ·exact ⟨40,by decide,rfl⟩
    ·exact ⟨12,by decide,rfl⟩
    ·exact ⟨6,by decide,rfl⟩
    ·exact ⟨25,by decide,rfl⟩
    ·exact ⟨9,by decide,rfl⟩
   have sq:=bI (o:=.lst [V.int 40,V.int 12,V.int 6,V.int 25,V.int 9]) hq
   refine ⟨_,rfl,q,_,_,_,rfl,rfl,b9.of aE,hat,d,c,.ref pb,vn,Tc,G5,book,nums,rfl,D5.same sq,⟨s5.trans sq,gd5,gc5⟩,hb4.same Q0,S9.same Q0,⟨b1,b2,n1,by omega,hm.1,hm.2⟩,fun ws vo G6 H6 ord wl s56 s6 gd6 gc6 hvo D6 K6=>?_⟩
   have s46:=Q0.trans s56
   have hwl:ws.length≤100:=by have:=hm.2;omega
   obtain ⟨mt,hmt,hnt⟩:∃ mt:Int,(1≤mt∧mt≤21)∧([PyData.int 8,.int 8,.int 8,.int 8,.int 21]:List PyData)[i]? = some (.int mt):=by
    have:i = 0∨i = 1∨i = 2∨i = 3∨i = 4:=by omega
    rcases this with rfl | rfl | rfl | rfl | rfl
    ·exact ⟨8,by decide,rfl⟩
    ·exact ⟨8,by decide,rfl⟩
    ·exact ⟨8,by decide,rfl⟩
    ·exact ⟨8,by decide,rfl⟩
    ·exact ⟨21,by decide,rfl⟩
   have e0i:(0:Int) + (i:Int) = ((i:Nat):Int):=by omega
   (try dsimp only)
   refine (tL (K:=K) (d:=d) (c:=c) (E:=E0) (i:=1) (m:=mt) (G:=G6) rfl (cg (n:=i) (d9 (aj aR (aj aR (aj aR (aj aR (aj aR aJ))))) (by show 5≤sizeLine;decide)) (ah (i:=4) rfl (aX (0 + (i:Int)))) (by rw [e0i];exact cI hi) hnt) hmt.1 (by omega)).use s6 gd6 gc6 D6 fun vr xr G6a H6a hxr HL hvr=>?_
   obtain ⟨r,rfl,r0,r1⟩:=hxr
   obtain ⟨n,rfl⟩:=Int.eq_ofNat_of_zero_le r0
   have evr:=hvr.int
   subst evr
   have ab4:n≤20:=by omega
   have PF:=s46.trans HL.gg
   refine JJ (K:=K) (d:=d) (c:=c) (t:=bV (tC (.int (n:Nat))) kr) (n:=n) (G:=G6a) (R:=fun x=>∃ f,x = dT f∧JY book.length f) (aj aR aJ) (by omega) (fun G2 j s2 hj=>(Ju (R:=BI) rfl (aj (ah rfl ((hb4.same PF).same s2)) (aj (ah rfl ((S9.same PF).same s2)) aJ)) ⟨.tuple ((book.map fun _=>((0:Int),(1:Int))).map dF),book,nums,_,rfl,⟨b2,n1,n2⟩,hall,rfl,by rw [List.length_map],fun p hp=>by
     obtain ⟨_,_,rfl⟩:=List.mem_map.mp hp
     exact ⟨⟨by decide,by decide⟩,by decide⟩⟩).imp fun x hx=>by
     obtain ⟨bk,nm,f,ea,_,_,rfl,hl,hz⟩:=hx
     have el:bk.length = book.length:=by
      injection ea with e1 _
      injection e1 with e1
      have:=congrArg List.length e1
      simpa using this.symm
     exact ⟨f,rfl,hl.trans el,hz⟩) HL.gh (HL.gd D6 gd6) (HL.gc D6 gc6) HL.D fun pt ys ds G7 H7 hdl hds hys vK gpt aav k7=>?_
   obtain ⟨fs,rfl,hfs⟩:=M8 ds hds
   rw [List.length_map] at hdl
   have DP:=HL.D.free vK
   have s47:=PF.trans k7.gg
   have gd7:=k7.gd HL.D (HL.gd D6 gd6)
   have gc7:=k7.gc HL.D (HL.gc D6 gc6)
   have aaw:=(hvo.same HL.gg).same k7.gg
   (try dsimp only)
   refine BJ (fun σ' H' => ∃ (ys:List V) (fs:List Fs) (G' : Hp),σ' = [some (.ref a),some (.ref d),some (.ref pb),some vn,some (.int (0 + (i:Int))),some vo,some (.ref pt),v7,v8]∧aN G7 G' ∧ aN G' H' ∧ G' d = none∧G' c = none∧G' pt = none∧bq H' d c∧H' pt = some (.lst ys)∧bJ K G' ys (fs.map dT)∧fs.length≤20∧∀ f∈fs,JY book.length f) ?_ ?_
   ·rintro σ' H8 ⟨ys,fs,Eb,rfl,s78,s8',gd8,gc8,PJ,D8,aax,Jo,ab5,Td⟩
    have sF:aN (L2.upd Eb pt (.lst ys)) H8:=fun b u e=>by
     by_cases h:b = pt
     ·subst h;rw [aE] at e;rw [aax,e]
     ·rw [aI h] at e;exact s8' b u e
    have JZ:aN Eb (L2.upd Eb pt (.lst ys)):=fun b u e=>by rw [aI (aC e PJ)];exact e
    have PK:L2.upd Eb pt (.lst ys) d = none:=by rw [aI (Ne.symm DP.1)];exact gd8
    have PL:L2.upd Eb pt (.lst ys) c = none:=by rw [aI (Ne.symm DP.2)];exact gc8
    have HM:Dat K (L2.upd Eb pt (.lst ys)) (.ref pt) (.list (fs.map dT)):=cK aE (Jo.same JZ)
    have Te:=(s47.trans s78).trans JZ
    have J0:=(aaw.same s78).same JZ
    generalize L2.upd Eb pt (.lst ys) = GF at sF JZ PK PL HM Te J0
    have Tf:∀ f∈fs,FZ book.length f:=fun f hf=>(Td f hf).fz
    refine dN (K:=K) (HD (aj (ah rfl HM) aJ)) sF fun Z6 Ga Ha ga QU=>?_
    refine dN (K:=K) (IS (gs:=fs) (Te.trans ga.gg) rfl (ah rfl (J0.same ga.gg)) (ah rfl QU) ord (by omega) Tf (by omega)) ga.gh fun Z7 Gb Hb gb MT=>?_
    have YA:=ga.trans gb
    have s4b:=Te.trans YA.gg
    have aay:=J0.same YA.gg
    have Tg:=HM.same YA.gg
    have aaz:=QU.same gb.gg
    refine aM (gY (e:=false) (gO (qg (nq (K:=K) (qT (ah rfl MT) T.bb))) fun _=>gO (bG (K:=K) (B8 (ah rfl MT) (IS (gs:=fs) s4b rfl (ah rfl aay) (ah rfl Tg) ord (by omega) Tf (by omega)))) fun _=>bG (K:=K) (EV (g:=fun b=>!b) (ah rfl aaz) (ah rfl Tg) (M9 fs) (M9 fs) (by decide))) (by rw [decide_eq_true rfl,PySem.Spec.same_self];rfl)) gb.gh fun Gc Hc YB=>?_
    have YC:=YA.trans YB
    have s4c:=Te.trans YC.gg
    have Th:=J0.same YC.gg
    have PM:=HM.same YC.gg
    have aaA:((fs.map dT).drop (HT.pJ (fs.map dT).length 0 none)).take (HT.pJ (fs.map dT).length (fs.map dT).length (some 2) - HT.pJ (fs.map dT).length 0 none) = (fs.take 2).map dT:=by
     have q1:HT.pJ (fs.map dT).length 0 none = 0:=rfl
     have q2:HT.pJ (fs.map dT).length (fs.map dT).length (some 2) = min 2 fs.length:=by
      have:=HT.xm (fs.map dT).length (fs.map dT).length 2
      rw [List.length_map] at this ⊢
      exact this
     rw [q1,q2,List.drop_zero,Nat.sub_zero,List.map_take]
     rcases Nat.le_total 2 fs.length with h | h
     ·rw [Nat.min_eq_left h]
     ·rw [Nat.min_eq_right h,List.take_of_length_le (by rw [List.length_map];exact Nat.le_refl _),List.take_of_length_le (by rw [List.length_map];exact h)]
    refine aM (gY (e:=false) (gO (bG (K:=K) (B8 (IS (gs:=fs.reverse) s4c rfl (ah rfl Th) (PC (lo:=none) (hi:=none) (st:=some (-1)) (ah rfl PM) (fun H Q q=>q) (fun H Q q=>q) (fun H Q q=>⟨1,rfl,-1,rfl,q⟩) (by decide) (fun G' xs hx=>by rw [DZ,List.map_reverse];exact nj hx) (by rw [List.length_map,List.length_reverse];omega)) ord (by omega) (fun f hf=>Tf f (List.mem_reverse.mp hf)) (by rw [List.length_reverse];omega)) (ah rfl (MT.same YB.gg)))) fun _=>bG (K:=K) (B8 (IS (gs:=fs ++ fs.take 2) s4c rfl (ah rfl Th) (oV (yh (ah rfl PM) (oV (ON (lo:=none) (hi:=some 2) (ah rfl PM) (fun H Q q=>q) (fun H Q q=>⟨2,rfl,q⟩)) (congrArg PyData.list aaA)) (by rw [List.length_map,List.length_map,List.length_take];omega)) (by rw [List.map_append])) ord (by omega) (fun f hf=>by
      rcases List.mem_append.mp hf with hf | hf
      ·exact Tf f hf
      ·exact Tf f (List.mem_of_mem_take hf)) (by rw [List.length_append,List.length_take];omega)) (ah rfl (MT.same YB.gg)))) (by
      rw [sC (x:=fs.reverse) (y:=fs) fun f=>List.mem_reverse,sC (x:=fs ++ fs.take 2) (y:=fs) fun f=>⟨fun hf=>by
       rcases List.mem_append.mp hf with hf | hf
       ·exact hf
       ·exact List.mem_of_mem_take hf,fun hf=>List.mem_append_left _ hf⟩,decide_eq_true rfl];rfl)) YB.gh fun Gd Hd gd' => ?_
    have Q3:=YC.trans gd'
    obtain ⟨⟨o1,q1⟩,o2,q2⟩:=rJ D8
    exact ⟨_,_,_,_,_,Gd,rfl,Te.trans Q3.gg,Q3.gh,Q3.out q1 PK,Q3.out q2 PL,D8.same Q3.hh,.inr ⟨pt,fs,rfl,HM.same Q3.gg,Td,by omega⟩⟩
   ·intro nx M3
    have sF:aN (L2.upd G7 pt (.lst ys)) H7:=fun b u e=>by
     by_cases h:b = pt
     ·subst h;rw [aE] at e;rw [aav,e]
     ·rw [aI h] at e;exact k7.gh b u e
    have JZ:aN G7 (L2.upd G7 pt (.lst ys)):=fun b u e=>by rw [aI (aC e gpt)];exact e
    have PK:L2.upd G7 pt (.lst ys) d = none:=by rw [aI (Ne.symm DP.1)];exact gd7
    have PL:L2.upd G7 pt (.lst ys) c = none:=by rw [aI (Ne.symm DP.2)];exact gc7
    have hlF:Dat K (L2.upd G7 pt (.lst ys)) (.ref pt) (.list (fs.map dT)):=cK aE (hys.same JZ)
    have PN:L2.upd G7 pt (.lst ys) pt = some (.lst ys):=aE
    generalize L2.upd G7 pt (.lst ys) = GF at sF JZ PK PL hlF PN
    have hyl:ys.length = fs.length:=by rw [hys.length,List.length_map]
    refine HK (K:=K) (d:=d) (c:=c) (bG (K:=K) (gu (xF (aj (ah rfl hlF) aJ)) aR (bQ _))) (MY (tL rfl aR (by decide) (by decide)) (SK aR) fun x y vx vy G2 hx hy s2 h1 h2=>?_) sF PK PL k7.D (fun hc Eb H8 k8=>?_) (fun Eb H8 k8=>?_)
    ·obtain ⟨r,rfl,_,_⟩:=hx
     subst hy
     exact ⟨_,⟨_,rfl⟩,iO (yZ h1) (yZ h2)⟩
    ·have h3:2 < fs.length:=by
      have:=of_decide_eq_true hc
      rw [List.length_map] at this
      omega
     obtain ⟨f0,e0⟩:∃ f0,fs[0]? = some f0:=⟨fs[0],List.getElem?_eq_getElem (by omega)⟩
     have hf0:=hfs f0 (List.mem_of_getElem? e0)
     refine Ev.use (K:=K) (G:=Eb) (d:=dT f0) (cg (n:=0) (ah rfl (hlF.same k8.gg)) aR (by rw [List.length_map];exact cI (i:=0) (by omega)) (by rw [List.getElem?_map,e0];rfl)) k8.gh fun vx G9 H9 g9 hvx=>?_
     have Ti:G9 pt = some (.lst ys):=g9.gg _ _ (k8.gg _ _ PN)
     have aaB:H9 pt = some (.lst ys):=g9.gh _ _ Ti
     refine ⟨_,rfl,pt,ys,1,1,rfl,rfl,aaB,cI (i:=1) (by omega),?_⟩
     have so:aN G7 (qF pt G9):=CM (JZ.trans (k8.gg.trans g9.gg)) gpt
     have k89:=k8.trans (g9.dk k8.D)
     refine M3 _ _ ⟨ys.set 1 vx,fs.set 1 f0,qF pt G9,rfl,so,?_,?_,?_,BP _ _,Nm.bq.upd k89.D DP.1 DP.2,aE,?_,by rw [List.length_set];omega,fun f hf=>?_⟩
     ·exact dY ((wU _ _).trans g9.gh) (BP _ _)
     ·rw [oO (Ne.symm DP.1)];exact k89.gd k7.D PK
     ·rw [oO (Ne.symm DP.2)];exact k89.gc k7.D PL
     ·rw [List.map_set]
      exact yX 1 (hys.same so) (CN Ti _ _ (S8 _) hvx)
     ·rcases List.mem_or_eq_of_mem_set hf with hf | rfl
      ·exact hfs f hf
      ·exact hf0
    ·have PJ:Eb pt = some (.lst ys):=k8.gg _ _ PN
     have so:aN G7 (qF pt Eb):=CM (JZ.trans k8.gg) gpt
     refine M3 _ _ ⟨ys,fs,qF pt Eb,rfl,so,(wU _ _).trans k8.gh,?_,?_,BP _ _,k8.D,k8.gh _ _ PJ,hys.same so,by omega,hfs⟩
     ·rw [oO (Ne.symm DP.1)];exact k8.gd k7.D PK
     ·rw [oO (Ne.symm DP.2)];exact k8.gc k7.D PL
  ·rintro σ H5 ⟨v4,v5,v6,v7,v8,G5,rfl,Q0,s5,gd5,gc5,D5,hor⟩
   rcases hor with hor | ⟨pt,fs,rfl,hth,hfs,Yt⟩
   ·exact absurd hor (by decide)
   obtain ⟨z,hz⟩:∃ z,book[0]? = some z:=⟨book[0],List.getElem?_eq_getElem (by omega)⟩
   have hzm:z∈book:=List.mem_of_getElem? hz
   have hup:jE (iH book [.t (S "up"),.t z]) fs = true:=by
    have e:iH book [.t (S "up"),.t z] = fun f g=>qZ (f.getD (book.idxOf z) (0,1)) (g.getD (book.idxOf z) (0,1)):=funext fun f=>funext fun g=>GZ (SM (Yr z hzm))
    rw [e]
    exact (lN _ _).mpr ((Hg (book.idxOf z) book.length).sub fun f hf=>(hfs f hf).pos)
   refine bw (K:=K) (GP (g:=fun b=>b) (t:=true) (IS (gs:=fs) (ws:=[.t (S "up"),.t z]) Q0 rfl (j3 (aj aF (aj (cz (n:=0) (ah rfl (hb4.same Q0)) aR (by rw [List.length_map];exact cI (i:=0) (by omega)) (by rw [List.getElem?_map,hz];rfl)) aJ)) (by show 2≤sizeLine;decide)) (ah rfl hth) (aae hzm) (by show 2≤900;decide) (fun f hf=>(hfs f hf).fz) (by omega))) s5 fun v G6 H6 g6 hv=>?_
   rw [hup] at hv
   rw [hv.bl]
   exact fin H6
end
end K10
namespace K10
open PySem L2 Frac Lw Dig PySem.NumText Nm
open Ord Look Rdo
abbrev tabs:Fy:=[(129,b7)]
theorem all_mk {l:PySem.W.OpenLaw}{w:World}{K:PySem.W.Frag}{h:Heap}{mg:Str→Option Value}{fa:Addr}{YD YE YF YG YH YI YJ YK YL YM J1 J2 J3 J4 J5 J6 J7 J8 J9 Ka Kc Kd Ke Kf Kg Kh Kl Km Kn Ko Kq Kr Ks Ku Kv Kw Ky Kz KA PR:Addr}(X:K.In h) (G:h.Ns mainGlobals mg) (hfa:mg "law" = some (.ref fa))
  {aaC aaD aaE aaF aaG aaH aaI aaJ aaK aaL aaM aaN aaO aaP aaQ aaR aaS aaT aaU aaV Tj Tn To Tp Tq Tr Tt Tu Tw Tz TF TH TJ TL TM TN TQ TR TU TV TX TY TZ T3 T4 T5 T6 T7 T8 T9 Ua Ub Uc Ud Ue Ug Uh Ui Uj Uk Ul Um Uo Up Uq Ur Us Ut Uu Uv Uw Ux Uy Uz UA UB UC UD UE Nd:Option Addr}{aaW aaX aaY aaZ aa0 aa1 aa2 aa3 aa4 aa5 UG UH UI UJ UK UL UM UN UO UP UQ UR US UT UU UW UX UY UZ U0 U1 U3 U4 U5 U6 U7 U8 U9 Va Vb:Array (Option Value)}{aa6 aa7 aa8 aa9 Vc aba abb abd abe abf Vd abg abh abi abj abk Ve abl abm abn abo abp Vf abq abr abt abu abv Vg abw abx aby abz abA Vh abB abC abD abE abF Vi abG abH abI abJ abK Vj abL abM abN abO abP Vk abQ abR abS abT abU Vl abV Vm Vn Vo Vp Nf Vq Vr Vs Vt Vu Ng Vv Vw Vx Vy Vz HN VA VB VC VD VE Nh VF VG VH VI VJ Ni VL VM VN VO VP Nj VQ VR VS VT VU Nk VW VX VY VZ V0 Nl V1 V2 V3 V4 V5 Nn V6 V7 V8 V9 Wa Np Wb Wc We Wf Wg Nq Wh Wi Wj Wl Wm Nr Wn Wo Wq Wr Ws Nt Wt Wu Wv Ww Wx Nu Wy Wz WA WB WC Nv WD WG WH WI WJ Nx WK WL WM WN WO Ny WQ WR WS WT WU Nz WV WW WX WY WZ NB W0 W4 W6 W7 W8 NC W9 Xa Xb Xc Xd ND Xe Xf Xg Xh Xi NF Xj Xk Xl Xm Xn NG Xo Xp Xq Xr Xs NH Xu Xv Xw Xx Xy NI Xz XA XC XD XE NJ XF XG XH XI XJ NK XM XN XO XQ XR NL XS XT XU XW XX NN XY XZ NO NP NQ HP NR:Value}
  (az0:PySem.W.nsIn K mainGlobals "telling" = some (some (.ref YD))) (YN:K.lookup YD = some ⟨aa6,aaC,.func (PySem.W.fnOf "telling" "telling" (bu iP) (aZ iP) (ak iP) .none aa7 aa8 aa9 aaD Vc aba),aaW⟩) (YO:PySem.W.codeIn K Vc "telling" = true) (YQ:PySem.W.keepIn K (.ref YD) = true)
  (az1:PySem.W.nsIn K mainGlobals "taken" = some (some (.ref YE))) (YR:K.lookup YE = some ⟨abb,aaE,.func (PySem.W.fnOf "taken" "taken" (bu lY) (aZ lY) (ak lY) .none abd abe abf aaF Vd abg),aaX⟩) (YS:PySem.W.codeIn K Vd "taken" = true) (YT:PySem.W.keepIn K (.ref YE) = true)
  (az2:PySem.W.nsIn K mainGlobals "word_told" = some (some (.ref YF))) (YU:K.lookup YF = some ⟨abh,aaG,.func (PySem.W.fnOf "word_told" "word_told" (bu fh) (aZ fh) (ak fh) .none abi abj abk aaH Ve abl),aaY⟩) (YV:PySem.W.codeIn K Ve "word_told" = true) (YW:PySem.W.keepIn K (.ref YF) = true)
  (az3:PySem.W.nsIn K mainGlobals "put_together" = some (some (.ref YG))) (YX:K.lookup YG = some ⟨abm,aaI,.func (PySem.W.fnOf "put_together" "put_together" (bu cX) (aZ cX) (ak cX) .none abn abo abp aaJ Vf abq),aaZ⟩) (YY:PySem.W.codeIn K Vf "put_together" = true) (YZ:PySem.W.keepIn K (.ref YG) = true)
  (az4:PySem.W.nsIn K mainGlobals "is_open" = some (some (.ref YH))) (Y0:K.lookup YH = some ⟨abr,aaK,.func (PySem.W.fnOf "is_open" "is_open" (bu iQ) (aZ iQ) (ak iQ) .none abt abu abv aaL Vg abw),aa0⟩) (Y3:PySem.W.codeIn K Vg "is_open" = true) (Y4:PySem.W.keepIn K (.ref YH) = true)
  (az5:PySem.W.nsIn K mainGlobals "answer" = some (some (.ref YI))) (Y5:K.lookup YI = some ⟨abx,aaM,.func (PySem.W.fnOf "answer" "answer" (bu j6) (aZ j6) (ak j6) .none aby abz abA aaN Vh abB),aa1⟩) (Y6:PySem.W.codeIn K Vh "answer" = true) (Y7:PySem.W.keepIn K (.ref YI) = true)
  (az6:PySem.W.nsIn K mainGlobals "one_then_other" = some (some (.ref YJ))) (Y8:K.lookup YJ = some ⟨abC,aaO,.func (PySem.W.fnOf "one_then_other" "one_then_other" (bu cG) (aZ cG) (ak cG) .none abD abE abF aaP Vi abG),aa2⟩) (Y9:PySem.W.codeIn K Vi "one_then_other" = true) (Za:PySem.W.keepIn K (.ref YJ) = true)
  (az7:PySem.W.nsIn K mainGlobals "turned_about" = some (some (.ref YK))) (Zb:K.lookup YK = some ⟨abH,aaQ,.func (PySem.W.fnOf "turned_about" "turned_about" (bu cY) (aZ cY) (ak cY) .none abI abJ abK aaR Vj abL),aa3⟩) (Zc:PySem.W.codeIn K Vj "turned_about" = true) (Zd:PySem.W.keepIn K (.ref YK) = true)
  (az8:PySem.W.nsIn K mainGlobals "picked" = some (some (.ref YL))) (Ze:K.lookup YL = some ⟨abM,aaS,.func (PySem.W.fnOf "picked" "picked" (bu j7) (aZ j7) (ak j7) .none abN abO abP aaT Vk abQ),aa4⟩) (Zf:PySem.W.codeIn K Vk "picked" = true) (Zg:PySem.W.keepIn K (.ref YL) = true)
  (az9:PySem.W.nsIn K mainGlobals "settled_by" = some (some (.ref YM))) (Zh:K.lookup YM = some ⟨abR,aaU,.func (PySem.W.fnOf "settled_by" "settled_by" (bu dz) (aZ dz) (ak dz) .none abS abT abU aaV Vl abV),aa5⟩) (Zi:PySem.W.codeIn K Vl "settled_by" = true) (Zj:PySem.W.keepIn K (.ref YM) = true)
  (PU:PySem.W.nsIn K mainGlobals "compared" = some (some (.ref J1))) (KC:K.lookup J1 = some ⟨Vm,Tj,.func (PySem.W.fnOf "compared" "compared" (bu gR) (aZ gR) (ak gR) .none Vn Vo Vp Tn Nf Vq),UG⟩) (KD:PySem.W.codeIn K Nf "compared" = true) (KG:PySem.W.keepIn K (.ref J1) = true)
  (PV:PySem.W.nsIn K mainGlobals "how_stands" = some (some (.ref J2))) (KH:K.lookup J2 = some ⟨Vr,To,.func (PySem.W.fnOf "how_stands" "how_stands" (bu eo) (aZ eo) (ak eo) .none Vs Vt Vu Tp Ng Vv),UH⟩) (KI:PySem.W.codeIn K Ng "how_stands" = true) (KJ:PySem.W.keepIn K (.ref J2) = true)
  (PX:PySem.W.nsIn K mainGlobals "looked" = some (some (.ref J3))) (KL:K.lookup J3 = some ⟨Vw,Tq,.func (PySem.W.fnOf "looked" "looked" (bu cQ) (aZ cQ) (ak cQ) .none Vx Vy Vz Tr HN VA),UI⟩) (KN:PySem.W.codeIn K HN "looked" = true) (KO:PySem.W.keepIn K (.ref J3) = true)
  (PY:PySem.W.nsIn K mainGlobals "is_order" = some (some (.ref J4))) (KP:K.lookup J4 = some ⟨VB,Tt,.func (PySem.W.fnOf "is_order" "is_order" (bu gS) (aZ gS) (ak gS) .none VC VD VE Tu Nh VF),UJ⟩) (KQ:PySem.W.codeIn K Nh "is_order" = true) (KR:PySem.W.keepIn K (.ref J4) = true)
  (PZ:PySem.W.nsIn K mainGlobals "each_once" = some (some (.ref J5))) (KS:K.lookup J5 = some ⟨VG,Tw,.func (PySem.W.fnOf "each_once" "each_once" (bu fj) (aZ fj) (ak fj) .none VH VI VJ Tz Ni VL),UK⟩) (KU:PySem.W.codeIn K Ni "each_once" = true) (KW:PySem.W.keepIn K (.ref J5) = true)
  (P0:PySem.W.nsIn K mainGlobals "table_of" = some (some (.ref J6))) (KY:K.lookup J6 = some ⟨VM,TF,.func (PySem.W.fnOf "table_of" "table_of" (bu fq) (aZ fq) (ak fq) .none VN VO VP TH Nj VQ),UL⟩) (KZ:PySem.W.codeIn K Nj "table_of" = true) (K0:PySem.W.keepIn K (.ref J6) = true)
  (P4:PySem.W.nsIn K mainGlobals "looks_of" = some (some (.ref J7))) (K9:K.lookup J7 = some ⟨VR,TJ,.func (PySem.W.fnOf "looks_of" "looks_of" (bu fu) (aZ fu) (ak fu) .none VS VT VU TL Nk VW),UM⟩) (La:PySem.W.codeIn K Nk "looks_of" = true) (Lb:PySem.W.keepIn K (.ref J7) = true)
  (P5:PySem.W.nsIn K mainGlobals "looks_agree" = some (some (.ref J8))) (Lc:K.lookup J8 = some ⟨VX,TM,.func (PySem.W.fnOf "looks_agree" "looks_agree" (bu dO) (aZ dO) (ak dO) .none VY VZ V0 TN Nl V1),UN⟩) (Ld:PySem.W.codeIn K Nl "looks_agree" = true) (Le:PySem.W.keepIn K (.ref J8) = true)
  (P6:PySem.W.nsIn K mainGlobals "against_ranks" = some (some (.ref J9))) (Lf:K.lookup J9 = some ⟨V2,TQ,.func (PySem.W.fnOf "against_ranks" "against_ranks" (bu cN) (aZ cN) (ak cN) .none V3 V4 V5 TR Nn V6),UO⟩) (Lg:PySem.W.codeIn K Nn "against_ranks" = true) (Lh:PySem.W.keepIn K (.ref J9) = true)
  (P7:PySem.W.nsIn K mainGlobals "ranks_in" = some (some (.ref Ka))) (Li:K.lookup Ka = some ⟨V7,TU,.func (PySem.W.fnOf "ranks_in" "ranks_in" (bu fB) (aZ fB) (ak fB) .none V8 V9 Wa TV Np Wb),UP⟩) (Lj:PySem.W.codeIn K Np "ranks_in" = true) (Lk:PySem.W.keepIn K (.ref Ka) = true)
  (P8:PySem.W.nsIn K mainGlobals "by_size" = some (some (.ref Kc))) (Ll:K.lookup Kc = some ⟨Wc,TX,.func (PySem.W.fnOf "by_size" "by_size" (bu iR) (aZ iR) (ak iR) .none We Wf Wg TY Nq Wh),UQ⟩) (Lm:PySem.W.codeIn K Nq "by_size" = true) (Ln:PySem.W.keepIn K (.ref Kc) = true)
  (P9:PySem.W.nsIn K mainGlobals "_law_deck" = some (some (.ref Kd))) (Lo:K.lookup Kd = some ⟨Wi,TZ,.func (PySem.W.fnOf "_law_deck" "_law_deck" (bu fD) (aZ fD) (ak fD) .none Wj Wl Wm T3 Nr Wn),UR⟩) (Lp:PySem.W.codeIn K Nr "_law_deck" = true) (Lq:PySem.W.keepIn K (.ref Kd) = true)
  (Qa:PySem.W.nsIn K mainGlobals "_law_take" = some (some (.ref Ke))) (Lr:K.lookup Ke = some ⟨Wo,T4,.func (PySem.W.fnOf "_law_take" "_law_take" (bu fE) (aZ fE) (ak fE) .none Wq Wr Ws T5 Nt Wt),US⟩) (Ls:PySem.W.codeIn K Nt "_law_take" = true) (Lu:PySem.W.keepIn K (.ref Ke) = true)
  (Qc:PySem.W.nsIn K mainGlobals "_law_common" = some (some (.ref Kf))) (Lv:K.lookup Kf = some ⟨Wu,T6,.func (PySem.W.fnOf "_law_common" "_law_common" (bu dQ) (aZ dQ) (ak dQ) .none Wv Ww Wx T7 Nu Wy),UT⟩) (Lx:PySem.W.codeIn K Nu "_law_common" = true) (Ly:PySem.W.keepIn K (.ref Kf) = true)
  (Qd:PySem.W.nsIn K mainGlobals "_law_least" = some (some (.ref Kg))) (Lz:K.lookup Kg = some ⟨Wz,T8,.func (PySem.W.fnOf "_law_least" "_law_least" (bu eu) (aZ eu) (ak eu) .none WA WB WC T9 Nv WD),UU⟩) (LA:PySem.W.codeIn K Nv "_law_least" = true) (LB:PySem.W.keepIn K (.ref Kg) = true)
  (Qe:PySem.W.nsIn K mainGlobals "_law_whole_number" = some (some (.ref Kh))) (LC:K.lookup Kh = some ⟨WG,Ua,.func (PySem.W.fnOf "_law_whole_number" "_law_whole_number" (bu bZ) (aZ bZ) (ak bZ) .none WH WI WJ Ub Nx WK),UW⟩) (LD:PySem.W.codeIn K Nx "_law_whole_number" = true) (LF:PySem.W.keepIn K (.ref Kh) = true)
  (Qf:PySem.W.nsIn K mainGlobals "_law_number" = some (some (.ref Kl))) (LG:K.lookup Kl = some ⟨WL,Uc,.func (PySem.W.fnOf "_law_number" "_law_number" (bu dR) (aZ dR) (ak dR) .none WM WN WO Ud Ny WQ),UX⟩) (LH:PySem.W.codeIn K Ny "_law_number" = true) (LI:PySem.W.keepIn K (.ref Kl) = true)
  (Qg:PySem.W.nsIn K mainGlobals "_law_book" = some (some (.ref Km))) (LJ:K.lookup Km = some ⟨WR,Ue,.func (PySem.W.fnOf "_law_book" "_law_book" (bu fF) (aZ fF) (ak fF) .none WS WT WU Ug Nz WV),UY⟩) (LK:PySem.W.codeIn K Nz "_law_book" = true) (LL:PySem.W.keepIn K (.ref Km) = true)
  (Qh:PySem.W.nsIn K mainGlobals "_law_options" = some (some (.ref Kn))) (LM:K.lookup Kn = some ⟨WW,Uh,.func (PySem.W.fnOf "_law_options" "_law_options" (bu cB) (aZ cB) (ak cB) .none WX WY WZ Ui NB W0),UZ⟩) (LN:PySem.W.codeIn K NB "_law_options" = true) (LO:PySem.W.keepIn K (.ref Kn) = true)
  (Qi:PySem.W.nsIn K mainGlobals "_law_room" = some (some (.ref Ko))) (LP:K.lookup Ko = some ⟨W4,Uj,.func (PySem.W.fnOf "_law_room" "_law_room" (bu fG) (aZ fG) (ak fG) .none W6 W7 W8 Uk NC W9),U0⟩) (LQ:PySem.W.codeIn K NC "_law_room" = true) (LR:PySem.W.keepIn K (.ref Ko) = true)
  (Qj:PySem.W.nsIn K mainGlobals "_law_order" = some (some (.ref Kq))) (LS:K.lookup Kq = some ⟨Xa,Ul,.func (PySem.W.fnOf "_law_order" "_law_order" (bu dG) (aZ dG) (ak dG) .none Xb Xc Xd Um ND Xe),U1⟩) (LU:PySem.W.codeIn K ND "_law_order" = true) (LV:PySem.W.keepIn K (.ref Kq) = true)
  (Qk:PySem.W.nsIn K mainGlobals "_law_numbers" = some (some (.ref Kr))) (LW:K.lookup Kr = some ⟨Xf,Uo,.func (PySem.W.fnOf "_law_numbers" "_law_numbers" (bu cZ) (aZ cZ) (ak cZ) .none Xg Xh Xi Up NF Xj),U3⟩) (LX:PySem.W.codeIn K NF "_law_numbers" = true) (LY:PySem.W.keepIn K (.ref Kr) = true)
  (Ql:PySem.W.nsIn K mainGlobals "_law_compared" = some (some (.ref Ks))) (LZ:K.lookup Ks = some ⟨Xk,Uq,.func (PySem.W.fnOf "_law_compared" "_law_compared" (bu cO) (aZ cO) (ak cO) .none Xl Xm Xn Ur NG Xo),U4⟩) (L0:PySem.W.codeIn K NG "_law_compared" = true) (L3:PySem.W.keepIn K (.ref Ks) = true)
  (Qm:PySem.W.nsIn K mainGlobals "_law_both_ways" = some (some (.ref Ku))) (L4:K.lookup Ku = some ⟨Xp,Us,.func (PySem.W.fnOf "_law_both_ways" "_law_both_ways" (bu cH) (aZ cH) (ak cH) .none Xq Xr Xs Ut NH Xu),U5⟩) (L5:PySem.W.codeIn K NH "_law_both_ways" = true) (L6:PySem.W.keepIn K (.ref Ku) = true)
  (Qn:PySem.W.nsIn K mainGlobals "_law_made" = some (some (.ref Kv))) (L7:K.lookup Kv = some ⟨Xv,Uu,.func (PySem.W.fnOf "_law_made" "_law_made" (bu dH) (aZ dH) (ak dH) .none Xw Xx Xy Uv NI Xz),U6⟩) (L8:PySem.W.codeIn K NI "_law_made" = true) (Ma:PySem.W.keepIn K (.ref Kv) = true)
  (Qo:PySem.W.nsIn K mainGlobals "_law_thing" = some (some (.ref Kw))) (Mb:K.lookup Kw = some ⟨XA,Uw,.func (PySem.W.fnOf "_law_thing" "_law_thing" (bu eF) (aZ eF) (ak eF) .none XC XD XE Ux NJ XF),U7⟩) (Mc:PySem.W.codeIn K NJ "_law_thing" = true) (Me:PySem.W.keepIn K (.ref Kw) = true)
  (Qp:PySem.W.nsIn K mainGlobals "_law_threes" = some (some (.ref Ky))) (Mf:K.lookup Ky = some ⟨XG,Uy,.func (PySem.W.fnOf "_law_threes" "_law_threes" (bu dU) (aZ dU) (ak dU) .none XH XI XJ Uz NK XM),U8⟩) (Mg:PySem.W.codeIn K NK "_law_threes" = true) (Mh:PySem.W.keepIn K (.ref Ky) = true)
  (Qq:PySem.W.nsIn K mainGlobals "_law_due" = some (some (.ref Kz))) (Mi:K.lookup Kz = some ⟨XN,UA,.func (PySem.W.fnOf "_law_due" "_law_due" (bu cP) (aZ cP) (ak cP) .none XO XQ XR UB NL XS),U9⟩) (Mj:PySem.W.codeIn K NL "_law_due" = true) (Ml:PySem.W.keepIn K (.ref Kz) = true)
  (Qs:PySem.W.nsIn K mainGlobals "_law_tame" = some (some (.ref KA))) (Mm:K.lookup KA = some ⟨XT,UC,.func (PySem.W.fnOf "_law_tame" "_law_tame" (bu fH) (aZ fH) (ak fH) .none XU XW XX UD NN XY),Va⟩) (Mn:PySem.W.codeIn K NN "_law_tame" = true) (Mp:PySem.W.keepIn K (.ref KA) = true)
  (Qt:PySem.W.nsIn K mainGlobals "law" = some (some (.ref PR))) (Qu:K.lookup PR = some ⟨XZ,UE,.func (PySem.W.fnOf "law" "law" (bu nH) (aZ nH) (ak nH) .none NO NP NQ Nd HP NR),Vb⟩) (Qv:PySem.W.codeIn K HP "law" = true) (Qw:PySem.W.keepIn K (.ref PR) = true)
  (Qx:HN = .ref 133) (Mq:PySem.W.codeHdIn K 133 129 = true) (Qy:K.lookup 129 = none)
  (HQ:PySem.W.nsIn K mainGlobals "len" = some none)
  (yC:PySem.W.nsIn K mainGlobals "range" = some none)
  (yD:PySem.W.nsIn K mainGlobals "tuple" = some none)
  (mY:PySem.W.nsIn K mainGlobals "isinstance" = some none)
  (Ca:PySem.W.nsIn K mainGlobals "list" = some none)
  (HR:PySem.W.nsIn K mainGlobals "sum" = some none)
  (HS:PySem.W.nsIn K mainGlobals "max" = some none)
  (HU:PySem.W.nsIn K mainGlobals "str" = some none)
  (HV:PySem.W.nsIn K mainGlobals "int" = some none)
  (p6:PySem.W.nsIn K mainGlobals "reversed" = some none)
  (oq:PySem.W.nsIn K mainGlobals "enumerate" = some none)
  (HW:PySem.W.nsIn K mainGlobals "zip" = some none)
  (HX:PySem.W.nsIn K mainGlobals "all" = some none)
  (Cb:PySem.W.nsIn K mainGlobals "bool" = some none)
  {aW:Addr}{esW:Array DictEntry}{nW:Nat}
  (aWo:PySem.W.nsIn K mainGlobals "WORDS" = some (some (.ref aW))) (lWo:K.lookup aW = some ⟨.type "dict",none,.dict esW nW,#[]⟩) (kWo:PySem.W.KeysLit w.params esW.toList) (oWo:(aW == sysModules) = false) (vWo:rS K esW.toList Ord.pT = true)
  {aA:Addr}{esA:Array DictEntry}{nA:Nat}
  (aAo:PySem.W.nsIn K mainGlobals "AHEAD" = some (some (.ref aA))) (lAo:K.lookup aA = some ⟨.type "dict",none,.dict esA nA,#[]⟩) (kAo:PySem.W.KeysLit w.params esA.toList) (oAo:(aA == sysModules) = false) (vAo:rW esA.toList kY = true)
  {aO:Addr}{esO:Array DictEntry}{nO:Nat}
  (aOo:PySem.W.nsIn K mainGlobals "OTHER_WAY" = some (some (.ref aO))) (lOo:K.lookup aO = some ⟨.type "dict",none,.dict esO nO,#[]⟩) (kOo:PySem.W.KeysLit w.params esO.toList) (oOo:(aO == sysModules) = false) (vOo:rW esO.toList ki = true)
  (tt:PySem.W.kitOne K (.type "tuple") (.type "tuple") = some true)
  (st:PySem.W.kitOne K (.type "str") (.type "tuple") = some false)
  (bt:PySem.W.kitOne K (.type "bool") (.type "tuple") = some false)
  (ss:PySem.W.kitOne K (.type "str") (.type "str") = some true)
  (ts:PySem.W.kitOne K (.type "tuple") (.type "str") = some false)
  (bb:PySem.W.kitOne K (.type "bool") (.type "bool") = some true):
  ∃ fd:FuncData,(∀ (s:Shared) (v:Value),BindsTo s fd ⟨[v],[]⟩ [("script",v)])∧((∀ p∈tabs,K.lookup p.1 = none)∧(∀ p∈tabs,isCodeTable h p.1)∧(tabs.map (·.1)).Nodup)∧∀ base:Heap,K.In base→base.Ns mainGlobals mg→Bs K mg base→bF l.prog w K mg base cF 10 fa fd ["script"] (xT K tabs):=by
 have e:=hfa.symm.trans (PySem.W.mg_of X G Qt)
 cases e
 obtain ⟨W⟩:=Ord.OH (P:=w.params) (PySem.W.mg_of X G aWo) lWo kWo oWo vWo
 obtain ⟨W1⟩:=FP (P:=w.params) (PySem.W.mg_of X G aAo) lAo kAo oAo vAo
 obtain ⟨W2⟩:=FP (P:=w.params) (PySem.W.mg_of X G aOo) lOo kOo oOo vOo
 exact ⟨PySem.W.fnOf "law" "law" (bu nH) (aZ nH) (ak nH) .none NO NP NQ Nd HP NR,fun s v=>.of_eq rfl,⟨(List.forall_mem_cons.mpr ⟨Qy,(fun _ h=>nomatch h)⟩),(List.forall_mem_cons.mpr ⟨FA X Mq,(fun _ h=>nomatch h)⟩),by decide⟩,fun base _ _ M=>PD (aU (st:=nH) Qu Qv Qw)
  ⟨YD,_,(aU (st:=iP) YN YO YQ),(aU (st:=iP) YN YO YQ).binds (ps:=["order", "by_field", "by_mark"]) fun _ _ _ _ _ _ us hl=>match us,hl with | [_,_,_],_=>rfl,PySem.W.mg_of X G az0,
   YE,_,(aU (st:=lY) YR YS YT),(aU (st:=lY) YR YS YT).binds (ps:=["told", "many"]) fun _ _ _ _ _ _ us hl=>match us,hl with | [_,_],_=>rfl,PySem.W.mg_of X G az1,
   YF,_,(aU (st:=fh) YU YV YW),(aU (st:=fh) YU YV YW).binds (ps:=["word", "parts", "by_field", "by_mark"]) fun _ _ _ _ _ _ us hl=>match us,hl with | [_,_,_,_],_=>rfl,PySem.W.mg_of X G az2,
   YG,_,(aU (st:=cX) YX YY YZ),(aU (st:=cX) YX YY YZ).binds (ps:=["word", "parts"]) fun _ _ _ _ _ _ us hl=>match us,hl with | [_,_],_=>rfl,PySem.W.mg_of X G az3,
   YH,_,(aU (st:=iQ) Y0 Y3 Y4),(aU (st:=iQ) Y0 Y3 Y4).binds (ps:=["part"]) fun _ _ _ _ _ _ us hl=>match us,hl with | [_],_=>rfl,PySem.W.mg_of X G az4,
   YI,_,(aU (st:=j6) Y5 Y6 Y7),(aU (st:=j6) Y5 Y6 Y7).binds (ps:=["word", "how"]) fun _ _ _ _ _ _ us hl=>match us,hl with | [_,_],_=>rfl,PySem.W.mg_of X G az5,
   YJ,_,(aU (st:=cG) Y8 Y9 Za),(aU (st:=cG) Y8 Y9 Za).binds (ps:=["one", "other"]) fun _ _ _ _ _ _ us hl=>match us,hl with | [_,_],_=>rfl,PySem.W.mg_of X G az6,
   YK,_,(aU (st:=cY) Zb Zc Zd),(aU (st:=cY) Zb Zc Zd).binds (ps:=["part"]) fun _ _ _ _ _ _ us hl=>match us,hl with | [_],_=>rfl,PySem.W.mg_of X G az7,
   YL,_,(aU (st:=j7) Ze Zf Zg),(aU (st:=j7) Ze Zf Zg).binds (ps:=["case", "one", "other"]) fun _ _ _ _ _ _ us hl=>match us,hl with | [_,_,_],_=>rfl,PySem.W.mg_of X G az8,
   YM,_,(aU (st:=dz) Zh Zi Zj),(aU (st:=dz) Zh Zi Zj).binds (ps:=["truth", "word", "parts"]) fun _ _ _ _ _ _ us hl=>match us,hl with | [_,_,_],_=>rfl,PySem.W.mg_of X G az9,
   J1,_,(aU (st:=gR) KC KD KG),(aU (st:=gR) KC KD KG).binds (ps:=["one", "other"]) fun _ _ _ _ _ _ us hl=>match us,hl with | [_,_],_=>rfl,PySem.W.mg_of X G PU,
   J2,_,(aU (st:=eo) KH KI KJ),(aU (st:=eo) KH KI KJ).binds (ps:=["one", "other"]) fun _ _ _ _ _ _ us hl=>match us,hl with | [_,_],_=>rfl,PySem.W.mg_of X G PV,
   J3,_,(aU (st:=cQ) KL KN KO),(aU (st:=cQ) KL KN KO).binds (ps:=["order", "book", "first", "second"]) fun _ _ _ _ _ _ us hl=>match us,hl with | [_,_,_,_],_=>rfl,PySem.W.mg_of X G PX,
   J4,_,(aU (st:=gS) KP KQ KR),(aU (st:=gS) KP KQ KR).binds (ps:=["order", "book", "things"]) fun _ _ _ _ _ _ us hl=>match us,hl with | [_,_,_],_=>rfl,PySem.W.mg_of X G PY,
   J5,_,(aU (st:=fj) KS KU KW),(aU (st:=fj) KS KU KW).binds (ps:=["things"]) fun _ _ _ _ _ _ us hl=>match us,hl with | [_],_=>rfl,PySem.W.mg_of X G PZ,
   J6,_,(aU (st:=fq) KY KZ K0),(aU (st:=fq) KY KZ K0).binds (ps:=["order", "book", "things"]) fun _ _ _ _ _ _ us hl=>match us,hl with | [_,_,_],_=>rfl,PySem.W.mg_of X G P0,
   J7,_,(aU (st:=fu) K9 La Lb),(aU (st:=fu) K9 La Lb).binds (ps:=["order", "book", "one", "things"]) fun _ _ _ _ _ _ us hl=>match us,hl with | [_,_,_,_],_=>rfl,PySem.W.mg_of X G P4,
   J8,_,(aU (st:=dO) Lc Ld Le),(aU (st:=dO) Lc Ld Le).binds (ps:=["table"]) fun _ _ _ _ _ _ us hl=>match us,hl with | [_],_=>rfl,PySem.W.mg_of X G P5,
   J9,_,(aU (st:=cN) Lf Lg Lh),(aU (st:=cN) Lf Lg Lh).binds (ps:=["table"]) fun _ _ _ _ _ _ us hl=>match us,hl with | [_],_=>rfl,PySem.W.mg_of X G P6,
   Ka,_,(aU (st:=fB) Li Lj Lk),(aU (st:=fB) Li Lj Lk).binds (ps:=["table"]) fun _ _ _ _ _ _ us hl=>match us,hl with | [_],_=>rfl,PySem.W.mg_of X G P7,
   Kc,_,(aU (st:=iR) Ll Lm Ln),(aU (st:=iR) Ll Lm Ln).binds (ps:=["one", "other"]) fun _ _ _ _ _ _ us hl=>match us,hl with | [_,_],_=>rfl,PySem.W.mg_of X G P8,
   Kd,_,(aU (st:=fD) Lo Lp Lq),(aU (st:=fD) Lo Lp Lq).binds (ps:=["script"]) fun _ _ _ _ _ _ us hl=>match us,hl with | [_],_=>rfl,PySem.W.mg_of X G P9,
   Ke,_,(aU (st:=fE) Lr Ls Lu),(aU (st:=fE) Lr Ls Lu).binds (ps:=["deck", "many"]) fun _ _ _ _ _ _ us hl=>match us,hl with | [_,_],_=>rfl,PySem.W.mg_of X G Qa,
   Kf,_,(aU (st:=dQ) Lv Lx Ly),(aU (st:=dQ) Lv Lx Ly).binds (ps:=["one", "other"]) fun _ _ _ _ _ _ us hl=>match us,hl with | [_,_],_=>rfl,PySem.W.mg_of X G Qc,
   Kg,_,(aU (st:=eu) Lz LA LB),(aU (st:=eu) Lz LA LB).binds (ps:=["top", "below"]) fun _ _ _ _ _ _ us hl=>match us,hl with | [_,_],_=>rfl,PySem.W.mg_of X G Qd,
   Kh,_,(aU (st:=bZ) LC LD LF),(aU (st:=bZ) LC LD LF).binds (ps:=["deck"]) fun _ _ _ _ _ _ us hl=>match us,hl with | [_],_=>rfl,PySem.W.mg_of X G Qe,
   Kl,_,(aU (st:=dR) LG LH LI),(aU (st:=dR) LG LH LI).binds (ps:=["deck"]) fun _ _ _ _ _ _ us hl=>match us,hl with | [_],_=>rfl,PySem.W.mg_of X G Qf,
   Km,_,(aU (st:=fF) LJ LK LL),(aU (st:=fF) LJ LK LL).binds (ps:=["deck"]) fun _ _ _ _ _ _ us hl=>match us,hl with | [_],_=>rfl,PySem.W.mg_of X G Qg,
   Kn,_,(aU (st:=cB) LM LN LO),(aU (st:=cB) LM LN LO).binds (ps:=["want"]) fun _ _ _ _ _ _ us hl=>match us,hl with | [_],_=>rfl,PySem.W.mg_of X G Qh,
   Ko,_,(aU (st:=fG) LP LQ LR),(aU (st:=fG) LP LQ LR).binds (ps:=["due"]) fun _ _ _ _ _ _ us hl=>match us,hl with | [_],_=>rfl,PySem.W.mg_of X G Qi,
   Kq,_,(aU (st:=dG) LS LU LV),(aU (st:=dG) LS LU LV).binds (ps:=["deck", "book", "numbers", "most"]) fun _ _ _ _ _ _ us hl=>match us,hl with | [_,_,_,_],_=>rfl,PySem.W.mg_of X G Qj,
   Kr,_,(aU (st:=cZ) LW LX LY),(aU (st:=cZ) LW LX LY).binds (ps:=["deck"]) fun _ _ _ _ _ _ us hl=>match us,hl with | [_],_=>rfl,PySem.W.mg_of X G Qk,
   Ks,_,(aU (st:=cO) LZ L0 L3),(aU (st:=cO) LZ L0 L3).binds (ps:=["one", "other"]) fun _ _ _ _ _ _ us hl=>match us,hl with | [_,_],_=>rfl,PySem.W.mg_of X G Ql,
   Ku,_,(aU (st:=cH) L4 L5 L6),(aU (st:=cH) L4 L5 L6).binds (ps:=["order", "book", "early", "late"]) fun _ _ _ _ _ _ us hl=>match us,hl with | [_,_,_,_],_=>rfl,PySem.W.mg_of X G Qm,
   Kv,_,(aU (st:=dH) L7 L8 Ma),(aU (st:=dH) L7 L8 Ma).binds (ps:=["word", "pile", "book", "early", "late"]) fun _ _ _ _ _ _ us hl=>match us,hl with | [_,_,_,_,_],_=>rfl,PySem.W.mg_of X G Qn,
   Kw,_,(aU (st:=eF) Mb Mc Me),(aU (st:=eF) Mb Mc Me).binds (ps:=["deck", "book", "numbers"]) fun _ _ _ _ _ _ us hl=>match us,hl with | [_,_,_],_=>rfl,PySem.W.mg_of X G Qo,
   Ky,_,(aU (st:=dU) Mf Mg Mh),(aU (st:=dU) Mf Mg Mh).binds (ps:=["sides", "early", "late", "third"]) fun _ _ _ _ _ _ us hl=>match us,hl with | [_,_,_,_],_=>rfl,PySem.W.mg_of X G Qp,
   Kz,_,(aU (st:=cP) Mi Mj Ml),(aU (st:=cP) Mi Mj Ml).binds (ps:=["order", "book", "things"]) fun _ _ _ _ _ _ us hl=>match us,hl with | [_,_,_],_=>rfl,PySem.W.mg_of X G Qq,
   KA,_,(aU (st:=fH) Mm Mn Mp),(aU (st:=fH) Mm Mn Mp).binds (ps:=["number"]) fun _ _ _ _ _ _ us hl=>match us,hl with | [_],_=>rfl,PySem.W.mg_of X G Qs,
   133,129,Qx,Mq,
   PySem.W.mg_none_of X G HQ,
   PySem.W.mg_none_of X G yC,
   PySem.W.mg_none_of X G yD,
   PySem.W.mg_none_of X G mY,
   PySem.W.mg_none_of X G Ca,
   PySem.W.mg_none_of X G HR,
   PySem.W.mg_none_of X G HS,
   PySem.W.mg_none_of X G HU,
   PySem.W.mg_none_of X G HV,
   PySem.W.mg_none_of X G p6,
   PySem.W.mg_none_of X G oq,
   PySem.W.mg_none_of X G HW,
   PySem.W.mg_none_of X G HX,
   PySem.W.mg_none_of X G Cb,
   tt,
   st,
   bt,
   ss,
   ts,
   bb⟩ W W1 W2 M⟩
theorem walk {l:PySem.W.OpenLaw}{q:Program}{loose:List Str}{XP:(Str→Option Value)→Heap→Prop}{YP:World→Heap→Prop}{d:DefRec}{K:Params→PySem.W.Frag}(hn:l.most = some 63) (hdf:d.params.defaults = [])
  (hY:∀ (w:World) (h:Heap),YP w h→(K w.params).In h∧∀ p∈tabs,h.get? p.1 = some { cls:=.none,data:=.fields #[] })
  (F:∀ (w:World) (mg:Str→Option Value) (fa:Addr) (h:Heap),(K w.params).In h→h.Ns mainGlobals mg→mg d.name = some (.ref fa)→
   ∃ fd:FuncData,(∀ (s:Shared) (u:Value),BindsTo s fd ⟨[u],[]⟩ [("script",u)])∧((∀ p∈tabs,(K w.params).lookup p.1 = none)∧(∀ p∈tabs,isCodeTable h p.1)∧(tabs.map (·.1)).Nodup)∧∀ base:Heap,(K w.params).In base→base.Ns mainGlobals mg→Bs (K w.params) mg base→bF l.prog w (K w.params) mg base cF 10 fa fd ["script"] (xT (K w.params) tabs)):
  PySem.W.WalkO q loose XP YP l.row.toRowW d [] (fun f vs=>PySem.call f vs):=
 L2.Fz (n:=63) (k:=10) (x:= "script") (sp:=fun w=>xT (K w.params) tabs) (fun _=>tabs) hn (by decide) hdf ⟨rfl,by decide,by decide⟩ hY F (fun _ _ a ns hl hT hS=>⟨a,ns,rfl,hS,hl,hT,fun _=>rfl⟩)
end K10
def PySem.W.Fast.tw11271980918782693475:Nat:=0
def PySem.W.Fast.tw2439556972170550729:Nat:=0
def PySem.W.Fast.tw16811166123003442197:Nat:=0
def PySem.W.Fast.tw12112068784212471641:Nat:=0
def PySem.W.Fast.tw14368516114678237982:Nat:=0
def PySem.W.Fast.tw13104055169576125375:Nat:=0
def PySem.W.Fast.tw15778796246645047678:Nat:=0
def PySem.W.Fast.tw1694199899991502258:Nat:=0
def PySem.W.Fast.tw17103222120191659488:Nat:=0
def PySem.W.Fast.tw17011658105299722906:Nat:=0
def PySem.W.Fast.tw3746572018211621844:Nat:=0
def PySem.W.Fast.tw8433317271657368932:Nat:=0
def PySem.W.Fast.tw18337983088522775475:Nat:=0
def PySem.W.Fast.tw3160004339461064232:Nat:=0
def PySem.W.Fast.tw285316576657166114:Nat:=0
def PySem.W.Fast.tw4881429263043671786:Nat:=0
def PySem.W.Fast.tw10095487883775264232:Nat:=0
def PySem.W.Fast.tw1585697962574283673:Nat:=0
def PySem.W.Fast.tw14933831033891420750:Nat:=0
def PySem.W.Fast.tw15814389497711348373:Nat:=0
def PySem.W.Fast.tw16712350036650073908:Nat:=0
def PySem.W.Fast.tw1002275449695966825:Nat:=0
def PySem.W.Fast.tw13010099245915955747:Nat:=0
def PySem.W.Fast.tw6444540485593813919:Nat:=0
def PySem.W.Fast.tw1921282276843628390:Nat:=0
def PySem.W.Fast.tw8055088925485523031:Nat:=0
def PySem.W.Fast.tw9430869635325553601:Nat:=0
def PySem.W.Fast.tw12809177139949015127:Nat:=0
def PySem.W.Fast.tw9844101327515959061:Nat:=0
def PySem.W.Fast.tw13599239218222117979:Nat:=0
def PySem.W.Fast.tw14161519584556469439:Nat:=0
def PySem.W.Fast.tw8865281501424362354:Nat:=0
def PySem.W.Fast.tw16006049004939767216:Nat:=0
def PySem.W.Fast.tw13905346823452929133:Nat:=0
def PySem.W.Fast.tw14578735324026325015:Nat:=0
def PySem.W.Fast.tw14055805104306512622:Nat:=0
def PySem.W.Fast.tw17237867576759495980:Nat:=0
def PySem.W.Fast.tw11245677200483216126:Nat:=0
def PySem.W.Fast.tw4466000927287621651:Nat:=0
def PySem.W.Fast.tw14971286688819021189:Nat:=0
def PySem.W.Fast.tw7438613435580307806:Nat:=0
def PySem.W.Fast.tw3433683821362249555:Nat:=0
def PySem.W.Fast.tw9084448006310511921:Nat:=0
def PySem.W.Fast.tw10487051959180671280:Nat:=0
def PySem.W.Fast.tw15073830403541717356:Nat:=0
def PySem.W.Fast.tw2469383246714702026:Nat:=0
def PySem.W.Fast.tw14308574012923682093:Nat:=0
def PySem.W.Fast.tw514635521862395563:Nat:=0
def PySem.W.Fast.tw7234875142851356339:Nat:=0
def PySem.W.Fast.tw15749872420516526072:Nat:=0
def PySem.W.Fast.tw484059822389566273:Nat:=0
def PySem.W.Fast.tw8600691597689606770:Nat:=0
def PySem.W.Fast.tw12283689248893394897:Nat:=0
def PySem.W.Fast.tw7485151582237457534:Nat:=0
def PySem.W.Fast.tw14409338472324946597:Nat:=0
def PySem.W.Fast.tw7786672937291507653:Nat:=0
def PySem.W.Fast.tw12353256186095032479:Nat:=0
def PySem.W.Fast.tw13433830954983281050:Nat:=0
def PySem.W.Fast.tw6088751852840285464:Nat:=0
def PySem.W.Fast.tw4546935411509288268:Nat:=0
def PySem.W.Fast.tw5496271690842023298:Nat:=0
def PySem.W.Fast.tw2459813451424794109:Nat:=0
def PySem.W.Fast.tw2153164572047730399:Nat:=0
def PySem.W.Fast.tw5998167744751268611:Nat:=0
def PySem.W.Fast.tw17552335260646905093:Nat:=0
def PySem.W.Fast.tw12618964500776549086:Nat:=0
def PySem.W.Fast.tw13577054771638903873:Nat:=0
def PySem.W.Fast.tw9386958800553642129:Nat:=0
def PySem.W.Fast.tw8462310684303439672:Nat:=0
def PySem.W.Fast.tw10288262984839168132:Nat:=0
def PySem.W.Fast.tw8390524367319156117:Nat:=0
def PySem.W.Fast.tw12804195655343319714:Nat:=0
open PySem PySem.W PyProof.Rows
set_option maxRecDepth 100000 in
set_option maxHeartbeats 0 in
theorem PySem.Challenge.cw_ordertext_k10_is_order_holds : PySem.Challenge.rw_ordertext_k10_is_order.Holds := by
 w_on;o_law;k_head;(case hw=>w_witness2)
 k_fill
 refine K10.walk (l:=PySem.Challenge.rw_ordertext_k10_is_order) rfl rfl (fun w h Y=>⟨PySem.W.km_in_of Y,(List.forall_mem_cons.mpr ⟨PySem.W.km_tabs_of Y _ (by first | k_mem | simp),(fun _ h=>nomatch h)⟩)⟩) ?F
 case F=>
  intro w mg fa h KX G hmg
  refine' K10.all_mk KX G hmg ?az0 ?YN ?YO ?YQ ?az1 ?YR ?YS ?YT ?az2 ?YU ?YV ?YW ?az3 ?YX ?YY ?YZ ?az4 ?Y0 ?Y3 ?Y4 ?az5 ?Y5 ?Y6 ?Y7 ?az6 ?Y8 ?Y9 ?Za ?az7 ?Zb ?Zc ?Zd ?az8 ?Ze ?Zf ?Zg ?az9 ?Zh ?Zi ?Zj ?PU ?KC ?KD ?KG ?PV ?KH ?KI ?KJ ?PX ?KL ?KN ?KO ?PY ?KP ?KQ ?KR ?PZ ?KS ?KU ?KW ?P0 ?KY ?KZ ?K0 ?P4 ?K9 ?La ?Lb ?P5 ?Lc ?Ld ?Le ?P6 ?Lf ?Lg ?Lh ?P7 ?Li ?Lj ?Lk ?P8 ?Ll ?Lm ?Ln ?P9 ?Lo ?Lp ?Lq ?Qa ?Lr ?Ls ?Lu ?Qc ?Lv ?Lx ?Ly ?Qd ?Lz ?LA ?LB ?Qe ?LC ?LD ?LF ?Qf ?LG ?LH ?LI ?Qg ?LJ ?LK ?LL ?Qh ?LM ?LN ?LO ?Qi ?LP ?LQ ?LR ?Qj ?LS ?LU ?LV ?Qk ?LW ?LX ?LY ?Ql ?LZ ?L0 ?L3 ?Qm ?L4 ?L5 ?L6 ?Qn ?L7 ?L8 ?Ma ?Qo ?Mb ?Mc ?Me ?Qp ?Mf ?Mg ?Mh ?Qq ?Mi ?Mj ?Ml ?Qs ?Mm ?Mn ?Mp ?Qt ?Qu ?Qv ?Qw ?Qx ?Mq ?Qy ?HQ ?yC ?yD ?mY ?Ca ?HR ?HS ?HU ?HV ?p6 ?oq ?HW ?HX ?Cb ?aWo ?lWo ?kWo ?oWo ?vWo ?aAo ?lAo ?kAo ?oAo ?vAo ?aOo ?lOo ?kOo ?oOo ?vOo ?tt ?st ?bt ?ss ?ts ?bb
  (case az0=>k_is)
  (case YN=>k_is)
  (case YO=>k_is)
  (case YQ=>k_is)
  (case az1=>k_is)
  (case YR=>k_is)
  (case YS=>k_is)
  (case YT=>k_is)
  (case az2=>k_is)
  (case YU=>k_is)
  (case YV=>k_is)
  (case YW=>k_is)
  (case az3=>k_is)
  (case YX=>k_is)
  (case YY=>k_is)
  (case YZ=>k_is)
  (case az4=>k_is)
  (case Y0=>k_is)
  (case Y3=>k_is)
  (case Y4=>k_is)
  (case az5=>k_is)
  (case Y5=>k_is)
  (case Y6=>k_is)
  (case Y7=>k_is)
  (case az6=>k_is)
  (case Y8=>k_is)
  (case Y9=>k_is)
  (case Za=>k_is)
  (case az7=>k_is)
  (case Zb=>k_is)
  (case Zc=>k_is)
  (case Zd=>k_is)
  (case az8=>k_is)
  (case Ze=>k_is)
  (case Zf=>k_is)
  (case Zg=>k_is)
  (case az9=>k_is)
  (case Zh=>k_is)
  (case Zi=>k_is)
  (case Zj=>k_is)
  (case PU=>k_is)
  (case KC=>k_is)
  (case KD=>k_is)
  (case KG=>k_is)
  (case PV=>k_is)
  (case KH=>k_is)
  (case KI=>k_is)
  (case KJ=>k_is)
  (case PX=>k_is)
  (case KL=>k_is)
  (case KN=>k_is)
  (case KO=>k_is)
  (case PY=>k_is)
  (case KP=>k_is)
  (case KQ=>k_is)
  (case KR=>k_is)
  (case PZ=>k_is)
  (case KS=>k_is)
  (case KU=>k_is)
  (case KW=>k_is)
  (case P0=>k_is)
  (case KY=>k_is)
  (case KZ=>k_is)
  (case K0=>k_is)
  (case P4=>k_is)
  (case K9=>k_is)
  (case La=>k_is)
  (case Lb=>k_is)
  (case P5=>k_is)
  (case Lc=>k_is)
  (case Ld=>k_is)
  (case Le=>k_is)
  (case P6=>k_is)
  (case Lf=>k_is)
  (case Lg=>k_is)
  (case Lh=>k_is)
  (case P7=>k_is)
  (case Li=>k_is)
  (case Lj=>k_is)
  (case Lk=>k_is)
  (case P8=>k_is)
  (case Ll=>k_is)
  (case Lm=>k_is)
  (case Ln=>k_is)
  (case P9=>k_is)
  (case Lo=>k_is)
  (case Lp=>k_is)
  (case Lq=>k_is)
  (case Qa=>k_is)
  (case Lr=>k_is)
  (case Ls=>k_is)
  (case Lu=>k_is)
  (case Qc=>k_is)
  (case Lv=>k_is)
  (case Lx=>k_is)
  (case Ly=>k_is)
  (case Qd=>k_is)
  (case Lz=>k_is)
  (case LA=>k_is)
  (case LB=>k_is)
  (case Qe=>k_is)
  (case LC=>k_is)
  (case LD=>k_is)
  (case LF=>k_is)
  (case Qf=>k_is)
  (case LG=>k_is)
  (case LH=>k_is)
  (case LI=>k_is)
  (case Qg=>k_is)
  (case LJ=>k_is)
  (case LK=>k_is)
  (case LL=>k_is)
  (case Qh=>k_is)
  (case LM=>k_is)
  (case LN=>k_is)
  (case LO=>k_is)
  (case Qi=>k_is)
  (case LP=>k_is)
  (case LQ=>k_is)
  (case LR=>k_is)
  (case Qj=>k_is)
  (case LS=>k_is)
  (case LU=>k_is)
  (case LV=>k_is)
  (case Qk=>k_is)
  (case LW=>k_is)
  (case LX=>k_is)
  (case LY=>k_is)
  (case Ql=>k_is)
  (case LZ=>k_is)
  (case L0=>k_is)
  (case L3=>k_is)
  (case Qm=>k_is)
  (case L4=>k_is)
  (case L5=>k_is)
  (case L6=>k_is)
  (case Qn=>k_is)
  (case L7=>k_is)
  (case L8=>k_is)
  (case Ma=>k_is)
  (case Qo=>k_is)
  (case Mb=>k_is)
  (case Mc=>k_is)
  (case Me=>k_is)
  (case Qp=>k_is)
  (case Mf=>k_is)
  (case Mg=>k_is)
  (case Mh=>k_is)
  (case Qq=>k_is)
  (case Mi=>k_is)
  (case Mj=>k_is)
  (case Ml=>k_is)
  (case Qs=>k_is)
  (case Mm=>k_is)
  (case Mn=>k_is)
  (case Mp=>k_is)
  (case Qt=>k_is)
  (case Qu=>k_is)
  (case Qv=>k_is)
  (case Qw=>k_is)
  (case Qx=>first | rfl | kernel_rfl | k_is)
  (case Mq=>first | rfl | kernel_rfl | k_is)
  (case Qy=>first | rfl | kernel_rfl | k_is)
  (case HQ=>k_is)
  (case yC=>k_is)
  (case yD=>k_is)
  (case mY=>k_is)
  (case Ca=>k_is)
  (case HR=>k_is)
  (case HS=>k_is)
  (case HU=>k_is)
  (case HV=>k_is)
  (case p6=>k_is)
  (case oq=>k_is)
  (case HW=>k_is)
  (case HX=>k_is)
  (case Cb=>k_is)
  (case aWo=>k_is)
  (case lWo=>k_is)
  (case kWo=>k_keys)
  (case oWo=>decide)
  (case vWo=>kernel_rfl)
  (case aAo=>k_is)
  (case lAo=>k_is)
  (case kAo=>k_keys)
  (case oAo=>decide)
  (case vAo=>kernel_rfl)
  (case aOo=>k_is)
  (case lOo=>k_is)
  (case kOo=>k_keys)
  (case oOo=>decide)
  (case vOo=>kernel_rfl)
  (case tt=>first | kit_is | k_is | rfl)
  (case st=>first | kit_is | k_is | rfl)
  (case bt=>first | kit_is | k_is | rfl)
  (case ss=>first | kit_is | k_is | rfl)
  (case ts=>first | kit_is | k_is | rfl)
  (case bb=>first | kit_is | k_is | rfl)
