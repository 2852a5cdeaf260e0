import PyProof.Rows.All
import Wide.All
import OpenK.AllK
import Wide.FinOn
import Lean
import PyProof.EqAt
import PyProof.EqKinds
import PyProof.TupleCall
import PySem.Challenge.RW_ordertext_k28_turning
set_option Elab.async false
set_option linter.all false
set_option maxRecDepth 100000
namespace L2
open PySem PySem.Spec PyProof.Rows
abbrev Key:=Sum Int Str
def keyIs:Key→Value→Bool
 | .inl k,v=>Value.isInt k v
 | .inr x,v=>Value.isStrOf x v
def keyH (w:World):Key→Int
 | .inl k=>hashInt k
 | .inr x=>hashStr w x
theorem keyIs_shape:∀ {k:Key}{v:Value},keyIs k v = true→(∃ i t,k = Sum.inl i∧v = Value.int i t)∨(∃ x t,k = Sum.inr x∧v = Value.str x t)
 | .inl i,v,h=>by
  obtain ⟨t,e⟩:=Value.isInt_shape (k:=i) (v:=v) h
  exact .inl ⟨i,t,rfl,e⟩
 | .inr x,v,h=>by
  obtain ⟨t,e⟩:=Value.isStrOf_shape (x:=x) (v:=v) h
  exact .inr ⟨x,t,rfl,e⟩
theorem keyIs_int (i:Int) (t:Tok):keyIs (.inl i) (.int i t) = true:=by simp [keyIs,Value.isInt]
theorem keyIs_str (x:Str) (t:Tok):keyIs (.inr x) (.str x t) = true:=by simp [keyIs,Value.isStrOf]
theorem key_ll (a b:Int):decide ((Sum.inl a:Key) = Sum.inl b) = (a == b):=by
 by_cases e:a = b
 ·subst e;simp
 ·have h:¬ (Sum.inl a:Key) = Sum.inl b:=fun q=>e (Sum.inl.inj q)
  rw [decide_eq_false h]
  exact (beq_eq_false_iff_ne.mpr e).symm
theorem key_rr (a b:Str):decide ((Sum.inr a:Key) = Sum.inr b) = decide (a = b):=by
 by_cases e:a = b
 ·subst e;simp
 ·have h:¬ (Sum.inr a:Key) = Sum.inr b:=fun q=>e (Sum.inr.inj q)
  rw [decide_eq_false h,decide_eq_false e]
theorem key_lr (a:Int) (b:Str):decide ((Sum.inl a:Key) = Sum.inr b) = false:=decide_eq_false (fun q=>nomatch q)
theorem key_rl (a:Str) (b:Int):decide ((Sum.inr a:Key) = Sum.inl b) = false:=decide_eq_false (fun q=>nomatch q)
def mixKind (prog:Program) (w:World):PySem.KeyKind prog w Key where
 is:=keyIs
 hash:=keyH w
 inj:=fun v a b ha hb=>by
  rcases keyIs_shape ha with ⟨i,t,rfl,rfl⟩ | ⟨x,t,rfl,rfl⟩
  ·rcases keyIs_shape hb with ⟨j,u,rfl,e⟩ | ⟨y,u,rfl,e⟩
   ·injection e with e1 _;rw [e1]
   ·exact nomatch e
  ·rcases keyIs_shape hb with ⟨j,u,rfl,e⟩ | ⟨y,u,rfl,e⟩
   ·exact nomatch e
   ·injection e with e1 _;rw [e1]
 byValue:=fun k v h=>by
  rcases keyIs_shape h with ⟨i,t,rfl,rfl⟩ | ⟨x,t,rfl,rfl⟩ <;> rfl
 pyHash:=fun hv h=>by
  rcases keyIs_shape hv with ⟨i,t,rfl,rfl⟩ | ⟨x,t,rfl,rfl⟩
  ·exact wpAny_pyHash_int h
  ·exact wpAny_pyHash_str h
 eqBool:=fun hu hv h=>by
  rcases keyIs_shape hu with ⟨i,t,rfl,rfl⟩ | ⟨x,t,rfl,rfl⟩
  ·rcases keyIs_shape hv with ⟨j,u,rfl,rfl⟩ | ⟨y,u,rfl,rfl⟩
   ·rw [key_ll] at h;exact wpAny_eqBool_int h
   ·rw [key_lr] at h;exact SeqAt.EqAt.int_str i t y u _ _ _ _ h
  ·rcases keyIs_shape hv with ⟨j,u,rfl,rfl⟩ | ⟨y,u,rfl,rfl⟩
   ·rw [key_rl] at h;exact SeqAt.EqAt.str_int x t j u _ _ _ _ h
   ·rw [key_rr] at h;exact wpAny_eqBool_str h
 «strs» := fun k x t v h=>by
  rcases keyIs_shape h with ⟨i,u,rfl,e⟩ | ⟨y,u,rfl,e⟩
  ·exact nomatch e
  ·injection e with e1 _
   subst e1
   cases v <;> rfl
theorem mixKind_int (prog:Program) (w:World) (i:Int) (t:Tok):(mixKind prog w).is (.inl i) (.int i t) = true:=keyIs_int i t
theorem mixKind_str (prog:Program) (w:World) (x:Str) (t:Tok):(mixKind prog w).is (.inr x) (.str x t) = true:=keyIs_str x t
end L2
namespace L2
open PySem PySem.Spec PyProof.Rows
inductive V where
 | non | bl (b:Bool) | int (i:Int) | str (x:Str) | byt (b:Array UInt8) | flt (b:UInt64) | ref (a:Addr) | ty (n:String)
 deriving DecidableEq
def RelV:V→Value→Prop
 | .non,u=>u = Value.none
 | .bl b,u=>u = Value.bool b
 | .int i,u=>∃ t,u = Value.int i t
 | .str x,u=>∃ t,u = Value.str x t
 | .byt b,u=>∃ t,u = Value.bytes b t
 | .flt b,u=>∃ t,u = Value.float b t
 | .ref a,u=>u = Value.ref a
 | .ty n,u=>u = Value.type n
abbrev Vals:List V→List Value→Prop:=Paired RelV
theorem Vals.length {xs:List V}{us:List Value}(r:Vals xs us):xs.length = us.length:=Paired.length r
theorem Vals.get:∀ {xs:List V}{us:List Value}{i:Nat}{x:V},Vals xs us→xs[i]? = some x→∃ u,us[i]? = some u∧RelV x u
 | _,_,_,_,.nil,e=>by simp at e
 | _,_,0,_,.cons r _,e=>by simp at e;subst e;exact ⟨_,rfl,r⟩
 | _,_,i + 1,x,.cons _ t,e=>by
  obtain ⟨u,h1,h2⟩:=Vals.get (i:=i) (x:=x) t (by simpa using e)
  exact ⟨u,by simpa using h1,h2⟩
theorem Vals.set {x:V}{u:Value}(r:RelV x u):∀ {xs:List V}{us:List Value}(i:Nat),Vals xs us→Vals (xs.set i x) (us.set i u)
 | _,_,_,.nil=>.nil
 | _,_,0,.cons _ t=>.cons r t
 | _,_,i + 1,.cons q t=>.cons q (Vals.set r i t)
theorem Vals.append:∀ {xs ys:List V}{us ws:List Value},Vals xs us→Vals ys ws→Vals (xs ++ ys) (us ++ ws)
 | _,_,_,_,.nil,s=>s
 | _,_,_,_,.cons r t,s=>.cons r (Vals.append t s)
theorem Vals.take:∀ {xs:List V}{us:List Value}(n:Nat),Vals xs us→Vals (xs.take n) (us.take n)
 | _,_,0,_=>.nil
 | _,_,_ + 1,.nil=>.nil
 | _,_,n + 1,.cons r t=>.cons r (Vals.take n t)
theorem Vals.drop:∀ {xs:List V}{us:List Value}(n:Nat),Vals xs us→Vals (xs.drop n) (us.drop n)
 | _,_,0,r=>r
 | _,_,_ + 1,.nil=>.nil
 | _,_,n + 1,.cons _ t=>Vals.drop n t
def RelO:Option V→Option Value→Prop
 | some v,some u=>RelV v u
 | none,none=>True
 | _,_=>False
def KV {κ:Type}:List (κ × V)→List (κ × Value)→Prop:=Paired fun (p:κ × V) (q:κ × Value)=>p.1 = q.1∧RelV p.2 q.2
def kV:Key→V
 | .inl i=>.int i
 | .inr x=>.str x
inductive HO where
 
 | lst (xs:List V)
 
 | tup (xs:List V)
 
 | dK (kvs:List (Key × V)) | dT (kvs:List (List Key × V))
 
 | set (S:Int→Bool) (n:Nat)
 
 | ins (C dx:Addr) (fs:List (Str × V))
 
 | own (x:Addr)
 
 | xd (fs:List (Str × V))
 
 | met (f x:Addr)
 
 | rng (lo hi:Int)
 
 | frz (o:Obj) (u:HO)
 
 | tbl (cr:Nat→Nat→Option Str)
 
 | ext (φ:Heap→Prop)
abbrev Hp:=Addr→Option HO
def upd (H:Hp) (a:Addr) (o:HO):Hp:=fun b=>if b = a then some o else H b
theorem upd_same {H:Hp}{a:Addr}{o:HO}:upd H a o a = some o:=by unfold upd;rw [if_pos rfl]
theorem upd_ne {H:Hp}{a b:Addr}{o:HO}(h:b≠a):upd H a o b = H b:=by unfold upd;rw [if_neg h]
theorem ne_of_none {H:Hp}{a b:Addr}{o:HO}(h:H a = some o) (h' : H b = none):a≠b:=by
 intro e;subst e;rw [h] at h';cases h'
def CodeOf (oc:Obj) (q:Str):Prop:=∃ (vs:Array Value) (t:Tok),oc.data = .fields vs∧vs[1]? = some (.str q t)
def NoDict (h:Heap) (a:Addr):Prop:=∃ o,h.get? a = some o∧o.dict = none
section
variable (P:Program) (w:World)
def ObjOk (H:Hp) (h:Heap) (a:Addr):HO→Prop
 | .lst xs=>xs.length≤sizeLine∧∃ (its:List Value) (n:Nat),Vals xs its∧h.get? a = some { cls:=.type "list",data:=.seq its.toArray n }
 | .tup xs=>xs.length≤sizeLine∧∃ its:List Value,Vals xs its∧IsTup h a its.toArray∧NoDict h a
 | .dK kvs=>kvs.length≤sizeLine∧(a == sysModules) = false∧∃ vs,KV kvs vs∧h.DictOf (mixKind P w) a vs
 | .dT kvs=>kvs.length≤sizeLine∧(a == sysModules) = false∧∃ xs:List (List Key × Addr × Value),
   Paired (fun (p:List Key × V) (q:List Key × Addr × Value)=>p.1 = q.1∧H q.2.1 = some (.tup (p.1.map kV))∧RelV p.2 q.2.2) kvs xs∧
   ∃ o es ep,h.get? a = some o∧o.ExactDict∧o.data = .dict es ep∧es.toList = xs.map (entryOfKey (tupleKind (mixKind P w)))∧(xs.map (·.1)).Nodup
 | .set S n=>h.SetOf (intKind P w) a S n
 | .ins C dx fs=>H dx = some (.own a)∧fs.length≤1000∧dx≠a∧h.get? a = some (PySem.W.instObj C dx)∧
   ∃ mA,h.Ns1 dx mA∧(∀ f,RelO (fs.lookup f) (mA f))∧PySem.Within mA (fs.map (·.1))
 | .own _=>∃ o,h.get? a = some o
 | .xd fs=>∃ mA,h.Ns1 a mA∧∀ f,RelO (fs.lookup f) (mA f)
 | .rng lo hi=>∃ t u v,h.get? a = some { cls:=.type "range",data:=.fields #[.int lo t,.int hi u,.int 1 v] }
 | .frz o u=>h.get? a = some o∧ObjOk H h a u
 | .tbl cr=>∃ ps:Array Value,h.get? a = some { cls:=.none,data:=.fields ps }∧TriplesOk ps.toList∧∀ (pos:Pos) (v:Value),codeAmong pos ps.toList = some v→
   ∃ (c:Addr) (oc:Obj) (q:Str),v = .ref c∧cr pos.line pos.col = some q∧H c = some (.frz oc (.own c))∧CodeOf oc q
 | .met f x=>h.get? a = some (PySem.W.methodObj (.ref f) (.ref x))
 | .ext φ=>φ h∧(∃ o,h.get? a = some o)∧∀ h1 h2:Heap,φ h1→(∀ o,h1.get? a = some o→h2.get? a = some o)→φ h2
def HOk (H:Hp) (h:Heap):Prop:=∀ a o,H a = some o→ObjOk P w H h a o
end
section
variable {P:Program}{w:World}{H H' : Hp} {h h' : Heap} {a:Addr}{o:HO}
theorem ObjOk.lt (x:ObjOk P w H h a o):a < h.objs.size:=by
 cases o with
 | lst xs=>obtain ⟨_,_,_,_,e⟩:=x;exact Heap.lt_size e
 | tup xs=>obtain ⟨_,_,_,p,_⟩:=x;exact p.lt
 | dK kvs=>obtain ⟨_,_,_,_,o,_,_,e,_⟩:=x;exact Heap.lt_size e
 | dT kvs=>obtain ⟨_,_,_,_,o,_,_,e,_⟩:=x;exact Heap.lt_size e
 | set S n=>obtain ⟨o,_,_,_,e,_⟩:=x;exact Heap.lt_size e
 | ins C dx fs=>obtain ⟨_,_,_,e,_⟩:=x;exact Heap.lt_size e
 | own y=>obtain ⟨_,e⟩:=x;exact Heap.lt_size e
 | xd fs=>obtain ⟨_,⟨_,_,_,e,_⟩,_⟩:=x;exact Heap.lt_size e
 | rng lo hi=>obtain ⟨_,_,_,e⟩:=x;exact Heap.lt_size e
 | frz ob u=>obtain ⟨e,_⟩:=x;exact Heap.lt_size e
 | tbl cr=>obtain ⟨_,e,_⟩:=x;exact Heap.lt_size e
 | met f y=>exact Heap.lt_size (show h.get? a = some _ from x)
 | ext φ=>obtain ⟨_,⟨_,e⟩,_⟩:=x;exact Heap.lt_size e
theorem Paired.mapP {α β:Type}{F G:α→β→Prop}:∀ {l₁:List α}{l₂:List β},Paired F l₁ l₂→(∀ a b,F a b→G a b)→Paired G l₁ l₂
 | _,_,.nil,_=>.nil
 | _,_,.cons r t,f=>.cons (f _ _ r) (Paired.mapP t f)
theorem ObjOk.stay (x:ObjOk P w H h a o) (k:∀ b u,(b = a∨H b = some (.own a))→h.get? b = some u→h'.get? b = some u)
  (ho:∀ b,H b = some (.own a)→H' b = some (.own a)) (ht:∀ b xs,H b = some (.tup xs)→H' b = some (.tup xs)) (hz:∀ b o u,H b = some (.frz o u)→H' b = some (.frz o u)):ObjOk P w H' h' a o:=by
 induction o with
 | lst xs=>obtain ⟨z,its,n,r,e⟩:=x;exact ⟨z,its,n,r,k _ _ (.inl rfl) e⟩
 | tup xs=>obtain ⟨z,its,r,⟨ob,e,c⟩,od,e',d'⟩:=x;exact ⟨z,its,r,⟨ob,k _ _ (.inl rfl) e,c⟩,od,k _ _ (.inl rfl) e',d'⟩
 | dK kvs=>obtain ⟨z,y,vs,r,ob,es,ep,e,c⟩:=x;exact ⟨z,y,vs,r,ob,es,ep,k _ _ (.inl rfl) e,c⟩
 | dT kvs=>
  obtain ⟨z,y,xs,r,ob,es,ep,e,c⟩:=x
  exact ⟨z,y,xs,Paired.mapP r fun p q z=>⟨z.1,ht _ _ z.2.1,z.2.2⟩,ob,es,ep,k _ _ (.inl rfl) e,c⟩
 | set S n=>obtain ⟨ob,es,ep,t,e,c⟩:=x;exact ⟨ob,es,ep,t,k _ _ (.inl rfl) e,c⟩
 | ins C dx fs=>
  obtain ⟨d,z,ne,e,mA,⟨od,es,ep,e2,c⟩,r⟩:=x
  exact ⟨ho _ d,z,ne,k _ _ (.inl rfl) e,mA,⟨od,es,ep,k _ _ (.inr d) e2,c⟩,r⟩
 | own y=>obtain ⟨ob,e⟩:=x;exact ⟨ob,k _ _ (.inl rfl) e⟩
 | xd fs=>obtain ⟨mA,⟨od,es,ep,e,c⟩,r⟩:=x;exact ⟨mA,⟨od,es,ep,k _ _ (.inl rfl) e,c⟩,r⟩
 | rng lo hi=>obtain ⟨t,u,v,e⟩:=x;exact ⟨t,u,v,k _ _ (.inl rfl) e⟩
 | frz ob u ih=>obtain ⟨e,q⟩:=x;exact ⟨k _ _ (.inl rfl) e,ih q⟩
 | tbl cr=>
  obtain ⟨ps,e,ht3,hc⟩:=x
  exact ⟨ps,k a _ (.inl rfl) e,ht3,fun pos v q=>let ⟨c,oc,z,h1,h2,h3,h4⟩:=hc pos v q;⟨c,oc,z,h1,h2,hz _ _ _ h3,h4⟩⟩
 | met f y=>
  have e:h.get? a = some (PySem.W.methodObj (.ref f) (.ref y)):=x
  show h'.get? a = some (PySem.W.methodObj (.ref f) (.ref y))
  exact k a _ (.inl rfl) e
 | ext φ=>obtain ⟨p,⟨o,e⟩,st⟩:=x;exact ⟨st _ _ p fun o q=>k _ _ (.inl rfl) q,⟨o,k _ _ (.inl rfl) e⟩,st⟩
theorem HOk.lt (x:HOk P w H h) (e:H a = some o):a < h.objs.size:=(x a o e).lt
theorem HOk.fresh (x:HOk P w H h) (e:h.objs.size≤a):H a = none:=by
 cases q:H a with
 | none=>rfl
 | some u=>exact absurd (Nat.lt_of_lt_of_le (x.lt q) e) (Nat.lt_irrefl _)
theorem HOk.kept (x:HOk P w H h) (k:∀ b u,h.get? b = some u→h'.get? b = some u):HOk P w H h' := fun a o e=>
 (x a o e).stay (fun b u _ q=>k b u q) (fun _ q=>q) (fun _ _ q=>q) fun _ _ _ q=>q
theorem HOk.laid (x:HOk P w H h) (k:∀ b u,h.get? b = some u→h'.get? b = some u) (hp:h.objs.size≤a) (new:ObjOk P w (upd H a o) h' a o):HOk P w (upd H a o) h' := fun b u e=>by
 have hn:=x.fresh hp
 by_cases hb:b = a
 ·subst hb;rw [upd_same] at e;cases e;exact new
 ·rw [upd_ne hb] at e
  exact (x b u e).stay (fun c v _ q=>k c v q) (fun c q=>by rw [upd_ne (ne_of_none q hn)];exact q) (fun c xs q=>by rw [upd_ne (ne_of_none q hn)];exact q) fun c o u q=>by rw [upd_ne (ne_of_none q hn)];exact q
end
def Rd (H:Hp) (a:Addr) (u:HO):Prop:=H a = some u∨∃ o,H a = some (.frz o u)
theorem Rd.ok {P:Program}{w:World}{H:Hp}{h:Heap}{a:Addr}{u:HO}(r:Rd H a u) (x:HOk P w H h):ObjOk P w H h a u:=by
 rcases r with r | ⟨o,r⟩
 ·exact x a u r
 ·obtain ⟨_,q⟩:=x a _ r
  exact q
def Mut:Option HO→Prop
 | some (.lst _)=>True
 | some (.dK _)=>True
 | some (.dT _)=>True
 | some (.set _ _)=>True
 | some (.ins _ _ _)=>True
 | some (.ext _)=>True
 | _=>False
section
variable {P:Program}{w:World}{H:Hp}{h h' : Heap} {x e:Addr}{o' : HO}
theorem HOk.write (ok:HOk P w H h) (mu:Mut (H x)) (he:e = x∨H e = some (.own x)) (k:∀ b u,b≠e→h.get? b = some u→h'.get? b = some u) (heo:∃ u,h'.get? e = some u)
  (new:ObjOk P w (upd H x o') h' x o'):HOk P w (upd H x o') h' := fun b u q=>by
 have nown:∀ c y,H c = some (.own y)→c≠x:=fun c y r z=>by subst z;rw [r] at mu;exact mu
 have ntup:∀ c xs,H c = some (.tup xs)→c≠x:=fun c xs r z=>by subst z;rw [r] at mu;exact mu
 have nfrz:∀ c o u,H c = some (.frz o u)→c≠x:=fun c o u r z=>by subst z;rw [r] at mu;exact mu
 by_cases hb:b = x
 ·subst hb;rw [upd_same] at q;cases q;exact new
 ·rw [upd_ne hb] at q
  by_cases hbe:b = e
  ·have q' : H b = some (.own x):=by
    rcases he with z | z
    ·exact absurd (hbe.trans z) hb
    ·rw [hbe];exact z
   rw [q] at q';cases q'
   obtain ⟨v,hv⟩:=heo
   exact ⟨v,by rw [hbe];exact hv⟩
  ·refine (ok b u q).stay (fun c v hc r=>k c v ?_ r) (fun c r=>by rw [upd_ne (nown c b r)];exact r) (fun c xs r=>by rw [upd_ne (ntup c xs r)];exact r) fun c o u r=>by rw [upd_ne (nfrz c o u r)];exact r
   rcases hc with rfl | hc
   ·exact hbe
   ·rintro rfl
    rcases he with z | z
    ·exact nown c b hc z
    ·rw [hc] at z;cases z;exact hb rfl
end
structure Un (fs ex:List Addr) (H H' : Hp) (h h' : Heap):Prop where
 keep:∀ b o,h.get? b = some o→H b = none→b ∉ fs→b ∉ ex→h'.get? b = some o
 slot:∀ b o,h.get? b = some o→H b = none→b∈fs→b ∉ ex→∃ sl,h'.get? b = some { o with slots:=sl }
 free:∀ b o,h.get? b = some o→H b = none→b ∉ ex→H' b = none
 there:∀ b o,h.get? b = some o→b ∉ ex→∃ o',h'.get? b = some o'
 tups:∀ b xs,H b = some (.tup xs)→H' b = some (.tup xs)
 frzs:∀ b o u,H b = some (.frz o u)→H' b = some (.frz o u)
 tbls:∀ b cr,H b = some (.tbl cr)→H' b = some (.tbl cr)
section
variable {fs fs' ex ex' : List Addr} {H H1 H2:Hp}{h h1 h2 h' : Heap} {a x e:Addr}{o:HO}
theorem Un.any (u:Un fs ex H H1 h h1) {b:Addr}{ob:Obj}(q:h.get? b = some ob) (n:H b = none) (hx:b ∉ ex):∃ sl,h1.get? b = some { ob with slots:=sl }:=by
 by_cases hb:b∈fs
 ·exact u.slot b ob q n hb hx
 ·exact ⟨ob.slots,u.keep b ob q n hb hx⟩
theorem Un.kept (k:∀ b u,h.get? b = some u→h'.get? b = some u):Un fs ex H H h h' :=
 ⟨fun b ob q _ _ _=>k b ob q,fun b ob q _ _ _=>⟨ob.slots,k b ob q⟩,fun _ _ _ n _=>n,fun b ob q _=>⟨ob,k b ob q⟩,fun _ _ q=>q,fun _ _ _ q=>q,fun _ _ q=>q⟩
theorem Un.refl:Un fs ex H H h h:=Un.kept fun _ _ q=>q
theorem Un.laid (k:∀ b u,h.get? b = some u→h'.get? b = some u) (hp:h.objs.size≤a) (hn:H a = none):Un fs ex H (upd H a o) h h' where
 keep:=fun b u q _ _ _=>k b u q
 slot:=fun b u q _ _ _=>⟨u.slots,k b u q⟩
 free:=fun b u q n _=>by rw [upd_ne (Nat.ne_of_lt (Nat.lt_of_lt_of_le (Heap.lt_size q) hp))];exact n
 there:=fun b u q _=>⟨u,k b u q⟩
 tups:=fun b xs q=>by rw [upd_ne (ne_of_none q hn)];exact q
 frzs:=fun b u xs q=>by rw [upd_ne (ne_of_none q hn)];exact q
 tbls:=fun b cr q=>by rw [upd_ne (ne_of_none q hn)];exact q
theorem Un.write (mu:Mut (H x)) (he:e = x∨H e = some (.own x)) (k:∀ b u,b≠e→h.get? b = some u→h'.get? b = some u) (heo:∃ u,h'.get? e = some u):Un fs ex H (upd H x o) h h' := by
 have hx:∀ b,H b = none→b≠x:=fun b n z=>by subst z;rw [n] at mu;exact mu
 have hb:∀ b,H b = none→b≠e:=fun b n z=>by
  subst z
  rcases he with r | r
  ·exact hx b n r
  ·rw [n] at r;cases r
 have hm:∀ b u,H b = some u→¬ Mut (some u)→b≠x:=fun b u q nm z=>by subst z;rw [q] at mu;exact nm mu
 refine ⟨fun b u q n _ _=>k b u (hb b n) q,fun b u q n _ _=>⟨u.slots,k b u (hb b n) q⟩,fun b u q n _=>by rw [upd_ne (hx b n)];exact n,fun b u q _=>?_,
  fun b xs q=>by rw [upd_ne (hm b _ q fun z=>z)];exact q,fun b u xs q=>by rw [upd_ne (hm b _ q fun z=>z)];exact q,fun b cr q=>by rw [upd_ne (hm b _ q fun z=>z)];exact q⟩
 by_cases hbe:b = e
 ·subst hbe;exact heo
 ·exact ⟨u,k b u hbe q⟩
end
def trk (h:Heap) (H:Hp):List Addr:=(List.range h.objs.size).filter fun a=>(H a).isSome
def hidT (h:Heap) (H:Hp):Heap:=PySem.W.hideAll h (trk h H)
theorem hidT_size (h:Heap) (H:Hp):(hidT h H).objs.size = h.objs.size:=PySem.W.hideAll_size _ _
theorem hidT_get {h:Heap}{H:Hp}{b:Addr}{o:Obj}(e:h.get? b = some o) (n:H b = none):(hidT h H).get? b = some o:=
 PySem.W.hideAll_get _ e fun hm=>by
  have q:(H b).isSome = true:=(List.mem_filter.mp hm).2
  rw [n] at q;simp at q
theorem of_hidT {h:Heap}{H:Hp}{b:Addr}{o:Obj}(e:(hidT h H).get? b = some o):h.get? b = some o∧H b = none:=by
 have e' : h.get? b = some o:=PySem.W.of_hideAll (trk h H) e
 refine ⟨e',?_⟩
 cases q:H b with
 | none=>rfl
 | some x=>
  have hm:b∈trk h H:=List.mem_filter.mpr ⟨List.mem_range.mpr (Heap.lt_size e'),by simp [q]⟩
  have z:(hidT h H).get? b = none:=PySem.W.hideAll_none (trk h H) hm
  rw [z] at e;cases e
end L2
namespace L2
open PySem PySem.Spec PyProof.Rows
structure Mod (K:PySem.W.Frag) (mg:Str→Option Value) (base:Heap):Prop where
 kin:K.In base
 glob:base.Ns mainGlobals mg
 blt:∃ mb,base.Ns builtinsNs mb∧∀ x:Str,x≠ "__name__" → mb x = bootBuiltins x
 nolimit:base.NoLimit
structure Cx where
 prog:Program
 w:World
 K:PySem.W.Frag
 mg:Str→Option Value
 base:Heap
 A:Around
 N:List Str
 s₀:Shared
 H₀:Hp
 env:Env
 outer:List Env
 stack:List Env
 ex:List Addr
 fn:Str→Bool
 calm:Bool
 pn:List (Addr × Obj)
 xe:Value→Shared→Prop
def frs (l:List Env):List Addr:=l.filterMap (·.frame)
abbrev Cx.fs (X:Cx):List Addr:=frs X.outer
def Vis (sc:Scope) (x:Str):Prop:=sc.names.lookup x = some .local∨sc.names.lookup x = some .cell∨sc.names.lookup x = some .free
def Loc (sc:Scope) (x:Str):Prop:=sc.names.lookup x = some .local∨sc.names.lookup x = some .cell
def Look (env:Env) (h:Heap) (m:Str→Option Value) (x:Str) (u:Value):Prop:=
 (env.kindOf x = some .local∧m x = some u)∨((env.kindOf x = some .cell∨env.kindOf x = some .free)∧∃ c,env.cells.lookup x = some c∧h.IsCell c (some u))
structure Cx.Ok (X:Cx):Prop where
 mod:Mod X.K X.mg X.base
 kind:X.env.scope.kind = .function
 glob:X.env.globals = mainGlobals
 blt:X.env.builtins = builtinsNs
 above:X.s₀.heap.objs.size≤X.env.locals
 inj:∀ x y c,X.env.cells.lookup x = some c→X.env.cells.lookup y = some c→x = y
 has:∀ x,(X.env.kindOf x = some .cell∨X.env.kindOf x = some .free)→∃ c,X.env.cells.lookup x = some c
 cab:∀ x c,X.fn x = true→X.env.cells.lookup x = some c→X.s₀.heap.objs.size≤c
 hd:X.calm = true→X.A.handled = none
 frames:X.A.frames = some X.stack
 stk:X.stack = X.outer∨(X.stack = X.env :: X.outer∧X.env.frame = some X.env.locals)
 exf:∀ b∈X.ex,b≠X.env.locals∧∀ x c,X.env.cells.lookup x = some c→c≠b
 bs:∀ b o,X.base.get? b = some o→X.s₀.heap.get? b = some o∧X.H₀ b = none
 bsz:X.base.objs.size≤X.s₀.heap.objs.size
 noex:∀ b o,X.base.get? b = some o→b ∉ X.ex
 exfs:∀ b∈X.ex,b ∉ X.fs
 funs:X.s₀.heap.FunFrames X.base X.outer
 frf:∀ b∈X.fs,X.H₀ b = none
structure Inv (X:Cx) (pins:List (Addr × Obj)) (σ:List (Option V)) (H:Hp) (s:Shared):Prop where
 ok:X.Ok
 os:s.os = X.s₀.os
 bare:AllBare s.gens
 base:Un X.fs X.ex X.H₀ H X.s₀.heap s.heap
 loc:∃ m,s.heap.Ns X.env.locals m∧∀ (i:Nat) (x:Str) (v:V),X.N[i]? = some x→σ[i]? = some (some v)→Vis X.env.scope x→∃ u,RelV v u∧Look X.env s.heap m x u
 cell:∀ x c,X.env.cells.lookup x = some c→∃ v,s.heap.IsCell c v
 free:H X.env.locals = none
 freeC:∀ x c,X.env.cells.lookup x = some c→H c = none
 pin:∀ p∈X.pn ++ pins,s.heap.get? p.1 = some p.2∧H p.1 = none∧p.1≠X.env.locals∧p.1 ∉ X.fs∧∀ v,p.2.data≠.cell v
 hok:HOk X.prog X.w H s.heap
 len:σ.length = X.N.length
section
variable {X:Cx}{pins:List (Addr × Obj)}{σ:List (Option V)}{H H' : Hp} {s:Shared}{h' : Heap}
theorem Cx.Ok.nofr (ok:X.Ok) {b:Addr}{o:Obj}(e:X.base.get? b = some o):b ∉ X.fs:=fun hb=>by
 have:=(ok.funs.mem hb).1
 rw [e] at this;cases this
theorem Inv.bs (I:Inv X pins σ H s):∀ b o,X.base.get? b = some o→s.heap.get? b = some o∧H b = none:=fun b o e=>
 ⟨I.base.keep b o (I.ok.bs b o e).1 (I.ok.bs b o e).2 (I.ok.nofr e) (I.ok.noex b o e),I.base.free b o (I.ok.bs b o e).1 (I.ok.bs b o e).2 (I.ok.noex b o e)⟩
theorem Inv.bk (I:Inv X pins σ H s):∀ b o,X.base.get? b = some o→s.heap.get? b = some o:=fun b o e=>(I.bs b o e).1
theorem Inv.mod (I:Inv X pins σ H s):Mod X.K X.mg X.base:=I.ok.mod
theorem Inv.kIn (I:Inv X pins σ H s):X.K.In s.heap:=I.ok.mod.kin.keeps I.bk
theorem Inv.fr (I:Inv X pins σ H s):∃ m,Fr X.base X.env.locals s.heap m:=
 let ⟨m,hn,_⟩:=I.loc
 ⟨m,hn,I.bk,Nat.le_trans I.ok.bsz I.ok.above⟩
theorem Inv.lt (I:Inv X pins σ H s):X.env.locals < s.heap.objs.size:=let ⟨_,hn,_⟩:=I.loc;hn.lt
theorem Inv.sz (I:Inv X pins σ H s):X.s₀.heap.objs.size≤s.heap.objs.size:=Nat.le_trans I.ok.above (Nat.le_of_lt I.lt)
theorem Inv.nofs (I:Inv X pins σ H s) {a:Addr}(h:s.heap.objs.size≤a):a ∉ X.fs:=fun hb=>by
 obtain ⟨_,o,ho,_⟩:=I.ok.funs.mem hb
 exact absurd (Nat.lt_of_lt_of_le (Heap.lt_size ho) (Nat.le_trans I.sz h)) (Nat.lt_irrefl _)
theorem Inv.cne (I:Inv X pins σ H s):∀ x c,X.env.cells.lookup x = some c→c≠X.env.locals:=fun x c e z=>by
 obtain ⟨v,o,ho,hd⟩:=I.cell x c e
 obtain ⟨m,⟨o',es,ep,ho',hd',_⟩,_⟩:=I.loc
 rw [z,ho'] at ho;cases ho;rw [hd'] at hd;cases hd
theorem Inv.funs (I:Inv X pins σ H s):s.heap.FunFrames X.base X.outer:=by
 have all:∀ (l:List Env),(∀ b∈frs l,b∈X.fs)→X.s₀.heap.FunFrames X.base l→s.heap.FunFrames X.base l:=by
  intro l
  induction l with
  | nil=>intro _ _;trivial
  | cons env r ih=>
   intro hs hl
   obtain ⟨hk,⟨L,o,hf,hn,ho,hd⟩,hr⟩:=hl
   have hL:L∈X.fs:=hs L (by unfold frs;rw [List.filterMap_cons,hf];exact List.mem_cons_self)
   obtain ⟨sl,e⟩:=I.base.slot L o ho (I.ok.frf L hL) hL fun z=>I.ok.exfs L z hL
   exact ⟨hk,⟨L,_,hf,hn,e,hd⟩,ih (fun b hb=>hs b (by unfold frs;rw [List.filterMap_cons,hf];exact List.mem_cons_of_mem _ hb)) hr⟩
 exact all X.outer (fun _ hb=>hb) I.ok.funs
theorem Inv.stack (I:Inv X pins σ H s):s.heap.FunFrames X.base X.stack:=by
 rcases I.ok.stk with e | ⟨e,hf⟩
 ·rw [e];exact I.funs
 ·rw [e]
  obtain ⟨m,hn,_⟩:=I.loc
  refine .cons (by rw [I.ok.kind];decide) hf hn ?_ I.funs
  exact Heap.get?_none_of_le (Nat.le_trans I.ok.bsz I.ok.above)
theorem Inv.stkSub (I:Inv X pins σ H s):∀ b∈frs X.stack,b∈X.env.locals :: X.fs:=fun b hb=>by
 rcases I.ok.stk with e | ⟨e,hf⟩
 ·rw [e] at hb;exact List.mem_cons_of_mem _ hb
 ·rw [e] at hb
  unfold frs at hb
  rw [List.filterMap_cons,hf] at hb
  exact hb
theorem Inv.stkFree (I:Inv X pins σ H s):∀ b∈frs X.stack,H b = none:=fun b hb=>by
 rcases List.mem_cons.mp (I.stkSub b hb) with e | hb
 ·rw [e];exact I.free
 ·obtain ⟨_,o,ho,_⟩:=I.ok.funs.mem hb
  exact I.base.free b o ho (I.ok.frf b hb) fun z=>I.ok.exfs b z hb
theorem Inv.step {g' : Array GenState} {t' : Nat} {d' : Drawn} {ch:List Addr}(I:Inv X pins σ H s)
  (hch:∀ b∈ch,(b∈X.ex∨X.s₀.heap.objs.size≤b)∧b≠X.env.locals∧(∀ x c,X.env.cells.lookup x = some c→c≠b)∧∀ p∈X.pn ++ pins,p.1≠b)
  (keep:∀ b o,b≠X.env.locals→b ∉ X.fs→b ∉ ch→s.heap.get? b = some o→H b = none→h'.get? b = some o)
  (slot:∀ b o,b≠X.env.locals→b∈X.fs→b ∉ ch→s.heap.get? b = some o→H b = none→∃ sl,h'.get? b = some { o with slots:=sl }) (free:∀ b o,b ∉ ch→s.heap.get? b = some o→H b = none→H' b = none)
  (there:∀ b o,b ∉ ch→s.heap.get? b = some o→∃ o',h'.get? b = some o')
  (tups:∀ b xs,H b = some (.tup xs)→H' b = some (.tup xs)) (frzs:∀ b o u,H b = some (.frz o u)→H' b = some (.frz o u)) (tbls:∀ b cr,H b = some (.tbl cr)→H' b = some (.tbl cr))
  (ns:∀ m,s.heap.Ns X.env.locals m→h'.Ns X.env.locals m) (hok:HOk X.prog X.w H' h') (hg:AllBare g'):
  Inv X pins σ H' { s with heap:=h',gens:=g',drawn:=d',toks:=t' }:=by
 have neL:∀ b o,X.s₀.heap.get? b = some o→b≠X.env.locals:=fun b o e=>Nat.ne_of_lt (Nat.lt_of_lt_of_le (Heap.lt_size e) I.ok.above)
 have neC:∀ b o,X.s₀.heap.get? b = some o→b ∉ X.ex→b ∉ ch:=fun b o e hx hb=>by
  rcases (hch b hb).1 with z | z
  ·exact hx z
  ·exact absurd (Nat.lt_of_lt_of_le (Heap.lt_size e) z) (Nat.lt_irrefl _)
 have cellK:∀ x c,X.env.cells.lookup x = some c→∀ v,s.heap.IsCell c v→h'.IsCell c v:=fun x c e v ⟨o,ho,hd⟩=>by
  have nch:c ∉ ch:=fun z=>(hch c z).2.2.1 x c e rfl
  by_cases hc:c∈X.fs
  ·obtain ⟨sl,q⟩:=slot c o (I.cne x c e) hc nch ho (I.freeC x c e)
   exact ⟨_,q,hd⟩
  ·exact ⟨o,keep c o (I.cne x c e) hc nch ho (I.freeC x c e),hd⟩
 refine ⟨I.ok,I.os,hg,⟨fun b o e n hb hx=>?_,fun b o e n hb hx=>?_,fun b o e n hx=>?_,fun b o e hx=>?_,fun b xs e=>tups b xs (I.base.tups b xs e),fun b o xs e=>frzs b o xs (I.base.frzs b o xs e),fun b ps e=>?_⟩,?_,fun x c e=>?_,?_,fun x c e=>?_,fun p hp=>?_,hok,I.len⟩
 ·exact keep b o (neL b o e) hb (neC b o e hx) (I.base.keep b o e n hb hx) (I.base.free b o e n hx)
 ·obtain ⟨sl,e1⟩:=I.base.slot b o e n hb hx
  obtain ⟨sl',e2⟩:=slot b _ (neL b o e) hb (neC b o e hx) e1 (I.base.free b o e n hx)
  exact ⟨sl',e2⟩
 ·obtain ⟨o',e1⟩:=I.base.there b o e hx
  exact free b o' (neC b o e hx) e1 (I.base.free b o e n hx)
 ·obtain ⟨o',e1⟩:=I.base.there b o e hx
  exact there b o' (neC b o e hx) e1
 ·exact tbls b ps (I.base.tbls b ps e)
 ·obtain ⟨m,hn,hl⟩:=I.loc
  refine ⟨m,ns m hn,fun i x v e1 e2 e3=>?_⟩
  obtain ⟨u,r,l⟩:=hl i x v e1 e2 e3
  refine ⟨u,r,?_⟩
  rcases l with l | ⟨k,c,e,z⟩
  ·exact .inl l
  ·exact .inr ⟨k,c,e,cellK x c e _ z⟩
 ·obtain ⟨v,z⟩:=I.cell x c e
  exact ⟨v,cellK x c e v z⟩
 ·obtain ⟨m,⟨o,_,_,ho,_⟩,_⟩:=I.loc
  exact free _ o (fun z=>(hch _ z).2.1 rfl) ho I.free
 ·obtain ⟨v,o,ho,hd⟩:=I.cell x c e
  exact free c o (fun z=>(hch c z).2.2.1 x c e rfl) ho (I.freeC x c e)
 ·obtain ⟨e,n,ne,nf,d⟩:=I.pin p hp
  have nch:p.1 ∉ ch:=fun z=>(hch p.1 z).2.2.2 p hp rfl
  exact ⟨keep p.1 p.2 ne nf nch e n,free p.1 p.2 nch e n,ne,nf,d⟩
theorem Inv.un {t' : Nat} (I:Inv X pins σ H s) (u:Un X.fs [] H H' s.heap h') (hok:HOk X.prog X.w H' h'):Inv X pins σ H' { s with heap:=h',toks:=t' }:=by
 obtain ⟨m,⟨o,es,ep,ho,r⟩,_⟩:=id I.loc
 obtain ⟨sl,hL⟩:=u.any ho I.free (by simp)
 exact I.step (g' := s.gens) (d' := s.drawn) (ch:=[]) (fun _ z=>nomatch z) (fun b o _ hb _ e n=>u.keep b o e n hb (by simp)) (fun b o _ hb _ e n=>u.slot b o e n hb (by simp)) (fun b o _ e n=>u.free b o e n (by simp)) (fun b o _ e=>u.there b o e (by simp)) u.tups u.frzs u.tbls (fun m' hm=>by
  obtain ⟨o',es',ep',ho',r'⟩:=hm
  rw [ho] at ho';cases ho'
  exact ⟨_,es',ep',hL,r'⟩) hok I.bare
theorem Inv.call {g' : Array GenState} {t' : Nat} {d' : Drawn} {ch:List Addr}(I:Inv X pins σ H s) (u:Un (frs X.stack) ch H H' s.heap h') (hok:HOk X.prog X.w H' h') (hg:AllBare g')
  (hch:∀ b∈ch,(b∈X.ex∨X.s₀.heap.objs.size≤b)∧b≠X.env.locals∧(∀ x c,X.env.cells.lookup x = some c→c≠b)∧∀ p∈X.pn ++ pins,p.1≠b):
  Inv X pins σ H' { s with heap:=h',gens:=g',drawn:=d',toks:=t' }:=by
 obtain ⟨m,⟨o,es,ep,ho,r⟩,_⟩:=id I.loc
 obtain ⟨sl,hL⟩:=u.any ho I.free fun z=>(hch _ z).2.1 rfl
 exact I.step (ch:=ch) hch (fun b o hL hb hc e n=>u.keep b o e n (fun z=>(List.mem_cons.mp (I.stkSub b z)).elim hL hb) hc) (fun b o _ _ hc e n=>u.any e n hc) (fun b o hc e n=>u.free b o e n hc) (fun b o hc e=>u.there b o e hc) u.tups u.frzs u.tbls (fun m' hm=>by
  obtain ⟨o',es',ep',ho',r'⟩:=hm
  rw [ho] at ho';cases ho'
  exact ⟨_,es',ep',hL,r'⟩) hok hg
theorem Inv.turned {t' : Nat} {it:Addr}(I:Inv X pins σ H s) (k:∀ b o,b≠it→s.heap.get? b = some o→h'.get? b = some o) (hn:H it = none) (hL:it≠X.env.locals)
  (h1:it∈X.ex∨X.s₀.heap.objs.size≤it) (h2:∀ x c,X.env.cells.lookup x = some c→c≠it) (h3:∀ p∈X.pn ++ pins,p.1≠it):Inv X pins σ H { s with heap:=h',toks:=t' }:=by
 have nit:∀ b u,H b = some u→b≠it:=fun b u e z=>by rw [z,hn] at e;cases e
 refine I.step (g' := s.gens) (d' := s.drawn) (ch:=[it]) (fun b hb=>?_) (fun b o _ _ hc e _=>k b o (fun z=>hc (by simp [z])) e) (fun b o _ _ hc e _=>⟨o.slots,k b o (fun z=>hc (by simp [z])) e⟩) (fun _ _ _ _ n=>n)
  (fun b o hc e=>⟨o,k b o (fun z=>hc (by simp [z])) e⟩) (fun _ _ e=>e) (fun _ _ _ e=>e) (fun _ _ e=>e) (fun m hm=>?_) (fun b u e=>?_) I.bare
 ·have e:b = it:=by simpa using hb
  subst e
  exact ⟨h1,hL,h2,h3⟩
 ·obtain ⟨o,es,ep,ho,r⟩:=hm
  exact ⟨o,es,ep,k _ o (Ne.symm hL) ho,r⟩
 ·refine (I.hok b u e).stay (fun c v hc q=>k c v ?_ q) (fun _ q=>q) (fun _ _ q=>q) fun _ _ _ q=>q
  rcases hc with z | z
  ·rw [z];exact nit b u e
  ·exact nit c _ z
theorem Inv.tok (I:Inv X pins σ H s) (t:Nat):Inv X pins σ H { s with toks:=t }:=I.un (h' := s.heap) (t' := t) Un.refl I.hok
theorem Inv.kept {t' : Nat} (I:Inv X pins σ H s) (k:∀ b u,s.heap.get? b = some u→h'.get? b = some u):Inv X pins σ H { s with heap:=h',toks:=t' }:=I.un (Un.kept k) (I.hok.kept k)
theorem Inv.laid {a:Addr}{o:HO}{t' : Nat} (I:Inv X pins σ H s) (k:∀ b u,s.heap.get? b = some u→h'.get? b = some u) (hp:s.heap.objs.size≤a) (new:ObjOk X.prog X.w (upd H a o) h' a o):
  Inv X pins σ (upd H a o) { s with heap:=h',toks:=t' }:=I.un (Un.laid k hp (I.hok.fresh hp)) (I.hok.laid k hp new)
theorem Inv.write {x e:Addr}{o:HO}{t' : Nat} (I:Inv X pins σ H s) (mu:Mut (H x)) (he:e = x∨H e = some (.own x)) (k:∀ b u,b≠e→s.heap.get? b = some u→h'.get? b = some u) (heo:∃ u,h'.get? e = some u)
  (new:ObjOk X.prog X.w (upd H x o) h' x o):Inv X pins σ (upd H x o) { s with heap:=h',toks:=t' }:=I.un (Un.write mu he k heo) (I.hok.write mu he k heo new)
theorem Inv.pins_of {pins' : List (Addr × Obj)} (I:Inv X pins σ H s) (h:∀ p∈pins',s.heap.get? p.1 = some p.2∧H p.1 = none∧p.1≠X.env.locals∧p.1 ∉ X.fs∧∀ v,p.2.data≠.cell v):Inv X pins' σ H s:=
 ⟨I.ok,I.os,I.bare,I.base,I.loc,I.cell,I.free,I.freeC,fun p hp=>(List.mem_append.mp hp).elim (fun z=>I.pin p (List.mem_append_left _ z)) (h p),I.hok,I.len⟩
theorem nodup_ix {N:List Str}(hN:N.Nodup) {i j:Nat}{x:Str}(a:N[i]? = some x) (b:N[j]? = some x):i = j:=by
 obtain ⟨h1,e1⟩:=List.getElem?_eq_some_iff.mp a
 obtain ⟨h2,e2⟩:=List.getElem?_eq_some_iff.mp b
 exact (List.getElem_inj hN).mp (e1.trans e2.symm)
theorem store_ok2 {M:Model}{A:Around}{E:Value→Shared→Prop}{i:Nat}{x:Str}{v:V}{u:Value}{Q:Unit→Shared→Prop}(I:Inv X pins σ H s) (hN:X.N.Nodup) (hi:X.N[i]? = some x) (hx:Loc X.env.scope x) (r:RelV v u)
  (h:∀ s',Inv X pins (σ.set i (some v)) H s' → (∃ a,Heap.SameBut a s.heap s'.heap∧(a = X.env.locals∨X.env.cells.lookup x = some a))→Q () s') (hf:X.fn x = true∨X.env.scope.names.lookup x = some .local:=by first | exact .inl rfl | exact .inr rfl | assumption):wpAny M A (storeName X.env x u) Q E s:=by
 obtain ⟨m,hn,hl⟩:=id I.loc
 have hcls:(X.env.scope.kind == .class || (X.env.scope.kind == .module && X.env.locals != X.env.globals)) = false:=by rw [I.ok.kind];rfl
 have hiσ:i < σ.length:=by rw [I.len];exact (List.getElem?_eq_some_iff.mp hi).1
 have cne:=I.cne
 have tracked:∀ {a:Addr}{h' : Heap},(∃ o,s.heap.get? a = some o∧H a = none)→Heap.SameBut a s.heap h' → HOk X.prog X.w H h' := fun {a h'} ha hs b ob e=>by
  obtain ⟨_,_,hfree⟩:=ha
  refine (I.hok b ob e).stay (fun c w' hc q=>(hs.2 c ?_).trans q) (fun _ q=>q) (fun _ _ q=>q) fun _ _ _ q=>q
  rintro rfl
  rcases hc with rfl | hc
  ·rw [hfree] at e;cases e
  ·rw [hfree] at hc;cases hc
 rcases hx with hk | hk
 ·refine wpAny_storeName_local hk hn (fun h' hn' hs=>?_) hcls
  obtain ⟨oL,_,_,hoL,_⟩:=id hn
  refine h _ ⟨I.ok,I.os,I.bare,⟨fun b o e n hb hx=>?_,fun b o e n hb hx=>?_,I.base.free,fun b o e hx=>?_,I.base.tups,I.base.frzs,I.base.tbls⟩,⟨_,hn',fun j y v' e1 e2 e3=>?_⟩,fun y c e=>?_,I.free,I.freeC,fun p hp=>?_,tracked ⟨oL,hoL,I.free⟩ hs,by simpa using I.len⟩ ⟨_,hs,.inl rfl⟩
  ·exact (hs.2 b (Nat.ne_of_lt (Nat.lt_of_lt_of_le (Heap.lt_size e) I.ok.above))).trans (I.base.keep b o e n hb hx)
  ·obtain ⟨sl,e1⟩:=I.base.slot b o e n hb hx
   exact ⟨sl,(hs.2 b (Nat.ne_of_lt (Nat.lt_of_lt_of_le (Heap.lt_size e) I.ok.above))).trans e1⟩
  ·obtain ⟨o',e1⟩:=I.base.there b o e hx
   exact ⟨o',(hs.2 b (Nat.ne_of_lt (Nat.lt_of_lt_of_le (Heap.lt_size e) I.ok.above))).trans e1⟩
  ·by_cases hj:j = i
   ·subst hj
    rw [hi] at e1;cases e1
    rw [List.getElem?_set_self hiσ] at e2
    cases e2
    exact ⟨u,r,.inl ⟨hk,by simp⟩⟩
   ·rw [List.getElem?_set_ne (Ne.symm hj)] at e2
    obtain ⟨u',r',q⟩:=hl j y v' e1 e2 e3
    refine ⟨u',r',?_⟩
    rcases q with ⟨k,e⟩ | ⟨k,c,e,z⟩
    ·refine .inl ⟨k,?_⟩
     have:y≠x:=fun e=>hj (nodup_ix hN e1 (e ▸ hi))
     simp [this,e]
    ·exact .inr ⟨k,c,e,z.sameBut hs (cne y c e)⟩
  ·obtain ⟨w',z⟩:=I.cell y c e
   exact ⟨w',z.sameBut hs (cne y c e)⟩
  ·obtain ⟨e,n,ne,nf,d⟩:=I.pin p hp
   exact ⟨(hs.2 p.1 ne).trans e,n,ne,nf,d⟩
 ·have hfn:X.fn x = true:=by
   rcases hf with z | z
   ·exact z
   ·rw [z] at hk;cases hk
  obtain ⟨c,hc⟩:=I.ok.has x (.inl hk)
  obtain ⟨w',z⟩:=I.cell x c hc
  refine wpAny_storeName_cell I.ok.kind hk hc z (fun h' hc' hs=>?_)
  obtain ⟨oc,hoc,hocd⟩:=id z
  refine h { s with heap:=h' } ⟨I.ok,I.os,I.bare,⟨fun b o e n hb hx=>?_,fun b o e n hb hx=>?_,I.base.free,fun b o e hx=>?_,I.base.tups,I.base.frzs,I.base.tbls⟩,⟨m,hn.sameBut hs (Ne.symm (cne x c hc)),fun j y v' e1 e2 e3=>?_⟩,fun y c' e=>?_,I.free,I.freeC,fun p hp=>?_,tracked ⟨oc,hoc,I.freeC x c hc⟩ hs,by simpa using I.len⟩ ⟨c,hs,.inr hc⟩
  ·exact (hs.2 b (Nat.ne_of_lt (Nat.lt_of_lt_of_le (Heap.lt_size e) (I.ok.cab x c hfn hc)))).trans (I.base.keep b o e n hb hx)
  ·obtain ⟨sl,e1⟩:=I.base.slot b o e n hb hx
   exact ⟨sl,(hs.2 b (Nat.ne_of_lt (Nat.lt_of_lt_of_le (Heap.lt_size e) (I.ok.cab x c hfn hc)))).trans e1⟩
  ·obtain ⟨o',e1⟩:=I.base.there b o e hx
   exact ⟨o',(hs.2 b (Nat.ne_of_lt (Nat.lt_of_lt_of_le (Heap.lt_size e) (I.ok.cab x c hfn hc)))).trans e1⟩
  ·by_cases hj:j = i
   ·subst hj
    rw [hi] at e1;cases e1
    rw [List.getElem?_set_self hiσ] at e2
    cases e2
    exact ⟨u,r,.inr ⟨.inl hk,c,hc,hc'⟩⟩
   ·rw [List.getElem?_set_ne (Ne.symm hj)] at e2
    obtain ⟨u',r',q⟩:=hl j y v' e1 e2 e3
    refine ⟨u',r',?_⟩
    rcases q with q | ⟨k,c',e,z'⟩
    ·exact .inl q
    ·refine .inr ⟨k,c',e,z'.sameBut hs ?_⟩
     rintro rfl
     exact hj (nodup_ix hN e1 (I.ok.inj _ _ _ e hc ▸ hi))
  ·by_cases hcc:c' = c
   ·subst hcc;exact ⟨_,hc'⟩
   ·obtain ⟨w2,z2⟩:=I.cell y c' e
    exact ⟨w2,z2.sameBut hs hcc⟩
  ·obtain ⟨e,n,ne,nf,d⟩:=I.pin p hp
   refine ⟨(hs.2 p.1 ?_).trans e,n,ne,nf,d⟩
   intro q
   rw [q,hoc] at e
   have q' : oc = p.2:=Option.some.inj e
   exact d w' (by rw [← q'];exact hocd)
theorem store_ok {M:Model}{A:Around}{E:Value→Shared→Prop}{i:Nat}{x:Str}{v:V}{u:Value}{Q:Unit→Shared→Prop}(I:Inv X pins σ H s) (hN:X.N.Nodup) (hi:X.N[i]? = some x) (hx:Loc X.env.scope x) (r:RelV v u)
  (h:∀ s',Inv X pins (σ.set i (some v)) H s' → Q () s') (hf:X.fn x = true∨X.env.scope.names.lookup x = some .local:=by first | exact .inl rfl | exact .inr rfl | assumption):wpAny M A (storeName X.env x u) Q E s:=
 store_ok2 I hN hi hx r (fun s' I' _=>h s' I') hf
theorem Inv.call' {s' : Shared} {ch:List Addr}(I:Inv X pins σ H s) (ho:s'.os = s.os) (u:Un (frs X.stack) ch H H' s.heap s'.heap) (hok:HOk X.prog X.w H' s'.heap) (hg:AllBare s'.gens)
  (hch:∀ b∈ch,(b∈X.ex∨X.s₀.heap.objs.size≤b)∧b≠X.env.locals∧(∀ x c,X.env.cells.lookup x = some c→c≠b)∧∀ p∈X.pn ++ pins,p.1≠b):Inv X pins σ H' s' := by
 obtain ⟨h',g',d',t',o'⟩:=s'
 have e:o' = s.os:=ho
 subst e
 exact I.call (g' := g') (t' := t') (d' := d') u hok hg hch
end
abbrev XK:=Value→Option Addr→Hp→Prop
abbrev St:=List (Option V)
abbrev VK:=V→Hp→Prop
abbrev TE:=St→Hp→VK→Prop
abbrev TT:=St→Hp→(Bool→Hp→Prop)→Prop
abbrev TA:=St→Hp→(List V→Hp→Prop)→Prop
structure Ends where
 nx:St→Hp→Prop
 rt:VK
 bk:St→Hp→Prop:=fun _ _=>False
 ct:St→Hp→Prop:=fun _ _=>False
abbrev TS:=Ends→St→Hp→Prop
def EP (X:Cx) (pins:List (Addr × Obj)) (σ:St) (Q:VK) (u:Value) (s' : Shared):Prop:=∃ v H',Inv X pins σ H' s' ∧ RelV v u∧Q v H'
def TP (X:Cx) (pins:List (Addr × Obj)) (σ:St) (Q:Bool→Hp→Prop) (b:Bool) (s' : Shared):Prop:=∃ H',Inv X pins σ H' s' ∧ Q b H'
def AP (X:Cx) (pins:List (Addr × Obj)) (σ:St) (Q:List V→Hp→Prop) (us:List Value) (s' : Shared):Prop:=∃ vs H',Inv X pins σ H' s' ∧ Vals vs us∧Q vs H'
def SP (X:Cx) (pins:List (Addr × Obj)) (D:Ends) (f:Flow) (s' : Shared):Prop:=
 match f with
 | .next=>∃ σ' H',Inv X pins σ' H' s' ∧ D.nx σ' H'
 | .brk=>∃ σ' H',Inv X pins σ' H' s' ∧ D.bk σ' H'
 | .cont=>∃ σ' H',Inv X pins σ' H' s' ∧ D.ct σ' H'
 | .ret u=>∃ v σ' H',Inv X pins σ' H' s' ∧ RelV v u∧D.rt v H'
def PE (X:Cx) (e:Expr) (t:TE):Prop:=
 ∀ (pins:List (Addr × Obj)) (s:Shared) (σ:St) (H:Hp) (Q:VK),Inv X pins σ H s→t σ H Q→wpAny (model X.prog X.w) X.A (eval e X.env) (EP X pins σ Q) X.xe s
def PT (X:Cx) (e:Expr) (t:TT):Prop:=
 ∀ (pins:List (Addr × Obj)) (s:Shared) (σ:St) (H:Hp) (Q:Bool→Hp→Prop),Inv X pins σ H s→t σ H Q→wpAny (model X.prog X.w) X.A (isTrue e X.env (eval e X.env)) (TP X pins σ Q) X.xe s
def PW (X:Cx) (e:Expr) (t:TT):Prop:=
 ∀ (whole:Sem Value) (pins:List (Addr × Obj)) (s:Shared) (σ:St) (H:Hp) (Q:Bool→Hp→Prop),Inv X pins σ H s→t σ H Q→wpAny (model X.prog X.w) X.A (isTrue e X.env whole) (TP X pins σ Q) X.xe s
theorem PW.pt {X:Cx}{e:Expr}{t:TT}(h:PW X e t):PT X e t:=h _
def PA (X:Cx) (es:List Expr) (t:TA):Prop:=
 ∀ (pos:Pos) (pins:List (Addr × Obj)) (s:Shared) (σ:St) (H:Hp) (Q:List V→Hp→Prop),Inv X pins σ H s→t σ H Q→wpAny (model X.prog X.w) X.A (spliced (backTo pos (starEach es X.env))) (AP X pins σ Q) X.xe s
def PS (X:Cx) (st:Stmt) (t:TS):Prop:=
 ∀ (pins:List (Addr × Obj)) (s:Shared) (σ:St) (H:Hp) (D:Ends),Inv X pins σ H s→t D σ H→wpAny (model X.prog X.w) X.A (exec st X.env) (SP X pins D) X.xe s
def PSs (X:Cx) (st:List Stmt) (t:TS):Prop:=
 ∀ (pins:List (Addr × Obj)) (s:Shared) (σ:St) (H:Hp) (D:Ends),Inv X pins σ H s→t D σ H→wpAny (model X.prog X.w) X.A (execs st X.env) (SP X pins D) X.xe s
theorem thn {α:Type}{t:Sem α}{Q Q' : α→Shared→Prop} {M:Model}{A:Around}{E:Value→Shared→Prop}{s:Shared}(h:wpAny M A t Q E s) (hQ:∀ a s,Q a s→Q' a s):wpAny M A t Q' E s:=wpAny_mono h hQ fun _ _ x=>x
end L2
namespace L2
open PySem PySem.Spec PyProof.Rows
section
variable {X:Cx}
def tVar (i:Nat):TE:=fun σ H Q=>∃ v,σ[i]? = some (some v)∧Q v H
def tC (v:V):TE:=fun _ H Q=>Q v H
theorem pe_var {i:Nat}{x:Str}{pos:Pos}(hN:X.N[i]? = some x) (hv:Vis X.env.scope x) (hd:(x == ("__debug__" : Str)) = false:=by decide) (hcd:(x == ("__classdict__" : Str)) = false:=by decide):PE X (.Name x pos) (tVar i):=by
 intro pins s σ H Q I h
 obtain ⟨v,e,h⟩:=h
 obtain ⟨m,hn,hl⟩:=I.loc
 obtain ⟨u,r,l⟩:=hl i x v hN e hv
 have fin:EP X pins σ Q u s:=⟨v,H,I,r,h⟩
 rcases l with ⟨hk,hm⟩ | ⟨hk,c,hc,hcell⟩
 ·exact wpAny_Name (wpAny_loadName_local I.ok.kind hk hn hm fin) hd
 ·rcases hk with hk | hk
  ·exact wpAny_Name (wpAny_loadName_cell I.ok.kind hk hc hcell fin) hd
  ·exact wpAny_Name (wpAny_loadName_free I.ok.kind hk hc hcell fin hcd) hd
theorem pe_int {i j pos}:PE X (.Constant (.int i) j pos) (tC (.int i)):=fun _ _ _ H _ I h=>wpAny_Constant_int ⟨.int i,H,I.tok _,⟨_,rfl⟩,h⟩
theorem pe_bl {b j pos}:PE X (.Constant (.bool b) j pos) (tC (.bl b)):=fun _ _ _ H _ I h=>Constant_bool ⟨.bl b,H,I,rfl,h⟩
theorem pe_non {j pos}:PE X (.Constant .none j pos) (tC .non):=fun _ _ _ H _ I h=>Constant_none ⟨.non,H,I,rfl,h⟩
theorem pe_str {x j pos}:PE X (.Constant (.str x) j pos) (tC (.str x)):=fun _ _ _ H _ I h=>Calls.Constant_str ⟨.str x,H,I.tok _,⟨_,rfl⟩,h⟩
def Gl (X:Cx) (x:Str):Prop:=X.env.kindOf x = some .globalImplicit
theorem ld_glob {E:Value→Shared→Prop}{pins:List (Addr × Obj)}{s:Shared}{σ:St}{H:Hp}{x:Str}{u:Value}{pos:Pos}{Q:Value→Shared→Prop}(I:Inv X pins σ H s) (hg:Gl X x) (hm:X.mg x = some u) (h:Q u s)
  (hd:(x == ("__debug__" : Str)) = false:=by decide):wpAny (model X.prog X.w) X.A (eval (.Name x pos) X.env) Q E s:=
 Calls.Name_function_global I.ok.kind hg (Calls.loadGlobal_global (by rw [I.ok.glob];exact I.mod.glob.keeps I.bk) hm h) hd
theorem ld_blt {E:Value→Shared→Prop}{pins:List (Addr × Obj)}{s:Shared}{σ:St}{H:Hp}{x:Str}{u:Value}{pos:Pos}{Q:Value→Shared→Prop}(I:Inv X pins σ H s) (hg:Gl X x) (hm:X.mg x = none) (hv:bootBuiltins x = some u) (h:Q u s)
  (hn:x≠ "__name__" := by decide) (hd:(x == ("__debug__" : Str)) = false:=by decide):wpAny (model X.prog X.w) X.A (eval (.Name x pos) X.env) Q E s:=by
 obtain ⟨mb,h1,h2⟩:=I.mod.blt
 exact Calls.Name_function_global I.ok.kind hg (Calls.loadGlobal_builtin (by rw [I.ok.glob];exact I.mod.glob.keeps I.bk) hm (by rw [I.ok.blt];exact h1.keeps I.bk) ((h2 x hn).trans hv) h) hd
theorem pe_glob {x:Str}{v:V}{u:Value}{pos:Pos}(hg:Gl X x) (hm:X.mg x = some u) (r:RelV v u) (hd:(x == ("__debug__" : Str)) = false:=by decide):PE X (.Name x pos) (tC v):=
 fun _ _ _ H _ I h=>ld_glob I hg hm ⟨v,H,I,r,h⟩ hd
theorem pe_bltn {x:Str}{v:V}{u:Value}{pos:Pos}(hg:Gl X x) (hm:X.mg x = none) (hv:bootBuiltins x = some u) (r:RelV v u) (hn:x≠ "__name__" := by decide) (hd:(x == ("__debug__" : Str)) = false:=by decide):PE X (.Name x pos) (tC v):=
 fun _ _ _ H _ I h=>ld_blt I hg hm hv ⟨v,H,I,r,h⟩ hn hd
variable {a b:Expr}{ta tb:TE}{pos:Pos}
def tB (t:TE):TT:=fun σ H Q=>t σ H fun x H1=>∃ c,x = .bl c∧Q c H1
theorem pt_val {e:Expr}{t:TE}(h:PE X e t) (he:∀ whole,isTrue e X.env whole = (do let v ← whole;standAt e.pos;holding [v] (truthy v)):=by intro _;rfl):PT X e (tB t):=by
 intro pins s σ H Q I hw
 refine isTrue_plain (thn (h pins s σ H _ I hw) fun v s1 ⟨x,H1,I1,r1,q1⟩=>?_) (he _)
 obtain ⟨d,rfl,q⟩:=q1
 cases r1
 exact wpAny_truthy_bool ⟨H1,I1,q⟩
variable {tA tB' : TT} {rest:List Expr}
def tOr (t u:TT):TT:=fun σ H Q=>t σ H fun c H1=>if c = true then Q true H1 else u σ H1 Q
def tNot (t:TT):TT:=fun σ H Q=>t σ H fun c H1=>Q (!c) H1
theorem pw_or1 (ha:PT X a tA):PW X (.BoolOp .Or [a] pos) tA:=by
 intro wh pins s σ H Q I h
 refine isTrue_or (thn (ha pins s σ H Q I h) fun c s1 e=>?_)
 cases c with
 | false=>exact isTrue_or_nil e
 | true=>exact e
theorem pw_or (ha:PT X a tA) (hb:PW X (.BoolOp .Or (b :: rest) pos) tB'):PW X (.BoolOp .Or (a :: b :: rest) pos) (tOr tA tB'):=by
 intro wh pins s σ H Q I h
 refine isTrue_or (thn (ha pins s σ H _ I h) fun c s1 ⟨H1,I1,q1⟩=>?_)
 cases c with
 | true=>exact ⟨H1,I1,q1⟩
 | false=>exact hb wh pins s1 σ H1 Q I1 q1
theorem pt_not (ha:PT X a tA):PT X (.UnaryOp .Not a pos) (tNot tA):=by
 intro pins s σ H Q I h
 exact isTrue_not (ha pins s σ H (fun c H1=>Q (!c) H1) I h)
def tAndV (ta tb:TE):TE:=fun σ H Q=>ta σ H fun x H1=>∃ c,x = .bl c∧if c = true then tb σ H1 Q else Q (.bl false) H1
def tNotV (ta:TE):TE:=fun σ H Q=>ta σ H fun x H1=>∃ c,x = .bl c∧Q (.bl (!c)) H1
theorem pe_one {op} {t:TE}(h:PE X a t):PE X (.BoolOp op [a] pos) t:=fun pins s σ H Q I hw=>BoolOp_one (h pins s σ H Q I hw)
theorem pe_and (ha:PE X a ta) (hb:PE X (.BoolOp .And (b :: rest) pos) tb):PE X (.BoolOp .And (a :: b :: rest) pos) (tAndV ta tb):=by
 intro pins s σ H Q I h
 refine BoolOp_and (thn (ha pins s σ H _ I h) fun v s1 ⟨x,H1,I1,r1,q1⟩=>?_)
 obtain ⟨c,rfl,q1⟩:=q1
 cases r1
 refine wpAny_truthy_bool ?_
 cases c with
 | true=>exact hb pins s1 σ H1 Q I1 q1
 | false=>exact ⟨.bl false,H1,I1,rfl,q1⟩
theorem pe_not (ha:PE X a ta):PE X (.UnaryOp .Not a pos) (tNotV ta):=by
 intro pins s σ H Q I h
 refine UnaryOp_ (thn (ha pins s σ H _ I h) fun v s1 ⟨x,H1,I1,r1,q1⟩=>?_)
 obtain ⟨c,rfl,q1⟩:=q1
 cases r1
 exact not_of (wpAny_truthy_bool ⟨.bl (!c),H1,I1,rfl,q1⟩)
def tIf (t:TT) (ta tb:TE):TE:=fun σ H Q=>t σ H fun c H1=>if c = true then ta σ H1 Q else tb σ H1 Q
theorem pe_ifExp {c:Expr}(hc:PT X c tA) (ha:PE X a ta) (hb:PE X b tb):PE X (.IfExp c a b pos) (tIf tA ta tb):=by
 intro pins s σ H Q I h
 refine wpAny_IfExp (thn (hc pins s σ H _ I h) fun d s1 ⟨H1,I1,q1⟩=>?_)
 cases d with
 | true=>exact ha pins s1 σ H1 Q I1 q1
 | false=>exact hb pins s1 σ H1 Q I1 q1
end
end L2
namespace L2
open PySem PySem.Spec PyProof.Rows
def SqL (K:PySem.W.Frag) (H:Hp) (a:Addr) (xs:List V):Prop:=
 Rd H a (.lst xs)∨
  ∃ (o:Obj) (its:Array Value) (n:Nat),K.lookup a = some o∧o.cls = .type "list" ∧ o.dict = none∧o.data = .seq its n∧its.size≤sizeLine∧Vals xs its.toList
def SqT (K:PySem.W.Frag) (H:Hp) (a:Addr) (xs:List V):Prop:=
 Rd H a (.tup xs)∨
  ∃ (o:Obj) (its:Array Value) (n:Nat),K.lookup a = some o∧o.cls = .type "tuple" ∧ o.data = .seq its n∧its.size≤sizeLine∧Vals xs its.toList
def absV:Value→Option V
 | .none=>some .non
 | .bool b=>some (.bl b)
 | .int i _=>some (.int i)
 | .str x _=>some (.str x)
 | .bytes b _=>some (.byt b)
 | .float b _=>some (.flt b)
 | .ref a=>some (.ref a)
 | .type n=>some (.ty n)
 | _=>none
theorem RelV.abs {x:V}{u:Value}(r:RelV x u):absV u = some x:=by
 cases x with
 | non=>cases r;rfl
 | bl _=>cases r;rfl
 | int _=>obtain ⟨t,rfl⟩:=r;rfl
 | str _=>obtain ⟨t,rfl⟩:=r;rfl
 | byt _=>obtain ⟨t,rfl⟩:=r;rfl
 | flt _=>obtain ⟨t,rfl⟩:=r;rfl
 | ref _=>cases r;rfl
 | ty _=>cases r;rfl
theorem RelV.inj {x y:V}{u:Value}(r:RelV x u) (q:RelV y u):x = y:=Option.some.inj (r.abs.symm.trans q.abs)
theorem Vals.inj:∀ {xs ys:List V}{us:List Value},Vals xs us→Vals ys us→xs = ys
 | _,_,_,.nil,.nil=>rfl
 | _,_,_,.cons r t,.cons r' t' => by rw [r.inj r',Vals.inj t t']
section
variable {X:Cx}{pins:List (Addr × Obj)}{σ:St}{H:Hp}{s:Shared}{a:Addr}{xs ys:List V}
theorem SqL.of {K:PySem.W.Frag}(h:H a = some (.lst xs)):SqL K H a xs:=.inl (.inl h)
theorem SqT.of {K:PySem.W.Frag}(h:H a = some (.tup xs)):SqT K H a xs:=.inl (.inl h)
theorem Inv.list (I:Inv X pins σ H s) (h:SqL X.K H a xs):∃ its:List Value,Vals xs its∧PlainL s.heap a its.toArray∧xs.length≤sizeLine:=by
 rcases h with h | ⟨o,its,n,hk,hc,hd,hs,hz,r⟩
 ·obtain ⟨z,its,n,r,e⟩:=h.ok I.hok
  exact ⟨its,r,⟨_,n,e,rfl,rfl,rfl⟩,z⟩
 ·refine ⟨its.toList,r,⟨o,n,I.kIn a o hk,hc,hd,by simpa using hs⟩,?_⟩
  have e:=r.length
  simp only [Array.length_toList] at e
  omega
theorem Inv.tuple (I:Inv X pins σ H s) (h:SqT X.K H a xs):∃ its:List Value,Vals xs its∧IsTup s.heap a its.toArray∧xs.length≤sizeLine:=by
 rcases h with h | ⟨o,its,n,hk,hc,hs,hz,r⟩
 ·obtain ⟨z,its,r,p,_⟩:=h.ok I.hok
  exact ⟨its,r,p,z⟩
 ·refine ⟨its.toList,r,⟨o,I.kIn a o hk,hc,n,by simpa using hs⟩,?_⟩
  have e:=r.length
  simp only [Array.length_toList] at e
  omega
theorem Inv.list_inj (I:Inv X pins σ H s) (h:SqL X.K H a xs) (h' : SqL X.K H a ys):xs = ys:=by
 obtain ⟨its,r,⟨o,n,e,_,_,d⟩,_⟩:=I.list h
 obtain ⟨its',r',⟨o',n',e',_,_,d'⟩,_⟩:=I.list h'
 rw [e] at e';cases e'
 rw [d] at d'
 injection d' with d1 _
 have:its = its' := by simpa using congrArg Array.toList d1
 subst this
 exact r.inj r'
theorem Inv.tuple_inj (I:Inv X pins σ H s) (h:SqT X.K H a xs) (h' : SqT X.K H a ys):xs = ys:=by
 obtain ⟨its,r,⟨o,e,_,n,d⟩,_⟩:=I.tuple h
 obtain ⟨its',r',⟨o',e',_,n',d'⟩,_⟩:=I.tuple h'
 rw [e] at e';cases e'
 rw [d] at d'
 injection d' with d1 _
 have:its = its' := by simpa using congrArg Array.toList d1
 subst this
 exact r.inj r'
end
abbrev Cx.wish (X:Cx) (E:Value→Shared→Prop):Cx:={ X with xe:=E }
abbrev Cx.nox (X:Cx):Cx:=X.wish fun _ _=>False
theorem Cx.Ok.wish {X:Cx}(ok:X.Ok) (E:Value→Shared→Prop):(X.wish E).Ok:=
 ⟨ok.mod,ok.kind,ok.glob,ok.blt,ok.above,ok.inj,ok.has,ok.cab,ok.hd,ok.frames,ok.stk,ok.exf,ok.bs,ok.bsz,ok.noex,ok.exfs,ok.funs,ok.frf⟩
theorem Cx.Ok.unwish {X:Cx}{E:Value→Shared→Prop}(ok:(X.wish E).Ok):X.Ok:=
 ⟨ok.mod,ok.kind,ok.glob,ok.blt,ok.above,ok.inj,ok.has,ok.cab,ok.hd,ok.frames,ok.stk,ok.exf,ok.bs,ok.bsz,ok.noex,ok.exfs,ok.funs,ok.frf⟩
section
variable {X:Cx}{pins:List (Addr × Obj)}{σ:St}{H:Hp}{s:Shared}{E:Value→Shared→Prop}
theorem Inv.wish (I:Inv X pins σ H s) (E:Value→Shared→Prop):Inv (X.wish E) pins σ H s:=⟨I.ok.wish E,I.os,I.bare,I.base,I.loc,I.cell,I.free,I.freeC,I.pin,I.hok,I.len⟩
theorem Inv.unwish (I:Inv (X.wish E) pins σ H s):Inv X pins σ H s:=⟨I.ok.unwish,I.os,I.bare,I.base,I.loc,I.cell,I.free,I.freeC,I.pin,I.hok,I.len⟩
theorem SP.unwish {D:Ends}{f:Flow}{s' : Shared} (h:SP (X.wish E) pins D f s'):SP X pins D f s' := by
 cases f with
 | next=>obtain ⟨σ',H',I,q⟩:=h;exact ⟨σ',H',I.unwish,q⟩
 | brk=>obtain ⟨σ',H',I,q⟩:=h;exact ⟨σ',H',I.unwish,q⟩
 | cont=>obtain ⟨σ',H',I,q⟩:=h;exact ⟨σ',H',I.unwish,q⟩
 | ret u=>obtain ⟨v,σ',H',I,r,q⟩:=h;exact ⟨v,σ',H',I.unwish,r,q⟩
theorem PSs.nox {st:List Stmt}{t:TS}(h:PSs X.nox st t):PSs X st t:=fun pins s σ H D I hw=>
 wpAny_mono (h pins s σ H D (I.wish _) hw) (fun _ _ q=>q.unwish) fun _ _ z=>False.elim z
end
section
variable {X:Cx}{st:Stmt}{rest:List Stmt}{t u:TS}{e:Expr}{te:TE}{pos:Pos}
def tNext:TS:=fun D σ H=>D.nx σ H
def tSeq (t u:TS):TS:=fun D σ H=>t { D with nx:=u D } σ H
theorem pss_nil:PSs X [] tNext:=fun _ _ σ H _ I h=>wpAny_execs_nil ⟨σ,H,I,h⟩
theorem pss_cons (h1:PS X st t) (h2:PSs X rest u):PSs X (st :: rest) (tSeq t u):=by
 intro pins s σ H D I h
 refine wpAny_execs_cons (thn (h1 pins s σ H { D with nx:=u D } I h) fun f s1 q=>?_)
 cases f with
 | next=>
  obtain ⟨σ',H',I',q⟩:=q
  exact h2 pins s1 σ' H' D I' q
 | ret v=>exact q
 | brk=>exact q
 | cont=>exact q
theorem pss_one (h1:PS X st t):PSs X [st] t:=by
 intro pins s σ H D I h
 refine wpAny_execs_cons (thn (h1 pins s σ H D I h) fun f s1 q=>?_)
 cases f with
 | next=>exact wpAny_execs_nil q
 | ret v=>exact q
 | brk=>exact q
 | cont=>exact q
theorem Inv.quiet {pins:List (Addr × Obj)}{σ:St}{H:Hp}{s:Shared}(I:Inv X pins σ H s):interactive X.env = false:=by simp [interactive,I.ok.kind]
def tDrop (te:TE):TS:=fun D σ H=>te σ H fun _ H1=>D.nx σ H1
theorem ps_expr (he:PE X e te) (hs:swapsWith e none pos.line X.env = pure false:=by rfl):PS X (.Expr e pos) (tDrop te):=by
 intro pins s σ H D I h
 exact wpAny_Expr_any (thn (he pins s σ H _ I h) fun v s1 ⟨x,H1,I1,r1,q1⟩=>⟨σ,H1,I1,q1⟩) I.quiet hs
def tRet (te:TE):TS:=fun D σ H=>te σ H D.rt
theorem ps_ret (he:PE X e te):PS X (.Return (some e) pos) (tRet te):=by
 intro pins s σ H D I h
 exact wpAny_Return_some (thn (he pins s σ H _ I h) fun v s1 ⟨x,H1,I1,r1,q1⟩=>⟨x,σ,H1,I1,r1,q1⟩)
def tIfS (c:TT) (t u:TS):TS:=fun D σ H=>c σ H fun b H1=>if b = true then t D σ H1 else u D σ H1
theorem ps_if {c:Expr}{a b:List Stmt}{tc:TT}(hc:PT X c tc) (ha:PSs X a t) (hb:PSs X b u):PS X (.If c a b pos) (tIfS tc t u):=by
 intro pins s σ H D I h
 refine wpAny_If (thn (hc pins s σ H _ I h) fun d s1 ⟨H1,I1,q1⟩=>?_)
 cases d with
 | true=>exact ha pins s1 σ H1 D I1 q1
 | false=>exact hb pins s1 σ H1 D I1 q1
def tNever:TS:=fun _ _ _=>False
theorem pss_never {sts:List Stmt}:PSs X sts tNever:=fun _ _ _ _ _ _ h=>h.elim
end
abbrev TG:=V→St→Hp→(St→Hp→Prop)→Prop
abbrev TGs:=List V→St→Hp→(St→Hp→Prop)→Prop
def PG (X:Cx) (target:Expr) (t:TG):Prop:=
 ∀ (pins:List (Addr × Obj)) (s:Shared) (σ:St) (H:Hp) (v:V) (u:Value) (Q:St→Hp→Prop),Inv X pins σ H s→RelV v u→t v σ H Q→
  wpAny (model X.prog X.w) X.A (assign target X.env u) (fun _ s' => ∃ σ' H',Inv X pins σ' H' s' ∧ Q σ' H') X.xe s
def PGs (X:Cx) (ts:List Expr) (t:TGs):Prop:=
 ∀ (pins:List (Addr × Obj)) (s:Shared) (σ:St) (H:Hp) (vs:List V) (us:List Value) (Q:St→Hp→Prop),Inv X pins σ H s→Vals vs us→t vs σ H Q→
  wpAny (model X.prog X.w) X.A (assignInOrder ((assignEach ts X.env).map (·.2)) us) (fun _ s' => ∃ σ' H',Inv X pins σ' H' s' ∧ Q σ' H') X.xe s
abbrev TSet:=V→V→V→Hp→(Hp→Prop)→Prop
def PSet (X:Cx) (t:TSet):Prop:=
 ∀ (pins:List (Addr × Obj)) (s:Shared) (σ:St) (H:Hp) (o i v:V) (ov iv u:Value) (Q:Hp→Prop),Inv X pins σ H s→RelV o ov→RelV i iv→RelV v u→t o i v H Q→
  wpAny (model X.prog X.w) X.A (setItem ov iv u) (fun _ s' => ∃ H',Inv X pins σ H' s' ∧ Q H') X.xe s
section
variable {X:Cx}{pos:Pos}
def gName (i:Nat):TG:=fun v σ H Q=>Q (σ.set i (some v)) H
theorem pg_name {i:Nat}{x:Str}(hN:X.N.Nodup) (hi:X.N[i]? = some x) (hx:Loc X.env.scope x) (hf:X.fn x = true∨X.env.scope.names.lookup x = some .local:=by first | exact .inl rfl | exact .inr rfl | assumption):PG X (.Name x pos) (gName i):=by
 intro pins s σ H v u Q I r h
 exact wpAny_assign_Name (store_ok I hN hi hx r (fun s' I' => ⟨_,H,I',h⟩) hf)
def gNil:TGs:=fun vs σ H Q=>vs = []∧Q σ H
def gCons (t:TG) (u:TGs):TGs:=fun vs σ H Q=>∃ v r,vs = v :: r∧t v σ H fun σ' H' => u r σ' H' Q
theorem pgs_nil:PGs X [] gNil:=by
 intro pins s σ H vs us Q I r h
 obtain ⟨e,h⟩:=h
 subst e
 cases r
 exact assignInOrder_nil ⟨σ,H,I,h⟩
theorem pgs_cons {e:Expr}{es:List Expr}{t:TG}{u:TGs}(h1:PG X e t) (h2:PGs X es u)
  (hs:(assignEach (e :: es) X.env).map (·.2) = assign e X.env :: (assignEach es X.env).map (·.2):=by rfl):PGs X (e :: es) (gCons t u):=by
 intro pins s σ H vs us Q I r h
 obtain ⟨v,vr,e1,h⟩:=h
 subst e1
 cases r with
 | cons r rr=>
  rw [hs]
  refine assignInOrder_cons (thn (h1 pins s σ H _ _ _ I r h) fun _ s1 ⟨σ1,H1,I1,q1⟩=>?_)
  exact h2 pins s1 σ1 H1 _ _ Q I1 rr q1
def gTup (K:PySem.W.Frag) (n:Nat) (t:TGs):TG:=fun v σ H Q=>∃ a xs,v = .ref a∧SqT K H a xs∧xs.length = n∧t xs σ H Q
theorem pg_tup {es:List Expr}{k:Nat}{t:TGs}{n:Nat}(hc:X.calm = true) (h:PGs X es t)
  (hn:(assignEach es X.env).length = n:=by rfl) (hst:(assignEach es X.env).findIdx? (·.1) = none:=by rfl):PG X (.Tuple es k pos) (gTup X.K n t):=by
 intro pins s σ H v u Q I r hw
 obtain ⟨a,xs,e1,hq,hl,hw⟩:=hw
 subst e1
 cases r
 obtain ⟨its,rv,ht,hz⟩:=I.tuple hq
 refine assign_Tuple_tuple (I.ok.hd hc) ht (by simp [hn,← hl,rv.length]) hst fun h' hx=>?_
 have I1:Inv X pins σ H { s with heap:=h' }:=I.kept (t' := s.toks) fun b o e=>hx b o (Nat.ne_of_lt (Heap.lt_size e)) e
 exact h pins _ σ H xs _ Q I1 (by simpa using rv) hw
def gSub (to ti:TE) (t:TSet):TG:=fun v σ H Q=>to σ H fun o H1=>ti σ H1 fun i H2=>t o i v H2 fun H3=>Q σ H3
theorem pg_sub {o i:Expr}{to ti:TE}{t:TSet}(ho:PE X o to) (hi:PE X i ti) (hs:PSet X t)
  (ha:∀ v,assign (.Subscript o i pos) X.env v = (do
   let ov ← holding [v] (eval o X.env)
   let iv ← holding [v,ov] (eval i X.env)
   standAt pos
   holding [v,ov,iv] (setItem ov iv v)
   release [v,ov,iv] []):=by intro _;rfl):PG X (.Subscript o i pos) (gSub to ti t):=by
 intro pins s σ H v u Q I r h
 rw [ha]
 refine wpAny_bind (wpAny_holding (thn (ho pins s σ H _ I h) fun ov s1 ⟨x,H1,I1,r1,q1⟩=>?_))
 refine wpAny_bind (wpAny_holding (thn (hi pins s1 σ H1 _ I1 q1) fun iv s2 ⟨y,H2,I2,r2,q2⟩=>?_))
 refine wpAny_bind (wpAny_standAt (wpAny_bind (wpAny_holding (thn (hs pins s2 σ H2 x y v ov iv u _ I2 r1 r2 r q2) fun _ s3 ⟨H3,I3,q3⟩=>?_))))
 exact wpAny_release ⟨σ,H3,I3,q3⟩
def tAsg (te:TE) (g:TG):TS:=fun D σ H=>te σ H fun x H1=>g x σ H1 D.nx
theorem ps_asg {tg e:Expr}{te:TE}{g:TG}(he:PE X e te) (hg:PG X tg g) (hs:swapsWithSole [tg] e pos.line X.env = pure false:=by rfl) (hw:swappedStores [tg] e X.env = pure none:=by rfl)
  (h1:(assignEach [tg] X.env).map (·.2) = [assign tg X.env]:=by rfl):PS X (.Assign [tg] e pos) (tAsg te g):=by
 intro pins s σ H D I h
 refine wpAny_Assign_stores (thn (he pins s σ H _ I h) fun v s1 ⟨x,H1,I1,r1,q1⟩=>?_) hs hw
 rw [h1]
 exact thn (hg pins s1 σ H1 x v _ I1 r1 q1) fun _ s2 q=>q
theorem ps_set {i:Nat}{x:Str}{e:Expr}{te:TE}{pos' : Pos} (hN:X.N.Nodup) (hi:X.N[i]? = some x) (hx:Loc X.env.scope x) (he:PE X e te) (hs:swapsWith e (some (.Name x pos')) pos.line X.env = pure false:=by rfl) (hf:X.fn x = true∨X.env.scope.names.lookup x = some .local:=by first | exact .inl rfl | exact .inr rfl | assumption):
  PS X (.Assign [.Name x pos'] e pos) (tAsg te (gName i)):=by
 intro pins s σ H D I h
 refine wpAny_Assign_Name (thn (he pins s σ H _ I h) fun v s1 ⟨y,H1,I1,r1,q1⟩=>?_) hs
 exact store_ok I1 hN hi hx r1 (fun s2 I2=>⟨_,H1,I2,q1⟩) hf
end
section
variable {X:Cx}{pos:Pos}
def tWhile (c:TT) (tb:TS):TS:=fun D σ H=>∃ W:Nat→St→Hp→Prop,(∃ m,W m σ H)∧∀ m σ H,W m σ H→
 c σ H fun b H1=>if b = true then ∃ N:St→Hp→Prop,(∀ σ' H',N σ' H' → ∃ m',m' < m∧W m' σ' H')∧tb { D with nx:=N,ct:=N,bk:=D.nx } σ H1 else D.nx σ H1
theorem ps_while {c:Expr}{body:List Stmt}{tc:TT}{tb:TS}(hp:PassesOwn (model X.prog X.w) X.A X.env X.xe) (hc:PT X c tc) (hb:PSs X body tb):PS X (.While c body [] pos) (tWhile tc tb):=by
 intro pins s σ H D I h
 obtain ⟨W,⟨m0,w0⟩,turn⟩:=h
 refine wpAny_While (codeAny_whileLoop (fun n s' => ∃ σ' H',Inv X pins σ' H' s' ∧ W n σ' H') ?_ m0 ⟨σ,H,I,w0⟩)
 rintro n s1 ⟨σ1,H1,I1,w1⟩
 refine wpAny_passesOwn hp (thn (hc pins s1 σ1 H1 _ I1 (turn n σ1 H1 w1)) fun b s2 ⟨H2,I2,q2⟩=>?_)
 cases b with
 | true=>
  obtain ⟨N,hN,q2⟩:=q2
  rw [if_pos rfl]
  refine wpAny_passesOwn hp (thn (hb pins s2 σ1 H2 _ I2 q2) fun f s3 q3=>?_)
  cases f with
  | next=>
   obtain ⟨σ3,H3,I3,n3⟩:=q3
   obtain ⟨m',hm,w3⟩:=hN σ3 H3 n3
   exact ⟨m',hm,σ3,H3,I3,w3⟩
  | cont=>
   obtain ⟨σ3,H3,I3,n3⟩:=q3
   obtain ⟨m',hm,w3⟩:=hN σ3 H3 n3
   exact ⟨m',hm,σ3,H3,I3,w3⟩
  | brk=>exact q3
  | ret v=>exact q3
 | false=>
  rw [if_neg Bool.false_ne_true]
  exact wpAny_execs_nil ⟨σ1,H2,I2,q2⟩
end
structure It where
 go:Nat→Hp→Prop
 yld:Nat→Hp→V→Hp→Prop
 stop:Nat→Hp→Prop
def FpOk (X:Cx) (pins:List (Addr × Obj)) (H:Hp) (b:Addr):Prop:=
 H b = none∧b≠X.env.locals∧b ∉ X.fs∧(b∈X.ex∨X.s₀.heap.objs.size≤b)∧(∀ x c,X.env.cells.lookup x = some c→c≠b)∧∀ p∈X.pn ++ pins,p.1≠b
theorem Inv.fpOk {X:Cx}{pins:List (Addr × Obj)}{σ:St}{H H' : Hp} {s:Shared}{b:Addr}(I:Inv X pins σ H s) (hb:s.heap.objs.size≤b) (hn:H' b = none):FpOk X pins H' b:=by
 refine ⟨hn,Nat.ne_of_gt (Nat.lt_of_lt_of_le I.lt hb),I.nofs hb,.inr (Nat.le_trans I.sz hb),fun x c e z=>?_,fun p hp z=>?_⟩
 ·obtain ⟨v,q⟩:=I.cell x c e
  exact absurd (Nat.lt_of_lt_of_le q.lt (by rw [z];exact hb)) (Nat.lt_irrefl _)
 ·exact absurd (Nat.lt_of_lt_of_le (Heap.lt_size (I.pin p hp).1) (by rw [z];exact hb)) (Nat.lt_irrefl _)
structure Turn (P:Program) (w:World) (K:PySem.W.Frag) (tg:Expr) (J:It) (fp:List Addr) (it:Addr) (tn:Nat→Heap→Prop):Prop where
 mem:it∈fp
 obj:∀ i h,tn i h→∀ b∈fp,∃ o,h.get? b = some o∧∀ v,o.data≠.cell v
 keep:∀ i h h',tn i h→(∀ b∈fp,∀ o,h.get? b = some o→h'.get? b = some o)→tn i h'
 item:∀ (X:Cx),X.prog = P→X.w = w→X.K = K→X.calm = true→∀ (i:Nat) (pins:List (Addr × Obj)) (s:Shared) (σ:St) (H:Hp) (E:Value→Shared→Prop),Inv X pins σ H s→(∀ b∈fp,FpOk X pins H b)→tn i s.heap→J.go i H→
  wpAny (model P w) X.A (pyNext (.ref it)) (fun r s1=>∃ u,r = some u∧
   wpAny (model P w) X.A (letOwnedTupleGo tg (.ref it) u) (fun _ s2=>∃ x H',Inv X pins σ H' s2∧RelV x u∧J.yld i H x H' ∧ tn (i + 1) s2.heap∧∀ b∈fp,H' b = none) E s1) E s
 done:∀ (X:Cx),X.prog = P→X.w = w→X.K = K→X.calm = true→∀ (i:Nat) (pins:List (Addr × Obj)) (s:Shared) (σ:St) (H:Hp) (E:Value→Shared→Prop),Inv X pins σ H s→(∀ b∈fp,FpOk X pins H b)→tn i s.heap→J.stop i H→
  wpAny (model P w) X.A (pyNext (.ref it)) (fun r s1=>r = none∧Inv X pins σ H s1) E s
 self:∀ (A:Around) (i:Nat) (s:Shared) (Q:Value→Shared→Prop) (E:Value→Shared→Prop),tn i s.heap→Q (.ref it) s→wpAny (model P w) A (pyIter (.ref it)) Q E s
abbrev TI:=St→Hp→(It→Hp→Prop)→Prop
def PIE (X:Cx) (pins:List (Addr × Obj)) (σ:St) (tg:Expr) (R:It→Hp→Prop) (itv:Value) (s2:Shared):Prop:=
 ∃ (it:Addr) (fp:List Addr) (tn:Nat→Heap→Prop) (J:It) (H' : Hp),itv = .ref it∧Inv X pins σ H' s2∧Turn X.prog X.w X.K tg J fp it tn∧tn 0 s2.heap∧(∀ b∈fp,FpOk X pins H' b)∧R J H'
def PI (X:Cx) (tg iter:Expr) (wi:TI):Prop:=
 ∀ (pins:List (Addr × Obj)) (s:Shared) (σ:St) (H:Hp) (R:It→Hp→Prop),Inv X pins σ H s→wi σ H R→
  wpAny (model X.prog X.w) X.A (eval iter X.env) (fun v s1=>wpAny (model X.prog X.w) X.A (pyIter v) (PIE X pins σ tg R) X.xe s1) X.xe s
theorem go_of {M:Model}{A:Around}{E:Value→Shared→Prop}{s:Shared}{tg:Expr}{it:Addr}{u:Value}{o:Obj}{n:String}{vs:Array Value}{Q:Unit→Shared→Prop}(ho:s.heap.get? it = some o) (hc:o.cls = .type n) (hd:o.data = .fields vs)
  (hn:["enumerate", "zip", "dict_itemiterator", "dict_reverseitemiterator", "odict_iterator", "itertools.zip_longest", "itertools.pairwise"].contains n = false) (hQ:Q () s):wpAny M A (letOwnedTupleGo tg (.ref it) u) Q E s:=by
 unfold letOwnedTupleGo
 cases tg <;> first
  | exact wpAny_pure hQ
  | (cases u <;> first
    | exact wpAny_pure hQ
    | (refine wpAny_bind (wpAny_load ho ?_);rw [hc,hd];show wpAny M A (if (["enumerate", "zip", "dict_itemiterator", "dict_reverseitemiterator", "odict_iterator", "itertools.zip_longest", "itertools.pairwise"].contains n && vs[0]? == some (rawInt _)) = true then _ else _) Q E s;rw [if_neg (by intro h;rw [hn,Bool.false_and] at h;cases h)];exact wpAny_pure hQ))
def Itl (K:PySem.W.Frag) (a:Addr):It:=
 ⟨fun i H=>∃ xs x,SqL K H a xs∧xs[i]? = some x,fun i H x H' => H' = H∧∀ xs,SqL K H a xs→xs[i]? = some x,fun i H=>∃ xs,SqL K H a xs∧xs.length≤i⟩
def Itt (K:PySem.W.Frag) (a:Addr):It:=
 ⟨fun i H=>∃ xs x,SqT K H a xs∧xs[i]? = some x,fun i H x H' => H' = H∧∀ xs,SqT K H a xs→xs[i]? = some x,fun i H=>∃ xs,SqT K H a xs∧xs.length≤i⟩
def Itr (lo:Int) (n:Nat):It:=⟨fun i _=>i < n,fun i H x H' => H' = H∧x = .int (lo + i),fun i _=>n≤i⟩
theorem turn_list {P:Program}{w:World}{K:PySem.W.Frag}{tg:Expr}(a it:Addr):Turn P w K tg (Itl K a) [it] it (fun i h=>h.IsListIter it a i) where
 mem:=by simp
 obj:=fun i h st b hb=>by
  have e:b = it:=by simpa using hb
  subst e
  obtain ⟨o,e,c,d⟩:=st
  exact ⟨o,e,fun v z=>by rw [d] at z;cases z⟩
 keep:=fun i h h' st k=>st.at fun o e=>k it (by simp) o e
 item:=by
  intro X hP hw hK hc i pins s σ H E I hf st hg
  subst hP hw hK
  obtain ⟨xs,x,hq,hx⟩:=hg
  obtain ⟨its,rv,p,hz⟩:=I.list hq
  obtain ⟨u,hu,ru⟩:=rv.get hx
  obtain ⟨f0,f1,f2,f3,f4,f5⟩:=hf it (by simp)
  refine wpAny_pyNext_list_item st p.isList (x:=u) (by simpa using hu) fun h' st' sb=>?_
  have I1:Inv X pins σ H { s with heap:=h' }:=I.turned (t' := s.toks) (fun b o hb e=>(sb.2 b hb).trans e) f0 f1 f3 f4 f5
  obtain ⟨o,e,c,d⟩:=id st'
  exact ⟨u,rfl,go_of (s:={ s with heap:=h' }) e c d (by decide) ⟨x,H,I1,ru,⟨rfl,fun ys hy=>by rw [I.list_inj hy hq];exact hx⟩,st',fun b hb=>(hf b hb).1⟩⟩
 done:=by
  intro X hP hw hK hc i pins s σ H E I hf st hg
  subst hP hw hK
  obtain ⟨xs,hq,hx⟩:=hg
  obtain ⟨its,rv,p,hz⟩:=I.list hq
  obtain ⟨f0,f1,f2,f3,f4,f5⟩:=hf it (by simp)
  have hl:=rv.length
  exact wpAny_pyNext_list_end (I.ok.hd hc) st p.isList (by simp;omega) fun h' eb=>⟨rfl,I.turned (t' := s.toks) (fun b o hb e=>eb b o hb e) f0 f1 f3 f4 f5⟩
 self:=fun _ _ _ _ _ st h=>wpAny_pyIter_listiter st h
theorem turn_tuple {P:Program}{w:World}{K:PySem.W.Frag}{tg:Expr}(a it:Addr):Turn P w K tg (Itt K a) [it] it (fun i h=>h.IsTupleIter it a i) where
 mem:=by simp
 obj:=fun i h st b hb=>by
  have e:b = it:=by simpa using hb
  subst e
  obtain ⟨o,e,c,d⟩:=st
  exact ⟨o,e,fun v z=>by rw [d] at z;cases z⟩
 keep:=fun i h h' st k=>st.at fun o e=>k it (by simp) o e
 item:=by
  intro X hP hw hK hc i pins s σ H E I hf st hg
  subst hP hw hK
  obtain ⟨xs,x,hq,hx⟩:=hg
  obtain ⟨its,rv,p,hz⟩:=I.tuple hq
  obtain ⟨u,hu,ru⟩:=rv.get hx
  obtain ⟨f0,f1,f2,f3,f4,f5⟩:=hf it (by simp)
  refine wpAny_pyNext_tuple_item st (show s.heap.IsTuple a its.toArray from p) (x:=u) (by simpa using hu) fun h' st' sb=>?_
  have I1:Inv X pins σ H { s with heap:=h' }:=I.turned (t' := s.toks) (fun b o hb e=>(sb.2 b hb).trans e) f0 f1 f3 f4 f5
  obtain ⟨o,e,c,d⟩:=id st'
  exact ⟨u,rfl,go_of (s:={ s with heap:=h' }) e c d (by decide) ⟨x,H,I1,ru,⟨rfl,fun ys hy=>by rw [I.tuple_inj hy hq];exact hx⟩,st',fun b hb=>(hf b hb).1⟩⟩
 done:=by
  intro X hP hw hK hc i pins s σ H E I hf st hg
  subst hP hw hK
  obtain ⟨xs,hq,hx⟩:=hg
  obtain ⟨its,rv,p,hz⟩:=I.tuple hq
  obtain ⟨f0,f1,f2,f3,f4,f5⟩:=hf it (by simp)
  have hl:=rv.length
  exact wpAny_pyNext_tuple_end (I.ok.hd hc) st (show s.heap.IsTuple a its.toArray from p) (by simp;omega) fun h' eb=>⟨rfl,I.turned (t' := s.toks) (fun b o hb e=>eb b o hb e) f0 f1 f3 f4 f5⟩
 self:=fun _ _ _ _ _ st h=>wpAny_pyIter_tupleiter st h
theorem turn_range {P:Program}{w:World}{K:PySem.W.Frag}{tg:Expr}(it:Addr) (lo:Int) (n:Nat):Turn P w K tg (Itr lo n) [it] it (fun i h=>IsRangeIter h it (lo + (i:Nat) * 1) ((n:Int) - (i:Nat)) 1) where
 mem:=by simp
 obj:=fun i h st b hb=>by
  have e:b = it:=by simpa using hb
  subst e
  exact ⟨_,st,fun v z=>by
   have z' : Data.fields _ = Data.cell v:=z
   cases z'⟩
 keep:=fun i h h' st k=>k it (by simp) _ st
 item:=by
  intro X hP hw hK hc i pins s σ H E I hf st hg
  subst hP hw hK
  obtain ⟨f0,f1,f2,f3,f4,f5⟩:=hf it (by simp)
  have W:=Walks.range (prog:=X.prog) (w:=X.w) (I.ok.hd hc) it lo 1 n
  refine W.item i s _ _ hg st fun v h' tk hv st' kk=>?_
  obtain ⟨t,rfl⟩:=hv
  have I1:Inv X pins σ H { s with heap:=h',toks:=tk }:=I.turned (fun b o hb e=>kk b o (by simpa using hb) e) f0 f1 f3 f4 f5
  refine ⟨_,rfl,go_of (s:={ s with heap:=h',toks:=tk }) (n:= "range_iterator") st' rfl rfl (by decide) ⟨.int (lo + i),H,I1,⟨t,?_⟩,⟨rfl,rfl⟩,st',fun b hb=>(hf b hb).1⟩⟩
  rw [Int.mul_one]
 done:=by
  intro X hP hw hK hc i pins s σ H E I hf st hg
  subst hP hw hK
  obtain ⟨f0,f1,f2,f3,f4,f5⟩:=hf it (by simp)
  exact wpAny_pyNext_range_end (I.ok.hd hc) st (by have:n≤i:=hg;omega) fun h' eb=>⟨rfl,I.turned (t' := s.toks) (fun b o hb e=>eb b o hb e) f0 f1 f3 f4 f5⟩
 self:=fun _ _ _ _ _ st h=>wpAny_pyIter_rangeiter st h
end L2
namespace L2
open PySem PySem.Spec PyProof.Rows
section
variable {X:Cx}{tg:Expr}
def iList (K:PySem.W.Frag) (tl:TE):TI:=fun σ H R=>tl σ H fun x H1=>∃ a,x = .ref a∧(∃ xs,SqL K H1 a xs)∧R (Itl K a) H1
def iTup (K:PySem.W.Frag) (tl:TE):TI:=fun σ H R=>tl σ H fun x H1=>∃ a,x = .ref a∧(∃ xs,SqT K H1 a xs)∧R (Itt K a) H1
theorem pi_list {l:Expr}{tl:TE}(hl:PE X l tl):PI X tg l (iList X.K tl):=by
 intro pins s σ H R I h
 refine thn (hl pins s σ H _ I h) fun v s1 ⟨x,H1,I1,r1,q1⟩=>?_
 obtain ⟨a,e,⟨xs,hq⟩,q⟩:=q1
 subst e
 cases r1
 obtain ⟨its,rv,p,hz⟩:=I1.list hq
 refine wpAny_pyIter_list p.isList ?_
 refine ⟨s1.heap.objs.size,[s1.heap.objs.size],_,_,H1,rfl,I1.kept (t' := s1.toks) fun b o e=>Heap.get?_push_of_some _ e,turn_list a _,⟨_,Heap.get?_push_size _ rfl,rfl,rfl⟩,fun b hb=>?_,q⟩
 have e:b = s1.heap.objs.size:=by simpa using hb
 subst e
 exact I1.fpOk (Nat.le_refl _) (I1.hok.fresh (Nat.le_refl _))
theorem pi_tup {l:Expr}{tl:TE}(hl:PE X l tl):PI X tg l (iTup X.K tl):=by
 intro pins s σ H R I h
 refine thn (hl pins s σ H _ I h) fun v s1 ⟨x,H1,I1,r1,q1⟩=>?_
 obtain ⟨a,e,⟨xs,hq⟩,q⟩:=q1
 subst e
 cases r1
 obtain ⟨its,rv,p,hz⟩:=I1.tuple hq
 refine wpAny_pyIter_tuple (show s1.heap.IsTuple a its.toArray from p) ?_
 refine ⟨s1.heap.objs.size,[s1.heap.objs.size],_,_,H1,rfl,I1.kept (t' := s1.toks) fun b o e=>Heap.get?_push_of_some _ e,turn_tuple a _,⟨_,Heap.get?_push_size _ rfl,rfl,rfl⟩,fun b hb=>?_,q⟩
 have e:b = s1.heap.objs.size:=by simpa using hb
 subst e
 exact I1.fpOk (Nat.le_refl _) (I1.hok.fresh (Nat.le_refl _))
theorem range_it {pins:List (Addr × Obj)}{σ:St}{H:Hp}{s:Shared}{R:It→Hp→Prop}{E:Value→Shared→Prop}{lo hi:Int}{t u v:Tok}{tk:Nat}(I:Inv X pins σ H s) (h1:-(2 ^ 62)≤lo) (h2:lo < 2 ^ 62) (h3:-(2 ^ 62)≤hi) (h4:hi < 2 ^ 62)
  (q:R (Itr lo (hi - lo).toNat) H):wpAny (model X.prog X.w) X.A (pyIter (.ref s.heap.objs.size)) (PIE X pins σ tg R) E { s with heap:=s.heap.push { cls:=.type "range",data:=.fields #[.int lo t,.int hi u,.int 1 v] },toks:=tk }:=by
 refine wpAny_pyIter_range (IsRange.new ..) (small_one h1 h2 h3 h4) ?_
 have I1:Inv X pins σ H { s with heap:=s.heap.push { cls:=.type "range",data:=.fields #[.int lo t,.int hi u,.int 1 v] },toks:=tk }:=I.kept fun b o e=>Heap.get?_push_of_some _ e
 refine ⟨(s.heap.push { cls:=.type "range",data:=.fields #[.int lo t,.int hi u,.int 1 v] }).objs.size,[(s.heap.push { cls:=.type "range",data:=.fields #[.int lo t,.int hi u,.int 1 v] }).objs.size],_,_,H,rfl,
  I1.kept (t' := tk) fun b o e=>Heap.get?_push_of_some _ e,turn_range _ lo (hi - lo).toNat,?_,fun b hb=>?_,q⟩
 ·have e1:lo + ((0:Nat):Int) * 1 = lo:=by simp
  have e2:(((hi - lo).toNat:Nat):Int) - ((0:Nat):Int) = Builtin.Range.rangeSize lo hi 1:=by rw [rangeSize_one];split <;> omega
  show IsRangeIter _ _ (lo + ((0:Nat):Int) * 1) ((((hi - lo).toNat:Nat):Int) - ((0:Nat):Int)) 1
  rw [e1,e2]
  exact Heap.get?_push_size _ rfl
 ·have e:b = (s.heap.push { cls:=.type "range",data:=.fields #[.int lo t,.int hi u,.int 1 v] }).objs.size:=by simpa using hb
  subst e
  exact I1.fpOk (Nat.le_refl _) (I1.hok.fresh (Nat.le_refl _))
def iRng1 (ta:TA):TI:=fun σ H R=>ta σ H fun vs H1=>∃ j:Int,vs = [.int j]∧-(2 ^ 62)≤j∧j < 2 ^ 62∧R (Itr 0 j.toNat) H1
theorem pi_range1 {a:Expr}{ta:TA}{p pos:Pos}(hg:Gl X "range") (hm:X.mg "range" = none) (ha:PA X [a] ta) (hs:starEach [a] X.env = [(false,eval a X.env)]:=by rfl):PI X tg (.Call (.Name "range" p) [a] [] pos) (iRng1 ta):=by
 intro pins s σ H R I h
 refine Call_ (ld_blt I hg hm boot_range (PyProof.Rows.callWith_type1 (thn (ha pos pins s σ H _ I h) fun us s1 ⟨vs,H1,I1,r1,q1⟩=>?_) hs rfl))
 obtain ⟨j,e,q1,q2,q⟩:=q1
 subst e
 cases r1 with
 | cons r rr=>
  cases rr
  obtain ⟨t,rfl⟩:=r
  exact call_range_1 (range_it I1 (by omega) (by omega) q1 q2 (by simpa using q))
def tFor (wi:TI) (g:TG) (tb:TS):TS:=fun D σ H=>wi σ H fun J H1=>∃ W:Nat→Nat→St→Hp→Prop,(∃ m,W 0 m σ H1)∧∀ i m σ H,W i m σ H→
 (J.stop i H∧D.nx σ H)∨(J.go i H∧∃ N:St→Hp→Prop,(∀ σ' H',N σ' H' → ∃ m',m' < m∧W (i + 1) m' σ' H')∧∀ x H',J.yld i H x H' → g x σ H' fun σ2 H2=>tb { D with nx:=N,ct:=N,bk:=D.nx } σ2 H2)
def pinsAt (fp:List Addr) (h:Heap):List (Addr × Obj):=fp.filterMap fun b=>(h.get? b).map fun o=>(b,o)
theorem mem_pinsAt {fp:List Addr}{h:Heap}{b:Addr}{o:Obj}(hb:b∈fp) (e:h.get? b = some o):(b,o)∈pinsAt fp h:=List.mem_filterMap.mpr ⟨b,hb,by rw [e];rfl⟩
theorem of_pinsAt {fp:List Addr}{h:Heap}{p:Addr × Obj}(hp:p∈pinsAt fp h):p.1∈fp∧h.get? p.1 = some p.2:=by
 obtain ⟨b,hb,e⟩:=List.mem_filterMap.mp hp
 cases q:h.get? b with
 | none=>rw [q] at e;cases e
 | some o=>
  rw [q] at e
  have e' : (b,o) = p:=Option.some.inj e
  subst e'
  exact ⟨hb,q⟩
theorem Inv.pinned {pins:List (Addr × Obj)}{σ:St}{H:Hp}{s:Shared}{fp:List Addr}(I:Inv X pins σ H s) (hf:∀ b∈fp,FpOk X pins H b) (ho:∀ b∈fp,∃ o,s.heap.get? b = some o∧∀ v,o.data≠.cell v):Inv X (pins ++ pinsAt fp s.heap) σ H s:=
 I.pins_of fun p hp=>(List.mem_append.mp hp).elim (fun z=>I.pin p (List.mem_append_right _ z)) fun z=>by
  obtain ⟨hb,e⟩:=of_pinsAt z
  obtain ⟨f0,f1,f2,_⟩:=hf p.1 hb
  obtain ⟨o,e',d⟩:=ho p.1 hb
  rw [e] at e';cases e'
  exact ⟨e,f0,f1,f2,d⟩
theorem Inv.unpinned {pins pl:List (Addr × Obj)}{σ:St}{H:Hp}{s:Shared}(I:Inv X (pins ++ pl) σ H s):Inv X pins σ H s:=I.pins_of fun p hp=>I.pin p (List.mem_append_right _ (List.mem_append_left _ hp))
theorem ps_for {iter:Expr}{body:List Stmt}{wi:TI}{g:TG}{tb:TS}{pos:Pos}(hp:PassesOwn (model X.prog X.w) X.A X.env X.xe) (hc:X.calm = true) (hi:PI X tg iter wi) (hg:PG X tg g) (hb:PSs X body tb)
  (hs:∀ x,foldedSetIterable iter X.env x = pure x:=by intro _;rfl):PS X (.For tg iter body [] pos) (tFor wi g tb):=by
 intro pins s σ H D I h
 refine wpAny_For (thn (hi pins s σ H _ I h) fun v s1 h1=>thn h1 fun itv s2 h2=>?_) hs
 obtain ⟨it,fp,tn,J,H2,e,I2,T,st2,f2,W,⟨m0,w0⟩,turn⟩:=h2
 subst e
 have stat:∀ {H' : Hp},(∀ b∈fp,H' b = none)→∀ b∈fp,FpOk X pins H' b:=fun hn b hb=>⟨hn b hb,(f2 b hb).2⟩
 refine codeAny_forLoop_any (fun n s' => ∃ i σ' H',Inv X pins σ' H' s' ∧ tn i s'.heap∧(∀ b∈fp,H' b = none)∧W i n σ' H') ?_ m0 ⟨0,σ,H2,I2,st2,fun b hb=>(f2 b hb).1,w0⟩
 rintro n s3 ⟨i,σ3,H3,I3,st3,fr3,w3⟩
 rcases turn i n σ3 H3 w3 with ⟨stop,qn⟩ | ⟨go,N,hN,step⟩
 ·refine wpAny_passesOwn hp (thn (T.done X rfl rfl rfl hc i pins s3 σ3 H3 X.xe I3 (stat fr3) st3 stop) fun r s4 ⟨hr,I4⟩=>?_)
  subst hr
  exact wpAny_execs_nil ⟨σ3,H3,I4,qn⟩
 ·refine wpAny_passesOwn hp (thn (T.item X rfl rfl rfl hc i pins s3 σ3 H3 X.xe I3 (stat fr3) st3 go) fun r s4 ⟨u,hr,h4⟩=>?_)
  subst hr
  refine wpAny_passesOwn hp (thn h4 fun _ s5 ⟨x,H5,I5,r5,y5,st5,fr5⟩=>?_)
  have I5' := I5.pinned (stat fr5) (T.obj _ _ st5)
  refine wpAny_passesOwn hp (thn (hg _ s5 σ3 H5 x u _ I5' r5 (step x H5 y5)) fun _ s6 ⟨σ6,H6,I6,q6⟩=>?_)
  refine wpAny_passesOwn hp (thn (hb _ s6 σ6 H6 _ I6 q6) fun f s7 q7=>?_)
  have again:∀ {σ7:St}{H7:Hp},Inv X (pins ++ pinsAt fp s5.heap) σ7 H7 s7→N σ7 H7→∃ m,m < n∧∃ i σ' H',Inv X pins σ' H' s7∧tn i s7.heap∧(∀ b∈fp,H' b = none)∧W i m σ' H' := fun {σ7 H7} I7 n7=>by
   obtain ⟨m',hm,w7⟩:=hN σ7 H7 n7
   refine ⟨m',hm,i + 1,σ7,H7,I7.unpinned,T.keep _ _ _ st5 fun b hb o e=>(I7.pin (b,o) (List.mem_append_right _ (List.mem_append_right _ (mem_pinsAt hb e)))).1,fun b hb=>?_,w7⟩
   obtain ⟨o,e,d⟩:=T.obj _ _ st5 b hb
   exact (I7.pin (b,o) (List.mem_append_right _ (List.mem_append_right _ (mem_pinsAt hb e)))).2.1
  cases f with
  | next=>obtain ⟨σ7,H7,I7,n7⟩:=q7;exact again I7 n7
  | cont=>obtain ⟨σ7,H7,I7,n7⟩:=q7;exact again I7 n7
  | brk=>obtain ⟨σ7,H7,I7,q7⟩:=q7;exact ⟨σ7,H7,I7.unpinned,q7⟩
  | ret v=>obtain ⟨x7,σ7,H7,I7,r7,q7⟩:=q7;exact ⟨x7,σ7,H7,I7.unpinned,r7,q7⟩
end
theorem for_tup {K:PySem.W.Frag}{a:Addr}{xs:List V}{g:TG}{tb:TS}{D:Ends}{σ:St}{H:Hp}(Pv:Nat→St→Hp→Prop) (h0:Pv 0 σ H) (hl:∀ i σ H,i≤xs.length→Pv i σ H→SqT K H a xs)
  (hs:∀ i x σ H,xs[i]? = some x→Pv i σ H→g x σ H fun σ2 H2=>tb { D with nx:=Pv (i + 1),ct:=Pv (i + 1),bk:=D.nx } σ2 H2) (hd:∀ σ H,Pv xs.length σ H→D.nx σ H):
  ∃ W:Nat→Nat→St→Hp→Prop,(∃ m,W 0 m σ H)∧∀ i m σ H,W i m σ H→
   ((Itt K a).stop i H∧D.nx σ H)∨((Itt K a).go i H∧∃ N:St→Hp→Prop,(∀ σ' H',N σ' H' → ∃ m',m' < m∧W (i + 1) m' σ' H')∧∀ x H',(Itt K a).yld i H x H' → g x σ H' fun σ2 H2=>tb { D with nx:=N,ct:=N,bk:=D.nx } σ2 H2):=by
 refine ⟨fun i m σ H=>m = xs.length - i∧i≤xs.length∧Pv i σ H,⟨xs.length,by simp,Nat.zero_le _,h0⟩,?_⟩
 rintro i m σ H ⟨rfl,hi,p⟩
 have q:=hl i σ H hi p
 by_cases hlt:i < xs.length
 ·refine .inr ⟨⟨xs,xs[i],q,by simp [hlt]⟩,Pv (i + 1),fun σ' H' p' => ⟨xs.length - (i + 1),by omega,rfl,hlt,p'⟩,fun x H' y=>?_⟩
  obtain ⟨e,y⟩:=y
  subst e
  exact hs i x σ _ (y xs q) p
 ·have e:i = xs.length:=by omega
  subst e
  exact .inl ⟨⟨xs,q,Nat.le_refl _⟩,hd σ H p⟩
theorem for_range {lo:Int}{n:Nat}{g:TG}{tb:TS}{D:Ends}{σ:St}{H:Hp}(Pv:Nat→St→Hp→Prop) (h0:Pv 0 σ H)
  (hs:∀ i σ H,i < n→Pv i σ H→g (.int (lo + i)) σ H fun σ2 H2=>tb { D with nx:=Pv (i + 1),ct:=Pv (i + 1),bk:=D.nx } σ2 H2) (hd:∀ σ H,Pv n σ H→D.nx σ H):
  ∃ W:Nat→Nat→St→Hp→Prop,(∃ m,W 0 m σ H)∧∀ i m σ H,W i m σ H→
   ((Itr lo n).stop i H∧D.nx σ H)∨((Itr lo n).go i H∧∃ N:St→Hp→Prop,(∀ σ' H',N σ' H' → ∃ m',m' < m∧W (i + 1) m' σ' H')∧∀ x H',(Itr lo n).yld i H x H' → g x σ H' fun σ2 H2=>tb { D with nx:=N,ct:=N,bk:=D.nx } σ2 H2):=by
 refine ⟨fun i m σ H=>m = n - i∧i≤n∧Pv i σ H,⟨n,by simp,Nat.zero_le _,h0⟩,?_⟩
 rintro i m σ H ⟨rfl,hi,p⟩
 by_cases hlt:i < n
 ·refine .inr ⟨hlt,Pv (i + 1),fun σ' H' p' => ⟨n - (i + 1),by omega,rfl,hlt,p'⟩,fun x H' y=>?_⟩
  obtain ⟨e,y⟩:=y
  subst e y
  exact hs i σ _ hlt p
 ·have e:i = n:=by omega
  subst e
  exact .inl ⟨Nat.le_refl _,hd σ H p⟩
theorem while_by {c:TT}{tb:TS}{D:Ends}{σ:St}{H:Hp}(Pv:St→Hp→Prop) (μ:St→Hp→Nat) (h0:Pv σ H)
  (hs:∀ σ H,Pv σ H→c σ H fun b H1=>if b = true then tb { D with nx:=fun σ' H' => Pv σ' H' ∧ μ σ' H' < μ σ H,ct:=fun σ' H' => Pv σ' H' ∧ μ σ' H' < μ σ H,bk:=D.nx } σ H1 else D.nx σ H1)
  (mono:∀ σ H Q Q',(∀ b H1,Q b H1→Q' b H1)→c σ H Q→c σ H Q'):tWhile c tb D σ H:=by
 refine ⟨fun m σ H=>m = μ σ H∧Pv σ H,⟨_,rfl,h0⟩,?_⟩
 rintro m σ H ⟨rfl,p⟩
 refine mono σ H _ _ (fun b H1 q=>?_) (hs σ H p)
 cases b with
 | true=>exact ⟨_,fun σ' H' ⟨p',l⟩=>⟨_,l,rfl,p'⟩,q⟩
 | false=>exact q
end L2
namespace L2
open PySem PySem.Spec PyProof.Rows
abbrev R2:=V→V→Hp→VK→Prop
def OpR (X:Cx) (f:Value→Value→Sem Value) (r:R2):Prop:=
 ∀ (pins:List (Addr × Obj)) (s:Shared) (σ:St) (H:Hp) (x y:V) (v u:Value) (Q:VK),Inv X pins σ H s→RelV x v→RelV y u→r x y H Q→
  wpAny (model X.prog X.w) X.A (f v u) (EP X pins σ Q) X.xe s
def UnR (X:Cx) (f:Value→Sem Value) (r:V→Hp→VK→Prop):Prop:=
 ∀ (pins:List (Addr × Obj)) (s:Shared) (σ:St) (H:Hp) (x:V) (v:Value) (Q:VK),Inv X pins σ H s→RelV x v→r x H Q→
  wpAny (model X.prog X.w) X.A (f v) (EP X pins σ Q) X.xe s
def CallR (X:Cx) (f:Value) (r:List V→Hp→VK→Prop):Prop:=
 ∀ (pins:List (Addr × Obj)) (s:Shared) (σ:St) (H:Hp) (xs:List V) (us:List Value) (Q:VK),Inv X pins σ H s→Vals xs us→r xs H Q→
  wpAny (model X.prog X.w) X.A (call f us) (EP X pins σ Q) X.xe s
def tOp (r:R2) (ta tb:TE):TE:=fun σ H Q=>ta σ H fun x H1=>tb σ H1 fun y H2=>r x y H2 Q
def tUn (r:V→Hp→VK→Prop) (ta:TE):TE:=fun σ H Q=>ta σ H fun x H1=>r x H1 Q
def rI (C:Int→Int→Prop) (g:Int→Int→V):R2:=fun x y H Q=>∃ i j,x = .int i∧y = .int j∧C i j∧Q (g i j) H
def rI0 (g:Int→Int→V):R2:=fun x y H Q=>∃ i j,x = .int i∧y = .int j∧Q (g i j) H
def rU (g:Int→V):V→Hp→VK→Prop:=fun x H Q=>∃ i,x = .int i∧Q (g i) H
section
variable {X:Cx}{a b c:Expr}{ta tb tc:TE}{pos:Pos}
theorem binT (ha:PE X a ta) (hb:PE X b tb) {pins:List (Addr × Obj)}{s:Shared}{σ:St}{H:Hp}{R:V→V→Hp→Prop}(I:Inv X pins σ H s)
  (h:ta σ H fun x H1=>tb σ H1 fun y H2=>R x y H2) {Q:Value→Shared→Prop}{f:Value→Value→Sem Value}
  (hf:∀ v u s2 x y H2,Inv X pins σ H2 s2→RelV x v→RelV y u→R x y H2→wpAny (model X.prog X.w) X.A (f v u) Q X.xe s2):
  wpAny (model X.prog X.w) X.A (eval a X.env) (fun v s₁=>wpAny (model X.prog X.w) X.A (eval b X.env) (fun u s₂=>wpAny (model X.prog X.w) X.A (f v u) Q X.xe s₂) X.xe s₁) X.xe s:=by
 refine thn (ha pins s σ H _ I h) fun v s1 ⟨x,H1,I1,r1,q1⟩=>?_
 refine thn (hb pins s1 σ H1 _ I1 q1) fun u s2 ⟨y,H2,I2,r2,q2⟩=>?_
 exact hf v u s2 x y H2 I2 r1 r2 q2
theorem pe_op {op:Operator}{r:R2}(ho:OpR X (binaryOp op) r) (ha:PE X a ta) (hb:PE X b tb):PE X (.BinOp a op b pos) (tOp r ta tb):=by
 intro pins s σ H Q I h
 exact wpAny_BinOp (binT ha hb I h fun v u s2 x y H2 I2 rx ry q=>ho pins s2 σ H2 x y v u Q I2 rx ry q)
theorem pe_un {op:UnaryOp}{r:V→Hp→VK→Prop}(ho:UnR X (unaryOp op) r) (ha:PE X a ta):PE X (.UnaryOp op a pos) (tUn r ta):=by
 intro pins s σ H Q I h
 exact UnaryOp_ (thn (ha pins s σ H _ I h) fun v s1 ⟨x,H1,I1,r1,q1⟩=>ho pins s1 σ H1 x v Q I1 r1 q1)
theorem opI {f:Value→Value→Sem Value}{C:Int→Int→Prop}{g:Int→Int→Int}
  (rule:∀ (i j:Int) (t u:Tok) (s:Shared) (Q:Value→Shared→Prop) (E:Value→Shared→Prop),C i j→Q (.int (g i j) s.toks) { s with toks:=s.toks + 1 }→wpAny (model X.prog X.w) X.A (f (.int i t) (.int j u)) Q E s):
  OpR X f (rI C fun i j=>.int (g i j)):=by
 intro pins s σ H x y v u Q I rx ry h
 obtain ⟨i,j,rfl,rfl,hc,q⟩:=h
 obtain ⟨t,rfl⟩:=rx
 obtain ⟨t',rfl⟩:=ry
 exact rule i j t t' s _ _ hc ⟨.int (g i j),H,I.tok _,⟨_,rfl⟩,q⟩
theorem opI0 {f:Value→Value→Sem Value}{g:Int→Int→Int}
  (rule:∀ (i j:Int) (t u:Tok) (s:Shared) (Q:Value→Shared→Prop) (E:Value→Shared→Prop),Q (.int (g i j) s.toks) { s with toks:=s.toks + 1 }→wpAny (model X.prog X.w) X.A (f (.int i t) (.int j u)) Q E s):
  OpR X f (rI0 fun i j=>.int (g i j)):=by
 intro pins s σ H x y v u Q I rx ry h
 obtain ⟨i,j,rfl,rfl,q⟩:=h
 obtain ⟨t,rfl⟩:=rx
 obtain ⟨t',rfl⟩:=ry
 exact rule i j t t' s _ _ ⟨.int (g i j),H,I.tok _,⟨_,rfl⟩,q⟩
theorem opB0 {f:Value→Value→Sem Value}{g:Int→Int→Bool}
  (rule:∀ (i j:Int) (t u:Tok) (s:Shared) (Q:Value→Shared→Prop) (E:Value→Shared→Prop),Q (.bool (g i j)) s→wpAny (model X.prog X.w) X.A (f (.int i t) (.int j u)) Q E s):
  OpR X f (rI0 fun i j=>.bl (g i j)):=by
 intro pins s σ H x y v u Q I rx ry h
 obtain ⟨i,j,rfl,rfl,q⟩:=h
 obtain ⟨t,rfl⟩:=rx
 obtain ⟨t',rfl⟩:=ry
 exact rule i j t t' s _ _ ⟨.bl (g i j),H,I,rfl,q⟩
def CPow (i j:Int):Prop:=0≤j∧j≤1000000∧i.natAbs < 2 ^ 64
theorem op_add:OpR X (binaryOp .Add) (rI0 fun i j=>.int (i + j)):=opI0 fun _ _ _ _ _ _ _ q=>add_int q
theorem op_sub:OpR X (binaryOp .Sub) (rI0 fun i j=>.int (i - j)):=opI0 fun _ _ _ _ _ _ _ q=>sub_int q
theorem op_mod:OpR X (binaryOp .Mod) (rI (fun _ j=>0 < j) fun i j=>.int (i % j)):=opI fun i j _ _ _ _ _ hc q=>by
 have h1:(0:Int) < j:=hc
 exact mod_int' (by omega) (by rw [Int.fmod_eq_emod_of_nonneg i (by omega)];exact q)
theorem op_pow:OpR X (binaryOp .Pow) (rI CPow fun i j=>.int (i ^ j.toNat)):=opI fun _ _ _ _ _ _ _ hc q=>pow_int_small hc.1 hc.2.1 hc.2.2 q
theorem unI {f:Value→Sem Value}{g:Int→Int}
  (rule:∀ (i:Int) (t:Tok) (s:Shared) (Q:Value→Shared→Prop) (E:Value→Shared→Prop),Q (.int (g i) s.toks) { s with toks:=s.toks + 1 }→wpAny (model X.prog X.w) X.A (f (.int i t)) Q E s):
  UnR X f (rU fun i=>.int (g i)):=by
 intro pins s σ H x v Q I rx h
 obtain ⟨i,rfl,q⟩:=h
 obtain ⟨t,rfl⟩:=rx
 exact rule i t s _ _ ⟨.int (g i),H,I.tok _,⟨_,rfl⟩,q⟩
theorem un_neg:UnR X (unaryOp .USub) (rU fun i=>.int (-i)):=unI fun _ _ _ _ _ q=>neg_int q
end
def scal:V→V→Bool
 | .non,.non=>true | .non,.int _=>true | .int _,.non=>true | .non,.bl _=>true | .bl _,.non=>true | .non,.str _=>true | .str _,.non=>true
 | .int _,.int _=>true | .bl _,.bl _=>true | .str _,.str _=>true | .byt _,.byt _=>true
 | .int _,.str _=>true | .str _,.int _=>true | .bl _,.str _=>true | .str _,.bl _=>true
 | _,_=>false
def rEq:R2:=fun x y H Q=>scal x y = true∧Q (.bl (decide (x = y))) H
def rNe:R2:=fun x y H Q=>scal x y = true∧Q (.bl (!decide (x = y))) H
theorem dec_int {i j:Int}:decide (V.int i = V.int j) = (i == j):=by
 rw [Bool.eq_iff_iff]
 simp
theorem dec_bl {i j:Bool}:decide (V.bl i = V.bl j) = (i == j):=by
 rw [Bool.eq_iff_iff]
 simp
theorem dec_str {i j:Str}:decide (V.str i = V.str j) = (i == j):=by
 rw [Bool.eq_iff_iff]
 simp
theorem dec_byt {i j:Array UInt8}:decide (V.byt i = V.byt j) = (i.toList == j.toList):=by
 rw [Bool.eq_iff_iff]
 cases i
 cases j
 simp
section
variable {X:Cx}{a b c:Expr}{ta tb tc:TE}{pos:Pos}
theorem fin_bl {pins:List (Addr × Obj)}{σ:St}{H:Hp}{s:Shared}{Q:VK}{k k' : Bool} (I:Inv X pins σ H s) (q:Q (.bl k) H) (e:k = k'):EP X pins σ Q (.bool k') s:=by
 subst e
 exact ⟨.bl k,H,I,rfl,q⟩
theorem op_eq:OpR X (compareOp .Eq) rEq:=by
 intro pins s σ H x y v u Q I rx ry h
 obtain ⟨hs,q⟩:=h
 cases x with
 | non=>
  cases rx
  cases y with
  | non=>cases ry;exact PySem.EqNone.eq_none_none (fin_bl I q (by simp))
  | bl j=>cases ry;exact PySem.EqNone.eq_none_bool (fin_bl I q (by simp))
  | int j=>obtain ⟨t',rfl⟩:=ry;exact PySem.EqNone.eq_none_int (fin_bl I q (by simp))
  | str j=>obtain ⟨t',rfl⟩:=ry;exact PySem.EqNone.eq_none_str (fin_bl I q (by simp))
  | _=>exact absurd (show false = true from hs) Bool.false_ne_true
 | bl i=>
  cases rx
  cases y with
  | non=>cases ry;exact PySem.EqNone.eq_bool_none (fin_bl I q (by simp))
  | bl j=>cases ry;exact eq_bool (fin_bl I q dec_bl)
  | str j=>obtain ⟨t',rfl⟩:=ry;exact PySem.EqMixed.eq_bool_str (fin_bl I q (by simp))
  | _=>exact absurd (show false = true from hs) Bool.false_ne_true
 | int i=>
  obtain ⟨t,rfl⟩:=rx
  cases y with
  | non=>cases ry;exact PySem.EqNone.eq_int_none (fin_bl I q (by simp))
  | int j=>obtain ⟨t',rfl⟩:=ry;exact eq_int (fin_bl I q dec_int)
  | str j=>obtain ⟨t',rfl⟩:=ry;exact PySem.EqMixed.eq_int_str (fin_bl I q (by simp))
  | _=>exact absurd (show false = true from hs) Bool.false_ne_true
 | str i=>
  obtain ⟨t,rfl⟩:=rx
  cases y with
  | non=>cases ry;exact PySem.EqNone.eq_str_none (fin_bl I q (by simp))
  | bl j=>cases ry;exact PySem.EqMixed.eq_str_bool (fin_bl I q (by simp))
  | int j=>obtain ⟨t',rfl⟩:=ry;exact PySem.EqMixed.eq_str_int (fin_bl I q (by simp))
  | str j=>obtain ⟨t',rfl⟩:=ry;exact eq_str (fin_bl I q dec_str)
  | _=>exact absurd (show false = true from hs) Bool.false_ne_true
 | byt i=>
  obtain ⟨t,rfl⟩:=rx
  cases y with
  | byt j=>obtain ⟨t',rfl⟩:=ry;exact PySem.W.eq_bytes (fin_bl I q dec_byt)
  | _=>exact absurd (show false = true from hs) Bool.false_ne_true
 | _=>cases y <;> exact absurd (show false = true from hs) Bool.false_ne_true
theorem op_ne:OpR X (compareOp .NotEq) rNe:=by
 intro pins s σ H x y v u Q I rx ry h
 obtain ⟨hs,q⟩:=h
 cases x with
 | non=>
  cases rx
  cases y with
  | non=>cases ry;exact PySem.EqNone.ne_none_none (fin_bl I q (by simp))
  | bl j=>cases ry;exact PySem.EqNone.ne_none_bool (fin_bl I q (by simp))
  | int j=>obtain ⟨t',rfl⟩:=ry;exact PySem.EqNone.ne_none_int (fin_bl I q (by simp))
  | str j=>obtain ⟨t',rfl⟩:=ry;exact PySem.EqNone.ne_none_str (fin_bl I q (by simp))
  | _=>exact absurd (show false = true from hs) Bool.false_ne_true
 | bl i=>
  cases rx
  cases y with
  | non=>cases ry;exact PySem.EqNone.ne_bool_none (fin_bl I q (by simp))
  | bl j=>cases ry;exact ne_bool (fin_bl I q (congrArg not dec_bl))
  | str j=>obtain ⟨t',rfl⟩:=ry;exact PySem.EqMixed.ne_bool_str (fin_bl I q (by simp))
  | _=>exact absurd (show false = true from hs) Bool.false_ne_true
 | int i=>
  obtain ⟨t,rfl⟩:=rx
  cases y with
  | non=>cases ry;exact PySem.EqNone.ne_int_none (fin_bl I q (by simp))
  | int j=>obtain ⟨t',rfl⟩:=ry;exact ne_int (fin_bl I q (congrArg not dec_int))
  | str j=>obtain ⟨t',rfl⟩:=ry;exact PySem.EqMixed.ne_int_str (fin_bl I q (by simp))
  | _=>exact absurd (show false = true from hs) Bool.false_ne_true
 | str i=>
  obtain ⟨t,rfl⟩:=rx
  cases y with
  | non=>cases ry;exact PySem.EqNone.ne_str_none (fin_bl I q (by simp))
  | bl j=>cases ry;exact PySem.EqMixed.ne_str_bool (fin_bl I q (by simp))
  | int j=>obtain ⟨t',rfl⟩:=ry;exact PySem.EqMixed.ne_str_int (fin_bl I q (by simp))
  | str j=>obtain ⟨t',rfl⟩:=ry;exact ne_str (fin_bl I q (congrArg not dec_str))
  | _=>exact absurd (show false = true from hs) Bool.false_ne_true
 | byt i=>
  obtain ⟨t,rfl⟩:=rx
  cases y with
  | byt j=>obtain ⟨t',rfl⟩:=ry;exact PySem.W.ne_bytes (fin_bl I q (congrArg not dec_byt))
  | _=>exact absurd (show false = true from hs) Bool.false_ne_true
 | _=>cases y <;> exact absurd (show false = true from hs) Bool.false_ne_true
theorem op_lt:OpR X (compareOp .Lt) (rI0 fun i j=>.bl (decide (i < j))):=opB0 fun _ _ _ _ _ _ _ q=>lt_int q
theorem op_gt:OpR X (compareOp .Gt) (rI0 fun i j=>.bl (decide (j < i))):=opB0 fun _ _ _ _ _ _ _ q=>gt_int q
theorem op_isN:OpR X (compareOp .Is) (fun x y H Q=>y = .non∧Q (.bl (decide (x = .non))) H):=by
 intro pins s σ H x y v u Q I rx ry h
 obtain ⟨rfl,q⟩:=h
 cases ry
 refine is_none_gen (fin_bl I q ?_)
 cases x <;> first
  | (cases rx;rfl)
  | (obtain ⟨t,rfl⟩:=rx;rfl)
theorem op_notN:OpR X (compareOp .IsNot) (fun x y H Q=>y = .non∧Q (.bl (!decide (x = .non))) H):=by
 intro pins s σ H x y v u Q I rx ry h
 obtain ⟨rfl,q⟩:=h
 cases ry
 refine isnot_none_gen (fin_bl I q ?_)
 cases x <;> first
  | (cases rx;rfl)
  | (obtain ⟨t,rfl⟩:=rx;rfl)
theorem nomark (b:Expr) {op:CmpOp}(h:op≠.In:=by decide) (h2:op≠.NotIn:=by decide):behindInMarks op b = false:=by
 have e1:(op == CmpOp.In) = false:=by cases op <;> first | rfl | exact absurd rfl h
 have e2:(op == CmpOp.NotIn) = false:=by cases op <;> first | rfl | exact absurd rfl h2
 cases b <;> simp [behindInMarks,e1,e2]
theorem pe_cmpR {op:CmpOp}{r:R2}(ho:OpR X (compareOp op) r) (ha:PE X a ta) (hb:PE X b tb) (hm:behindInMarks op b = false):PE X (.Compare a [op] [b] pos) (tOp r ta tb):=by
 intro pins s σ H Q I h
 exact wpAny_Compare1 (binT ha hb I h fun v u s2 x y H2 I2 rx ry q=>ho pins s2 σ H2 x y v u Q I2 rx ry q) hm
def tTest (t:TE):TT:=fun σ H Q=>t σ H fun x H' => ∃ k,x = .bl k∧Q k H'
theorem pt_cmpR {op:CmpOp}{r:R2}(ho:OpR X (compareOp op) r) (ha:PE X a ta) (hb:PE X b tb) (hm:behindInMarks op b = false):PT X (.Compare a [op] [b] pos) (tTest (tOp r ta tb)):=by
 intro pins s σ H Q I h
 refine wpAny_isTrue_Compare1 (thn (ha pins s σ H _ I h) fun v s1 ⟨x,H1,I1,r1,q1⟩=>thn (hb pins s1 σ H1 _ I1 q1) fun u s2 ⟨y,H2,I2,r2,q2⟩=>
  thn (ho pins s2 σ H2 x y v u _ I2 r1 r2 q2) fun c s3 ⟨z,H3,I3,r3,k,e,q3⟩=>?_) hm
 subst e
 cases r3
 exact wpAny_truthy_bool ⟨H3,I3,q3⟩
theorem line63:(sizeLine:Nat) < 2 ^ 63:=by rw [sizeLine_eq];decide
theorem op_add_str:OpR X (binaryOp .Add) (fun x y H Q=>∃ i j,x = .str i∧y = .str j∧i.length + j.length≤sizeLine∧Q (.str (i ++ j)) H):=by
 intro pins s σ H x y v u Q I rx ry h
 obtain ⟨i,j,rfl,rfl,hz,q⟩:=h
 obtain ⟨t,rfl⟩:=rx
 obtain ⟨t',rfl⟩:=ry
 exact add_str (fun t' tk=>⟨.str (i ++ j),H,I.tok _,⟨_,rfl⟩,q⟩) hz
theorem vals1 {x:V}{us:List Value}(r:Vals [x] us):∃ u,us = [u]∧RelV x u:=by
 cases r with
 | cons r1 r2=>cases r2;exact ⟨_,rfl,r1⟩
theorem vals2 {x y:V}{us:List Value}(r:Vals [x,y] us):∃ u w',us = [u,w']∧RelV x u∧RelV y w' := by
 cases r with
 | cons r1 r2=>
  cases r2 with
  | cons r3 r4=>cases r4;exact ⟨_,_,rfl,r1,r3⟩
theorem call_int1:CallR X (.type "int") (fun xs H Q=>(∃ i,xs = [.int i]∧Q (.int i) H)∨∃ k,xs = [.bl k]∧Q (.int (if k then 1 else 0)) H):=by
 intro pins s σ H xs us Q I r h
 rcases h with ⟨i,rfl,q⟩ | ⟨k,rfl,q⟩
 ·obtain ⟨u,rfl,t,rfl⟩:=vals1 r
  exact call_int_int ⟨.int i,H,I,⟨_,rfl⟩,q⟩
 ·obtain ⟨u,rfl,r1⟩:=vals1 r
  cases r1
  exact call_int_bool ⟨.int (if k then 1 else 0),H,I.tok _,⟨_,rfl⟩,q⟩
end
end L2
namespace L2
open PySem PySem.Spec PyProof.Rows
structure ObjM (h:Heap) (x dx C:Addr) (mA:Str→Option Value):Prop where
 obj:h.get? x = some (PySem.W.instObj C dx)
 ns:h.Ns1 dx mA
 ne:dx≠x
theorem lookIn_ns {h:Heap}{dx:Addr}{mA:Str→Option Value}(n:h.Ns1 dx mA):∃ od,h.get? dx = some od∧∀ name,PySem.W.lookIn name od = some (mA name):=by
 obtain ⟨o,es,ep,ho,hd,hk,_,hm⟩:=n
 refine ⟨o,ho,fun name=>?_⟩
 have e:=hm name
 unfold nsFind findBy at e
 rw [← Array.find?_toList] at e
 unfold PySem.W.lookIn
 rw [hd]
 dsimp only
 split
 ·rename_i y q
  rw [q] at e
  exact congrArg some e
 ·rename_i q
  rw [q] at e
  have a:es.toList.any (·.refKey) = false:=by
   rw [List.any_eq_false]
   intro y hy
   obtain ⟨z,t,hkey⟩:=hk y (Array.mem_toList_iff.mp hy)
   simp [DictEntry.refKey,hkey]
  have a' : ¬ es.toList.any (·.refKey) = true:=by rw [a];exact Bool.false_ne_true
  rw [if_neg a']
  exact congrArg some e
theorem ObjM.look {h:Heap}{x dx C:Addr}{mA:Str→Option Value}(I:ObjM h x dx C mA):∃ od,PySem.W.InstAt h x (PySem.W.instObj C dx) C (some od)∧∀ name,PySem.W.lookIn name od = some (mA name):=
 let ⟨od,ho,hl⟩:=lookIn_ns I.ns
 ⟨od,⟨I.obj,rfl,rfl,ho⟩,hl⟩
section
variable {prog:Program}{w:World}{A:Around}{E:Value→Shared→Prop}{s:Shared}{K:PySem.W.Frag}{x dx C f:Addr}{mA:Str→Option Value}{name:Str}{v:Value}
end
section
variable {P:Program}{w:World}{H H' : Hp} {h h' : Heap} {a C dx:Addr}{fs fs' : List (Str × V)}
theorem ins_get (hok:HOk P w H h) (e:H a = some (.ins C dx fs)):∃ mA,ObjM h a dx C mA∧(∀ f,RelO (fs.lookup f) (mA f))∧PySem.Within mA (fs.map (·.1))∧fs.length≤1000∧H dx = some (.own a):=by
 obtain ⟨d,z,ne,ob,mA,n,r,q⟩:=(show ObjOk P w H h a (.ins C dx fs) from hok a _ e)
 exact ⟨mA,⟨ob,n,ne⟩,r,q,z,d⟩
end
structure Cls (K:PySem.W.Frag) (C:Addr):Prop where
 pg:PySem.W.plainGet K C Str.empty = true
 hd:PySem.W.hasDictIn K C = true
 po:PySem.W.plainOver K C = true
 sa:PySem.W.findIn K (.ref C) "__setattr__" = some (some (.builtin "object.__setattr__"))
theorem Cls.get {K:PySem.W.Frag}{C:Addr}(c:Cls K C) (f:Str):PySem.W.plainGet K C f = true:=c.pg
section
variable {X:Cx}{pins:List (Addr × Obj)}{σ:St}{H:Hp}{s:Shared}{a C dx:Addr}{fs:List (Str × V)}{f:Str}{v:V}{A:Around}{E:Value→Shared→Prop}
end
section
variable {X:Cx}{o e value:Expr}{f:Str}{pos pos' tpos:Pos} {ta tv:TE}
end
section
variable {X:Cx}{pins:List (Addr × Obj)}{σ:St}{H:Hp}{s:Shared}{A:Around}{E:Value→Shared→Prop}{Q:Value→Shared→Prop}{c:Value}{b:Bool}
inductive TyOf (K:PySem.W.Frag) (H:Hp):V→Value→Prop where
 | non:TyOf K H .non (.type "NoneType")
 | bl (x:Bool):TyOf K H (.bl x) (.type "bool")
 | int (i:Int):TyOf K H (.int i) (.type "int")
 | str (x:Str):TyOf K H (.str x) (.type "str")
 | flt (x:UInt64):TyOf K H (.flt x) (.type "float")
 | lst {a:Addr}{xs:List V}(e:H a = some (.lst xs)):TyOf K H (.ref a) (.type "list")
 | frz {a:Addr}{o:Obj}{xs:List V}(e:H a = some (.frz o (.lst xs))):TyOf K H (.ref a) (.type "list")
 | tup {a:Addr}{xs:List V}(e:H a = some (.tup xs)):TyOf K H (.ref a) (.type "tuple")
 | dK {a:Addr}{kvs:List (Key × V)}(e:H a = some (.dK kvs)):TyOf K H (.ref a) (.type "dict")
 | dT {a:Addr}{kvs:List (List Key × V)}(e:H a = some (.dT kvs)):TyOf K H (.ref a) (.type "dict")
 | ins {a C dx:Addr}{fs:List (Str × V)}(e:H a = some (.ins C dx fs)) (cl:Cls K C) (ha:PySem.W.findIn K (.ref C) "__class__" = some (some (.builtin "object.__class__")))
   (hn:PySem.W.specialIn K (.builtin "object.__class__") "__get__" = some (some (.builtin "getset_descriptor.__get__"))) (htk:PySem.W.takesIn K (.builtin "object.__class__") = some true)
   (hm:PySem.W.mroIn K C (.type "object") = some true):TyOf K H (.ref a) (.ref C)
theorem isinst_ok {x:V}{u t:Value}(I:Inv X pins σ H s) (rx:RelV x u) (ty:TyOf X.K H x t) (e:PySem.W.kitOne X.K t c = some b) (h:∀ tk,Q (.bool b) { s with toks:=tk }):
  wpAny (model X.prog X.w) A (call (.builtin "isinstance") [u,c]) Q E s:=by
 cases ty with
 | non=>cases (show u = Value.none from rx);exact PySem.W.kia_one PySem.W.kitx_none I.kIn True.intro e (fun z=>nomatch z) h
 | bl y=>cases (show u = Value.bool y from rx);exact PySem.W.kia_one PySem.W.kitx_bool I.kIn True.intro e (fun z=>nomatch z) h
 | int i=>obtain ⟨t,q⟩:=(show ∃ t,u = Value.int i t from rx);cases q;exact PySem.W.kia_one PySem.W.kitx_int I.kIn True.intro e (fun z=>nomatch z) h
 | str y=>obtain ⟨t,q⟩:=(show ∃ t,u = Value.str y t from rx);cases q;exact PySem.W.kia_one PySem.W.kitx_str I.kIn True.intro e (fun z=>nomatch z) h
 | flt y=>obtain ⟨t,q⟩:=(show ∃ t,u = Value.float y t from rx);cases q;exact PySem.W.kia_one PySem.W.kitx_float I.kIn True.intro e (fun z=>nomatch z) h
 | @lst a xs ea=>
  cases (show u = Value.ref a from rx)
  obtain ⟨_,_,n,_,h1⟩:=(show ObjOk X.prog X.w H s.heap a (.lst xs) from I.hok a _ ea)
  exact PySem.W.kia_one PySem.W.kitx_list I.kIn ⟨_,h1,rfl⟩ e (fun z=>nomatch z) h
 | @frz a ob xs ea=>
  cases (show u = Value.ref a from rx)
  obtain ⟨_,_,_,n,_,h1⟩:=(show ObjOk X.prog X.w H s.heap a (.frz ob (.lst xs)) from I.hok a _ ea)
  exact PySem.W.kia_one PySem.W.kitx_list I.kIn ⟨_,h1,rfl⟩ e (fun z=>nomatch z) h
 | @tup a xs ea=>
  cases (show u = Value.ref a from rx)
  obtain ⟨_,_,_,p,_⟩:=(show ObjOk X.prog X.w H s.heap a (.tup xs) from I.hok a _ ea)
  obtain ⟨o,h1,h2,_⟩:=p
  exact PySem.W.kia_one PySem.W.kitx_tuple I.kIn ⟨o,h1,h2⟩ e (fun z=>nomatch z) h
 | @dK a kvs ea=>
  cases (show u = Value.ref a from rx)
  obtain ⟨_,_,vs,_,p⟩:=(show ObjOk X.prog X.w H s.heap a (.dK kvs) from I.hok a _ ea)
  obtain ⟨o,es,ep,h1,h2,_⟩:=p
  exact PySem.W.kia_one PySem.W.kitx_dict I.kIn ⟨o,h1,h2.1⟩ e (fun z=>nomatch z) h
 | @dT a kvs ea=>
  cases (show u = Value.ref a from rx)
  obtain ⟨_,_,xs,_,o,es,ep,h1,h2,_⟩:=(show ObjOk X.prog X.w H s.heap a (.dT kvs) from I.hok a _ ea)
  exact PySem.W.kia_one PySem.W.kitx_dict I.kIn ⟨o,h1,h2.1⟩ e (fun z=>nomatch z) h
 | @ins a C dx fs ea cl ha hn htk hm=>
  cases (show u = Value.ref a from rx)
  obtain ⟨mA,O,_⟩:=ins_get I.hok ea
  obtain ⟨od,J,_⟩:=O.look
  exact PySem.W.kia_one (PySem.W.kitx_own (cl.get _) cl.hd ha hn htk hm) I.kIn J e (fun z=>nomatch z) h
end
end L2
namespace L2
open PySem PySem.Spec PyProof.Rows
structure Room (k:Nat) (A:Around):Prop where
 hd:A.handled = none
 dp:A.depth + 3 * k + 5 < recursionLimit
 un:A.units + 16 * k + 200 < cLine
theorem Room.mono {j k:Nat}{A:Around}(r:Room k A) (h:j≤k):Room j A:=⟨r.hd,by have:=r.dp;omega,by have:=r.un;omega⟩
theorem Room.deeper {k:Nat}{A:Around}(r:Room (k + 1) A) (env:Env):Room k (A.deeper env):=
 ⟨r.hd,by have:=r.dp;show A.depth + 1 + 3 * k + 5 < _;omega,by have:=r.un;show A.units + 3 + 16 * k + 200 < _;omega⟩
theorem Room.in1 {k:Nat}{A:Around}(r:Room (k + 1) A):Room k A.in1:=
 ⟨r.hd,by have:=r.dp;show A.depth + 3 * k + 5 < _;omega,by have:=r.un;show A.units + 1 + 16 * k + 200 < _;omega⟩
theorem Room.depth {k:Nat}{A:Around}(r:Room k A):A.depth < recursionLimit:=by have:=r.dp;omega
theorem Room.units {k:Nat}{A:Around}(r:Room k A):A.units + 64 < cLine:=by have:=r.un;omega
def tNil:TA:=fun _ H Q=>Q [] H
def tCons (ta:TE) (tr:TA):TA:=fun σ H Q=>ta σ H fun x H1=>tr σ H1 fun xs H2=>Q (x :: xs) H2
section
variable {X:Cx}{e:Expr}{es:List Expr}{te:TE}{t:TA}{pos:Pos}
theorem pa_nil:PA X [] tNil:=fun _ _ _ _ H Q I h=>Calls.spliced_nil ⟨[],H,I,.nil,h⟩
theorem pa_cons (ha:PE X e te) (hr:PA X es t) (hs:starEach (e :: es) X.env = (false,eval e X.env) :: starEach es X.env:=by rfl):PA X (e :: es) (tCons te t):=by
 intro pos pins s σ H Q I h
 rw [hs]
 show wpAny _ _ (spliced ((false,eval e X.env) :: backTo pos (starEach es X.env))) _ _ s
 refine Calls.spliced_cons (thn (ha pins s σ H _ I h) fun u s1 ⟨x,H1,I1,r1,q1⟩=>?_)
 exact thn (hr pos pins s1 σ H1 _ I1 q1) fun us s2 ⟨xs,H2,I2,r2,q2⟩=>⟨x :: xs,H2,I2,.cons r1 r2,q2⟩
def tTup (t:TA):TE:=fun σ H Q=>t σ H fun xs H1=>xs.length≤sizeLine∧∀ p,H1 p = none→Q (.ref p) (upd H1 p (.tup xs))
def tLst (t:TA):TE:=fun σ H Q=>t σ H fun xs H1=>xs.length≤sizeLine∧∀ p,H1 p = none→Q (.ref p) (upd H1 p (.lst xs))
theorem pe_tup {x1} (h:PA X es t):PE X (.Tuple es x1 pos) (tTup t):=by
 intro pins s σ H Q I hq
 refine wpAny_Tuple_spliced (thn (h pos pins s σ H _ I hq) fun us s1 ⟨xs,H1,I1,r,z,q⟩=>⟨by rw [← r.length];exact z,?_⟩)
 have hf:H1 s1.heap.objs.size = none:=I1.hok.fresh (Nat.le_refl _)
 refine ⟨.ref s1.heap.objs.size,upd H1 s1.heap.objs.size (.tup xs),I1.laid (t' := s1.toks) (fun b u e=>Heap.get?_push_of_some _ e) (Nat.le_refl _) ?_,rfl,q _ hf⟩
 exact ⟨z,us,r,⟨_,Heap.get?_push_size _ rfl,rfl,_,rfl⟩,_,Heap.get?_push_size _ rfl,rfl⟩
theorem pe_lst (h:PA X es t):PE X (.List es pos) (tLst t):=by
 intro pins s σ H Q I hq
 refine wpAny_List_spliced (thn (h pos pins s σ H _ I hq) fun us s1 ⟨xs,H1,I1,r,z,q⟩=>⟨by rw [← r.length];exact z,?_⟩)
 have hf:H1 s1.heap.objs.size = none:=I1.hok.fresh (Nat.le_refl _)
 refine ⟨.ref s1.heap.objs.size,upd H1 s1.heap.objs.size (.lst xs),I1.laid (t' := s1.toks) (fun b u e=>Heap.get?_push_of_some _ e) (Nat.le_refl _) ?_,rfl,q _ hf⟩
 exact ⟨z,us,0,r,Heap.get?_push_size _ rfl⟩
end
abbrev Sp:=List V→Hp→VK→XK→Prop
abbrev CXT:=List Env→Hp→Shared→XK→Value→Shared→Prop
structure Env0 (P:Program) (w:World) (K:PySem.W.Frag) (mg:Str→Option Value) (base:Heap) (A:Around) (outer:List Env) (s:Shared) (H:Hp):Prop where
 frames:A.frames = some outer
 mod:Mod K mg base
 bs:∀ b o,base.get? b = some o→s.heap.get? b = some o∧H b = none
 bsz:base.objs.size≤s.heap.objs.size
 funs:s.heap.FunFrames base outer
 frf:∀ b∈frs outer,H b = none
 hok:HOk P w H s.heap
 bare:AllBare s.gens
def CE (outer:List Env) (P:Program) (w:World) (H:Hp) (s:Shared) (Q:VK) (u:Value) (s' : Shared):Prop:=
 ∃ v H',s'.os = s.os∧AllBare s'.gens∧Un (frs outer) [] H H' s.heap s'.heap∧HOk P w H' s'.heap∧RelV v u∧Q v H'
def CR (CX:CXT) (outer:List Env) (P:Program) (w:World) (H:Hp) (s:Shared) (Q:VK) (E:XK) (r:Result) (s' : Shared):Prop:=
 match r with
 | .ok (.ret u)=>CE outer P w H s Q u s'
 | .ok _=>False
 | .error e=>CX outer H s E e s'
structure FnOk (P:Program) (w:World) (K:PySem.W.Frag) (mg:Str→Option Value) (base:Heap) (CX:CXT) (k:Nat) (f:Addr) (fd:FuncData) (ps:List Str) (sp:Sp):Prop where
 len:∀ vs H Q E,sp vs H Q E→vs.length = ps.length
 run:∀ (A:Around) (outer:List Env) (s:Shared) (H:Hp) (args:Args) (us:List Value) (vs:List V) (Q:VK) (E:XK),Room k A→Env0 P w K mg base A outer s H→BindsTo s fd args (ps.zip us)→Vals vs us→sp vs H Q E→
  codeAny (model P w) A (.call (.ref f) args) (CR CX outer P w H s Q E) s
theorem FnOk.mono {P:Program}{w:World}{K:PySem.W.Frag}{mg:Str→Option Value}{base:Heap}{CX:CXT}{j k:Nat}{f:Addr}{fd:FuncData}{ps:List Str}{sp:Sp}(F:FnOk P w K mg base CX j f fd ps sp) (h:j≤k):
  FnOk P w K mg base CX k f fd ps sp:=⟨F.len,fun A outer s H args us vs Q E hr=>F.run A outer s H args us vs Q E (hr.mono h)⟩
section
variable {X:Cx}{pins:List (Addr × Obj)}{σ:St}{H:Hp}{s s' : Shared}
theorem Inv.env0 (I:Inv X pins σ H s):Env0 X.prog X.w X.K X.mg X.base X.A X.stack s H:=
 ⟨I.ok.frames,I.ok.mod,I.bs,Nat.le_trans I.ok.bsz I.sz,I.stack,I.stkFree,I.hok,I.bare⟩
theorem Inv.after {Q:VK}{u:Value}(I:Inv X pins σ H s) (h:CE X.stack X.prog X.w H s Q u s'):EP X pins σ Q u s' := by
 obtain ⟨v,H',os,bare,un,hok,r,q⟩:=h
 obtain ⟨hh,g,d,t,os'⟩:=s'
 obtain rfl:os' = s.os:=os
 exact ⟨v,H',I.call (h' := hh) (g' := g) (d' := d) (t' := t) (ch:=[]) un hok bare (fun b z=>absurd z (by simp)),r,q⟩
end
def tCall (sp:Sp) (dvs:List V) (E:XK) (t:TA):TE:=fun σ H Q=>t σ H fun vs H1=>sp (vs ++ dvs) H1 Q E
def Binds (K:PySem.W.Frag) (fd:FuncData) (ps:List Str) (ds:List Value):Prop:=
 ∀ (s:Shared) (us:List Value),K.In s.heap→(us ++ ds).length = ps.length→BindsTo s fd ⟨us,[]⟩ (ps.zip (us ++ ds))
theorem Binds.all {K:PySem.W.Frag}{fd:FuncData}{ps:List Str}(h:∀ us:List Value,us.length = ps.length→bindArgs fd ⟨us,[]⟩ = pure (ps.zip us)):Binds K fd ps []:=fun s us _ hl=>by
 rw [List.append_nil] at hl ⊢
 exact .of_eq (h us hl)
def Passes (CX:CXT) (X:Cx) (E:XK):Prop:=∀ (pins:List (Addr × Obj)) (σ:St) (H:Hp) (s:Shared) (e:Value) (s' : Shared),Inv X pins σ H s→CX X.stack H s E e s' → X.xe e s'
section
variable {X:Cx}{CX:CXT}{k:Nat}{f C:Addr}{fd:FuncData}{ps:List Str}{sp:Sp}{dvs:List V}{ds:List Value}{E:XK}{x m:Str}{p pos apos:Pos}{e o:Expr}{es:List Expr}{ta:TE}{t:TA}
theorem run_fn {pins:List (Addr × Obj)}{σ:St}{H:Hp}{s:Shared}{Q:VK}{us:List Value}{vs:List V}(F:FnOk X.prog X.w X.K X.mg X.base CX k f fd ps sp) (hr:Room k X.A) (hb:Binds X.K fd ps ds) (hd:Vals dvs ds) (hx:Passes CX X E)
  (I:Inv X pins σ H s) (r:Vals vs us) (h:sp (vs ++ dvs) H Q E):wpAny (model X.prog X.w) X.A (call (.ref f) us) (EP X pins σ Q) X.xe s:=by
 have r2:Vals (vs ++ dvs) (us ++ ds):=r.append hd
 have hl:(us ++ ds).length = ps.length:=by rw [← r2.length];exact F.len _ _ _ _ h
 refine wpAny_call (codeAny_mono (F.run X.A X.stack s H ⟨us,[]⟩ (us ++ ds) (vs ++ dvs) Q E hr I.env0 (hb s us I.kIn hl) r2 h) fun r s' hq=>?_)
 cases r with
 | error e=>exact hx pins σ H s e s' I hq
 | ok fl=>
  cases fl with
  | ret u=>exact I.after hq
  | next=>exact False.elim hq
  | brk=>exact False.elim hq
  | cont=>exact False.elim hq
theorem pe_call (F:FnOk X.prog X.w X.K X.mg X.base CX k f fd ps sp) (hr:Room k X.A) (hg:Gl X x) (hm:X.mg x = some (.ref f)) (hk:PySem.W.keepIn X.K (.ref f) = true) (hb:Binds X.K fd ps ds) (hd:Vals dvs ds) (hx:Passes CX X E)
  (ha:PA X (e :: es) t) (hdb:(x == ("__debug__" : Str)) = false:=by decide) (he:starEach (e :: es) X.env = (false,eval e X.env) :: starEach es X.env:=by rfl) (hpl:(backTo pos (starEach es X.env)).any (·.1) = false:=by rfl):
  PE X (.Call (.Name x p) (e :: es) [] pos) (tCall sp dvs E t):=by
 intro pins s σ H Q I h
 refine wpAny_Call_Name_kw (ld_glob I hg hm ?_ hdb)
 refine PySem.W.callWith_K (h₀:=X.base) I.ok.mod.kin hk (thn (ha pos pins s σ H _ I h) fun us s1 ⟨vs,H1,I1,r,q⟩=>⟨I1.kIn,?_⟩) he hpl
 exact run_fn F hr hb hd hx I1 r q
end
def PK (X:Cx) (kws:List Keyword) (t:TA):Prop:=
 ∀ (pos:Pos) (pins:List (Addr × Obj)) (s:Shared) (σ:St) (H:Hp) (Q:List V→Hp→Prop),Inv X pins σ H s→t σ H Q→wpAny (model X.prog X.w) X.A (evalAll ((backToKw pos (keywordEach kws X.env)).map (·.2))) (AP X pins σ Q) X.xe s
section
variable {X:Cx}{CX:CXT}{k:Nat}{f C:Addr}{fd:FuncData}{ps ks:List Str}{sp:Sp}{E:XK}{x m:Str}{p pos apos kpos:Pos}{e o:Expr}{es:List Expr}{kws:List Keyword}{te ta:TE}{t tk:TA}{nm:Option Str}
theorem pk_nil:PK X [] tNil:=fun _ _ _ _ H Q I h=>wpAny_evalAll_nil ⟨[],H,I,.nil,h⟩
theorem pk_cons (ha:PE X e te) (hr:PK X kws t):PK X (⟨nm,e,kpos⟩ :: kws) (tCons te t):=by
 intro pos pins s σ H Q I h
 show wpAny _ _ (evalAll ((do let v ← eval e X.env;standAt pos;pure v) :: (backToKw pos (keywordEach kws X.env)).map (·.2))) _ _ s
 refine wpAny_evalAll_cons (wpAny_bind (thn (ha pins s σ H _ I h) fun u s1 ⟨x,H1,I1,r1,q1⟩=>wpAny_bind (wpAny_standAt (wpAny_pure ?_))))
 exact thn (hr pos pins s1 σ H1 _ I1 q1) fun us s2 ⟨xs,H2,I2,r2,q2⟩=>⟨x :: xs,H2,I2,.cons r1 r2,q2⟩
variable {g:List Value→List Value→List Value}{gV:List V→List V→List V}
end
structure FnScope (N P:List Str) (sc:Scope):Prop where
 kind:sc.kind = .function
 co:sc.isCoroutine = false
 gen:sc.isGenerator = false
 nd:N.Nodup
 pre:N.take P.length = P
 par:∀ x∈P,sc.names.lookup x = some .local∨sc.names.lookup x = some .cell
 nofree:∀ y∈sc.names,y.2≠.free
theorem bindL_out {kindOf:Str→Option NameKind}{x:Str}:∀ {binds:List (Str × Value)}{m:Str→Option Value},(∀ v,(x,v) ∉ binds)→bindL kindOf binds m x = m x
 | [],_,_=>rfl
 | (n,v) :: r,m,h=>by
  unfold bindL
  rw [bindL_out fun w hw=>h w (List.mem_cons_of_mem _ hw)]
  split
  ·have:x≠n:=by rintro rfl;exact h v List.mem_cons_self
   simp [this]
  ·rfl
theorem bindC_out {kindOf:Str→Option NameKind}{x:Str}:∀ {binds:List (Str × Value)}{m:Str→Option Value},(∀ v,(x,v) ∉ binds)→bindC kindOf binds m x = m x
 | [],_,_=>rfl
 | (n,v) :: r,m,h=>by
  unfold bindC
  rw [bindC_out fun w hw=>h w (List.mem_cons_of_mem _ hw)]
  split
  ·rfl
  ·have:x≠n:=by rintro rfl;exact h v List.mem_cons_self
   simp [this]
theorem bindL_get {kindOf:Str→Option NameKind}{x:Str}{v:Value}:∀ {P:List Str}{vs:List Value}{i:Nat}{m:Str→Option Value},P.Nodup→P[i]? = some x→vs[i]? = some v→kindOf x = some .local→
  bindL kindOf (P.zip vs) m x = some v
 | [],_,_,_,_,h,_,_=>by simp at h
 | _ :: _,[],_,_,_,_,h,_=>by simp at h
 | p :: P,w :: vs,0,m,nd,h1,h2,hk=>by
  simp at h1 h2;subst h1;subst h2
  show bindL kindOf ((p,w) :: P.zip vs) m p = _
  unfold bindL
  rw [bindL_out fun v hv=>(List.nodup_cons.mp nd).1 (List.of_mem_zip hv).1,if_pos hk]
  simp
 | p :: P,w :: vs,i + 1,m,nd,h1,h2,hk=>by
  show bindL kindOf ((p,w) :: P.zip vs) m x = _
  unfold bindL
  exact bindL_get (i:=i) (List.nodup_cons.mp nd).2 (by simpa using h1) (by simpa using h2) hk
theorem bindC_get {kindOf:Str→Option NameKind}{x:Str}{v:Value}:∀ {P:List Str}{vs:List Value}{i:Nat}{m:Str→Option Value},P.Nodup→P[i]? = some x→vs[i]? = some v→kindOf x≠some .local→
  bindC kindOf (P.zip vs) m x = some v
 | [],_,_,_,_,h,_,_=>by simp at h
 | _ :: _,[],_,_,_,_,h,_=>by simp at h
 | p :: P,w :: vs,0,m,nd,h1,h2,hk=>by
  simp at h1 h2;subst h1;subst h2
  show bindC kindOf ((p,w) :: P.zip vs) m p = _
  unfold bindC
  rw [bindC_out fun v hv=>(List.nodup_cons.mp nd).1 (List.of_mem_zip hv).1,if_neg hk]
  simp
 | p :: P,w :: vs,i + 1,m,nd,h1,h2,hk=>by
  show bindC kindOf ((p,w) :: P.zip vs) m x = _
  unfold bindC
  exact bindC_get (i:=i) (List.nodup_cons.mp nd).2 (by simpa using h1) (by simpa using h2) hk
def start (N:List Str) (vs:List V):St:=vs.map some ++ List.replicate (N.length - vs.length) none
def cxOf (CX:CXT) (P:Program) (w:World) (K:PySem.W.Frag) (mg:Str→Option Value) (base:Heap) (N:List Str) (qual:Str) (scope:Scope) (f:Addr) (cd:Value) (A:Around) (outer:List Env) (s:Shared) (H:Hp) (E:XK):Cx where
 prog:=P
 w:=w
 K:=K
 mg:=mg
 base:=base
 A:=A.deeper (envOfC qual scope s.heap.objs.size f cd)
 N:=N
 s₀:=s
 H₀:=H
 env:=envOfC qual scope s.heap.objs.size f cd
 outer:=outer
 stack:=envOfC qual scope s.heap.objs.size f cd :: outer
 ex:=[]
 calm:=true
 fn:=fun _=>true
 pn:=[]
 xe:=fun e s' => wpAny (model P w) (A.deeper (envOfC qual scope s.heap.objs.size f cd)) (leaving (envOfC qual scope s.heap.objs.size f cd) e) (fun _ s'' => CX outer H s E e s'') (fun e' s'' => CX outer H s E e' s'') s'
theorem cell_has {sc:Scope}{n:Nat}{x:Str}(h:sc.names.lookup x = some .cell):∃ c,(cellsFrom n sc.names []).lookup x = some c:=by
 have q:=PySem.W.cellsFrom_some sc.names n [] (.inl h)
 exact Option.isSome_iff_exists.mp q
theorem inv_start {CX:CXT}{P:Program}{w:World}{K:PySem.W.Frag}{mg:Str→Option Value}{base:Heap}{N ps:List Str}{qual:Str}{scope:Scope}{f:Addr}{cd:Value}{A:Around}{outer:List Env}{s s1:Shared}{H:Hp}{E:XK}{us:List Value}{vs:List V}
  (S:FnScope N ps scope) (hd:A.handled = none) (e0:Env0 P w K mg base A outer s H) (hl:vs.length = ps.length) (r:Vals vs us)
  (x:InCallC s s.heap.objs.size (bindL (envOfC qual scope s.heap.objs.size f cd).kindOf (ps.zip us) fun _=>none) (cellsFrom (s.heap.objs.size + 1) scope.names []) (bindC (envOfC qual scope s.heap.objs.size f cd).kindOf (ps.zip us) fun _=>none) s1):
  Inv (cxOf CX P w K mg base N qual scope f cd A outer s H E) [] (start N vs) H s1:=by
 have hpl:ps.length≤N.length:=by have:=congrArg List.length S.pre;rw [List.length_take] at this;omega
 obtain ⟨h1,tk,rfl,hk⟩:=x.done
 have noA:∀ b:Addr,b ∉ (cxOf CX P w K mg base N qual scope f cd A outer s H E).ex:=fun b z=>absurd (show b∈([]:List Addr) from z) (by simp)
 refine ⟨⟨e0.mod,S.kind,rfl,rfl,Nat.le_refl _,fun y z c h1 h2=>?_,fun y hy=>?_,fun y c _ h=>?_,fun _=>hd,Around.frames_deeper e0.frames,.inr ⟨rfl,rfl⟩,fun b z=>absurd z (noA b),e0.bs,e0.bsz,fun b _ _=>noA b,fun b z=>absurd z (noA b),e0.funs,e0.frf⟩,
  rfl,e0.bare,Un.kept hk,⟨_,x.toInCall.ns,fun i y v h1 h2 h3=>?_⟩,fun y c h=>⟨_,x.cell y c h⟩,e0.hok.fresh (Nat.le_refl _),fun y c h=>?_,fun p hp=>absurd (show p∈([]:List (Addr × Obj)) from hp) (by simp),e0.hok.kept hk,?_⟩
 ·exact name_of_addr x.apart (PySem.mem_of_lookup h1) (PySem.mem_of_lookup h2)
 ·have hy:scope.names.lookup y = some .cell∨scope.names.lookup y = some .free:=hy
  rcases hy with hy | hy
  ·exact cell_has hy
  ·exact absurd rfl (S.nofree _ (PySem.mem_of_lookup hy))
 ·exact Nat.le_of_lt (x.above y c (PySem.mem_of_lookup h))
 ·have hi:i < vs.length:=by
   unfold start at h2
   by_cases hi:i < vs.length
   ·exact hi
   ·rw [List.getElem?_append_right (by simpa using hi)] at h2
    rw [List.getElem?_replicate] at h2
    split at h2 <;> cases h2
  have ha:vs[i]? = some v:=by
   unfold start at h2
   rw [List.getElem?_append_left (by simpa using hi),List.getElem?_map] at h2
   cases e:vs[i]? with
   | none=>rw [e] at h2;cases h2
   | some a=>rw [e] at h2;cases h2;rfl
  obtain ⟨u,hu,rv⟩:=r.get ha
  have hp:ps[i]? = some y:=by
   rw [← S.pre,List.getElem?_take_of_lt (by omega)];exact h1
  have ndP:ps.Nodup:=by rw [← S.pre];exact S.nd.sublist (List.take_sublist _ _)
  refine ⟨u,rv,?_⟩
  rcases S.par y (List.mem_of_getElem? hp) with k | k
  ·exact .inl ⟨k,bindL_get ndP hp hu k⟩
  ·obtain ⟨c,e⟩:=cell_has (n:=s.heap.objs.size + 1) k
   refine .inr ⟨.inl k,c,e,?_⟩
   have q:=x.cell y c e
   rw [bindC_get ndP hp hu (by show scope.names.lookup y≠_;rw [k];decide)] at q
   exact q
 ·exact e0.hok.fresh (Nat.le_of_lt (x.above y c (PySem.mem_of_lookup h)))
 ·unfold start
  show _ = N.length
  rw [List.length_append,List.length_map,List.length_replicate]
  omega
theorem fn_of {CX:CXT}{P:Program}{w:World}{K:PySem.W.Frag}{mg:Str→Option Value}{base:Heap}{k:Nat}{f:Addr}{name qual:Str}{params:Arguments}{body:List Stmt}{scope:Scope}{dV kV doc pm cdv ct oc:Value}{an od:Option Addr}
  {osl:Array (Option Value)}{N ps:List Str}{sp:Sp}(lk:K.lookup f = some ⟨oc,od,.func (PySem.W.fnOf name qual params body scope dV kV doc pm an cdv ct),osl⟩) (hcd:PySem.W.codeIn K cdv qual = true) (S:FnScope N ps scope)
  (len:∀ vs H Q E,sp vs H Q E→vs.length = ps.length)
  (hbody:∀ (A:Around) (outer:List Env) (s:Shared) (H:Hp) (vs:List V) (Q:VK) (E:XK),Room k (A.deeper (envOfC qual scope s.heap.objs.size f cdv))→sp vs H Q E→
   ∃ t,PSs (cxOf CX P w K mg base N qual scope f cdv A outer s H E) body t∧t { nx:=fun _ H' => Q .non H',rt:=Q } (start N vs) H):
  FnOk P w K mg base CX (k + 1) f (PySem.W.fnOf name qual params body scope dV kV doc pm an cdv ct) ps sp:=by
 refine ⟨len,fun A outer s H args us vs Q E hr e0 hb r hsp=>?_⟩
 have hl:=len _ _ _ _ hsp
 have KX:K.In s.heap:=e0.mod.kin.keeps fun b o e=>(e0.bs b o e).1
 have lim:s.heap.NoLimit:=e0.mod.nolimit.keeps fun b o e=>(e0.bs b o e).1
 have hkind:∀ y∈ps.zip us,scope.names.lookup y.1 = some .local∨(scope.names.lookup y.1 = some .cell∧((cellsFrom (s.heap.objs.size + 1) scope.names []).lookup y.1).isSome = true):=fun ⟨n,v⟩ hy=>by
  rcases S.par n (List.of_mem_zip hy).1 with q | q
  ·exact .inl q
  ·exact .inr ⟨q,PySem.W.cellsFrom_some _ _ _ (.inl q)⟩
 refine codeAny_call_function hr.depth (KX _ _ lk) rfl S.co S.gen rfl (PySem.W.codeRec_of KX hcd) (hb _ _ _ _ ?_)
 refine wpAny_newFunctionEnv_cells S.kind hkind fun env he s1 x=>?_
 subst he
 refine ⟨lim.keeps x.toInCall.keep,codeAny_func ?_⟩
 obtain ⟨t,ht,hq⟩:=hbody A outer s H vs Q E (hr.deeper _) hsp
 have I:Inv (cxOf CX P w K mg base N qual scope f cdv A outer s H E) [] (start N vs) H s1:=inv_start S hr.hd e0 hl r x
 refine wpAny_mono (ht [] s1 (start N vs) H _ I hq) (fun fl s' hs=>?_) fun e s' hs=>hs
 have fin:∀ {σ' : St} {H' : Hp} {v:V}{u:Value},Inv (cxOf CX P w K mg base N qual scope f cdv A outer s H E) [] σ' H' s' → RelV v u→Q v H' → CE outer P w H s Q u s' :=
  fun {σ' H' v u} J rv q=>⟨v,H',J.os,J.bare,J.base,J.hok,rv,q⟩
 cases fl with
 | ret u=>
  obtain ⟨v,σ',H',J,rv,q⟩:=hs
  exact fin J rv q
 | next=>
  obtain ⟨σ',H',J,q⟩:=hs
  exact fin (v:=V.non) (u:=Value.none) J rfl q
 | brk=>
  obtain ⟨_,_,_,q⟩:=hs
  exact False.elim q
 | cont=>
  obtain ⟨_,_,_,q⟩:=hs
  exact False.elim q
end L2
namespace L2
open PySem PySem.Spec PyProof.Rows
section
variable {X:Cx}{x:Str}{p pos:Pos}{e:Expr}{es:List Expr}{t:TA}{id T:String}{r:List V→Hp→VK→Prop}
def tCB (r:List V→Hp→VK→Prop) (t:TA):TE:=fun σ H Q=>t σ H fun vs H1=>r vs H1 Q
theorem pe_callB (hc:CallR X (.builtin id) r) (hg:Gl X x) (hm:X.mg x = none) (hv:bootBuiltins x = some (.builtin id)) (ha:PA X (e :: es) t) (hn:x≠ "__name__" := by decide) (hdb:(x == ("__debug__" : Str)) = false:=by decide)
  (he:starEach (e :: es) X.env = (false,eval e X.env) :: starEach es X.env:=by rfl) (hpl:(backTo pos (starEach es X.env)).any (·.1) = false:=by rfl):PE X (.Call (.Name x p) (e :: es) [] pos) (tCB r t):=by
 intro pins s σ H Q I h
 refine wpAny_Call_Name_kw (ld_blt I hg hm hv ?_ hn hdb)
 exact PyProof.Rows.callWith_builtin1 (thn (ha pos pins s σ H _ I h) fun us s1 ⟨vs,H1,I1,r1,q1⟩=>hc pins s1 σ H1 vs us Q I1 r1 q1) he hpl
theorem pe_callTy (hc:CallR X (.type T) r) (hg:Gl X x) (hm:X.mg x = none) (hv:bootBuiltins x = some (.type T)) (ha:PA X (e :: es) t) (hn:x≠ "__name__" := by decide) (hdb:(x == ("__debug__" : Str)) = false:=by decide)
  (he:starEach (e :: es) X.env = (false,eval e X.env) :: starEach es X.env:=by rfl) (hpl:(backTo pos (starEach es X.env)).any (·.1) = false:=by rfl):PE X (.Call (.Name x p) (e :: es) [] pos) (tCB r t):=by
 intro pins s σ H Q I h
 refine wpAny_Call_Name_kw (ld_blt I hg hm hv ?_ hn hdb)
 exact PyProof.Rows.callWith_type1 (thn (ha pos pins s σ H _ I h) fun us s1 ⟨vs,H1,I1,r1,q1⟩=>hc pins s1 σ H1 vs us Q I1 r1 q1) he hpl
end
end L2
namespace HT
open PySem PyProof.Rows
section
open PySem.SeqAt
open PySem.AutoSeq1 (wpAny_loadPart')
open PySem.MeetsSeq PySem.MeetsSeq2 PySem.MeetsSeq3
end
section
variable {prog:Program}{w:World}{A:Around}{E:Value→Shared→Prop}{s:Shared}
theorem cat_tup {t b:Addr}{vs ws:List Value}{Q:Value→Shared→Prop}(ht:IsTup s.heap t vs.toArray) (hb:IsTup s.heap b ws.toArray) (hv:vs≠[])
  (h1:ws = []→Q (.ref t) s) (h2:ws≠[]→Q (.ref s.heap.objs.size) { s with heap:=s.heap.push { cls:=.type "tuple",data:=.seq (vs ++ ws).toArray } })
  (hsz:vs.length + ws.length≤sizeLine):wpAny (model prog w) A (binaryOp .Add (.ref t) (.ref b)) Q E s:=by
 obtain ⟨⟨cls,dd,data,sl⟩,ho,hc,n,hd⟩:=id ht
 obtain ⟨⟨cls2,dd2,data2,sl2⟩,ho2,hc2,n2,hd2⟩:=id hb
 simp only at hc hd hc2 hd2
 subst hc hd hc2 hd2
 have e:vs.toArray ++ ws.toArray = (vs ++ ws).toArray:=by simp
 by_cases hw:ws = []
 ·exact concat_meets ⟨_,ho,rfl⟩ ⟨_,ho2,rfl⟩ noFill_tuple_add seq_tuple_add PySem.F.slot_tuple_add PySem.F.entry_tuple_add (PySem.F.args_tuple_add_2 _ _)
   (tuple_addW1 t b vs.toArray ws.toArray n n2 dd dd2 sl sl2 (by simpa using hv) (by simp [hw])) ⟨ho,ho2,h1 hw⟩
 ·refine concat_meets ⟨_,ho,rfl⟩ ⟨_,ho2,rfl⟩ noFill_tuple_add seq_tuple_add PySem.F.slot_tuple_add PySem.F.entry_tuple_add (PySem.F.args_tuple_add_2 _ _)
   (tuple_addW2 t b vs.toArray ws.toArray n n2 dd dd2 sl sl2 (by simpa using hv) (by simpa using hw) (by rw [List.size_toArray,List.size_toArray];exact hsz)) ⟨ho,ho2,?_⟩
  rw [e]
  exact h2 hw
def sIx (n d:Nat):Option Int→Nat
 | none=>d
 | some v=>if v < 0 then (v + (n:Int)).toNat else min v.toNat n
theorem sIx_none (n d:Nat):sIx n d none = d:=rfl
theorem sIx_nat (n d k:Nat):sIx n d (some (k:Int)) = min k n:=by
 show (if (k:Int) < 0 then ((k:Int) + (n:Int)).toNat else min (k:Int).toNat n) = min k n
 rw [if_neg (by omega),Int.toNat_natCast]
theorem sIx_le (n d:Nat) (hd:d≤n) (o:Option Int):sIx n d o≤n:=by
 cases o with
 | none=>exact hd
 | some v=>
  show (if v < 0 then (v + (n:Int)).toNat else min v.toNat n)≤n
  by_cases hv:v < 0
  ·rw [if_pos hv];omega
  ·rw [if_neg hv];exact Nat.min_le_right _ _
theorem clip_eq (v:Int) (n d:Nat):(if v < 0 then max (v + (n:Int)) 0 else min v (n:Int)) = ((sIx n d (some v):Nat):Int):=by
 show (if v < 0 then max (v + (n:Int)) 0 else min v (n:Int)) = (((if v < 0 then (v + (n:Int)).toNat else min v.toNat n):Nat):Int)
 by_cases hv:v < 0
 ·simp only [if_pos hv];omega
 ·simp only [if_neg hv];omega
theorem adjust_gen (lo hi:Option Int) (n:Nat):Builtin.Slice.sliceAdjust lo hi 1 (n:Int) = (((sIx n 0 lo:Nat):Int),((sIx n n hi:Nat):Int)):=by
 have h1:¬ ((1:Int) < 0):=by omega
 unfold Builtin.Slice.sliceAdjust
 simp only [h1,if_false]
 refine Prod.ext ?_ ?_
 ·cases lo with
  | none=>rfl
  | some v=>exact clip_eq v n 0
 ·cases hi with
  | none=>rfl
  | some v=>exact clip_eq v n n
theorem places_gen (i j:Nat):Builtin.Slice.slicePlaces (i:Int) (j:Int) 1 = j - i:=by
 unfold Builtin.Slice.slicePlaces
 have h1:(1:Int) > 0:=by omega
 simp only [h1,if_true,Int.ediv_one]
 split <;> omega
theorem slicePart_ {v:Value}{o:Option Int}{Q:Option Int→Shared→Prop}(p:IsPart v o) (h:Q o s):wpAny (model prog w) A (Builtin.Slice.slicePartIndex v) Q E s:=by
 cases p with
 | none=>exact slicePart_none h
 | int i t=>exact slicePart_int h
theorem sliceApplied_gen {sl:Addr}{vl vu:Value}{lo hi:Option Int}{n:Nat}{Q:Int × Int × Nat→Shared→Prop}(hs:s.heap.IsSliceOf sl vl vu .none) (pl:IsPart vl lo) (pu:IsPart vu hi)
  (h:Q (((sIx n 0 lo:Nat):Int),1,sIx n n hi - sIx n 0 lo) s):wpAny (model prog w) A (Builtin.Slice.sliceApplied (.ref sl) (pure (n:Int))) Q E s:=by
 obtain ⟨os,hos,hcs,hds⟩:=id hs
 unfold Builtin.Slice.sliceApplied Builtin.Slice.sliceFields
 refine wpAny_bind (wpAny_bind (wpAny_field hos hds (x:=vl) rfl (wpAny_bind (wpAny_field hos hds (x:=vu) rfl (wpAny_bind (wpAny_field hos hds (x:=.none) rfl (wpAny_pure ?_)))))))
 refine wpAny_bind (slicePart_none ?_)
 show wpAny _ _ (if ((1:Int) == 0) = true then _ else _) _ _ s
 rw [if_neg (by decide)]
 refine wpAny_bind (slicePart_ pl (wpAny_bind (slicePart_ pu (wpAny_bind (wpAny_pure ?_)))))
 show wpAny _ _ (match Builtin.Slice.sliceAdjust lo hi 1 (n:Int) with | (lo,hi)=>pure (lo,(1:Int),Builtin.Slice.slicePlaces lo hi 1)) _ _ s
 rw [adjust_gen lo hi n]
 show wpAny _ _ (pure (((sIx n 0 lo:Nat):Int),(1:Int),Builtin.Slice.slicePlaces ((sIx n 0 lo:Nat):Int) ((sIx n n hi:Nat):Int) 1)) _ _ s
 rw [places_gen]
 exact wpAny_pure h
theorem pick_gen (xs:Array Value) (i k:Nat):((List.range k).filterMap fun (m:Nat)=>xs[((i:Int) + (m:Int) * 1).toNat]?).toArray = ((xs.toList.drop i).take k).toArray:=by
 have e:(fun (m:Nat)=>xs[((i:Int) + (m:Int) * 1).toNat]?) = fun m=>xs[i + m]?:=by
  funext m
  have:((i:Int) + (m:Int) * 1).toNat = i + m:=by omega
  rw [this]
 rw [e]
 have:=pick_run xs i k
 rw [List.filterMap_map] at this
 have e2:((fun x=>xs[x]?) ∘ fun x=>i + x) = fun m=>xs[i + m]?:=rfl
 rw [e2] at this
 rw [this]
theorem getItem_tuple_cut {t sl:Addr}{items:Array Value}{vl vu:Value}{lo hi:Option Int}{Q:Value→Shared→Prop}(ht:IsTup s.heap t items) (hs:s.heap.IsSliceOf sl vl vu .none) (pl:IsPart vl lo) (pu:IsPart vu hi)
  (hw:¬ (sIx items.size 0 lo = 0∧sIx items.size items.size hi = items.size))
  (h:Q (.ref s.heap.objs.size) { s with heap:=s.heap.push { cls:=.type "tuple",data:=.seq ((items.toList.drop (sIx items.size 0 lo)).take (sIx items.size items.size hi - sIx items.size 0 lo)).toArray } })
  (hsz:items.size≤sizeLine):wpAny (model prog w) A (getItem (.ref t) (.ref sl)) Q E s:=by
 have htake:sizeOk (.seq ((items.toList.drop (sIx items.size 0 lo)).take (sIx items.size items.size hi - sIx items.size 0 lo)).toArray):=by
  show ((items.toList.drop (sIx items.size 0 lo)).take (sIx items.size items.size hi - sIx items.size 0 lo)).toArray.size≤sizeLine
  rw [List.size_toArray,List.length_take,List.length_drop,Array.length_toList]
  omega
 have hj:sIx items.size items.size hi≤items.size:=sIx_le _ _ (Nat.le_refl _) hi
 obtain ⟨os,hos,hcs,hds⟩:=id hs
 have hTs:s.TypeIs (.ref sl) "slice" := ⟨os,hos,hcs⟩
 unfold getItem
 try with_reducible refine wpAny_holding ?_
 first | refine wpAny_bind (wpAny_pure ?_) | skip
 refine wpAny_bind (wpAny_sequenceKey ht.typeIs (by decide) ?_)
 refine wpAny_bind (wpAny_callSpecial?_slot (name:=Str.ofString "__getitem__") ht.typeIs PyProof.Rows.slot_tuple_getitem
  (wpAny_call_entry PyProof.Rows.slot_tuple_getitem ht.typeIs entry_tuple_getitem ?_ (args_tuple_getitem _ _)))
 show wpAny _ _ (Builtin.Tuple.tupleItemsOf (.ref t) >>= _) _ _ s
 refine wpAny_bind (tupleItemsOf_ ht ?_)
 refine wpAny_bind (wpAny_typeOf hTs ?_)
 rw [if_pos (by decide)]
 refine wpAny_bind (sliceApplied_gen hs pl pu ?_)
 have hno:¬ ((((sIx items.size 0 lo:Nat):Int) == 0 && (1:Int) == 1 && (sIx items.size items.size hi - sIx items.size 0 lo) == items.size) = true):=by
  intro q
  rw [Bool.and_eq_true,Bool.and_eq_true] at q
  have q1:((sIx items.size 0 lo:Nat):Int) = 0:=eq_of_beq q.1.1
  have q2:sIx items.size items.size hi - sIx items.size 0 lo = items.size:=eq_of_beq q.2
  exact hw ⟨by omega,by omega⟩
 show wpAny _ _ (if (((sIx items.size 0 lo:Nat):Int) == 0 && (1:Int) == 1 && (sIx items.size items.size hi - sIx items.size 0 lo) == items.size) = true then _ else _) _ _ s
 rw [if_neg hno,pick_gen]
 first
  | exact wpAny_bind (m:=Builtin.Tuple.tupleExact _) (wpAny_newObj_type (wpAny_pure ⟨_,rfl,wpAny_pure h⟩) htake)
  | exact wpAny_bind (m:=Builtin.Tuple.tupleExact _) (wpAny_newObj_type (wpAny_bind (wpAny_pure (wpAny_pure ⟨_,rfl,wpAny_pure h⟩))) htake)
  | exact wpAny_bind (wpAny_bind (m:=Builtin.Tuple.tupleExact _) (wpAny_newObj_type (wpAny_pure (wpAny_pure ⟨_,rfl,wpAny_pure h⟩)) htake))
  | exact wpAny_bind (wpAny_bind (m:=Builtin.Tuple.tupleExact _) (wpAny_newObj_type (wpAny_pure ⟨_,rfl,wpAny_pure h⟩) htake))
end
end HT
namespace L2
open PySem PySem.Spec PyProof.Rows
abbrev TO:=St→Hp→(Option Int→Hp→Prop)→Prop
def PO (X:Cx) (e:Option Expr) (t:TO):Prop:=
 ∀ (pins:List (Addr × Obj)) (s:Shared) (σ:St) (H:Hp) (Q:Option Int→Hp→Prop),Inv X pins σ H s→t σ H Q→
  wpAny (model X.prog X.w) X.A (evalPart e X.env) (fun u s' => ∃ o H',Inv X pins σ H' s' ∧ IsPart u o∧Q o H') X.xe s
def tNoPart:TO:=fun _ H Q=>Q none H
def tPart (t:TE):TO:=fun σ H Q=>t σ H fun x H1=>∃ i,x = .int i∧Q (some i) H1
section
variable {X:Cx}{e:Expr}{te:TE}{lo hi:Option Expr}{tl th:TO}{pos p2:Pos}
theorem po_none:PO X none tNoPart:=by
 intro pins s σ H Q I h
 rw [evalPart_none]
 exact wpAny_pure ⟨none,H,I,.none,h⟩
theorem po_some (h:PE X e te):PO X (some e) (tPart te):=by
 intro pins s σ H Q I hw
 rw [evalPart_some]
 refine thn (h pins s σ H _ I hw) fun u s1 ⟨x,H1,I1,r1,q1⟩=>?_
 obtain ⟨i,rfl,q⟩:=q1
 obtain ⟨t,rfl⟩:=r1
 exact ⟨some i,H1,I1,.int i t,q⟩
def SlR (X:Cx) (r:V→Option Int→Option Int→Hp→VK→Prop):Prop:=
 ∀ (pins:List (Addr × Obj)) (s:Shared) (σ:St) (H:Hp) (x:V) (v vl vu:Value) (lo hi:Option Int) (sl:Addr) (Q:VK),Inv X pins σ H s→RelV x v→s.heap.IsSliceOf sl vl vu .none→IsPart vl lo→IsPart vu hi→r x lo hi H Q→
  ∃ T id,typeLookup (.type T) "__getitem__" = pure (some (.builtin id))∧s.TypeIs v T∧wpAny (model X.prog X.w) X.A (getItem v (.ref sl)) (EP X pins σ Q) X.xe s
def tSl (r:V→Option Int→Option Int→Hp→VK→Prop) (te:TE) (tl th:TO):TE:=fun σ H Q=>te σ H fun x H1=>tl σ H1 fun l H2=>th σ H2 fun u H3=>r x l u H3 Q
theorem pe_slice {r:V→Option Int→Option Int→Hp→VK→Prop}(hr:SlR X r) (he:PE X e te) (hl:PO X lo tl) (hu:PO X hi th):PE X (.Subscript e (.Slice lo hi none p2) pos) (tSl r te tl th):=by
 intro pins s σ H Q I h
 refine Subscript_ (thn (he pins s σ H _ I h) fun v s1 ⟨x,H1,I1,r1,q1⟩=>?_)
 refine wpAny_Slice (thn (hl pins s1 σ H1 _ I1 q1) fun vl s2 ⟨l,H2,I2,pl,q2⟩=>thn (hu pins s2 σ H2 _ I2 q2) fun vu s3 ⟨u,H3,I3,pu,q3⟩=>?_)
 rw [evalPart_none]
 refine wpAny_pure ?_
 have I4:Inv X pins σ H3 { s3 with heap:=s3.heap.push { cls:=.type "slice",data:=.fields #[vl,vu,.none] } }:=I3.kept (t' := s3.toks) fun b ob q=>Heap.get?_push_of_some _ q
 obtain ⟨T,id,hT,ht,hg⟩:=hr pins { s3 with heap:=s3.heap.push { cls:=.type "slice",data:=.fields #[vl,vu,.none] } } σ H3 x v vl vu l u s3.heap.objs.size Q I4 r1 (Heap.IsSliceOf.new ..) pl pu q3
 show wpAny (model X.prog X.w) X.A (subscriptTail e (.Slice lo hi none p2) v (.ref s3.heap.objs.size)) (EP X pins σ Q) X.xe { s3 with heap:=s3.heap.push { cls:=.type "slice",data:=.fields #[vl,vu,.none] } }
 exact tail_any (ops:=[.ref s3.heap.objs.size,v]) ht hT hg (by with_unfolding_all rfl)
def cutV (xs:List V) (lo hi:Option Int):List V:=(xs.drop (HT.sIx xs.length 0 lo)).take (HT.sIx xs.length xs.length hi - HT.sIx xs.length 0 lo)
theorem cutV_length (xs:List V) (lo hi:Option Int):(cutV xs lo hi).length≤xs.length:=by
 unfold cutV
 rw [List.length_take,List.length_drop]
 omega
def rSlT (K:PySem.W.Frag):V→Option Int→Option Int→Hp→VK→Prop:=fun x lo hi H Q=>∃ a xs,x = .ref a∧SqT K H a xs∧
 ¬ (HT.sIx xs.length 0 lo = 0∧HT.sIx xs.length xs.length hi = xs.length)∧∀ p,H p = none→Q (.ref p) (upd H p (.tup (cutV xs lo hi)))
theorem sl_tup:SlR X (rSlT X.K):=by
 intro pins s σ H x v vl vu lo hi sl Q I rx hs pl pu h
 obtain ⟨a,xs,rfl,hx,hw,q⟩:=h
 cases rx
 obtain ⟨its,r,ht,hz⟩:=I.tuple hx
 have hlen:its.toArray.size = xs.length:=by rw [List.size_toArray];exact r.length.symm
 refine ⟨"tuple",_,PyProof.Rows.slot_tuple_getitem.lookup,ht.typeIs,?_⟩
 refine HT.getItem_tuple_cut ht hs pl pu (by rw [hlen];exact hw) ?_ (by rw [hlen];exact hz)
 rw [hlen]
 refine ⟨.ref s.heap.objs.size,_,I.laid (t' := s.toks) (o:=.tup (cutV xs lo hi)) (fun b ob q=>Heap.get?_push_of_some _ q) (Nat.le_refl _) ?_,rfl,q _ (I.hok.fresh (Nat.le_refl _))⟩
 exact ⟨Nat.le_trans (cutV_length xs lo hi) hz,_,(r.drop (HT.sIx xs.length 0 lo)).take (HT.sIx xs.length xs.length hi - HT.sIx xs.length 0 lo),IsTup.new _ _,_,Heap.get?_push_size _ rfl,rfl⟩
def rCatT (K:PySem.W.Frag):R2:=fun x y H Q=>∃ a b xs ys,x = .ref a∧y = .ref b∧SqT K H a xs∧SqT K H b ys∧xs≠[]∧xs.length + ys.length≤sizeLine∧
 (ys = []→Q (.ref a) H)∧(ys≠[]→∀ p,H p = none→Q (.ref p) (upd H p (.tup (xs ++ ys))))
theorem Vals.nil_iff {xs:List V}{us:List Value}(r:Vals xs us):us = []↔xs = []:=by
 cases r with
 | nil=>simp
 | cons _ _=>simp
theorem op_catT:OpR X (binaryOp .Add) (rCatT X.K):=by
 intro pins s σ H x y v u Q I rx ry h
 obtain ⟨a,b,xs,ys,rfl,rfl,ha,hb,hx,hz,q1,q2⟩:=h
 cases rx
 cases ry
 obtain ⟨its,r1,p1,_⟩:=I.tuple ha
 obtain ⟨its2,r2,p2,_⟩:=I.tuple hb
 refine HT.cat_tup p1 p2 (fun z=>hx (r1.nil_iff.mp z)) (fun z=>⟨.ref a,H,I,rfl,q1 (r2.nil_iff.mp z)⟩) (fun z=>?_) (by rw [← r1.length,← r2.length];exact hz)
 refine ⟨.ref s.heap.objs.size,_,I.laid (t' := s.toks) (o:=.tup (xs ++ ys)) (fun b ob q=>Heap.get?_push_of_some _ q) (Nat.le_refl _) ?_,rfl,q2 (fun w=>z (r2.nil_iff.mpr w)) _ (I.hok.fresh (Nat.le_refl _))⟩
 exact ⟨by rw [List.length_append];exact hz,_,r1.append r2,IsTup.new _ _,_,Heap.get?_push_size _ rfl,rfl⟩
end
end L2
namespace L2
open PySem PySem.Spec PyProof.Rows
def ixN (n:Nat) (i:Int):Option Nat:=if 0≤i then (if i < n then some i.toNat else none) else if -(n:Int)≤i then some (i + n).toNat else none
def atI {α:Type}(xs:List α) (i:Int):Option α:=(ixN xs.length i).bind fun j=>xs[j]?
theorem ixN_seq {n:Nat}{i:Int}{j:Nat}(h:ixN n i = some j):seqIndex? i n = some j∧j < n∧-(n:Int)≤i∧i < n:=by
 unfold ixN at h
 by_cases h0:0≤i
 ·rw [if_pos h0] at h
  by_cases h1:i < n
  ·rw [if_pos h1] at h
   have e:i.toNat = j:=Option.some.inj h
   exact ⟨by rw [seqIndex_of h0 h1,e],by omega,by omega,h1⟩
  ·rw [if_neg h1] at h;cases h
 ·rw [if_neg h0] at h
  by_cases h1:-(n:Int)≤i
  ·rw [if_pos h1] at h
   have e:(i + n).toNat = j:=Option.some.inj h
   exact ⟨by rw [seqIndex_neg (by omega) h1,e],by omega,h1,by omega⟩
  ·rw [if_neg h1] at h;cases h
theorem atI_get {α:Type}{xs:List α}{i:Int}{v:α}(h:atI xs i = some v):∃ j,seqIndex? i xs.length = some j∧xs[j]? = some v∧j < xs.length∧-(xs.length:Int)≤i∧i < xs.length:=by
 unfold atI at h
 cases e:ixN xs.length i with
 | none=>rw [e] at h;cases h
 | some j=>
  rw [e] at h
  obtain ⟨h1,h2,h3,h4⟩:=ixN_seq e
  exact ⟨j,h1,h,h2,h3,h4⟩
theorem atI_nat {α:Type}{xs:List α}{j:Nat}{v:α}(h:xs[j]? = some v):atI xs (j:Int) = some v:=by
 have hj:j < xs.length:=(List.getElem?_eq_some_iff.mp h).1
 have e:ixN xs.length (j:Int) = some j:=by
  unfold ixN
  rw [if_pos (by omega),if_pos (by omega)];simp
 unfold atI;rw [e];exact h
def PlainIx (b:Expr):Prop:=∀ o i,subscripted b false o i = operate [o,i] (getItem o i)
def IxR (X:Cx) (r:R2):Prop:=
 ∀ (value slice:Expr) (pins:List (Addr × Obj)) (s:Shared) (σ:St) (H:Hp) (x y:V) (v u:Value) (Q:VK),Inv X pins σ H s→RelV x v→RelV y u→r x y H Q→
  subscripted slice false v u = operate [v,u] (getItem v u)→wpAny (model X.prog X.w) X.A (subscriptTail value slice v u) (EP X pins σ Q) X.xe s
def MtR (X:Cx) (id:String) (r:V→List V→Hp→VK→Prop):Prop:=
 ∀ (pins:List (Addr × Obj)) (s:Shared) (σ:St) (H:Hp) (x:V) (xs:List V) (v:Value) (us:List Value) (Q:VK),Inv X pins σ H s→RelV x v→Vals xs us→r x xs H Q→
  wpAny (model X.prog X.w) X.A (call (.builtin id) (v :: us)) (EP X pins σ Q) X.xe s
section
variable {X:Cx}{a b:Expr}{ta tb:TE}{pos:Pos}
theorem pe_ix {r:R2}(hr:IxR X r) (ha:PE X a ta) (hb:PE X b tb) (hs:PlainIx b):PE X (.Subscript a b pos) (tOp r ta tb):=by
 intro pins s σ H Q I h
 exact Subscript_ (binT ha hb I h fun v u s2 x y H2 I2 rx ry q=>hr a b pins s2 σ H2 x y v u Q I2 rx ry q (hs _ _))
def rIxL (K:PySem.W.Frag):R2:=fun x y H Q=>∃ p xs i v,x = .ref p∧y = .int i∧SqL K H p xs∧atI xs i = some v∧Q v H
def rIxT (K:PySem.W.Frag):R2:=fun x y H Q=>∃ p xs i v,x = .ref p∧y = .int i∧SqT K H p xs∧atI xs i = some v∧Q v H
def rIxS:R2:=fun x y H Q=>∃ z i c,x = .str z∧y = .int i∧z.length≤sizeLine∧atI z.cps.toList i = some c∧Q (.str ⟨#[c]⟩) H
theorem ix_list:IxR X (rIxL X.K):=by
 intro value slice pins s σ H x y v u Q I rx ry h hs
 obtain ⟨p,xs,i,z,rfl,rfl,hq,he,q⟩:=h
 cases rx
 obtain ⟨t,rfl⟩:=ry
 obtain ⟨its,r,pl,hz⟩:=I.list hq
 obtain ⟨j,h1,h2,h3,h4,h5⟩:=atI_get he
 obtain ⟨w,ew,rw'⟩:=r.get h2
 have hl:=r.length
 have hn:=line63
 have fin:EP X pins σ Q w s:=⟨z,H,I,rw',q⟩
 by_cases h0:0≤i
 ·have hj:i.toNat = j:=by
   rw [seqIndex_of h0 h5] at h1
   exact Option.some.inj h1
  exact item_listR pl.isList h0 (by omega) (by rw [hj];simpa using ew) fin hs
 ·have hj:(i + (its.toArray.size:Int)).toNat = j:=by
   rw [seqIndex_neg (by omega) h4] at h1
   rw [List.size_toArray,← hl]
   exact Option.some.inj h1
  exact subscriptTail_builtinR (x:=w) pl.isList.typeIs slot_list_getitem.lookup
   (wpAny_getItem_list_neg (Q:=fun r s' => r = w∧EP X pins σ Q r s') pl.isList (by omega) (by rw [List.size_toArray] <;> omega) (by omega) (by rw [hj];simpa using ew) ⟨rfl,fin⟩) hs
theorem ix_tup:IxR X (rIxT X.K):=by
 intro value slice pins s σ H x y v u Q I rx ry h hs
 obtain ⟨p,xs,i,z,rfl,rfl,hq,he,q⟩:=h
 cases rx
 obtain ⟨t,rfl⟩:=ry
 obtain ⟨its,r,pl,hz⟩:=I.tuple hq
 obtain ⟨j,h1,h2,h3,h4,h5⟩:=atI_get he
 obtain ⟨w,ew,rw'⟩:=r.get h2
 have hl:=r.length
 have hn:=line63
 have fin:EP X pins σ Q w s:=⟨z,H,I,rw',q⟩
 exact subscriptTail_builtinR (x:=w) pl.typeIs slot_tuple_getitem.lookup
  (getItem_tuple (j:=j) (Q:=fun r s' => r = w∧EP X pins σ Q r s') pl (by omega) (by omega) (by rw [List.size_toArray,← hl];exact h1) (by simpa using ew) ⟨rfl,fin⟩) hs
theorem ix_str:IxR X rIxS:=by
 intro value slice pins s σ H x y v u Q I rx ry h hs
 obtain ⟨z,i,c,rfl,rfl,hz,he,q⟩:=h
 obtain ⟨t,rfl⟩:=rx
 obtain ⟨t',rfl⟩:=ry
 obtain ⟨j,h1,h2,h3,h4,h5⟩:=atI_get he
 have hl:z.cps.toList.length = z.length:=by simp [Str.length]
 rw [hl] at h1 h4 h5
 have hn:=line63
 exact tail_any (typeIs_str s z t) slot_str_getitem.lookup (getItem_str (c:=c) (by
  have e1:decide (i < -(2 ^ 63:Int)) = false:=decide_eq_false (by omega)
  have e2:decide (i ≥ 2 ^ 63) = false:=decide_eq_false (by omega)
  rw [e1,e2,Bool.or_false]) (by rw [h1];simpa using h2) ⟨.str ⟨#[c]⟩,H,I.tok _,⟨_,rfl⟩,q⟩) hs
theorem mapSeq_set (its:List Value) (n j:Nat) (u:Value):Obj.mapSeq (·.setIfInBounds j u) { cls:=.type "list",data:=.seq its.toArray n } = { cls:=.type "list",data:=.seq (its.set j u).toArray n }:=by
 simp [Obj.mapSeq]
theorem Inv.lst {pins:List (Addr × Obj)}{σ:St}{H:Hp}{s:Shared}{p:Addr}{xs:List V}(I:Inv X pins σ H s) (h:H p = some (.lst xs)):
  ∃ (its:List Value) (n:Nat),Vals xs its∧s.heap.get? p = some { cls:=.type "list",data:=.seq its.toArray n }∧xs.length≤sizeLine:=by
 obtain ⟨z,its,n,r,e⟩:=I.hok p _ h
 exact ⟨its,n,r,e,z⟩
theorem Inv.lstUpd {pins:List (Addr × Obj)}{σ:St}{H:Hp}{s:Shared}{p:Addr}{xs ys:List V}{its its' : List Value} {n n' : Nat} {f:Obj→Obj}(I:Inv X pins σ H s) (h:H p = some (.lst xs))
  (ho:s.heap.get? p = some { cls:=.type "list",data:=.seq its.toArray n }) (hf:f { cls:=.type "list",data:=.seq its.toArray n } = { cls:=.type "list",data:=.seq its'.toArray n' }) (r:Vals ys its') (hz:ys.length≤sizeLine) (t:Nat):
  Inv X pins σ (upd H p (.lst ys)) { s with heap:=s.heap.update p f,toks:=t }:=by
 have e:(s.heap.update p f).get? p = some { cls:=.type "list",data:=.seq its'.toArray n' }:=by
  rw [Heap.get?_update_self f ho (by rw [hf] <;> rfl),hf]
 refine I.write (x:=p) (e:=p) (by rw [h];trivial) (.inl rfl) (fun b u hb q=>(Heap.get?_update_other _ _ (Ne.symm hb)).trans q) ⟨_,e⟩ ?_
 exact ⟨hz,its',n',r,e⟩
def rSetL:V→V→V→Hp→(Hp→Prop)→Prop:=fun o i v H Q=>∃ p xs k j,o = .ref p∧i = .int k∧H p = some (.lst xs)∧ixN xs.length k = some j∧Q (upd H p (.lst (xs.set j v)))
theorem set_list:PSet X rSetL:=by
 intro pins s σ H o i v ov iv u Q I ro ri rv h
 obtain ⟨p,xs,k,j,rfl,rfl,hp,hj,q⟩:=h
 cases ro
 obtain ⟨t,rfl⟩:=ri
 obtain ⟨its,n,r,ho,hz⟩:=I.lst hp
 obtain ⟨h1,h2,h3,h4⟩:=ixN_seq hj
 have hl:=r.length
 have hn:=line63
 have I' : Inv X pins σ (upd H p (.lst (xs.set j v))) { s with heap:=s.heap.update p (Obj.mapSeq (·.setIfInBounds j u)) }:=
  I.lstUpd hp ho (mapSeq_set its n j u) (r.set rv j) (by rw [List.length_set];exact hz) s.toks
 by_cases h0:0≤k
 ·have hk:k.toNat = j:=by
   rw [seqIndex_of h0 h4] at h1
   exact Option.some.inj h1
  exact PySem.W.ki_setAt ho h0 (by omega) (by rw [List.size_toArray,← hl];exact h4) (by rw [hk];exact ⟨_,I',q⟩)
 ·have hk:(k + (its.toArray.size:Int)).toNat = j:=by
   rw [seqIndex_neg (by omega) h3] at h1
   rw [List.size_toArray,← hl]
   exact Option.some.inj h1
  exact PySem.W.ki_setBack ho (by omega) (by rw [List.size_toArray,← hl];exact h3) (by omega) (by rw [hk];exact ⟨_,I',q⟩)
theorem slice_bounds (lo hi:Option Int) (n:Nat):(sliceBounds lo hi none n).1 = ((HT.sIx n 0 lo:Nat):Int)∧(sliceBounds lo hi none n).2.1 = ((HT.sIx n n hi:Nat):Int)∧(sliceBounds lo hi none n).2.2 = 1:=by
 refine ⟨?_,?_,rfl⟩
 ·cases lo with
  | none=>simp [sliceBounds,HT.sIx]
  | some i=>
   simp only [sliceBounds,HT.sIx,Option.getD_none,show (1:Int) > 0 by decide,if_true]
   by_cases h:i < 0
   ·simp only [h,if_true] <;> omega
   ·simp only [h,if_false] <;> omega
 ·cases hi with
  | none=>simp [sliceBounds,HT.sIx]
  | some i=>
   simp only [sliceBounds,HT.sIx,Option.getD_none,show (1:Int) > 0 by decide,if_true]
   by_cases h:i < 0
   ·simp only [h,if_true] <;> omega
   ·simp only [h,if_false] <;> omega
theorem slicePick_cut (its:List Value) (lo hi:Option Int):slicePick its.toArray lo hi none = ((its.drop (HT.sIx its.length 0 lo)).take (HT.sIx its.length its.length hi - HT.sIx its.length 0 lo)).toArray:=by
 obtain ⟨h1,h2,h3⟩:=slice_bounds lo hi its.toArray.size
 unfold slicePick
 rw [h1,h2,h3]
 simp only [sliceRange_one,pick_run,List.size_toArray] <;> rfl
def rSlL (K:PySem.W.Frag):V→Option Int→Option Int→Hp→VK→Prop:=fun x lo hi H Q=>∃ a xs,x = .ref a∧SqL K H a xs∧∀ p,H p = none→Q (.ref p) (upd H p (.lst (cutV xs lo hi)))
theorem sl_list:SlR X (rSlL X.K):=by
 intro pins s σ H x v vl vu lo hi sl Q I rx hs pl pu h
 obtain ⟨a,xs,rfl,hx,q⟩:=h
 cases rx
 obtain ⟨its,r,ht,hz⟩:=I.list hx
 have hlen:=r.length
 refine ⟨"list",_,slot_list_getitem.lookup,ht.isList.typeIs,?_⟩
 refine wpAny_getItem_list_slice ht.isList hs pl pu .none (by simp) ?_ (by rw [List.size_toArray] <;> omega)
 rw [slicePick_cut,← hlen]
 refine ⟨.ref s.heap.objs.size,_,I.laid (t' := s.toks) (o:=.lst (cutV xs lo hi)) (fun b ob q=>Heap.get?_push_of_some _ q) (Nat.le_refl _) ?_,rfl,q _ (I.hok.fresh (Nat.le_refl _))⟩
 exact ⟨Nat.le_trans (cutV_length xs lo hi) hz,_,0,(r.drop (HT.sIx xs.length 0 lo)).take (HT.sIx xs.length xs.length hi - HT.sIx xs.length 0 lo),Heap.get?_push_size _ rfl⟩
def flatV:V→Bool
 | .non=>true
 | .bl _=>true
 | .int _=>true
 | .str _=>true
 | _=>false
def eqV:V→V→Bool
 | .non,.non=>true
 | .bl a,.bl b=>a == b
 | .bl a,.int b=>(if a then 1 else 0) == b
 | .int a,.bl b=>a == (if b then 1 else 0)
 | .int a,.int b=>a == b
 | .str a,.str b=>a == b
 | _,_=>false
theorem eqAt_V {A:Around}{s:Shared}{y x:V}{u v:Value}(ry:RelV y u) (rx:RelV x v) (fy:flatV y = true) (fx:flatV x = true):SeqAt.EqAt A s u v (eqV y x):=by
 cases y with
 | non=>
  cases ry
  cases x with
  | non=>cases rx;exact SeqAt.EqAt.same _
  | bl b=>cases rx;exact SeqAt.EqAt.none_bool b
  | int b=>obtain ⟨t,rfl⟩:=rx;exact SeqAt.EqAt.none_int b t
  | str b=>obtain ⟨t,rfl⟩:=rx;exact SeqAt.EqAt.none_str b t
  | _=>exact absurd (show false = true from fx) Bool.false_ne_true
 | bl a=>
  cases ry
  cases x with
  | non=>cases rx;exact SeqAt.EqAt.bool_none a
  | bl b=>cases rx;exact SeqAt.EqAt.bool_bool a b
  | int b=>obtain ⟨t,rfl⟩:=rx;exact SeqAt.EqAt.bool_int a b t
  | str b=>obtain ⟨t,rfl⟩:=rx;exact SeqAt.EqAt.bool_str a b t
  | _=>exact absurd (show false = true from fx) Bool.false_ne_true
 | int a=>
  obtain ⟨t',rfl⟩:=ry
  cases x with
  | non=>cases rx;exact SeqAt.EqAt.int_none a t'
  | bl b=>cases rx;exact SeqAt.EqAt.int_bool a t' b
  | int b=>obtain ⟨t,rfl⟩:=rx;exact SeqAt.EqAt.int_int a t' b t
  | str b=>obtain ⟨t,rfl⟩:=rx;exact SeqAt.EqAt.int_str a t' b t
  | _=>exact absurd (show false = true from fx) Bool.false_ne_true
 | str a=>
  obtain ⟨t',rfl⟩:=ry
  cases x with
  | non=>cases rx;exact SeqAt.EqAt.str_none a t'
  | bl b=>cases rx;exact SeqAt.EqAt.str_bool a t' b
  | int b=>obtain ⟨t,rfl⟩:=rx;exact SeqAt.EqAt.str_int a t' b t
  | str b=>obtain ⟨t,rfl⟩:=rx;exact SeqAt.EqAt.str_str a t' b t
  | _=>exact absurd (show false = true from fx) Bool.false_ne_true
 | _=>exact absurd (show false = true from fy) Bool.false_ne_true
def eqU (x:V) (u:Value):Bool:=match u with
 | .none=>eqV .non x
 | .bool b=>eqV (.bl b) x
 | .int i _=>eqV (.int i) x
 | .str z _=>eqV (.str z) x
 | _=>false
theorem eqU_of {x y:V}{u:Value}(r:RelV y u) (f:flatV y = true):eqU x u = eqV y x:=by
 cases y with
 | non=>cases r;rfl
 | bl b=>cases r;rfl
 | int i=>obtain ⟨t,rfl⟩:=r;rfl
 | str z=>obtain ⟨t,rfl⟩:=r;rfl
 | _=>exact absurd (show false = true from f) Bool.false_ne_true
theorem any_eqU {x:V}:∀ {xs:List V}{us:List Value},Vals xs us→xs.all flatV = true→us.any (eqU x) = xs.any fun y=>eqV y x
 | _,_,.nil,_=>rfl
 | y :: xs,u :: us,.cons r t,f=>by
  rw [List.all_cons,Bool.and_eq_true] at f
  rw [List.any_cons,List.any_cons,eqU_of r f.1,any_eqU t f.2]
theorem mem_eqAt {A:Around}{s:Shared}{x:V}{v:Value}(rx:RelV x v) (fx:flatV x = true):∀ {xs:List V}{us:List Value},Vals xs us→xs.all flatV = true→∀ u∈us,SeqAt.EqAt A s u v (eqU x u)
 | _,_,.nil,_=>fun u hu=>by cases hu
 | y :: xs,u :: us,.cons r t,f=>fun u' hu=>by
  rw [List.all_cons,Bool.and_eq_true] at f
  rcases List.mem_cons.mp hu with rfl | hu
  ·rw [eqU_of r f.1];exact eqAt_V r rx f.1 fx
  ·exact mem_eqAt rx fx t f.2 u' hu
def inV (x:V) (xs:List V):Bool:=xs.any fun y=>eqV y x
def rIn (K:PySem.W.Frag) (neg:Bool):R2:=fun x y H Q=>∃ p xs,y = .ref p∧(SqL K H p xs∨SqT K H p xs)∧flatV x = true∧xs.all flatV = true∧Q (.bl (if neg then !inV x xs else inV x xs)) H
theorem op_in_seq:OpR X (compareOp .In) (rIn X.K false):=by
 intro pins s σ H x y v u Q I rx ry h
 obtain ⟨p,xs,rfl,hq,fx,fs,q⟩:=h
 cases ry
 rcases hq with hq | hq
 ·obtain ⟨its,r,pl,hz⟩:=I.list hq
  refine SeqAt.in_listAt (eqU x) pl.isList (fun w hw=>mem_eqAt rx fx r fs w (by simpa using hw)) ⟨.bl _,H,I,rfl,?_⟩
  rw [show its.toArray.any (eqU x) = its.any (eqU x) by simp,any_eqU r fs]
  exact q
 ·obtain ⟨its,r,pl,hz⟩:=I.tuple hq
  refine SeqAt.in_tupleAt (eqU x) pl (fun w hw=>mem_eqAt rx fx r fs w (by simpa using hw)) ⟨.bl _,H,I,rfl,?_⟩
  rw [show its.toArray.any (eqU x) = its.any (eqU x) by simp,any_eqU r fs]
  exact q
theorem call_len_seq:CallR X (.builtin "len") (fun xs H Q=>∃ p ys,xs = [.ref p]∧(SqL X.K H p ys∨SqT X.K H p ys)∧Q (.int ys.length) H):=by
 intro pins s σ H xs us Q I r h
 obtain ⟨p,ys,rfl,hq,q⟩:=h
 obtain ⟨u,rfl,rx⟩:=vals1 r
 cases rx
 have hn:=line63
 rcases hq with hq | hq
 ·obtain ⟨its,r',pl,hz⟩:=I.list hq
  have hlen:=r'.length
  exact Calls.call_len_list pl.isList (by simp only [List.size_toArray] <;> omega) ⟨.int ys.length,H,I.tok _,⟨s.toks + 1,by rw [List.size_toArray,hlen]⟩,q⟩
 ·obtain ⟨its,r',pl,hz⟩:=I.tuple hq
  have hlen:=r'.length
  exact len_tuple pl (by simp only [List.size_toArray] <;> omega) ⟨.int ys.length,H,I.tok _,⟨s.toks + 1,by rw [List.size_toArray,hlen]⟩,q⟩
theorem call_tuple_of:CallR X (.type "tuple") (fun xs H Q=>∃ p ys,xs = [.ref p]∧((SqL X.K H p ys∧∀ l,H l = none→Q (.ref l) (upd H l (.tup ys)))∨(SqT X.K H p ys∧Q (.ref p) H))):=by
 intro pins s σ H xs us Q I r h
 obtain ⟨p,ys,rfl,h⟩:=h
 obtain ⟨u,rfl,rx⟩:=vals1 r
 cases rx
 rcases h with ⟨hq,q⟩ | ⟨hq,q⟩
 ·obtain ⟨its,r',pl,hz⟩:=I.list hq
  have hlen:=r'.length
  refine call_tuple_list pl.isList (fun h' kp=>?_) (by simp only [List.size_toArray] <;> omega)
  have I1:Inv X pins σ H { s with heap:=h' }:=I.kept (t' := s.toks) kp
  have I2:Inv X pins σ (upd H h'.objs.size (.tup ys)) { s with heap:=h'.push { cls:=.type "tuple",data:=.seq its.toArray } }:=
   I1.laid (t' := s.toks) (fun b o e=>Heap.get?_push_of_some _ e) (Nat.le_refl _) (show ObjOk X.prog X.w _ _ _ (.tup ys) from ⟨hz,its,r',IsTup.new _ _,_,Heap.get?_push_size _ rfl,rfl⟩)
  exact ⟨.ref h'.objs.size,_,I2,rfl,q _ (I1.hok.fresh (Nat.le_refl _))⟩
 ·obtain ⟨its,r',pl,hz⟩:=I.tuple hq
  exact call_tuple_same pl ⟨.ref p,H,I,rfl,q⟩
def tyV (K:PySem.W.Frag) (T:String) (x:V) (H:Hp):Prop:=match x with
 | .str _=>T = "str"
 | .int _=>T = "int"
 | .ref p=>(T = "list" ∧ ∃ xs,SqL K H p xs)∨(T = "tuple" ∧ ∃ o,K.lookup p = some o∧o.cls = .type "tuple" ∧ o.dict = none)∨
   (T = "dict" ∧ ((∃ kvs,H p = some (.dK kvs))∨∃ kvs,H p = some (.dT kvs)))∨(T = "set" ∧ ∃ S n,H p = some (.set S n))
 | _=>False
theorem tyV_is {pins:List (Addr × Obj)}{σ:St}{H:Hp}{s:Shared}{T:String}{x:V}{v:Value}(I:Inv X pins σ H s) (r:RelV x v) (ty:tyV X.K T x H):
  s.TypeIs v T∧∀ a,v = .ref a→∃ ob,s.heap.get? a = some ob∧ob.dict = none:=by
 cases x with
 | str z=>
  obtain ⟨t,rfl⟩:=r
  cases (show T = "str" from ty)
  exact ⟨typeIs_str s z t,fun _ e=>nomatch e⟩
 | int i=>
  obtain ⟨t,rfl⟩:=r
  cases (show T = "int" from ty)
  exact ⟨typeIs_int s i t,fun _ e=>nomatch e⟩
 | ref p=>
  cases r
  rcases ty with ⟨rfl,xs,hq⟩ | ⟨rfl,o,hk,hc,hd⟩ | ⟨rfl,hk⟩ | ⟨rfl,S,n,hk⟩
  ·obtain ⟨its,_,pl,_⟩:=I.list hq
   refine ⟨pl.isList.typeIs,fun a e=>?_⟩
   cases e
   obtain ⟨o,n,e,c,hd,_⟩:=pl
   exact ⟨o,e,hd⟩
  ·refine ⟨⟨o,I.kIn p o hk,hc⟩,fun a e=>?_⟩
   cases e
   exact ⟨o,I.kIn _ o hk,hd⟩
  ·have z:∃ o,s.heap.get? p = some o∧o.ExactDict:=by
    rcases hk with ⟨kvs,hk⟩ | ⟨kvs,hk⟩
    ·obtain ⟨_,_,_,_,o,_,_,e,ex,_⟩:=I.hok p _ hk
     exact ⟨o,e,ex⟩
    ·obtain ⟨_,_,_,_,o,_,_,e,ex,_⟩:=I.hok p _ hk
     exact ⟨o,e,ex⟩
   obtain ⟨o,e,ex⟩:=z
   refine ⟨⟨o,e,ex.1⟩,fun a e2=>?_⟩
   cases e2
   exact ⟨o,e,ex.2.1⟩
  ·obtain ⟨o,_,_,_,e,ex,_⟩:=I.hok p _ hk
   refine ⟨⟨o,e,ex.1⟩,fun a e2=>?_⟩
   cases e2
   exact ⟨o,e,ex.2.1⟩
 | _=>exact False.elim ty
def tBM0 (K:PySem.W.Frag) (T:String) (r:V→List V→Hp→VK→Prop) (to:TE):TE:=fun σ H Q=>to σ H fun x H1=>tyV K T x H1∧r x [] H1 Q
def tBM (K:PySem.W.Frag) (T:String) (r:V→List V→Hp→VK→Prop) (to:TE) (t:TA):TE:=fun σ H Q=>to σ H fun x H1=>tyV K T x H1∧t σ H1 fun xs H2=>r x xs H2 Q
variable {o e:Expr}{es:List Expr}{to:TE}{t:TA}{name:Str}{apos cpos:Pos}{T id:String}{r:V→List V→Hp→VK→Prop}
theorem pe_bm0 (pa:PlainAttrs T) (slot:Slot T name id) (hty:typeOf (.builtin id) = pure (.type "method_descriptor")) (hm:MtR X id r) (ho:PE X o to)
  (hbase:attributeBase o name X.env (eval o X.env) = eval o X.env:=by rfl) (hline:(apos.endLine == cpos.line) = true:=by rfl):PE X (.Call (.Attribute o name apos) [] [] cpos) (tBM0 X.K T r to):=by
 intro pins s σ H Q I h
 refine wpAny_Call_method0_late hbase hline (thn (ho pins s σ H _ I h) fun v s1 ⟨x,H1,I1,r1,ty,q1⟩=>?_)
 obtain ⟨h1,h2⟩:=tyV_is I1 r1 ty
 exact ⟨T,id,pa,slot,hty,h1,h2,Calls.callWith_builtin rfl (PySem.evalArgs_none (hm pins s1 σ H1 x [] v [] Q I1 r1 .nil q1))⟩
theorem pe_bm (pa:PlainAttrs T) (slot:Slot T name id) (hty:typeOf (.builtin id) = pure (.type "method_descriptor")) (hm:MtR X id r) (ho:PE X o to) (ha:PA X (e :: es) t)
  (hbase:attributeBase o name X.env (eval o X.env) = eval o X.env:=by rfl)
  (hfew:((backTo cpos (starEach (e :: es) X.env)).all (fun x=>!x.1) && (backToKw cpos (keywordEach [] X.env)).all (fun x=>x.1.isSome)
   && decide ((e :: es).length + ([]:List Keyword).length + (if ([]:List Keyword).isEmpty then 0 else 1) < 30)) = true:=by rfl)
  (hline:(apos.endLine == cpos.line) = true:=by rfl) (hs:starEach (e :: es) X.env = (false,eval e X.env) :: starEach es X.env:=by rfl) (hplain:(backTo cpos (starEach es X.env)).any (·.1) = false:=by rfl):
  PE X (.Call (.Attribute o name apos) (e :: es) [] cpos) (tBM X.K T r to t):=by
 intro pins s σ H Q I h
 refine wpAny_Call_method_late hbase hfew hline rfl (thn (ho pins s σ H _ I h) fun v s1 ⟨x,H1,I1,r1,ty,q1⟩=>?_)
 obtain ⟨h1,h2⟩:=tyV_is I1 r1 ty
 refine ⟨T,id,pa,slot,hty,h1,h2,?_⟩
 have hA:=ha cpos pins s1 σ H1 _ I1 q1
 rw [hs] at hA ⊢
 refine Calls.callWith_builtin (by show (false || (backTo cpos (starEach es X.env)).any (·.1)) = false;rw [hplain] <;> rfl) (Calls.evalArgs_plain ?_)
 exact thn hA fun us s2 ⟨vs,H2,I2,r2,q2⟩=>hm pins s2 σ H2 x vs v us Q I2 r1 r2 q2
end
end L2
namespace L2
open PySem PySem.Spec PyProof.Rows
def MtM (X:Cx) (id:String) (r:V→List V→Hp→VK→Prop):Prop:=
 ∀ (pins:List (Addr × Obj)) (s:Shared) (σ:St) (H:Hp) (x:V) (xs:List V) (v:Value) (us:List Value) (Q:VK),Inv X pins σ H s→RelV x v→Vals xs us→r x xs H Q→
  wpAny (model X.prog X.w) X.A (call (.builtin id) (v :: us)) (EP X pins σ Q) X.xe s
theorem Vals.one:∀ {x:V}{us:List Value},Vals [x] us→∃ u,us = [u]∧RelV x u
 | _,_,.cons r .nil=>⟨_,rfl,r⟩
theorem Vals.zero:∀ {us:List Value},Vals [] us→us = []
 | _,.nil=>rfl
theorem Vals.dropLast {xs:List V}{us:List Value}(h:Vals xs us):Vals xs.dropLast us.dropLast:=by
 induction h with
 | nil=>exact .nil
 | cons r t ih=>
  cases t with
  | nil=>exact .nil
  | cons q t' => exact .cons r ih
theorem Vals.reverse {xs:List V}{us:List Value}(h:Vals xs us):Vals xs.reverse us.reverse:=by
 induction h with
 | nil=>exact .nil
 | cons r t ih=>rw [List.reverse_cons,List.reverse_cons];exact Vals.append ih (.cons r .nil)
theorem erase_last {α:Type}(l:List α):l.eraseIdx (l.length - 1) = l.dropLast:=by
 induction l with
 | nil=>rfl
 | cons a r ih=>
  cases r with
  | nil=>rfl
  | cons b r=>
   have e:(a :: b :: r).length - 1 = ((b :: r).length - 1) + 1:=by
    have h1:(a :: b :: r).length = r.length + 2:=rfl
    have h2:(b :: r).length = r.length + 1:=rfl
    omega
   rw [e,List.eraseIdx_cons_succ,ih]
   all_goals rfl
section
variable {X:Cx}{pins:List (Addr × Obj)}{σ:St}{H:Hp}{s:Shared}{l b:Addr}{xs ys zs:List V}
theorem Inv.lset {its its' : List Value} {n:Nat}{f:Array Value→Array Value}{t' : Nat} (I:Inv X pins σ H s) (hH:H l = some (.lst xs))
  (e:s.heap.get? l = some { cls:=.type "list",data:=.seq its.toArray n }) (hf:f its.toArray = its'.toArray) (hv:Vals ys its') (hz:ys.length≤sizeLine):
  Inv X pins σ (upd H l (.lst ys)) { s with heap:=s.heap.update l (Obj.mapSeq f),toks:=t' }:=by
 have q:=PySem.IsL.update e f
 rw [hf] at q
 refine I.write (x:=l) (e:=l) (by rw [hH];exact trivial) (.inl rfl) (fun b' u hb hu=>(Heap.get?_update_other s.heap (Obj.mapSeq f) (Ne.symm hb)).trans hu) ⟨_,q⟩ ?_
 exact ⟨hz,its',_,hv,q⟩
theorem Inv.lnew {its:List Value}{t' : Nat} (I:Inv X pins σ H s) (hv:Vals ys its) (hz:ys.length≤sizeLine):
  Inv X pins σ (upd H s.heap.objs.size (.lst ys)) { s with heap:=s.heap.push { cls:=.type "list",data:=.seq its.toArray },toks:=t' }:=
 I.laid (fun _ _ q=>Heap.get?_push_of_some _ q) (Nat.le_refl _) ⟨hz,its,0,hv,Heap.get?_push_size _ rfl⟩
theorem Inv.fresh (I:Inv X pins σ H s):H s.heap.objs.size = none:=I.hok.fresh (Nat.le_refl _)
theorem Inv.lstM (I:Inv X pins σ H s) (hH:H l = some (.lst xs)):xs.length≤sizeLine∧∃ (its:List Value) (n:Nat),Vals xs its∧xs.length = its.length∧s.heap.get? l = some { cls:=.type "list",data:=.seq its.toArray n }:=by
 obtain ⟨z,its,n,r,e⟩:=I.hok l _ hH
 exact ⟨z,its,n,r,r.length,e⟩
end
section
variable {X:Cx}
def rAppend:V→List V→Hp→VK→Prop:=fun x vs H Q=>∃ l xs y,x = .ref l∧vs = [y]∧H l = some (.lst xs)∧xs.length < sizeLine∧Q .non (upd H l (.lst (xs ++ [y])))
theorem mt_append:MtM X "list.append" rAppend:=by
 intro pins s σ H x vs v us Q I rx rv h
 obtain ⟨l,xs,y,rfl,rfl,hH,hz,q⟩:=h
 cases rx
 obtain ⟨u,rfl,ru⟩:=rv.one
 obtain ⟨z,its,n,r,hl,e⟩:=I.lstM hH
 refine call_meets F.slot_list_append ⟨_,e,rfl⟩ F.entry_list_append (F.args_list_append_2 _ _) (PySem.list_append l its.toArray n u (by rw [List.size_toArray];omega)) ⟨e,?_⟩
 refine ⟨.non,_,I.lset (its' := its ++ [u]) hH e (by simp) (r.append (.cons ru .nil)) ?_,rfl,q⟩
 rw [List.length_append,List.length_singleton]
 omega
def rPop:V→List V→Hp→VK→Prop:=fun x vs H Q=>∃ l xs y,x = .ref l∧vs = []∧H l = some (.lst xs)∧xs[xs.length - 1]? = some y∧Q y (upd H l (.lst xs.dropLast))
theorem mt_pop:MtM X "list.pop" rPop:=by
 intro pins s σ H x vs v us Q I rx rv h
 obtain ⟨l,xs,y,rfl,rfl,hH,hy,q⟩:=h
 cases rx
 have hus:=rv.zero
 subst hus
 obtain ⟨z,its,n,r,hl,e⟩:=I.lstM hH
 obtain ⟨u,hu,ru⟩:=r.get hy
 have hy' : its.toArray[its.toArray.size - 1]? = some u:=by
  show its.toArray[its.length - 1]? = some u
  rw [← Array.getElem?_toList,← hl]
  exact hu
 refine call_meets F.slot_list_pop ⟨_,e,rfl⟩ F.entry_list_pop (F.args_list_pop_1 _) (MeetsSeq.list_pop_last l its.toArray n u hy' (by rw [List.size_toArray];omega)) ⟨e,?_⟩
 refine ⟨y,_,I.lset (its' := its.dropLast) hH e ?_ r.dropLast ?_,ru,q⟩
 ·show its.toArray.eraseIdxIfInBounds (its.toArray.size - 1) = its.dropLast.toArray
  rw [List.size_toArray,List.eraseIdxIfInBounds_toArray,erase_last]
 ·rw [List.length_dropLast]
  omega
def rCat:R2:=fun x y H Q=>∃ l b xs zs,x = .ref l∧y = .ref b∧H l = some (.lst xs)∧H b = some (.lst zs)∧xs.length + zs.length≤sizeLine∧∀ p,H p = none→Q (.ref p) (upd H p (.lst (xs ++ zs)))
theorem op_cat:OpR X (binaryOp .Add) rCat:=by
 intro pins s σ H x y v u Q I rx ry h
 obtain ⟨l,b,xs,zs,rfl,rfl,hH,hB,hz,q⟩:=h
 cases rx
 cases ry
 obtain ⟨z,its,n,r,hl,e⟩:=I.lstM hH
 obtain ⟨z2,its2,n2,r2,hl2,e2⟩:=I.lstM hB
 refine PySem.P.add_list e e2 ?_ (by rw [List.size_toArray,List.size_toArray];omega)
 have ea:its.toArray ++ its2.toArray = (its ++ its2).toArray:=by simp
 rw [ea]
 exact ⟨.ref _,_,I.lnew (t' := s.toks) (r.append r2) (by rw [List.length_append];omega),rfl,q _ I.fresh⟩
end
section
variable {prog:Program}{w:World}{A:Around}{E:Value→Shared→Prop}{s:Shared}
set_option maxRecDepth 100000 in
end
section
variable {X:Cx}
end
end L2
namespace Att
open PySem PySem.W PySem.Calls PyProof.Rows
theorem ints_of_wellAll {P:Params}{h:Heap}:∀ (ns:List Int) (vs:List Value),WellAll P h vs (ns.map WData.int)→IntsAre vs ns:=by
 intro ns
 induction ns with
 | nil=>
  intro vs w
  rw [List.map_nil] at w
  cases w
  exact .nil
 | cons n ns ih=>
  intro vs w
  rw [List.map_cons] at w
  cases w with
  | cons a b=>
   cases a
   exact .cons _ _ (ih _ b)
theorem script_of {l:OpenLaw}{n:Nat}(hn:l.most = some n) {P:Params}{h:Heap}{args:List WData}{vals:List Value}
  (hpre:l.row.toRowW.claim.pre args = true) (hwl:WellAll P h vals args):
  ∃ a vs ns,vals = [Value.ref a]∧args = [WData.list (ns.map WData.int)]∧h.get? a = some { cls:=.type "list",data:=.seq vs.toArray }∧IntsAre vs ns∧ns.length≤n:=by
 have hsh:WShape.hasAll [] args [.list .int] = true:=(pre_splitW hpre).1
 have hc:l.pre.holds [] { args:=args } = true:=(pre_splitW hpre).2
 obtain ⟨d,r,rfl,h1,h2⟩:=hasAllW_cons hsh
 obtain rfl:=hasAllW_nil h2
 obtain ⟨xs,rfl,h3⟩:=hasW_list h1
 obtain ⟨ns,rfl⟩:=items_int h3
 have hlen:ns.length≤n:=by
  unfold OpenLaw.pre at hc
  have h4:(WTm.not (.lt (.lit (.int (n:Int))) (.len (.arg 0)))).holds [] { args:=[.list (ns.map .int)] } = true:=by
   have h4:=(holds_andW hc).1
   rw [hn] at h4
   exact h4
  have h5:=condW_of h4 (w_not (w_lt w_lit (w_len_list (w_arg rfl))))
  rw [List.length_map] at h5
  refine Nat.le_of_not_lt fun q=>?_
  have q' : (n:Int) < ((ns.length:Nat):Int):=by omega
  first
   | (rw [decide_eq_true q'] at h5;exact absurd h5 (by decide))
   | (simp at h5;omega)
 cases hwl with
 | cons w1 w2=>
  cases w2
  cases w1 with
  | list ho hall=>exact ⟨_,_,ns,rfl,rfl,ho,ints_of_wellAll ns _ hall,hlen⟩
theorem post_true (l:OpenLaw) (args:List WData):l.row.toRowW.claim.post args (.bool true) args = true:=
 postW_of (r:=l.row.toRowW) (X:=(true == true))
  (show WShape.has [] (.bool true) .bool = true by first | rfl | decide | simp [WShape.has,WShape.arms,WShape.armsAll])
  (show (WTm.eq .res (.lit (.bool true))).value [] { args:=args,res:=some (.bool true),after:=args } = some (.bool (true == true)) from w_eq_bool (w_res rfl) w_lit) rfl
theorem attach_call {l:OpenLaw}{n:Nat}{q:Program}{loose:List Str}{XP:(Str→Option Value)→Heap→Prop}{YP:World→Heap→Prop}{d:DefRec}
  (hn:l.most = some n) (hdf:d.params.defaults = [])
  (call:∀ (w:World) (s₀ s₁:Shared) (mg mb:Str→Option Value) (fa:Addr) (o:Obj) (pm cd doc:Value) (a:Addr) (vs:List Value) (ns:List Int),
   Ground q loose [] XP w s₀ mg mb s₁.heap→YP w s₁.heap→
   s₁.heap.get? fa = some o→o.data = .func (docDef d.name d.params d.body d.scope pm cd doc)→s₁.heap.CodeRec cd d.name→mg d.name = some (.ref fa)→
   s₁.heap.get? a = some { cls:=.type "list",data:=.seq vs.toArray }→IntsAre vs ns→ns.length≤n→s₁.gens = #[]→
   codeAny (model l.prog w) callerA (.call (.ref fa) ⟨[.ref a],[]⟩) (fun r s' => r = .ok (.ret (.bool true))∧OldK s₁.heap s'.heap∧s'.os = s₁.os∧AllBare s'.gens) s₁):
  WalkO q loose XP YP l.row.toRowW d [] (fun f vs=>PySem.call f vs):=by
 intro w s₀ s₁ mg mb G Y fa o pm cd doc dV kV ho hd hcd hD hmg hg args vals as hpre hlay hrd hwl hlo
 obtain rfl:dV = .none:=Dflts.none hD hdf
 obtain rfl:kV = .none:=Dflts.noKw hD
 obtain ⟨a,vs,ns,rfl,rfl,hobj,hints,hlen⟩:=script_of hn hpre hwl
 refine enter_call (codeAny_mono (call w s₀ s₁ mg mb fa o pm cd doc a vs ns G Y ho (fd_plain hd) hcd hmg hobj hints hlen hg) fun r s' hq=>?_)
 obtain ⟨rfl,h2,h3,h4⟩:=hq
 exact ⟨.inl ⟨.bool true,.bool true,[],rfl,fun _=>rfl,.bool true,post_true l _,fun _=>⟨List.Pairwise.nil,fun _ hm=>(nomatch hm)⟩⟩,h2,h3,h4⟩
section
variable {prog:Program}{w:World}{A:Around}{E:Value→Shared→Prop}{s:Shared}{K:Frag}
end
end Att
namespace L2
open PySem PySem.Spec PyProof.Rows
theorem vals_ints:∀ {vs:List Value}{ns:List Int},IntsAre vs ns→Vals (ns.map V.int) vs
 | _,_,.nil=>.nil
 | _,_,.cons n t h=>.cons ⟨t,rfl⟩ (vals_ints h)
end L2
namespace L2
open PySem PySem.Spec PyProof.Rows
end L2
namespace L2
open PySem PySem.Spec PyProof.Rows
def defArgs (s:Stmt):Arguments:=match s with
 | .FunctionDef _ a _ _ _ _ _ _ _ _=>a
 | _=>{ posonlyargs:=[],args:=[],vararg:=none,kwonlyargs:=[],kw_defaults:=[],kwarg:=none,defaults:=[] }
def defBody (s:Stmt):List Stmt:=match s with
 | .FunctionDef _ _ b _ _ _ _ _ _ _=>b
 | _=>[]
def defScope (s:Stmt):Scope:=match s with
 | .FunctionDef _ _ _ _ _ _ sc _ _ _=>sc
 | _=>{ kind:=.function,names:=[],isGenerator:=false,isCoroutine:=false }
abbrev CX0:CXT:=fun _ _ _ _ _ _=>False
abbrev E0:XK:=fun _ _ _=>False
theorem pass0 {X:Cx}:Passes CX0 X E0:=fun _ _ _ _ _ _ _ h=>h.elim
structure Fun (K:PySem.W.Frag) (x qual:Str) (st:Stmt) (f:Addr) (fd:FuncData):Prop where
 ex:∃ (oc:Value) (od:Option Addr) (kV doc pm:Value) (an:Option Addr) (cdv ct:Value) (osl:Array (Option Value)),
  fd = PySem.W.fnOf x qual (defArgs st) (defBody st) (defScope st) .none kV doc pm an cdv ct∧K.lookup f = some ⟨oc,od,.func fd,osl⟩∧PySem.W.codeIn K cdv qual = true
 kp:PySem.W.keepIn K (.ref f) = true
section
variable {P:Program}{w:World}{K:PySem.W.Frag}{mg:Str→Option Value}{base:Heap}
theorem Fun.ok {x qual:Str}{st:Stmt}{f:Addr}{fd:FuncData}{N ps:List Str}{k:Nat}{sp:Sp}(F:Fun K x qual st f fd) (S:FnScope N ps (defScope st)) (len:∀ vs H Q E,sp vs H Q E→vs.length = ps.length)
  (hbody:∀ (cdv:Value) (A:Around) (outer:List Env) (s:Shared) (H:Hp) (vs:List V) (Q:VK) (E:XK),Room k (A.deeper (envOfC qual (defScope st) s.heap.objs.size f cdv))→sp vs H Q E→
   ∃ t,PSs (cxOf CX0 P w K mg base N qual (defScope st) f cdv A outer s H E).nox (defBody st) t∧t { nx:=fun _ H' => Q .non H',rt:=Q } (start N vs) H):FnOk P w K mg base CX0 (k + 1) f fd ps sp:=by
 obtain ⟨oc,od,kV,doc,pm,an,cdv,ct,osl,rfl,lk,hcd⟩:=F.ex
 refine fn_of lk hcd S len fun A outer s H vs Q E hr hsp=>?_
 obtain ⟨t,h,q⟩:=hbody cdv A outer s H vs Q E hr hsp
 exact ⟨t,h.nox,q⟩
theorem Fun.binds {x qual:Str}{st:Stmt}{f:Addr}{fd:FuncData}{ps:List Str}(F:Fun K x qual st f fd)
  (h:∀ (kV doc pm:Value) (an:Option Addr) (cdv ct:Value) (us:List Value),us.length = ps.length→bindArgs (PySem.W.fnOf x qual (defArgs st) (defBody st) (defScope st) .none kV doc pm an cdv ct) ⟨us,[]⟩ = pure (ps.zip us)):Binds K fd ps []:=by
 obtain ⟨oc,od,kV,doc,pm,an,cdv,ct,osl,rfl,lk,hcd⟩:=F.ex
 exact .all (h kV doc pm an cdv ct)
theorem fun_mk {x qual:Str}{st:Stmt}{f:Addr}{oc:Value}{od an:Option Addr}{osl:Array (Option Value)}{kV doc pm cdv ct:Value}(l:K.lookup f = some ⟨oc,od,.func (PySem.W.fnOf x qual (defArgs st) (defBody st) (defScope st) .none kV doc pm an cdv ct),osl⟩)
  (c:PySem.W.codeIn K cdv qual = true) (k:PySem.W.keepIn K (.ref f) = true):Fun K x qual st f (PySem.W.fnOf x qual (defArgs st) (defBody st) (defScope st) .none kV doc pm an cdv ct):=⟨⟨oc,od,kV,doc,pm,an,cdv,ct,osl,rfl,l,c⟩,k⟩
end
section
variable {X:Cx}
theorem pv (i:Nat) {x:Str}{pos:Pos}(hN:X.N[i]? = some x:=by rfl) (hv:Vis X.env.scope x:=by first | exact Or.inl rfl | exact Or.inr (Or.inl rfl) | exact Or.inr (Or.inr rfl)) (hd:(x == ("__debug__" : Str)) = false:=by decide)
  (hcd:(x == ("__classdict__" : Str)) = false:=by decide):PE X (.Name x pos) (tVar i):=pe_var hN hv hd hcd
end
theorem iteF {A B:Prop}(h:B):if false = true then A else B:=by
 rw [if_neg Bool.false_ne_true]
 exact h
theorem iteT {A B:Prop}(h:A):if true = true then A else B:=by
 rw [if_pos rfl]
 exact h
theorem ite2 {c A B:Prop}[Decidable c] (h1:c→A) (h2:¬ c→B):if c then A else B:=by
 by_cases h:c
 ·rw [if_pos h]
  exact h1 h
 ·rw [if_neg h]
  exact h2 h
def Same (H H' : Hp):Prop:=∀ b o,H b = some o→H' b = some o
theorem Same.refl (H:Hp):Same H H:=fun _ _ h=>h
theorem Same.trans {H H1 H2:Hp}(a:Same H H1) (b:Same H1 H2):Same H H2:=fun c o h=>b c o (a c o h)
theorem Same.free {H H' : Hp} (e:Same H H') {l:Addr}(h:H' l = Option.none):H l = Option.none:=by
 cases q:H l with
 | none=>rfl
 | some o=>
  rw [e l o q] at h
  cases h
theorem Same.seq {K:PySem.W.Frag}{H H' : Hp} {a:Addr}{xs:List V}(e:Same H H') (h:SqL K H a xs):SqL K H' a xs:=by
 rcases h with (h | ⟨o,h⟩) | h
 ·exact .inl (.inl (e _ _ h))
 ·exact .inl (.inr ⟨o,e _ _ h⟩)
 ·exact .inr h
end L2
set_option maxHeartbeats 4000000
namespace L2
open PySem PySem.Spec PyProof.Rows
section
variable {X:Cx}
def CMulW (i j:Int):Prop:=i.natAbs < 2 ^ 4000∧j.natAbs < 2 ^ 4000
theorem CMulW.ok {i j:Int}(h:CMulW i j):IntMulOk i j:=
 IntMulOk.of_le (m:=4000) (n:=4000) (intBits_le_iff.mpr h.1) (intBits_le_iff.mpr h.2) (by decide)
theorem op_mulW:OpR X (binaryOp .Mult) (rI CMulW fun i j=>.int (i * j)):=opI fun _ _ _ _ _ _ _ hc q=>mul_int q hc.ok
def CDivW (i j:Int):Prop:=j≠0∧j.natAbs < 2 ^ 4000
theorem noPy {i j:Int}(h:CDivW i j):Builtin.divisionGoesByPylong i j = false:=by
 refine PyProof.noPylong_of_log2 ?_
 have h0:j.natAbs≠0:=by have:=h.1;omega
 have:=(Nat.log2_lt h0).mpr h.2
 omega
def CDivP (i j:Int):Prop:=0 < j∧j.natAbs < 2 ^ 4000
theorem op_fdivP:OpR X (binaryOp .FloorDiv) (rI CDivP fun i j=>.int (i / j)):=opI fun i j _ _ _ _ _ hc q=>by
 refine floordiv_int (by have:=hc.1;omega) ?_ (.inl (noPy ⟨by have:=hc.1;omega,hc.2⟩))
 rw [Int.fdiv_eq_ediv_of_nonneg i (by have:=hc.1;omega)]
 exact q
end
end L2
namespace L2
open PySem PySem.Spec PyProof.Rows
def clOf (env:Env):List (Str × NameKind)→List (Str × Addr)→List (Str × Addr)
 | [],acc=>acc
 | (n,k) :: r,acc=>clOf env r (if (k == NameKind.free) = true then (n,(env.cells.lookup n).getD 0) :: acc else acc)
theorem closure_eq {env:Env}:∀ (names:List (Str × NameKind)) (acc:List (Str × Addr)),(∀ p∈names,p.2 = .free→∃ c,env.cells.lookup p.1 = some c)→
  (forIn names acc fun (x:Str × NameKind) (cs:List (Str × Addr))=>(match x with
   | (name,kind)=>if (kind == NameKind.free) = true then (do let __do_lift ← cellOf env name;pure (ForInStep.yield ((name,__do_lift) :: cs))) else pure (ForInStep.yield cs):Sem (ForInStep (List (Str × Addr))))) = pure (clOf env names acc):=by
 intro names
 induction names with
 | nil=>intro acc _;rfl
 | cons p r ih=>
  intro acc h
  obtain ⟨n,k⟩:=p
  rw [List.forIn_cons]
  have hr:=fun acc=>ih acc fun q hq=>h q (List.mem_cons_of_mem _ hq)
  by_cases hk:k = .free
  ·subst hk
   obtain ⟨c,hc⟩:=h (n,.free) List.mem_cons_self rfl
   have e:cellOf env n = pure c:=by unfold cellOf;rw [hc]
   simp only [beq_self_eq_true,if_true,e,pure_bind]
   rw [hr]
   simp only [clOf,beq_self_eq_true,if_true,hc,Option.getD_some]
  ·have hb:(k == NameKind.free) = false:=by simpa using hk
   simp only [hb,Bool.false_eq_true,if_false,pure_bind]
   rw [hr]
   simp only [clOf,hb,Bool.false_eq_true,if_false]
theorem closureFor_eq {env:Env}{scope:Scope}(h:∀ p∈scope.names,p.2 = .free→∃ c,env.cells.lookup p.1 = some c):closureFor scope env = pure (clOf env scope.names []):=by
 unfold closureFor
 have e:=closure_eq (env:=env) scope.names [] h
 simp only [e,pure_bind]
theorem clOf_mem {env:Env}{y:Str}{c:Addr}:∀ {names:List (Str × NameKind)}{acc:List (Str × Addr)},(∀ p∈names,p.2 = .free→∃ c,env.cells.lookup p.1 = some c)→(∀ y c,acc.lookup y = some c→env.cells.lookup y = some c)→
  (clOf env names acc).lookup y = some c→env.cells.lookup y = some c
 | [],_,_,ha,e=>ha _ _ e
 | (n,k) :: r,acc,h,ha,e=>by
  refine clOf_mem (names:=r) (fun p hp=>h p (List.mem_cons_of_mem _ hp)) (fun y c q=>?_) e
  by_cases hk:(k == NameKind.free) = true
  ·rw [if_pos hk] at q
   obtain ⟨c',hc'⟩:=h (n,k) List.mem_cons_self (by simpa using hk)
   rw [List.lookup_cons] at q
   cases hy:y == n with
   | true=>
    rw [hy] at q
    have hy' : y = n:=by simpa using hy
    subst hy'
    rw [hc'] at q
    cases q
    exact hc'
   | false=>
    rw [hy] at q
    exact ha y c q
  ·rw [if_neg hk] at q
   exact ha y c q
theorem clOf_acc {env:Env}{y:Str}:∀ {names:List (Str × NameKind)}{acc:List (Str × Addr)},(acc.lookup y).isSome = true→((clOf env names acc).lookup y).isSome = true
 | [],_,h=>h
 | (n,k) :: r,acc,h=>by
  refine clOf_acc (names:=r) ?_
  split
  ·rw [List.lookup_cons]
   split
   ·rfl
   ·exact h
  ·exact h
theorem clOf_has {env:Env}{y:Str}:∀ {names:List (Str × NameKind)}{acc:List (Str × Addr)},(y,NameKind.free)∈names→((clOf env names acc).lookup y).isSome = true
 | (n,k) :: r,acc,h=>by
  rcases List.mem_cons.mp h with e | h
  ·cases e
   refine clOf_acc (names:=r) ?_
   rw [if_pos (by simp),List.lookup_cons]
   simp
  ·exact clOf_has (names:=r) h
abbrev compCx (X:Cx) (scope:Scope) (Nc:List Str) (C:Addr) (s0:Shared) (H0:Hp) (ex:List Addr):Cx:=
 { X with N:=Nc,s₀:=s0,H₀:=H0,env:=compEnvC scope (clOf X.env scope.names []) C X.env,outer:=X.stack,ex:=ex,fn:=fun _=>false,pn:=[],xe:=fun _ _=>False }
structure CompScope (fr sc:Scope) (x:Str) (cap:List Str):Prop where
 kind:sc.kind = .function
 cell:∀ p∈sc.names,p.2≠.cell
 names:∀ p∈sc.names,p.2 = .local→sc.names.lookup p.1 = some .local
 tgt:sc.names.lookup x = some .local
 free:∀ p∈sc.names,p.2 = .free→fr.names.lookup p.1 = some .cell
 caps:∀ y∈cap,(y,NameKind.free)∈sc.names
 nd:(x :: cap).Nodup
 noboth:∀ y∈cap,sc.names.lookup y≠some .local
theorem relabel_mem {sc:Scope}{env:Env}{y:Str}{k:NameKind}(h:(y,k)∈(relabel sc env).names):∃ k',(y,k')∈sc.names∧(k = k' ∨ (k' = .free∧k = .cell)):=by
 unfold relabel at h
 obtain ⟨⟨n,k'⟩,hm,e⟩:=List.mem_map.mp h
 by_cases hc:(k' == NameKind.free && env.scope.kind == .function && env.kindOf n == some .cell) = true
 ·have e:(n,NameKind.cell) = (y,k):=by simpa [hc] using e
  cases e
  refine ⟨k',hm,.inr ⟨?_,rfl⟩⟩
  rw [Bool.and_eq_true,Bool.and_eq_true] at hc
  simpa using hc.1.1
 ·have e:(n,k') = (y,k):=by simpa [hc] using e
  cases e
  exact ⟨k,hm,.inl rfl⟩
section
variable {X:Cx}{pins:List (Addr × Obj)}{σ:St}{H:Hp}{s:Shared}{sc:Scope}{x:Str}{cap:List Str}
theorem CompScope.cells (S:CompScope X.env.scope sc x cap) (ok:X.Ok):∀ p∈sc.names,p.2 = .free→∃ c,X.env.cells.lookup p.1 = some c:=
 fun p hp e=>ok.has p.1 (.inl (S.free p hp e))
theorem CompScope.sub (S:CompScope X.env.scope sc x cap) (ok:X.Ok) {y:Str}{c:Addr}(h:(clOf X.env sc.names []).lookup y = some c):X.env.cells.lookup y = some c:=
 clOf_mem (S.cells ok) (fun _ _ z=>by simp at z) h
theorem neLt {a b:Addr}(h:a < b):a≠b:=Nat.ne_of_lt h
theorem neGt {a b:Addr}(h:b < a):a≠b:=Nat.ne_of_gt h
def capV (σ:St) (js:List Nat):St:=js.map fun j=>(σ[j]?).join
theorem comp_inv (S:CompScope X.env.scope sc x cap) {js:List Nat}(hjs:js.map (fun j=>X.N[j]?) = cap.map some) (I:Inv X pins σ H s) {fp:List Addr}(hf:∀ b∈fp,FpOk X pins H b) (hlt:∀ b∈fp,b < s.heap.objs.size)
  {h1:Heap}{tk:Nat}{D C:Addr}{oD:Obj}{m:Str→Option Value}(hD:D = s.heap.objs.size) (hC:C = s.heap.objs.size + 1) (keep:∀ b o,s.heap.get? b = some o→h1.get? b = some o) (hoD:h1.get? D = some oD) (hnc:∀ v,oD.data≠.cell v) (hns:h1.Ns C m):
  Inv (compCx X sc (x :: cap) C s H fp) [(D,oD)] (none :: capV σ js) H { s with heap:=h1,toks:=tk }:=by
 subst hD hC
 have lenJ:js.length = cap.length:=by have:=congrArg List.length hjs;simpa using this
 have ok:=I.ok
 refine ⟨⟨ok.mod,S.kind,ok.glob,ok.blt,?_,fun y z c h1 h2=>ok.inj y z c (S.sub ok h1) (S.sub ok h2),fun y hy=>?_,(fun y c h=>Bool.noConfusion h),ok.hd,ok.frames,.inl rfl,fun b hb=>⟨?_,fun y c e=>(hf b hb).2.2.2.2.1 y c (S.sub ok e)⟩,I.bs,Nat.le_trans ok.bsz I.sz,fun b o e hb=>?_,fun b hb hb' => ?_,I.stack,I.stkFree⟩,
  rfl,I.bare,Un.kept keep,⟨m,hns,fun i y v e1 e2 e3=>?_⟩,fun y c e=>?_,I.hok.fresh (Nat.le_succ _),fun y c e=>I.freeC y c (S.sub ok e),fun p hp=>?_,I.hok.kept keep,?_⟩
 ·exact Nat.le_succ _
 ·have hy' : ∃ k,(y,k)∈(relabel sc X.env).names∧(k = .cell∨k = .free):=by
   rcases hy with hy | hy
   ·exact ⟨_,PySem.mem_of_lookup hy,.inl rfl⟩
   ·exact ⟨_,PySem.mem_of_lookup hy,.inr rfl⟩
  obtain ⟨k,hm,hk⟩:=hy'
  obtain ⟨k',hm',hk'⟩:=relabel_mem hm
  have hfree:k' = .free:=by
   rcases hk' with e | ⟨e,_⟩
   ·subst e
    rcases hk with e | e
    ·exact absurd e (S.cell _ hm')
    ·exact e
   ·exact e
  subst hfree
  exact Option.isSome_iff_exists.mp (clOf_has hm')
 ·exact neLt (Nat.lt_succ_of_lt (hlt b hb))
 ·obtain ⟨_,_,_,z,_⟩:=hf b hb
  rcases z with z | z
  ·exact ok.noex b o e z
  ·have:=Heap.lt_size (ok.bs b o e).1
   exact absurd (Nat.lt_of_lt_of_le this z) (Nat.lt_irrefl _)
 ·obtain ⟨_,z1,z2,_⟩:=hf b hb
  rcases List.mem_cons.mp (I.stkSub b hb') with z | z
  ·exact z1 z
  ·exact z2 z
 ·cases i with
  | zero=>
   have e2' : (none:Option V) = some v:=by simpa using e2
   cases e2'
  | succ i=>
   have e1' : cap[i]? = some y:=by simpa using e1
   have e2' : (capV σ js)[i]? = some (some v):=by simpa using e2
   have hy:y∈cap:=List.mem_of_getElem? e1'
   unfold capV at e2'
   rw [List.getElem?_map] at e2'
   cases ej:js[i]? with
   | none=>rw [ej] at e2';cases e2'
   | some j=>
    rw [ej] at e2'
    have e2'' : (σ[j]?).join = some v:=Option.some.inj e2'
    have eN:X.N[j]? = some y:=by
     have:=congrArg (fun l=>l[i]?) hjs
     simp only [List.getElem?_map,ej,e1',Option.map_some] at this
     exact Option.some.inj this
    have eσ:σ[j]? = some (some v):=by
     cases q:σ[j]? with
     | none=>rw [q] at e2'';cases e2''
     | some w' =>
      rw [q] at e2''
      have:w' = some v:=by simpa using e2''
      rw [this]
    have kc:X.env.scope.names.lookup y = some .cell:=S.free (y,.free) (S.caps y hy) rfl
    obtain ⟨m0,hn0,hl0⟩:=I.loc
    obtain ⟨u,ru,lk⟩:=hl0 j y v eN eσ (.inr (.inl kc))
    refine ⟨u,ru,?_⟩
    rcases lk with ⟨k,_⟩ | ⟨_,c,ec,hc⟩
    ·have k' : X.env.scope.names.lookup y = some .local:=k
     rw [kc] at k';cases k'
    ·obtain ⟨c',hc'⟩:=Option.isSome_iff_exists.mp (clOf_has (env:=X.env) (acc:=[]) (S.caps y hy))
     have hcc:c' = c:=Option.some.inj ((S.sub ok hc').symm.trans ec)
     subst hcc
     refine .inr ⟨?_,c',hc',?_⟩
     ·rcases e3 with e3 | e3 | e3
      ·exfalso
       have hm:=PySem.mem_of_lookup e3
       obtain ⟨k',hm',hk'⟩:=relabel_mem hm
       rcases hk' with e | ⟨_,e⟩
       ·subst e
        exact S.noboth y hy (S.names _ hm' rfl)
       ·cases e
      ·exact .inl e3
      ·exact .inr e3
     ·obtain ⟨o,ho,hd⟩:=hc
      exact ⟨o,keep _ o ho,hd⟩
 ·obtain ⟨v,o,ho,hd⟩:=I.cell y c (S.sub ok e)
  exact ⟨v,o,keep _ o ho,hd⟩
 ·have hp' : p = (s.heap.objs.size,oD):=by simpa using hp
  subst hp'
  refine ⟨hoD,I.hok.fresh (Nat.le_refl _),neLt (Nat.lt_succ_self _),fun hb=>?_,hnc⟩
  obtain ⟨_,o,ho,_⟩:=I.stack.mem hb
  exact Nat.lt_irrefl _ (Heap.lt_size ho)
 ·show (none :: capV σ js).length = (x :: cap).length
  unfold capV
  simp [lenJ]
theorem comp_end (S:CompScope X.env.scope sc x cap) (I:Inv X pins σ H s) {fp:List Addr}(hf:∀ b∈fp,FpOk X pins H b) {D C:Addr}{pn' : List (Addr × Obj)} {σ' : St} {H' : Hp} {s' : Shared} {ys:List V}{its:List Value}{k:Nat}{h' : Heap}
  (hD:D = s.heap.objs.size) (hC:C = s.heap.objs.size + 1) (J:Inv (compCx X sc (x :: cap) C s H fp) pn' σ' H' s') (hnD:H' D = none) (hoD:s'.heap.get? D = some { cls:=.type "list",data:=.seq its.toArray k }) (rv:Vals ys its) (hz:ys.length≤sizeLine)
  (hs:Heap.SameBut C s'.heap h'):Inv X pins σ (upd H' D (.lst ys)) { s' with heap:=h' }:=by
 subst hD hC
 have base:Un (frs X.stack) fp H H' s.heap s'.heap:=J.base
 have hnC:H' (s.heap.objs.size + 1) = none:=J.free
 have neC:∀ {b:Addr}{o:Obj},s.heap.get? b = some o→b≠s.heap.objs.size + 1:=fun e=>neLt (Nat.lt_succ_of_lt (Heap.lt_size e))
 have neD:∀ {b:Addr}{o:Obj},s.heap.get? b = some o→b≠s.heap.objs.size:=fun e=>neLt (Heap.lt_size e)
 have neDH:∀ {b:Addr}{o:HO},H b = some o→b≠s.heap.objs.size:=fun e=>neLt (I.hok.lt e)
 refine I.call' (s' := { s' with heap:=h' }) (ch:=fp) J.os ⟨fun b o e n hb hx=>?_,fun b o e n hb hx=>?_,fun b o e n hx=>?_,fun b o e hx=>?_,fun b xs e=>?_,fun b o u e=>?_,fun b ps e=>?_⟩ (fun b u e=>?_) J.bare fun b hb=>?_
 ·exact (hs.2 b (neC e)).trans (base.keep b o e n hb hx)
 ·obtain ⟨sl,q⟩:=base.slot b o e n hb hx
  exact ⟨sl,(hs.2 b (neC e)).trans q⟩
 ·rw [upd_ne (neD e)];exact base.free b o e n hx
 ·obtain ⟨o',q⟩:=base.there b o e hx
  exact ⟨o',(hs.2 b (neC e)).trans q⟩
 ·rw [upd_ne (neDH e)];exact base.tups b xs e
 ·rw [upd_ne (neDH e)];exact base.frzs b o u e
 ·rw [upd_ne (neDH e)];exact base.tbls b ps e
 ·by_cases hb:b = s.heap.objs.size
  ·subst hb
   rw [upd_same] at e
   cases e
   exact ⟨hz,its,k,rv,(hs.2 _ (neLt (Nat.lt_succ_self _))).trans hoD⟩
  ·rw [upd_ne hb] at e
   have J' : ObjOk X.prog X.w H' s'.heap b u:=J.hok b u e
   refine J'.stay (fun c v hc q=>(hs.2 c ?_).trans q) (fun c q=>?_) (fun c xs q=>?_) fun c o u q=>?_
   ·rintro rfl
    rcases hc with rfl | hc
    ·rw [hnC] at e;cases e
    ·rw [hnC] at hc;cases hc
   ·rw [upd_ne (ne_of_none q hnD)];exact q
   ·rw [upd_ne (ne_of_none q hnD)];exact q
   ·rw [upd_ne (ne_of_none q hnD)];exact q
 ·obtain ⟨_,z1,_,z3,z4,z5⟩:=hf b hb
  exact ⟨z3,z1,z4,z5⟩
def PIf (X:Cx) (ifs:List Expr) (t:TT):Prop:=
 ∀ (pins:List (Addr × Obj)) (s:Shared) (σ:St) (H:Hp) (Q:Bool→Hp→Prop),Inv X pins σ H s→t σ H Q→
  wpAny (model X.prog X.w) X.A (forIn ifs true fun c r=>if r = true then do let ok ← isTrue c X.env (eval c X.env);pure (ForInStep.yield ok) else pure (ForInStep.yield r)) (TP X pins σ Q) X.xe s
def tNoIf:TT:=fun _ H Q=>Q true H
theorem tNoIf_of {σ:St}{H:Hp}{A B:Hp→Prop}(h:A H):tNoIf σ H (fun b H2=>if b = true then A H2 else B H2):=by
 unfold tNoIf
 exact iteT h
theorem pif_nil {X:Cx}:PIf X [] tNoIf:=fun _ _ _ H _ I h=>wpAny_tests_nil ⟨H,I,h⟩
theorem pif_one {X:Cx}{c:Expr}{t:TT}(h:PT X c t):PIf X [c] t:=fun pins s σ H Q I q=>wpAny_tests_one (h pins s σ H Q I q)
end
section
variable {prog:Program}{w:World}{A:Around}{R:Result→Shared→Prop}{s:Shared}
theorem comp_turns {elt target iter:Expr}{ifs:List Expr}{scope:Scope}{pos:Pos}{it acc:Value}{env:Env}(J:Nat→Shared→Prop)
  (turn:∀ n s,J n s→wpAny (model prog w) A (pyNext it) (fun r s₁=>match r with
   | none=>R (.ok .next) s₁
   | some v=>wpAny (model prog w) A (letOwnedTupleGo target it v) (fun _ s₂=>wpAny (model prog w) A (assign target env v) (fun _ s₃=>
     wpAny (model prog w) A (forIn ifs true fun c r=>if r = true then do let ok ← isTrue c env (eval c env);pure (ForInStep.yield ok) else pure (ForInStep.yield r)) (fun ok s₄=>
      if ok = true then wpAny (model prog w) A (eval elt env) (fun x s₅=>
       wpAny (model prog w) A (call (.builtin "list.append") [acc,x]) (fun _ s₆=>∃ m,m < n∧J m s₆) (fun _ _=>False) s₅) (fun _ _=>False) s₄
      else ∃ m,m < n∧J m s₄) (fun _ _=>False) s₃) (fun _ _=>False) s₂) (fun _ _=>False) s₁) (fun _ _=>False) s)
  (n:Nat) (h:J n s):codeAny (model prog w) A (.compLoop (.ListComp elt [⟨target,iter,ifs,0⟩] scope pos) 0 it acc env) R s:=by
 refine codeAny_loop rfl J (fun n s hJ=>?_) n h
 show wpAny _ A ((compTurn (.ListComp elt [⟨target,iter,ifs,0⟩] scope pos) 0 it acc env).onRaise (fun x=>do noteFrame x env;theTreesLotGoes x)) _ _ s
 refine wpAny_noted ?_
 rw [compTurn_list]
 refine wpAny_bind (wpAny_standAt (wpAny_bind (wpAny_mono (turn n s hJ) (fun r s₁ h₁=>?_) fun _ _ z=>z.elim)))
 cases r with
 | none=>exact wpAny_pure h₁
 | some v=>
  refine wpAny_bind (wpAny_mono h₁ (fun _ s₂ h₂=>?_) fun _ _ z=>z.elim)
  refine wpAny_bind (wpAny_mono h₂ (fun _ s₃ h₃=>wpAny_bind (wpAny_mono h₃ (fun ok s₄ h₄=>?_) fun _ _ z=>z.elim)) fun _ _ z=>z.elim)
  cases ok with
  | false=>exact wpAny_pure ⟨rfl,h₄⟩
  | true=>
   exact wpAny_bind (wpAny_bind (wpAny_mono h₄ (fun x s₅ h₅=>wpAny_bind (wpAny_mono h₅ (fun _ s₆ h₆=>wpAny_pure (wpAny_pure ⟨rfl,h₆⟩)) fun _ _ z=>z.elim)) fun _ _ z=>z.elim))
end
section
variable {X:Cx}{pins:List (Addr × Obj)}{σ:St}{H:Hp}{s:Shared}{sc:Scope}{x:Str}{cap:List Str}
def LCw (J:It) (js:List Nat) (σ:St) (tt:TT) (te:TE) (Q:VK) (W:Nat→Nat→List V→Hp→Prop):Prop:=
 ∀ i m ys H,W i m ys H→ys.length < sizeLine∧
  ((J.stop i H∧∀ p,H p = none→Q (.ref p) (upd H p (.lst ys)))∨
   (J.go i H∧∀ x H',J.yld i H x H' → tt (some x :: capV σ js) H' fun b H2=>if b = true then te (some x :: capV σ js) H2 fun v H3=>∃ m',m' < m∧W (i + 1) m' (ys ++ [v]) H3 else ∃ m',m' < m∧W (i + 1) m' ys H2))
def tLC (wi:TI) (js:List Nat) (tt:TT) (te:TE):TE:=fun σ H Q=>wi σ H fun J H1=>∃ W:Nat→Nat→List V→Hp→Prop,(∃ m,W 0 m [] H1)∧LCw J js σ tt te Q W
theorem comp_run (S:CompScope X.env.scope sc x cap) {js:List Nat}(hjs:js.map (fun j=>X.N[j]?) = cap.map some) (hc:X.calm = true) {elt iter:Expr}{ifs:List Expr}{pos px:Pos}{tt:TT}{te:TE}
  (hb:∀ C s0 H0 ex,PIf (compCx X sc (x :: cap) C s0 H0 ex) ifs tt∧PE (compCx X sc (x :: cap) C s0 H0 ex) elt te)
  (I:Inv X pins σ H s) {J:It}{fp:List Addr}{it:Addr}{tn:Nat→Heap→Prop}(T:Turn X.prog X.w X.K (.Name x px) J fp it tn) (st:tn 0 s.heap) (hf:∀ b∈fp,FpOk X pins H b)
  {Q:VK}{W:Nat→Nat→List V→Hp→Prop}(w0:∃ m,W 0 m [] H) (turn:LCw J js σ tt te Q W) {RR:Value→Addr→Result→Shared→Prop}{E:Value→Shared→Prop}
  (hR:∀ D C s' σ' H' ys its k,D = s.heap.objs.size→C = s.heap.objs.size + 1→Inv (compCx X sc (x :: cap) C s H fp) [(D,{ cls:=.type "list",data:=.seq its.toArray k })] σ' H' s' → Vals ys its→ys.length≤sizeLine→(∀ p,H' p = none→Q (.ref p) (upd H' p (.lst ys)))→RR (.ref D) C (.ok .next) s'):
  wpAny (model X.prog X.w) X.A (newList []) (fun acc s₃=>wpAny (model X.prog X.w) X.A (newFunctionEnv sc X.env.globals (clOf X.env sc.names []) [] X.env.qual none .none (some X.env)) (fun cenv s₄=>
   codeAny (model X.prog X.w) X.A (.compStart (.ListComp elt [⟨.Name x px,iter,ifs,0⟩] sc pos) 0 (.ref it) acc { cenv with scope:=relabel sc X.env }) (RR acc cenv.locals) s₄) E s₃) E s:=by
 refine wpAny_newObj_type (wpAny_newFunctionEnv S.cell (by intro y hy;simp at hy) (fun h₁ hns₁ hsb₁=>?_) S.kind)
 dsimp only at hns₁ hsb₁ ⊢
 have hlt:∀ b∈fp,b < s.heap.objs.size:=fun b hb' => by
  obtain ⟨o,e,_⟩:=T.obj 0 _ st b hb'
  exact Heap.lt_size e
 generalize hH2:s.heap.push { cls:=.type "list",dict:=none,data:=.seq ([]:List Value).toArray } = H2 at hns₁ hsb₁ ⊢
 have hC:H2.objs.size = s.heap.objs.size + 1:=by rw [← hH2,Heap.size_push]
 have old:∀ b o,s.heap.get? b = some o→h₁.get? b = some o:=fun b o e=>
  hsb₁.extBut b o (by rw [hC];exact neLt (Nat.lt_succ_of_lt (Heap.lt_size e))) (Heap.get?_push_of_some _ (hH2 ▸ Heap.get?_push_of_some _ e))
 have hacc:h₁.get? s.heap.objs.size = some { cls:=.type "list",data:=.seq ([]:List Value).toArray }:=
  hsb₁.extBut _ _ (by rw [hC];exact neLt (Nat.lt_succ_self _)) (Heap.get?_push_of_some _ (hH2 ▸ Heap.get?_push_size _ rfl))
 have st₁:tn 0 h₁:=T.keep _ _ _ st fun b _ o e=>old b o e
 obtain ⟨m0,w0⟩:=w0
 rw [hC] at hns₁ hsb₁ ⊢
 generalize hCe:s.heap.objs.size + 1 = C at hns₁ hsb₁ hR ⊢
 generalize hDe:s.heap.objs.size = D at hacc hR ⊢
 have hDe' := hDe.symm
 have hC' : C = s.heap.objs.size + 1:=hCe.symm
 have ltD:∀ {b:Addr},b < s.heap.objs.size→b≠D:=fun h=>by rw [← hDe];exact neLt h
 have loop:∀ s₃:Shared,s₃ = { s with heap:=h₁,toks:=s.toks + ([]:List (Str × Value)).length }→
   codeAny (model X.prog X.w) X.A (.compLoop (.ListComp elt [⟨.Name x px,iter,ifs,0⟩] sc pos) 0 (.ref it) (.ref D) (compEnvC sc (clOf X.env sc.names []) C X.env)) (RR (.ref D) C) s₃:=by
  rintro s₃ rfl
  have I0:Inv (compCx X sc (x :: cap) C s H fp) [(D,{ cls:=.type "list",data:=.seq ([]:List Value).toArray })] (none :: capV σ js) H { s with heap:=h₁,toks:=s.toks + ([]:List (Str × Value)).length }:=
   comp_inv S hjs I hf hlt hDe' hC' old hacc (fun v z=>by cases z) hns₁
  have ndN:(compCx X sc (x :: cap) C s H fp).N.Nodup:=S.nd
  have hxl:(compCx X sc (x :: cap) C s H fp).env.scope.names.lookup x = some .local:=lookup_relabel_local S.tgt
  have fpD:∀ b∈fp,b≠D:=fun b hb' => ltD (hlt b hb')
  refine comp_turns (fun n s' => ∃ i v0 H' ys its k,Inv (compCx X sc (x :: cap) C s H fp) [(D,{ cls:=.type "list",data:=.seq its.toArray k })] (v0 :: capV σ js) H' s' ∧ tn i s'.heap∧(∀ b∈fp,H' b = none)∧Vals ys its∧W i n ys H')
   ?_ m0 ⟨0,none,H,[],[],0,I0,st₁,fun b hb' => (hf b hb').1,.nil,w0⟩
  rintro n s3 ⟨i,v0,H3,ys,its,k,I3,st3,fr3,rv,w3⟩
  obtain ⟨hlen,hor⟩:=turn i n ys H3 w3
  have stat:∀ {H' : Hp} {o:Obj},(∀ b∈fp,H' b = none)→∀ b∈fp,FpOk (compCx X sc (x :: cap) C s H fp) [(D,o)] H' b:=fun {H' o} hn b hb' =>
   ⟨hn b hb',(I3.ok.exf b hb').1,I3.ok.exfs b hb',.inl hb',(I3.ok.exf b hb').2,fun p hp=>by
    have hp' : p = (D,o):=by simpa using hp
    rw [hp']
    exact Ne.symm (fpD b hb')⟩
  rcases hor with ⟨stop,qn⟩ | ⟨go,step⟩
  ·refine thn (T.done (compCx X sc (x :: cap) C s H fp) rfl rfl rfl hc i _ s3 _ H3 _ I3 (stat fr3) st3 stop) fun r s4 ⟨hr,I4⟩=>?_
   subst hr
   exact hR D C s4 _ H3 ys its k rfl rfl I4 rv (Nat.le_of_lt hlen) qn
  ·refine thn (T.item (compCx X sc (x :: cap) C s H fp) rfl rfl rfl hc i _ s3 _ H3 _ I3 (stat fr3) st3 go) fun r s4 ⟨u,hr,h4⟩=>?_
   subst hr
   refine thn h4 fun _ s5 ⟨xv,H5,I5,r5,y5,st5,fr5⟩=>?_
   have I5' := I5.pinned (stat fr5) (T.obj _ _ st5)
   have hg:PG (compCx X sc (x :: cap) C s H fp) (.Name x px) (gName 0):=pg_name ndN rfl (.inl hxl) (.inr hxl)
   refine thn (hg _ s5 _ H5 xv u (fun σ2 H2=>σ2 = some xv :: capV σ js∧H2 = H5) I5' r5 ⟨rfl,rfl⟩) fun _ s6 ⟨σ6,H6,I6,e6,e6'⟩=>?_
   subst e6 e6'
   refine thn ((hb C s H fp).1 _ s6 _ H6 _ I6 (step xv H6 y5)) fun ok s7 ⟨H7,I7,q7⟩=>?_
   have fin:∀ {s8:Shared}{H8:Hp}{v8:Option V},Inv (compCx X sc (x :: cap) C s H fp) ([(D,{ cls:=.type "list",data:=.seq its.toArray k })] ++ pinsAt fp s5.heap) (v8 :: capV σ js) H8 s8→tn (i + 1) s8.heap∧(∀ b∈fp,H8 b = none)∧s8.heap.get? D = some { cls:=.type "list",data:=.seq its.toArray k }∧H8 D = none∧D≠C:=fun {s8 H8 v8} I8=>by
    have pinD:=I8.pin (D,{ cls:=.type "list",data:=.seq its.toArray k }) (List.mem_append_right _ (List.mem_append_left _ (List.mem_singleton.mpr rfl)))
    have pinF:∀ b∈fp,∀ o,s5.heap.get? b = some o→s8.heap.get? b = some o∧H8 b = none:=fun b hb' o e=>
     have z:=I8.pin (b,o) (List.mem_append_right _ (List.mem_append_right _ (mem_pinsAt hb' e)))
     ⟨z.1,z.2.1⟩
    refine ⟨T.keep _ _ _ st5 fun b hb' o e=>(pinF b hb' o e).1,fun b hb' => ?_,pinD.1,pinD.2.1,pinD.2.2.1⟩
    obtain ⟨o,e,_⟩:=T.obj _ _ st5 b hb'
    exact (pinF b hb' o e).2
   cases ok with
   | false=>
    rw [if_neg Bool.false_ne_true] at q7 ⊢
    obtain ⟨m',hm,w7⟩:=q7
    obtain ⟨f1,f2,_⟩:=fin I7
    exact ⟨m',hm,i + 1,some xv,H7,ys,its,k,I7.unpinned,f1,f2,rv,w7⟩
   | true=>
    rw [if_pos rfl] at q7 ⊢
    refine thn ((hb C s H fp).2 _ s7 _ H7 _ I7 q7) fun u8 s8 ⟨v,H8,I8,r8,q8⟩=>?_
    obtain ⟨f1,f2,f3,f4,f5⟩:=fin I8
    obtain ⟨m',hm,w8⟩:=q8
    have rv' : Vals (ys ++ [v]) (its ++ [u8]):=rv.append (.cons r8 .nil)
    refine wpAny_list_append_plain ⟨k,f3⟩ (fun h9 hl9 hs9=>?_) (by rw [List.size_toArray,← rv.length];exact Nat.le_of_lt hlen)
    obtain ⟨k9,e9⟩:=hl9
    have e9' : h9.get? D = some { cls:=.type "list",data:=.seq (its ++ [u8]).toArray k9 }:=by rw [e9];simp
    have In:Inv (compCx X sc (x :: cap) C s H fp) (pinsAt fp s5.heap) (some xv :: capV σ js) H8 s8:=I8.pins_of fun p hp=>I8.pin p (List.mem_append_right _ (List.mem_append_right _ hp))
    have It' : Inv (compCx X sc (x :: cap) C s H fp) (pinsAt fp s5.heap) (some xv :: capV σ js) H8 { s8 with heap:=h9 }:=
     In.turned (it:=D) (h' := h9) (t' := s8.toks) (fun b o hb' e=>hs9.extBut b o hb' e) f4 f5 (.inr (Nat.le_of_eq hDe)) (fun y c e z=>by
      obtain ⟨v',o,ho,_⟩:=I.cell y c (S.sub I.ok e)
      exact ltD (Heap.lt_size ho) z) fun p hp z=>by
      have hp' : p∈pinsAt fp s5.heap:=by simpa using hp
      exact fpD p.1 (of_pinsAt hp').1 z
    refine ⟨m',hm,i + 1,some xv,H8,ys ++ [v],its ++ [u8],k9,It'.pins_of fun p hp=>?_,T.keep _ _ _ f1 fun b hb' o e=>hs9.extBut b o (fpD b hb') e,f2,rv',w8⟩
    have hp' : p = (D,{ cls:=.type "list",data:=.seq (its ++ [u8]).toArray k9 }):=by simpa using hp
    subst hp'
    refine ⟨e9',f4,f5,fun hb' => ?_,fun v z=>by cases z⟩
    obtain ⟨_,o,ho,_⟩:=I.stack.mem hb'
    exact ltD (Heap.lt_size ho) rfl
 exact codeAny_compStart_list (loop _ rfl) (T.self X.A 0 _ _ _ st₁ (loop _ rfl))
theorem pe_lc (S:CompScope X.env.scope sc x cap) {js:List Nat}(hjs:js.map (fun j=>X.N[j]?) = cap.map some) (hc:X.calm = true) (hxe:∀ e s,¬ X.xe e s) {elt iter:Expr}{ifs:List Expr}{pos px:Pos}{wi:TI}{tt:TT}{te:TE}
  (hi:PI X (.Name x px) iter wi) (hb:∀ C s0 H0 ex,PIf (compCx X sc (x :: cap) C s0 H0 ex) ifs tt∧PE (compCx X sc (x :: cap) C s0 H0 ex) elt te)
  (hs:∀ x,foldedSetIterable iter X.env x = pure x:=by intro _;rfl):PE X (.ListComp elt [⟨.Name x px,iter,ifs,0⟩] sc pos) (tLC wi js tt te):=by
 intro pins s σ H Q I h
 rw [eval_ListComp]
 refine wpAny_comprehension_free (use:=none) rfl hs (closureFor_eq (S.cells I.ok)) S.kind S.names (thn (hi pins s σ H _ I h) fun xv s₁ h₁=>thn h₁ fun itv s₂ h₂=>?_)
 obtain ⟨it,fp,tn,J,H2,e,I2,T,st2,f2,W,w0,turn⟩:=h₂
 subst e
 refine comp_run (Q:=Q) (RR:=fun acc C=>compPost (model X.prog X.w) X.A X.xe none (EP X pins σ Q) acc C) S hjs hc hb I2 T st2 f2 w0 turn ?_
 intro D C s' σ' H' ys its k hD hC J' rv hz q
 obtain ⟨m,hn,_⟩:=J'.loc
 have pinD:=J'.pin (D,{ cls:=.type "list",data:=.seq its.toArray k }) (List.mem_append_right _ (List.mem_singleton.mpr rfl))
 exact ⟨m,hn,fun h' hs' => ⟨.ref D,_,comp_end S I2 f2 hD hC J' pinD.2.1 pinD.1 rv hz hs',rfl,q D pinD.2.1⟩⟩
end
end L2
namespace L2
open PySem PySem.Spec PyProof.Rows
section
variable {X:Cx}{pins:List (Addr × Obj)}{σ:St}{H:Hp}{s:Shared}{sc:Scope}{x:Str}{cap:List Str}
def tLCs (i:Nat) (wi:TI) (js:List Nat) (tt:TT) (te:TE):TS:=fun D σ H=>tLC wi js tt te σ H fun v H' => D.nx (σ.set i (some v)) H'
theorem ps_lc (S:CompScope X.env.scope sc x cap) {js:List Nat}(hjs:js.map (fun j=>X.N[j]?) = cap.map some) (hc:X.calm = true) (hxe:∀ e s,¬ X.xe e s) {elt iter:Expr}{ifs:List Expr}{pos px py spos:Pos}{wi:TI}{tt:TT}{te:TE}{i:Nat}{y:Str}
  (hN:X.N.Nodup) (hi' : X.N[i]? = some y) (hy:X.env.scope.names.lookup y = some .local)
  (hi:PI X (.Name x px) iter wi) (hb:∀ C s0 H0 ex,PIf (compCx X sc (x :: cap) C s0 H0 ex) ifs tt∧PE (compCx X sc (x :: cap) C s0 H0 ex) elt te)
  (hsw:swapsWith (.ListComp elt [⟨.Name x px,iter,ifs,0⟩] sc pos) (some (.Name y py)) spos.line X.env = pure true:=by rfl)
  (hs:∀ x,foldedSetIterable iter X.env x = pure x:=by intro _;rfl):PS X (.Assign [.Name y py] (.ListComp elt [⟨.Name x px,iter,ifs,0⟩] sc pos) spos) (tLCs i wi js tt te):=by
 intro pins s σ H D0 I h
 rw [exec_Assign_Name_used _ _ _ _ hsw]
 refine wpAny_bind (wpAny_standAt (wpAny_bind ?_))
 show wpAny _ X.A (do let _ ← comprehension (.ListComp elt [⟨.Name x px,iter,ifs,0⟩] sc pos) sc X.env _ (newList []) false (eval iter X.env) (some (assign (.Name y py) X.env))) _ _ s
 refine wpAny_bind (wpAny_mono (wpAny_comprehension_free (use:=some (assign (.Name y py) X.env)) (Q:=fun _ s' => SP X pins D0 .next s') rfl hs (closureFor_eq (S.cells I.ok)) S.kind S.names
  (thn (hi pins s σ H _ I h) fun xv s₁ h₁=>thn h₁ fun itv s₂ h₂=>?_)) (fun _ s' hq=>wpAny_pure (wpAny_pure hq)) fun _ _ e=>e)
 obtain ⟨it,fp,tn,J,H2,e,I2,T,st2,f2,W,w0,turn⟩:=h₂
 subst e
 refine comp_run (Q:=fun v H' => D0.nx (σ.set i (some v)) H') (RR:=fun acc C=>compPost (model X.prog X.w) X.A X.xe (some (assign (.Name y py) X.env)) (fun _ s' => SP X pins D0 .next s') acc C) S hjs hc hb I2 T st2 f2 w0 turn ?_
 intro D C s' σ' H' ys its k hD hC J' rv hz q
 have gtC:∀ {b:Addr},b < s₂.heap.objs.size→b≠C:=fun h=>by rw [hC];exact neLt (Nat.lt_succ_of_lt h)
 have pinD:=J'.pin (D,{ cls:=.type "list",data:=.seq its.toArray k }) (List.mem_append_right _ (List.mem_singleton.mpr rfl))
 obtain ⟨m,hn,_⟩:=id J'.loc
 have hn:s'.heap.Ns C m:=hn
 obtain ⟨oC,es,ep,hoC,hdC,rest⟩:=id hn
 have hCn:C ∉ X.fs∧C≠X.env.locals:=by
  constructor
  ·intro hb'
   obtain ⟨_,o,ho,_⟩:=I2.funs.mem hb'
   exact gtC (Heap.lt_size ho) rfl
  ·exact fun z=>gtC I2.lt z.symm
 have I3:Inv X pins σ (upd H' D (.lst ys)) s' := comp_end (h' := s'.heap) S I2 f2 hD hC J' pinD.2.1 pinD.1 rv hz (.refl ..)
 have hDC:C≠D:=by rw [hC,hD];exact neGt (Nat.lt_succ_self _)
 have hH'C:H' C = none:=J'.free
 have I4:Inv X [(C,oC)] σ (upd H' D (.lst ys)) s' := I3.pins_of fun p hp=>by
  have hp' : p = (C,oC):=by simpa using hp
  subst hp'
  exact ⟨hoC,by rw [upd_ne hDC];exact hH'C,hCn.2,hCn.1,fun v z=>by rw [hdC] at z;cases z⟩
 have I5:Inv X (pins ++ [(C,oC)]) σ (upd H' D (.lst ys)) s' := I3.pins_of fun p hp=>by
  rcases List.mem_append.mp hp with hp | hp
  ·exact I3.pin p (List.mem_append_right _ hp)
  ·exact I4.pin p (List.mem_append_right _ hp)
 show wpAny _ X.A (assign (.Name y py) X.env (.ref D)) _ _ _
 refine wpAny_assign_Name (store_ok I5 hN hi' (.inl hy) (v:=.ref D) rfl (fun s6 I6=>?_) (.inr hy))
 have pinC:=I6.pin (C,oC) (List.mem_append_right _ (List.mem_append_right _ (List.mem_singleton.mpr rfl)))
 refine ⟨m,⟨oC,es,ep,pinC.1,hdC,rest⟩,fun h' hs' => ⟨_,_,?_,q D pinD.2.1⟩⟩
 refine I6.unpinned.turned (it:=C) (h' := h') (t' := s6.toks) (fun b o hb' e=>hs'.extBut b o hb' e) pinC.2.1 hCn.2 (.inr ?_) (fun y' c e z=>?_) fun p hp z=>?_
 ·rw [hC];exact Nat.le_succ_of_le I2.sz
 ·obtain ⟨v',o,ho,_⟩:=I2.cell y' c e
  exact gtC (Heap.lt_size ho) z
 ·exact gtC (Heap.lt_size (I2.pin p hp).1) z
end
section
variable {X:Cx}
end
end L2
namespace L2
open PySem PySem.Spec PyProof.Rows
mutual
def Dat (K:PySem.W.Frag) (G:Hp):V→PyData→Prop
 | v,.none=>v = .non
 | v,.bool b=>v = .bl b
 | v,.int i=>v = .int i
 | v,.str x=>v = .str x
 | v,.list ds=>∃ p xs,v = .ref p∧G p = some (.lst xs)∧Dats K G xs ds
 | v,.tuple ds=>∃ p xs,v = .ref p∧SqT K G p xs∧Dats K G xs ds
 | _,.dict _=>False
def Dats (K:PySem.W.Frag) (G:Hp):List V→List PyData→Prop
 | xs,[]=>xs = []
 | xs,d :: ds=>∃ y ys,xs = y :: ys∧Dat K G y d∧Dats K G ys ds
end
theorem Same.tup {K:PySem.W.Frag}{H H' : Hp} {a:Addr}{xs:List V}(e:Same H H') (h:SqT K H a xs):SqT K H' a xs:=by
 rcases h with (h | ⟨o,h⟩) | h
 ·exact .inl (.inl (e _ _ h))
 ·exact .inl (.inr ⟨o,e _ _ h⟩)
 ·exact .inr h
section
variable {K:PySem.W.Frag}{G G' : Hp}
theorem dat_int (i:Int):Dat K G (.int i) (.int i):=by unfold Dat;rfl
theorem dat_str (x:Str):Dat K G (.str x) (.str x):=by unfold Dat;rfl
theorem dat_bl (b:Bool):Dat K G (.bl b) (.bool b):=by unfold Dat;rfl
theorem dat_non:Dat K G .non .none:=by unfold Dat;rfl
theorem dat_tup {p:Addr}{xs:List V}{ds:List PyData}(h:SqT K G p xs) (r:Dats K G xs ds):Dat K G (.ref p) (.tuple ds):=by unfold Dat;exact ⟨p,xs,rfl,h,r⟩
theorem dat_lst {p:Addr}{xs:List V}{ds:List PyData}(h:G p = some (.lst xs)) (r:Dats K G xs ds):Dat K G (.ref p) (.list ds):=by unfold Dat;exact ⟨p,xs,rfl,h,r⟩
theorem dats_nil:Dats K G [] []:=by unfold Dats;rfl
theorem dats_cons {x:V}{xs:List V}{d:PyData}{ds:List PyData}(h:Dat K G x d) (r:Dats K G xs ds):Dats K G (x :: xs) (d :: ds):=by
 unfold Dats;exact ⟨x,xs,rfl,h,r⟩
theorem Dat.int {v:V}{i:Int}(h:Dat K G v (.int i)):v = .int i:=by unfold Dat at h;exact h
theorem Dat.str {v:V}{x:Str}(h:Dat K G v (.str x)):v = .str x:=by unfold Dat at h;exact h
theorem Dat.bl {v:V}{x:Bool}(h:Dat K G v (.bool x)):v = .bl x:=by unfold Dat at h;exact h
theorem Dat.non {v:V}(h:Dat K G v .none):v = .non:=by unfold Dat at h;exact h
theorem Dat.tup {v:V}{ds:List PyData}(h:Dat K G v (.tuple ds)):∃ p xs,v = .ref p∧SqT K G p xs∧Dats K G xs ds:=by unfold Dat at h;exact h
theorem Dat.lst {v:V}{ds:List PyData}(h:Dat K G v (.list ds)):∃ p xs,v = .ref p∧G p = some (.lst xs)∧Dats K G xs ds:=by unfold Dat at h;exact h
theorem Dats.nil {xs:List V}(h:Dats K G xs []):xs = []:=by unfold Dats at h;exact h
theorem Dats.cons {xs:List V}{d:PyData}{ds:List PyData}(h:Dats K G xs (d :: ds)):∃ y ys,xs = y :: ys∧Dat K G y d∧Dats K G ys ds:=by unfold Dats at h;exact h
theorem Dats.length:∀ {ds:List PyData}{xs:List V},Dats K G xs ds→xs.length = ds.length
 | [],_,h=>by rw [h.nil];rfl
 | d :: ds,_,h=>by
  obtain ⟨y,ys,rfl,_,r⟩:=h.cons
  show ys.length + 1 = ds.length + 1
  rw [r.length]
theorem Dats.get:∀ {ds:List PyData}{xs:List V}{i:Nat}{d:PyData},Dats K G xs ds→ds[i]? = some d→∃ x,xs[i]? = some x∧Dat K G x d
 | [],_,_,_,_,e=>by simp at e
 | d :: ds,_,0,_,h,e=>by
  obtain ⟨y,ys,rfl,hd,r⟩:=h.cons
  simp at e;subst e;exact ⟨y,rfl,hd⟩
 | d :: ds,_,i + 1,d',h,e=>by
  obtain ⟨y,ys,rfl,hd,r⟩:=h.cons
  obtain ⟨x,h1,h2⟩:=Dats.get (i:=i) (d:=d') r (by simpa using e)
  exact ⟨x,by simpa using h1,h2⟩
theorem Dats.get' {ds:List PyData}{xs:List V}{i:Nat}{x:V}(h:Dats K G xs ds) (e:xs[i]? = some x):∃ d,ds[i]? = some d∧Dat K G x d:=by
 have hl:=h.length
 have hi:i < xs.length:=(List.getElem?_eq_some_iff.mp e).1
 obtain ⟨y,h1,h2⟩:=h.get (List.getElem?_eq_getElem (show i < ds.length by omega))
 rw [e] at h1;cases h1
 exact ⟨_,List.getElem?_eq_getElem (by omega),h2⟩
theorem dats_append:∀ {ds es:List PyData}{xs ys:List V},Dats K G xs ds→Dats K G ys es→Dats K G (xs ++ ys) (ds ++ es)
 | [],_,_,_,h,r=>by rw [h.nil];exact r
 | d :: ds,_,_,_,h,r=>by
  obtain ⟨y,ys,rfl,hd,r'⟩:=h.cons
  exact dats_cons hd (dats_append r' r)
theorem dats_snoc {ds:List PyData}{d:PyData}{xs:List V}{x:V}(h:Dats K G xs ds) (r:Dat K G x d):Dats K G (xs ++ [x]) (ds ++ [d]):=dats_append h (dats_cons r dats_nil)
theorem dats_take:∀ {ds:List PyData}{xs:List V}(n:Nat),Dats K G xs ds→Dats K G (xs.take n) (ds.take n)
 | _,_,0,_=>dats_nil
 | [],_,n + 1,h=>by rw [h.nil];exact dats_nil
 | d :: ds,_,n + 1,h=>by
  obtain ⟨y,ys,rfl,hd,r⟩:=h.cons
  exact dats_cons hd (dats_take n r)
theorem dats_drop:∀ {ds:List PyData}{xs:List V}(n:Nat),Dats K G xs ds→Dats K G (xs.drop n) (ds.drop n)
 | _,_,0,h=>h
 | [],_,n + 1,h=>by rw [h.nil];exact dats_nil
 | d :: ds,_,n + 1,h=>by
  obtain ⟨y,ys,rfl,hd,r⟩:=h.cons
  exact dats_drop n r
theorem dats_rev:∀ {ds:List PyData}{xs:List V},Dats K G xs ds→Dats K G xs.reverse ds.reverse
 | [],_,h=>by rw [h.nil];exact dats_nil
 | d :: ds,_,h=>by
  obtain ⟨y,ys,rfl,hd,r⟩:=h.cons
  rw [List.reverse_cons,List.reverse_cons]
  exact dats_snoc (dats_rev r) hd
end
mutual
theorem Dat.same {K:PySem.W.Frag}{G G' : Hp} (e:Same G G'):∀ {d:PyData}{v:V},Dat K G v d→Dat K G' v d
 | .none,_,h=>by rw [h.non];exact dat_non
 | .bool b,_,h=>by rw [h.bl];exact dat_bl b
 | .int i,_,h=>by rw [h.int];exact dat_int i
 | .str x,_,h=>by rw [h.str];exact dat_str x
 | .list ds,_,h=>by
  obtain ⟨p,xs,rfl,h1,h2⟩:=h.lst
  exact dat_lst (e _ _ h1) (Dats.same e h2)
 | .tuple ds,_,h=>by
  obtain ⟨p,xs,rfl,h1,h2⟩:=h.tup
  exact dat_tup (e.tup h1) (Dats.same e h2)
 | .dict _,_,h=>by unfold Dat at h;exact h.elim
theorem Dats.same {K:PySem.W.Frag}{G G' : Hp} (e:Same G G'):∀ {ds:List PyData}{xs:List V},Dats K G xs ds→Dats K G' xs ds
 | [],_,h=>by rw [h.nil];exact dats_nil
 | d :: ds,_,h=>by
  obtain ⟨y,ys,rfl,hd,r⟩:=h.cons
  exact dats_cons (Dat.same e hd) (Dats.same e r)
end
section
variable {X:Cx}{pins:List (Addr × Obj)}{σ:St}{H G:Hp}{s:Shared}
mutual
theorem Dat.reads (I:Inv X pins σ H s) (e:Same G H):∀ {d:PyData}{v:V}{u:Value},Dat X.K G v d→RelV v u→∃ as,Reads s.heap u d as
 | .none,_,u,h,r=>by
  rw [h.non] at r
  cases (show u = Value.none from r)
  exact ⟨_,.none⟩
 | .bool b,_,u,h,r=>by
  rw [h.bl] at r
  cases (show u = Value.bool b from r)
  exact ⟨_,.bool b⟩
 | .int i,_,u,h,r=>by
  rw [h.int] at r
  obtain ⟨t,q⟩:=(show ∃ t,u = Value.int i t from r)
  subst q
  exact ⟨_,.int i t⟩
 | .str x,_,u,h,r=>by
  rw [h.str] at r
  obtain ⟨t,q⟩:=(show ∃ t,u = Value.str x t from r)
  subst q
  exact ⟨_,.str x t⟩
 | .list ds,_,u,h,r=>by
  obtain ⟨p,xs,rfl,h1,h2⟩:=h.lst
  cases (show u = Value.ref p from r)
  obtain ⟨its,rv,⟨o,n,e1,c,_,d1⟩,_⟩:=I.list (SqL.of (e _ _ h1))
  obtain ⟨as,ra⟩:=Dats.reads I e h2 rv
  exact ⟨_,Reads.list e1 c d1 (by simpa using ra)⟩
 | .tuple ds,_,u,h,r=>by
  obtain ⟨p,xs,rfl,h1,h2⟩:=h.tup
  cases (show u = Value.ref p from r)
  obtain ⟨its,rv,⟨o,e1,c,n,d1⟩,_⟩:=I.tuple (e.tup h1)
  obtain ⟨as,ra⟩:=Dats.reads I e h2 rv
  exact ⟨_,Reads.tuple e1 c d1 (by simpa using ra)⟩
 | .dict _,_,_,h,_=>by unfold Dat at h;exact h.elim
theorem Dats.reads (I:Inv X pins σ H s) (e:Same G H):∀ {ds:List PyData}{xs:List V}{us:List Value},Dats X.K G xs ds→Vals xs us→∃ as,ReadsAll s.heap us ds as
 | [],_,us,h,r=>by
  rw [h.nil] at r
  cases r
  exact ⟨_,.nil⟩
 | d :: ds,_,us,h,r=>by
  obtain ⟨y,ys,rfl,hd,hr⟩:=h.cons
  cases r with
  | cons r1 r2=>
   obtain ⟨as,ra⟩:=Dat.reads I e hd r1
   obtain ⟨bs,rb⟩:=Dats.reads I e hr r2
   exact ⟨_,.cons ra rb⟩
end
end
mutual
def noBool:PyData→Bool
 | .bool _=>false
 | .dict _=>false
 | .list xs=>noBools xs
 | .tuple xs=>noBools xs
 | .none | .int _ | .str _=>true
def noBools:List PyData→Bool
 | []=>true
 | x :: xs=>noBool x && noBools xs
end
mutual
theorem noMix_of:∀ a b:PyData,noBool a = true→noBool b = true→SeqAt.noMix a b = true
 | .list xs,.list ys,h,k=>by rw [SeqAt.noMix];exact noMixs_of xs ys (by simpa [noBool] using h) (by simpa [noBool] using k)
 | .tuple xs,.tuple ys,h,k=>by rw [SeqAt.noMix];exact noMixs_of xs ys (by simpa [noBool] using h) (by simpa [noBool] using k)
 | .bool _,_,h,_=>by simp [noBool] at h
 | .dict _,_,h,_=>by simp [noBool] at h
 | .none,.bool _,_,k | .int _,.bool _,_,k | .str _,.bool _,_,k | .list _,.bool _,_,k | .tuple _,.bool _,_,k=>by simp [noBool] at k
 | .none,.dict _,_,k | .int _,.dict _,_,k | .str _,.dict _,_,k | .list _,.dict _,_,k | .tuple _,.dict _,_,k=>by simp [noBool] at k
 | .none,.none,_,_ | .none,.int _,_,_ | .none,.str _,_,_ | .none,.list _,_,_ | .none,.tuple _,_,_=>by simp [SeqAt.noMix]
 | .int _,.none,_,_ | .int _,.int _,_,_ | .int _,.str _,_,_ | .int _,.list _,_,_ | .int _,.tuple _,_,_=>by simp [SeqAt.noMix]
 | .str _,.none,_,_ | .str _,.int _,_,_ | .str _,.str _,_,_ | .str _,.list _,_,_ | .str _,.tuple _,_,_=>by simp [SeqAt.noMix]
 | .list _,.none,_,_ | .list _,.int _,_,_ | .list _,.str _,_,_ | .list _,.tuple _,_,_=>by simp [SeqAt.noMix]
 | .tuple _,.none,_,_ | .tuple _,.int _,_,_ | .tuple _,.str _,_,_ | .tuple _,.list _,_,_=>by simp [SeqAt.noMix]
theorem noMixs_of:∀ a b:List PyData,noBools a = true→noBools b = true→SeqAt.noMixAll a b = true
 | [],[],_,_ | [],_ :: _,_,_ | _ :: _,[],_,_=>by simp [SeqAt.noMixAll]
 | x :: xs,y :: ys,h,k=>by
  have h' : noBool x = true∧noBools xs = true:=by simpa [noBools] using h
  have k' : noBool y = true∧noBools ys = true:=by simpa [noBools] using k
  rw [SeqAt.noMixAll,noMix_of x y h'.1 k'.1,noMixs_of xs ys h'.2 k'.2];rfl
end
structure Pl (n:Nat) (d:PyData):Prop where
 lay:d.canLay0 = true
 dep:d.depth≤n
 nb:noBool d = true
theorem Pl.shaped {n:Nat}{d:PyData}(h:Pl n d) (k:n≤64):SeqAt.shaped d = true:=by
 show (PyData.canLay0 d && decide (PyData.depth d≤64)) = true
 rw [Bool.and_eq_true]
 exact ⟨h.lay,decide_eq_true (Nat.le_trans h.dep k)⟩
theorem Pl.mix {n:Nat}{a b:PyData}(h:Pl n a) (k:Pl n b):SeqAt.noMix a b = true:=noMix_of a b h.nb k.nb
mutual
theorem same_eq:∀ {a b:PyData},PySem.Spec.same a b = true→a = b
 | .none,b,h=>by cases b <;> first | rfl | simp [PySem.Spec.same] at h
 | .bool x,b,h=>by cases b <;> simp [PySem.Spec.same] at h <;> rw [h]
 | .int x,b,h=>by cases b <;> simp [PySem.Spec.same] at h <;> rw [h]
 | .str x,b,h=>by cases b <;> simp [PySem.Spec.same] at h <;> rw [h]
 | .list x,b,h=>by
  cases b <;> simp [PySem.Spec.same] at h
  rw [sameAll_eq h]
 | .tuple x,b,h=>by
  cases b <;> simp [PySem.Spec.same] at h
  rw [sameAll_eq h]
 | .dict x,b,h=>by
  cases b <;> simp [PySem.Spec.same] at h
  rw [samePairs_eq h]
theorem sameAll_eq:∀ {a b:List PyData},PySem.Spec.sameAll a b = true→a = b
 | [],[],_=>rfl
 | [],_ :: _,h=>by simp [PySem.Spec.sameAll] at h
 | _ :: _,[],h=>by simp [PySem.Spec.sameAll] at h
 | x :: xs,y :: ys,h=>by
  have h' : PySem.Spec.same x y = true∧PySem.Spec.sameAll xs ys = true:=by simpa [PySem.Spec.sameAll] using h
  rw [same_eq h'.1,sameAll_eq h'.2]
theorem samePairs_eq:∀ {a b:List (PyData × PyData)},PySem.Spec.samePairs a b = true→a = b
 | [],[],_=>rfl
 | [],_ :: _,h=>by simp [PySem.Spec.samePairs] at h
 | _ :: _,[],h=>by simp [PySem.Spec.samePairs] at h
 | (x,z) :: xs,(y,w) :: ys,h=>by
  have h' : (PySem.Spec.same x y = true∧PySem.Spec.same z w = true)∧PySem.Spec.samePairs xs ys = true:=by simpa [PySem.Spec.samePairs] using h
  rw [same_eq h'.1.1,same_eq h'.1.2,samePairs_eq h'.2]
end
section
variable {X:Cx}
def rEqD (K:PySem.W.Frag) (g:Bool→Bool):R2:=fun x y H Q=>∃ (G:Hp) (a b:PyData),Same G H∧Dat K G x a∧Dat K G y b∧(SeqAt.shaped a = true∧SeqAt.shaped b = true∧SeqAt.noMix a b = true)∧Q (.bl (g (PySem.Spec.same a b))) H
theorem op_eqD (hu:X.A.units + 64 < cLine):OpR X (compareOp .Eq) (rEqD X.K fun b=>b):=by
 intro pins s σ H x y v u Q I rx ry h
 obtain ⟨G,a,b,e,ha,hb,⟨sa,sb,nm⟩,q⟩:=h
 obtain ⟨as,ra⟩:=Dat.reads I e ha rx
 obtain ⟨bs,rb⟩:=Dat.reads I e hb ry
 exact eq_dataH_same ra rb sa sb hu nm ⟨.bl (PySem.Spec.same a b),H,I,rfl,q⟩
theorem op_neD (hu:X.A.units + 64 < cLine):OpR X (compareOp .NotEq) (rEqD X.K fun b=>!b):=by
 intro pins s σ H x y v u Q I rx ry h
 obtain ⟨G,a,b,e,ha,hb,⟨sa,sb,nm⟩,q⟩:=h
 obtain ⟨as,ra⟩:=Dat.reads I e ha rx
 obtain ⟨bs,rb⟩:=Dat.reads I e hb ry
 exact ne_dataH_same ra rb sa sb hu nm ⟨.bl (!PySem.Spec.same a b),H,I,rfl,q⟩
end
theorem pl_int (i:Int) {n:Nat}:Pl n (.int i):=⟨by unfold PyData.canLay0;rfl,by unfold PyData.depth;omega,by unfold noBool;rfl⟩
theorem canLayAll0_of:∀ {ds:List PyData},(∀ d∈ds,d.canLay0 = true)→PyData.canLayAll0 ds = true
 | [],_=>rfl
 | d :: ds,h=>by
  unfold PyData.canLayAll0
  rw [h d (by simp),canLayAll0_of fun e he=>h e (by simp [he])];rfl
theorem depthAll_of:∀ {ds:List PyData}{n:Nat},(∀ d∈ds,d.depth≤n)→PyData.depthAll ds≤n
 | [],_,_=>by unfold PyData.depthAll;omega
 | d :: ds,n,h=>by
  have h1:=h d (by simp)
  have h2:=depthAll_of (ds:=ds) (n:=n) fun e he=>h e (by simp [he])
  unfold PyData.depthAll
  omega
theorem noBools_of:∀ {ds:List PyData},(∀ d∈ds,noBool d = true)→noBools ds = true
 | [],_=>rfl
 | d :: ds,h=>by
  unfold noBools
  rw [h d (by simp),noBools_of fun e he=>h e (by simp [he])];rfl
theorem pl_tup {n:Nat}{ds:List PyData}(h:∀ d∈ds,Pl n d):Pl (n + 1) (.tuple ds):=by
 refine ⟨?_,?_,?_⟩
 ·unfold PyData.canLay0;exact canLayAll0_of fun d hd=>(h d hd).lay
 ·have:=depthAll_of fun d hd=>(h d hd).dep
  unfold PyData.depth;omega
 ·unfold noBool;exact noBools_of fun d hd=>(h d hd).nb
theorem pl_lst {n:Nat}{ds:List PyData}(h:∀ d∈ds,Pl n d):Pl (n + 1) (.list ds):=by
 refine ⟨?_,?_,?_⟩
 ·unfold PyData.canLay0;exact canLayAll0_of fun d hd=>(h d hd).lay
 ·have:=depthAll_of fun d hd=>(h d hd).dep
  unfold PyData.depth;omega
 ·unfold noBool;exact noBools_of fun d hd=>(h d hd).nb
end L2
namespace L2
open PySem PySem.Spec PyProof.Rows
structure Grow (G H G' H' : Hp):Prop where
 gg:Same G G'
 gh:Same G' H'
 hh:Same H H'
 fr:∀ b o,G' b = some o→G b = some o∨H b = none
theorem Grow.refl {G H:Hp}(s:Same G H):Grow G H G H:=⟨Same.refl _,s,Same.refl _,fun _ _ h=>.inl h⟩
theorem Grow.trans {G H G1 H1 G2 H2:Hp}(a:Grow G H G1 H1) (b:Grow G1 H1 G2 H2):Grow G H G2 H2:=
 ⟨a.gg.trans b.gg,b.gh,a.hh.trans b.hh,fun x o h=>by
  rcases b.fr x o h with h | h
  ·exact a.fr x o h
  ·exact .inr (a.hh.free h)⟩
theorem grow_new {G H:Hp}{p:Addr}{o:HO}(s:Same G H) (hp:H p = none):Grow G H (upd G p o) (upd H p o):=by
 have hg:G p = none:=s.free hp
 refine ⟨fun b u e=>?_,fun b u e=>?_,fun b u e=>?_,fun b u e=>?_⟩
 ·rw [upd_ne (ne_of_none e hg)];exact e
 ·by_cases h:b = p
  ·subst h;rw [upd_same] at e ⊢;exact e
  ·rw [upd_ne h] at e ⊢;exact s b u e
 ·rw [upd_ne (ne_of_none e hp)];exact e
 ·by_cases h:b = p
  ·subst h;exact .inr hp
  ·rw [upd_ne h] at e;exact .inl e
theorem grow_h {G H H' : Hp} (s:Same G H) (h:Same H H'):Grow G H G H' := ⟨Same.refl _,s.trans h,h,fun _ _ e=>.inl e⟩
theorem Grow.out {G H G' H' : Hp} (a:Grow G H G' H') {p:Addr}{o:HO}(hp:H p = some o) (hg:G p = none):G' p = none:=by
 cases e:G' p with
 | none=>rfl
 | some u=>
  rcases a.fr p u e with h | h
  ·rw [hg] at h;cases h
  ·rw [hp] at h;cases h
def Ev (K:PySem.W.Frag) (t:TE) (σ:St) (G:Hp) (d:PyData):Prop:=
 ∀ G1 H,Same G G1→Same G1 H→∀ Q:VK,(∀ v G' H',Grow G1 H G' H' → Dat K G' v d→Q v H')→t σ H Q
def EvT (t:TT) (σ:St) (G:Hp) (b:Bool):Prop:=
 ∀ G1 H,Same G G1→Same G1 H→∀ Q:Bool→Hp→Prop,(∀ G' H',Grow G1 H G' H' → Q b H')→t σ H Q
def EvA (K:PySem.W.Frag) (t:TA) (σ:St) (G:Hp) (ds:List PyData):Prop:=
 ∀ G1 H,Same G G1→Same G1 H→∀ Q:List V→Hp→Prop,(∀ vs G' H',Grow G1 H G' H' → Dats K G' vs ds→Q vs H')→t σ H Q
section
variable {K:PySem.W.Frag}{σ:St}{G:Hp}{ta tb tc:TE}{a b d:PyData}
theorem Ev.mono {t:TE}{G' : Hp} (h:Ev K t σ G d) (s:Same G G'):Ev K t σ G' d:=fun G1 H s1 s2 Q k=>h G1 H (s.trans s1) s2 Q k
theorem Ev.use {t:TE}{H:Hp}{Q:VK}(h:Ev K t σ G d) (s:Same G H) (k:∀ v G' H',Grow G H G' H' → Dat K G' v d→Q v H'):t σ H Q:=h G H (Same.refl _) s Q k
theorem EvT.use {t:TT}{c:Bool}{H:Hp}{Q:Bool→Hp→Prop}(h:EvT t σ G c) (s:Same G H) (k:∀ G' H',Grow G H G' H' → Q c H'):t σ H Q:=h G H (Same.refl _) s Q k
theorem ev_var {i:Nat}{v:V}(h:σ[i]? = some (some v)) (hd:Dat K G v d):Ev K (tVar i) σ G d:=fun G1 H s1 s2 Q k=>⟨v,h,k v G1 H (Grow.refl s2) (hd.same s1)⟩
theorem ev_c {v:V}(hd:Dat K G v d):Ev K (tC v) σ G d:=fun G1 H s1 s2 Q k=>k v G1 H (Grow.refl s2) (hd.same s1)
theorem ev_int {i:Int}:Ev K (tC (.int i)) σ G (.int i):=ev_c (dat_int i)
theorem ev_str {x:Str}:Ev K (tC (.str x)) σ G (.str x):=ev_c (dat_str x)
theorem ev_bl {x:Bool}:Ev K (tC (.bl x)) σ G (.bool x):=ev_c (dat_bl x)
theorem ev_op {r:R2}(ha:Ev K ta σ G a) (hb:Ev K tb σ G b) (hr:∀ G1 H x y (Q:VK),Same G G1→Same G1 H→Dat K G1 x a→Dat K G1 y b→(∀ v G' H',Grow G1 H G' H' → Dat K G' v d→Q v H')→r x y H Q):Ev K (tOp r ta tb) σ G d:=
 fun G1 H s1 s2 Q k=>ha G1 H s1 s2 _ fun x G2 H2 g2 hx=>hb G2 H2 (s1.trans g2.gg) g2.gh _ fun y G3 H3 g3 hy=>
  hr G3 H3 x y Q ((s1.trans g2.gg).trans g3.gg) g3.gh (hx.same g3.gg) hy fun v G' H' g hv=>k v G' H' ((g2.trans g3).trans g) hv
theorem ev_i0 {g:Int→Int→V}{i j:Int}(ha:Ev K ta σ G (.int i)) (hb:Ev K tb σ G (.int j)) (hg:Dat K G (g i j) d):Ev K (tOp (rI0 g) ta tb) σ G d:=
 ev_op ha hb fun G1 H x y Q s1 s2 hx hy k=>by
  rw [hx.int,hy.int]
  exact ⟨i,j,rfl,rfl,k _ G1 H (Grow.refl s2) (hg.same s1)⟩
theorem ev_iC {C:Int→Int→Prop}{g:Int→Int→V}{i j:Int}(ha:Ev K ta σ G (.int i)) (hb:Ev K tb σ G (.int j)) (hc:C i j) (hg:Dat K G (g i j) d):Ev K (tOp (rI C g) ta tb) σ G d:=
 ev_op ha hb fun G1 H x y Q s1 s2 hx hy k=>by
  rw [hx.int,hy.int]
  exact ⟨i,j,rfl,rfl,hc,k _ G1 H (Grow.refl s2) (hg.same s1)⟩
theorem ev_ixT {ds:List PyData}{i:Int}{n:Nat}(ha:Ev K ta σ G (.tuple ds)) (hb:Ev K tb σ G (.int i)) (hn:ixN ds.length i = some n) (hd:ds[n]? = some d):Ev K (tOp (rIxT K) ta tb) σ G d:=
 ev_op ha hb fun G1 H x y Q s1 s2 hx hy k=>by
  obtain ⟨p,xs,rfl,hp,hxs⟩:=hx.tup
  obtain ⟨z,hz,hzd⟩:=hxs.get hd
  rw [hy.int]
  exact ⟨p,xs,i,z,rfl,rfl,s2.tup hp,by unfold atI;rw [hxs.length,hn];exact hz,k z G1 H (Grow.refl s2) hzd⟩
theorem ev_ixL {ds:List PyData}{i:Int}{n:Nat}(ha:Ev K ta σ G (.list ds)) (hb:Ev K tb σ G (.int i)) (hn:ixN ds.length i = some n) (hd:ds[n]? = some d):Ev K (tOp (rIxL K) ta tb) σ G d:=
 ev_op ha hb fun G1 H x y Q s1 s2 hx hy k=>by
  obtain ⟨p,xs,rfl,hp,hxs⟩:=hx.lst
  obtain ⟨z,hz,hzd⟩:=hxs.get hd
  rw [hy.int]
  exact ⟨p,xs,i,z,rfl,rfl,SqL.of (s2 _ _ hp),by unfold atI;rw [hxs.length,hn];exact hz,k z G1 H (Grow.refl s2) hzd⟩
theorem ev_eqD {g:Bool→Bool}{n:Nat}(ha:Ev K ta σ G a) (hb:Ev K tb σ G b) (pa:Pl n a) (pb:Pl n b) (hn:n≤64):Ev K (tOp (rEqD K g) ta tb) σ G (.bool (g (PySem.Spec.same a b))):=
 ev_op ha hb fun G1 H x y Q s1 s2 hx hy k=>⟨G1,a,b,s2,hx,hy,⟨pa.shaped hn,pb.shaped hn,pa.mix pb⟩,k _ G1 H (Grow.refl s2) (dat_bl _)⟩
theorem eva_nil:EvA K tNil σ G []:=fun G1 H s1 s2 Q k=>k [] G1 H (Grow.refl s2) dats_nil
theorem eva_cons {t:TA}{ds:List PyData}(ha:Ev K ta σ G a) (hb:EvA K t σ G ds):EvA K (tCons ta t) σ G (a :: ds):=
 fun G1 H s1 s2 Q k=>ha G1 H s1 s2 _ fun x G2 H2 g2 hx=>hb G2 H2 (s1.trans g2.gg) g2.gh _ fun ys G3 H3 g3 hy=>k (x :: ys) G3 H3 (g2.trans g3) (dats_cons (hx.same g3.gg) hy)
theorem ev_tup {t:TA}{ds:List PyData}(h:EvA K t σ G ds) (hl:ds.length≤sizeLine):Ev K (tTup t) σ G (.tuple ds):=
 fun G1 H s1 s2 Q k=>h G1 H s1 s2 _ fun vs G2 H2 g2 hv=>⟨by rw [hv.length];exact hl,fun p hp=>by
  have g:=grow_new (o:=.tup vs) g2.gh hp
  exact k _ _ _ (g2.trans g) (dat_tup (SqT.of upd_same) (hv.same g.gg))⟩
theorem ev_lst {t:TA}{ds:List PyData}(h:EvA K t σ G ds) (hl:ds.length≤sizeLine):Ev K (tLst t) σ G (.list ds):=
 fun G1 H s1 s2 Q k=>h G1 H s1 s2 _ fun vs G2 H2 g2 hv=>⟨by rw [hv.length];exact hl,fun p hp=>by
  have g:=grow_new (o:=.lst vs) g2.gh hp
  exact k _ _ _ (g2.trans g) (dat_lst upd_same (hv.same g.gg))⟩
theorem ev_cb {r:List V→Hp→VK→Prop}{t:TA}{ds:List PyData}(h:EvA K t σ G ds) (hr:∀ G1 H xs (Q:VK),Same G G1→Same G1 H→Dats K G1 xs ds→(∀ v G' H',Grow G1 H G' H' → Dat K G' v d→Q v H')→r xs H Q):Ev K (tCB r t) σ G d:=
 fun G1 H s1 s2 Q k=>h G1 H s1 s2 _ fun vs G2 H2 g2 hv=>hr G2 H2 vs Q (s1.trans g2.gg) g2.gh hv fun v G' H' g hd=>k v G' H' (g2.trans g) hd
theorem ev_lenL {t:TA}{ds:List PyData}(h:EvA K t σ G [.list ds]):Ev K (tCB (fun xs H Q=>∃ p ys,xs = [.ref p]∧(SqL K H p ys∨SqT K H p ys)∧Q (.int ys.length) H) t) σ G (.int ds.length):=
 ev_cb h fun G1 H xs Q s1 s2 hx k=>by
  obtain ⟨y,ys,rfl,hy,r⟩:=hx.cons
  rw [r.nil]
  obtain ⟨p,zs,rfl,hp,hz⟩:=hy.lst
  refine ⟨p,zs,rfl,.inl (SqL.of (s2 _ _ hp)),?_⟩
  rw [hz.length]
  exact k _ G1 H (Grow.refl s2) (dat_int _)
theorem ev_lenT {t:TA}{ds:List PyData}(h:EvA K t σ G [.tuple ds]):Ev K (tCB (fun xs H Q=>∃ p ys,xs = [.ref p]∧(SqL K H p ys∨SqT K H p ys)∧Q (.int ys.length) H) t) σ G (.int ds.length):=
 ev_cb h fun G1 H xs Q s1 s2 hx k=>by
  obtain ⟨y,ys,rfl,hy,r⟩:=hx.cons
  rw [r.nil]
  obtain ⟨p,zs,rfl,hp,hz⟩:=hy.tup
  refine ⟨p,zs,rfl,.inr (s2.tup hp),?_⟩
  rw [hz.length]
  exact k _ G1 H (Grow.refl s2) (dat_int _)
theorem ev_tupleL {t:TA}{ds:List PyData}(h:EvA K t σ G [.list ds]):Ev K (tCB (fun xs H Q=>∃ p ys,xs = [.ref p]∧((SqL K H p ys∧∀ l,H l = none→Q (.ref l) (upd H l (.tup ys)))∨(SqT K H p ys∧Q (.ref p) H))) t) σ G (.tuple ds):=
 ev_cb h fun G1 H xs Q s1 s2 hx k=>by
  obtain ⟨y,ys,rfl,hy,r⟩:=hx.cons
  rw [r.nil]
  obtain ⟨p,zs,rfl,hp,hz⟩:=hy.lst
  refine ⟨p,zs,rfl,.inl ⟨SqL.of (s2 _ _ hp),fun l hl=>?_⟩⟩
  have g:=grow_new (o:=.tup zs) s2 hl
  exact k _ _ _ g (dat_tup (SqT.of upd_same) (hz.same g.gg))
theorem evt_test {t:TE}{c:Bool}(h:Ev K t σ G (.bool c)):EvT (tTest t) σ G c:=fun G1 H s1 s2 Q k=>h G1 H s1 s2 _ fun v G' H' g hv=>⟨c,hv.bl,k G' H' g⟩
theorem evt_b {t:TE}{c:Bool}(h:Ev K t σ G (.bool c)):EvT (tB t) σ G c:=fun G1 H s1 s2 Q k=>h G1 H s1 s2 _ fun v G' H' g hv=>⟨c,hv.bl,k G' H' g⟩
theorem evt_not {t:TT}{c:Bool}(h:EvT t σ G c):EvT (tNot t) σ G (!c):=fun G1 H s1 s2 Q k=>h G1 H s1 s2 _ fun G' H' g=>k G' H' g
theorem evt_or {t u:TT}{c e:Bool}(h:EvT t σ G c) (h' : c = false→EvT u σ G e):EvT (tOr t u) σ G (c || e):=fun G1 H s1 s2 Q k=>h G1 H s1 s2 _ fun G' H' g=>by
 cases c with
 | true=>rw [if_pos rfl];exact k G' H' g
 | false=>
  rw [if_neg Bool.false_ne_true]
  exact h' rfl G' H' (s1.trans g.gg) g.gh _ fun G2 H2 g2=>k G2 H2 (g.trans g2)
theorem evt_c {t:TT}{c e:Bool}(h:EvT t σ G c) (q:c = e):EvT t σ G e:=q ▸ h
theorem ev_d {t:TE}{e:PyData}(h:Ev K t σ G d) (q:d = e):Ev K t σ G e:=q ▸ h
theorem ev_ite {t:TT}{c:Bool}(h:EvT t σ G c) (h1:c = true→Ev K ta σ G d) (h2:c = false→Ev K tb σ G d):Ev K (tIf t ta tb) σ G d:=fun G1 H s1 s2 Q k=>h G1 H s1 s2 _ fun G' H' g=>by
 cases c with
 | true=>rw [if_pos rfl];exact h1 rfl G' H' (s1.trans g.gg) g.gh _ fun v G2 H2 g2 hv=>k v G2 H2 (g.trans g2) hv
 | false=>rw [if_neg Bool.false_ne_true];exact h2 rfl G' H' (s1.trans g.gg) g.gh _ fun v G2 H2 g2 hv=>k v G2 H2 (g.trans g2) hv
def spP (K:PySem.W.Frag) (R:List PyData→PyData→Prop):Sp:=fun vs H Q _=>∃ (G:Hp) (ds:List PyData) (d:PyData),Same G H∧Dats K G vs ds∧R ds d∧∀ v G' H',Grow G H G' H' → Dat K G' v d→Q v H'
theorem ev_call {R:List PyData→PyData→Prop}{E:XK}{t:TA}{ds:List PyData}(h:EvA K t σ G ds) (hR:R ds d):Ev K (tCall (spP K R) [] E t) σ G d:=
 fun G1 H s1 s2 Q k=>h G1 H s1 s2 _ fun vs G2 H2 g2 hv=>by
  refine ⟨G2,ds,d,g2.gh,?_,hR,fun v G' H' g hd=>k v G' H' (g2.trans g) hd⟩
  rw [List.append_nil];exact hv
theorem range_bind {α β:Type}(f:α→Option β):∀ ds:List α,(List.range ds.length).filterMap (fun i=>(ds[i]?).bind f) = ds.filterMap f
 | []=>rfl
 | d :: ds=>by
  rw [List.length_cons,List.range_succ_eq_map,List.filterMap_cons,List.filterMap_map]
  have e:(fun i=>((d :: ds)[i]?).bind f) ∘ Nat.succ = fun i=>(ds[i]?).bind f:=by
   funext i;simp
  rw [e,range_bind f ds]
  rw [List.filterMap_cons]
  simp
structure Walk (J:It) (n:Nat) (H:Hp) (items:Nat→V→Prop):Prop where
 go:∀ i H',Same H H' → i < n→J.go i H'
 stop:∀ i H',Same H H' → n≤i→J.stop i H'
 yld:∀ i H' x H'',Same H H' → J.yld i H' x H'' → H'' = H' ∧ items i x
theorem walk_tup {a:Addr}{xs:List V}{H:Hp}(h:SqT K H a xs):Walk (Itt K a) xs.length H (fun i x=>xs[i]? = some x):=
 ⟨fun i H' s hi=>⟨xs,_,s.tup h,List.getElem?_eq_getElem hi⟩,fun i H' s hi=>⟨xs,s.tup h,hi⟩,fun i H' x H'' s y=>⟨y.1,y.2 xs (s.tup h)⟩⟩
theorem walk_lst {a:Addr}{xs:List V}{H:Hp}(h:SqL K H a xs):Walk (Itl K a) xs.length H (fun i x=>xs[i]? = some x):=
 ⟨fun i H' s hi=>⟨xs,_,s.seq h,List.getElem?_eq_getElem hi⟩,fun i H' s hi=>⟨xs,s.seq h,hi⟩,fun i H' x H'' s y=>⟨y.1,y.2 xs (s.seq h)⟩⟩
theorem lc_of {wi:TI}{js:List Nat}{tt:TT}{te:TE}{H:Hp}{Q:VK}{n:Nat}(f:Nat→Option PyData) (items:Hp→Nat→V→Prop) {G1:Hp}(s2:Same G1 H)
  (hw:∀ R:It→Hp→Prop,(∀ J G2 H2,Grow G1 H G2 H2→Walk J n H2 (items G2)→R J H2)→wi σ H R)
  (hn:n < sizeLine)
  (hc:∀ G2 i x,Same G1 G2→i < n→items G2 i x→(∃ d,f i = some d∧EvT tt (some x :: capV σ js) G2 true∧Ev K te (some x :: capV σ js) G2 d)∨(f i = none∧EvT tt (some x :: capV σ js) G2 false))
  (k:∀ v G' H',Grow G1 H G' H' → Dat K G' v (.list ((List.range n).filterMap f))→Q v H'):tLC wi js tt te σ H Q:=by
 refine hw _ fun J G2 H2 g2 W=>?_
 refine ⟨fun i m ys H' => m = n - i∧i≤n∧ys.length≤i∧∃ G',Grow G2 H2 G' H' ∧ Dats K G' ys ((List.range i).filterMap f),⟨n,by omega,by omega,by simp,G2,Grow.refl g2.gh,by simpa using dats_nil⟩,?_⟩
 rintro i m ys H' ⟨rfl,hi,hl,G',g',hys⟩
 refine ⟨by omega,?_⟩
 by_cases h:i = n
 ·subst h
  refine .inl ⟨W.stop i H' g'.hh (Nat.le_refl _),fun p hp=>?_⟩
  have g3:=grow_new (o:=.lst ys) g'.gh hp
  exact k _ _ _ ((g2.trans g').trans g3) (dat_lst upd_same (hys.same g3.gg))
 ·refine .inr ⟨W.go i H' g'.hh (by omega),fun x H'' hy=>?_⟩
  obtain ⟨rfl,hit⟩:=W.yld i H' x H'' g'.hh hy
  rcases hc G2 i x g2.gg (by omega) hit with ⟨d,hf,ht,he⟩ | ⟨hf,ht⟩
  ·refine ht G' H'' g'.gg g'.gh _ fun G4 H4 g4=>?_
   rw [if_pos rfl]
   refine he G4 H4 (g'.gg.trans g4.gg) g4.gh _ fun v G5 H5 g5 hv=>⟨n - (i + 1),by omega,rfl,by omega,by rw [List.length_append];show ys.length + 1≤i + 1;omega,G5,(g'.trans g4).trans g5,?_⟩
   rw [List.range_succ,List.filterMap_append]
   simp only [List.filterMap_cons,hf,List.filterMap_nil]
   exact dats_snoc (hys.same (g4.gg.trans g5.gg)) hv
  ·refine ht G' H'' g'.gg g'.gh _ fun G4 H4 g4=>?_
   rw [if_neg Bool.false_ne_true]
   refine ⟨n - (i + 1),by omega,rfl,by omega,by omega,G4,g'.trans g4,?_⟩
   rw [List.range_succ,List.filterMap_append]
   simp only [List.filterMap_cons,hf,List.filterMap_nil,List.append_nil]
   exact hys.same g4.gg
def Lc1 (K:PySem.W.Frag) (tt:TT) (te:TE) (σ' : St) (G:Hp) (o:Option PyData):Prop:=
 (∃ d,o = some d∧EvT tt σ' G true∧Ev K te σ' G d)∨(o = none∧EvT tt σ' G false)
theorem ev_lcT {α:Type}{tl:TE}{js:List Nat}{tt:TT}{te:TE}(as:List α) (enc:α→PyData) (f:α→Option PyData) (h:Ev K tl σ G (.tuple (as.map enc))) (hj:as.length < sizeLine)
  (hc:∀ G2 (i:Nat) (a:α) x,Same G G2→as[i]? = some a→Dat K G2 x (enc a)→Lc1 K tt te (some x :: capV σ js) G2 (f a)):Ev K (tLC (iTup K tl) js tt te) σ G (.list (as.filterMap f)):=
 fun G1 H s1 s2 Q k=>lc_of (n:=as.length) (fun i=>(as[i]?).bind f) (fun G2 i x=>∃ a,as[i]? = some a∧Dat K G2 x (enc a)) s2 (fun R hR=>h G1 H s1 s2 _ fun v G2 H2 g2 hv=>by
  obtain ⟨p,xs,rfl,hp,hxs⟩:=hv.tup
  refine ⟨p,rfl,⟨xs,g2.gh.tup hp⟩,hR _ G2 H2 g2 ?_⟩
  have W:=walk_tup (K:=K) (H:=H2) (g2.gh.tup hp)
  rw [hxs.length,List.length_map] at W
  refine ⟨W.go,W.stop,fun i H' x H'' s y=>⟨(W.yld i H' x H'' s y).1,?_⟩⟩
  obtain ⟨d,hd,hx⟩:=hxs.get' (W.yld i H' x H'' s y).2
  rw [List.getElem?_map] at hd
  cases e:as[i]? with
  | none=>rw [e] at hd;cases hd
  | some a=>rw [e] at hd;cases hd;exact ⟨a,rfl,hx⟩) hj
  (fun G2 i x s3 hi ⟨a,ha,hx⟩=>by
   show Lc1 K tt te (some x :: capV σ js) G2 ((as[i]?).bind f)
   rw [ha];exact hc G2 i a x (s1.trans s3) ha hx) (by rw [range_bind];exact k)
theorem ev_lcL {α:Type}{tl:TE}{js:List Nat}{tt:TT}{te:TE}(as:List α) (enc:α→PyData) (f:α→Option PyData) (h:Ev K tl σ G (.list (as.map enc))) (hj:as.length < sizeLine)
  (hc:∀ G2 (i:Nat) (a:α) x,Same G G2→as[i]? = some a→Dat K G2 x (enc a)→Lc1 K tt te (some x :: capV σ js) G2 (f a)):Ev K (tLC (iList K tl) js tt te) σ G (.list (as.filterMap f)):=
 fun G1 H s1 s2 Q k=>lc_of (n:=as.length) (fun i=>(as[i]?).bind f) (fun G2 i x=>∃ a,as[i]? = some a∧Dat K G2 x (enc a)) s2 (fun R hR=>h G1 H s1 s2 _ fun v G2 H2 g2 hv=>by
  obtain ⟨p,xs,rfl,hp,hxs⟩:=hv.lst
  refine ⟨p,rfl,⟨xs,SqL.of (g2.gh _ _ hp)⟩,hR _ G2 H2 g2 ?_⟩
  have W:=walk_lst (K:=K) (H:=H2) (SqL.of (g2.gh _ _ hp))
  rw [hxs.length,List.length_map] at W
  refine ⟨W.go,W.stop,fun i H' x H'' s y=>⟨(W.yld i H' x H'' s y).1,?_⟩⟩
  obtain ⟨d,hd,hx⟩:=hxs.get' (W.yld i H' x H'' s y).2
  rw [List.getElem?_map] at hd
  cases e:as[i]? with
  | none=>rw [e] at hd;cases hd
  | some a=>rw [e] at hd;cases hd;exact ⟨a,rfl,hx⟩) hj
  (fun G2 i x s3 hi ⟨a,ha,hx⟩=>by
   show Lc1 K tt te (some x :: capV σ js) G2 ((as[i]?).bind f)
   rw [ha];exact hc G2 i a x (s1.trans s3) ha hx) (by rw [range_bind];exact k)
theorem lc1 {tt:TT}{te:TE}{σ' : St} (ht:EvT tt σ' G true) (he:Ev K te σ' G d):Lc1 K tt te σ' G (some d):=.inl ⟨d,rfl,ht,he⟩
theorem lc0 {tt:TT}{te:TE}{σ' : St} (ht:EvT tt σ' G false):Lc1 K tt te σ' G none:=.inr ⟨rfl,ht⟩
theorem lcB {tt:TT}{te:TE}{σ' : St} {c:Bool}(ht:EvT tt σ' G c) (he:c = true→Ev K te σ' G d):Lc1 K tt te σ' G (if c then some d else none):=by
 cases c with
 | true=>exact lc1 ht (he rfl)
 | false=>exact lc0 ht
theorem evt_noif:EvT tNoIf σ G true:=fun G1 H s1 s2 Q k=>k G1 H (Grow.refl s2)
end
end L2
namespace L2
open PySem PySem.Spec PyProof.Rows
section
variable {K:PySem.W.Frag}{σ:St}{G H:Hp}{te:TE}{d:PyData}{D:Ends}
theorem ret_ev (h:Ev K te σ G d) (s:Same G H) (k:∀ v G' H',Grow G H G' H' → Dat K G' v d→D.rt v H'):tRet te D σ H:=h.use s k
theorem asg_ev {i:Nat}(h:Ev K te σ G d) (s:Same G H) (k:∀ v G' H',Grow G H G' H' → Dat K G' v d→D.nx (σ.set i (some v)) H'):tAsg te (gName i) D σ H:=h.use s k
theorem if_ev {tc:TT}{t u:TS}{c:Bool}(h:EvT tc σ G c) (s:Same G H) (k1:c = true→∀ G' H',Grow G H G' H' → t D σ H') (k2:c = false→∀ G' H',Grow G H G' H' → u D σ H'):tIfS tc t u D σ H:=
 h.use s fun G' H' g=>by
  cases c with
  | true=>rw [if_pos rfl];exact k1 rfl G' H' g
  | false=>rw [if_neg Bool.false_ne_true];exact k2 rfl G' H' g
theorem if_no {tc:TT}{t u:TS}(h:EvT tc σ G false) (s:Same G H) (k:∀ G' H',Grow G H G' H' → u D σ H'):tIfS tc t u D σ H:=if_ev h s (fun z=>nomatch z) fun _=>k
theorem fm_some {α β:Type}(f:α→β):∀ l:List α,l.filterMap (fun x=>some (f x)) = l.map f
 | []=>rfl
 | x :: l=>by rw [List.filterMap_cons,List.map_cons,fm_some f l]
abbrev dN (ns:List Nat):PyData:=.tuple (ns.map fun n=>PyData.int (n:Nat))
theorem dats_nats:∀ ns:List Nat,Dats K G (ns.map fun n=>V.int (n:Nat)) (ns.map fun n=>PyData.int (n:Nat))
 | []=>dats_nil
 | n :: ns=>dats_cons (dat_int _) (dats_nats ns)
theorem pl_nats {n:Nat}(ns:List Nat):Pl (n + 1) (dN ns):=pl_tup fun d hd=>by
 obtain ⟨i,_,rfl⟩:=List.mem_map.mp hd
 exact pl_int _
theorem ixN_nat {n i:Nat}(h:i < n):ixN n (i:Int) = some i:=by unfold ixN;rw [if_pos (by omega),if_pos (by omega)];simp
end
end L2
namespace L2
open PySem PySem.Spec PyProof.Rows
section
variable {K:PySem.W.Frag}{σ:St}{G H:Hp}{ta tb:TE}
theorem ev_eqI {i j:Int}(ha:Ev K ta σ G (.int i)) (hb:Ev K tb σ G (.int j)):Ev K (tOp rEq ta tb) σ G (.bool (decide (i = j))):=
 ev_op ha hb fun G1 H x y Q s1 s2 hx hy k=>by
  rw [hx.int,hy.int]
  refine ⟨rfl,?_⟩
  have e:decide (V.int i = V.int j) = decide (i = j):=by
   by_cases h:i = j
   ·rw [decide_eq_true h,decide_eq_true (by rw [h])]
   ·rw [decide_eq_false h,decide_eq_false fun z=>h (by injection z)]
  rw [e]
  exact k _ G1 H (Grow.refl s2) (dat_bl _)
theorem same_upd {d:Addr}{o:HO}(s:Same G H) (n:G d = none):Same G (upd H d o):=fun b u e=>by
 rw [upd_ne (ne_of_none e n)];exact s b u e
end
end L2
namespace L2
open PySem PySem.Spec PyProof.Rows
section
variable {X:Cx}{pins:List (Addr × Obj)}{σ:St}{H:Hp}{s:Shared}{h' : Heap}
theorem Inv.turnsNew {t' : Nat} {fp:List Addr}{T:Addr}{o:HO}(I:Inv X pins σ H s) (k:∀ b u,b ∉ fp→s.heap.get? b = some u→h'.get? b = some u) (hf:∀ b∈fp,FpOk X pins H b)
  (hT:s.heap.objs.size≤T) (new:ObjOk X.prog X.w (upd H T o) h' T o):Inv X pins σ (upd H T o) { s with heap:=h',toks:=t' }:=by
 have nfp:∀ b u,H b = some u→b ∉ fp:=fun b u e z=>by rw [(hf b z).1] at e;cases e
 have nT:∀ b u,H b = some u→b≠T:=fun b u e=>Nat.ne_of_lt (Nat.lt_of_lt_of_le (I.hok.lt e) hT)
 have nT' : ∀ b u,s.heap.get? b = some u→b≠T:=fun b u e=>Nat.ne_of_lt (Nat.lt_of_lt_of_le (Heap.lt_size e) hT)
 refine I.step (g' := s.gens) (d' := s.drawn) (ch:=fp) (fun b hb=>?_) (fun b u _ _ hc e _=>k b u hc e) (fun b u _ _ hc e _=>⟨u.slots,k b u hc e⟩) (fun b u _ e n=>by rw [upd_ne (nT' b u e)];exact n)
  (fun b u hc e=>⟨u,k b u hc e⟩) (fun b xs e=>by rw [upd_ne (nT b _ e)];exact e) (fun b u v e=>by rw [upd_ne (nT b _ e)];exact e) (fun b cr e=>by rw [upd_ne (nT b _ e)];exact e) (fun m hm=>?_) (fun b u e=>?_) I.bare
 ·obtain ⟨f0,f1,f2,f3,f4,f5⟩:=hf b hb
  exact ⟨f3,f1,f4,f5⟩
 ·obtain ⟨ob,es,ep,ho,r⟩:=hm
  exact ⟨ob,es,ep,k _ ob (fun z=>(hf _ z).2.1 rfl) ho,r⟩
 ·by_cases hb:b = T
  ·subst hb;rw [upd_same] at e;cases e;exact new
  ·rw [upd_ne hb] at e
   refine (I.hok b u e).stay (fun c v hc q=>k c v ?_ q) (fun c q=>by rw [upd_ne (nT c _ q)];exact q) (fun c xs q=>by rw [upd_ne (nT c _ q)];exact q) fun c o u q=>by rw [upd_ne (nT c _ q)];exact q
   rcases hc with z | z
   ·rw [z];exact nfp b u e
   ·exact nfp c _ z
theorem Inv.turns {t' : Nat} {fp:List Addr}(I:Inv X pins σ H s) (k:∀ b u,b ∉ fp→s.heap.get? b = some u→h'.get? b = some u) (hf:∀ b∈fp,FpOk X pins H b):Inv X pins σ H { s with heap:=h',toks:=t' }:=by
 have nfp:∀ b u,H b = some u→b ∉ fp:=fun b u e z=>by rw [(hf b z).1] at e;cases e
 refine I.step (g' := s.gens) (d' := s.drawn) (ch:=fp) (fun b hb=>?_) (fun b u _ _ hc e _=>k b u hc e) (fun b u _ _ hc e _=>⟨u.slots,k b u hc e⟩) (fun b u _ e n=>n)
  (fun b u hc e=>⟨u,k b u hc e⟩) (fun b xs e=>e) (fun b u v e=>e) (fun _ _ e=>e) (fun m hm=>?_) (fun b u e=>?_) I.bare
 ·obtain ⟨f0,f1,f2,f3,f4,f5⟩:=hf b hb
  exact ⟨f3,f1,f4,f5⟩
 ·obtain ⟨ob,es,ep,ho,r⟩:=hm
  exact ⟨ob,es,ep,k _ ob (fun z=>(hf _ z).2.1 rfl) ho,r⟩
 ·refine (I.hok b u e).stay (fun c v hc q=>k c v ?_ q) (fun c q=>q) (fun c xs q=>q) fun c o u q=>q
  rcases hc with z | z
  ·rw [z];exact nfp b u e
  ·exact nfp c _ z
end
section
variable {prog:Program}{w:World}{A:Around}{E:Value→Shared→Prop}{s:Shared}
theorem tup_nextOf {it t:Addr}{i:Nat}{items:Array Value}{x:Value}{Q:Value→Shared→Prop}(q1:s.heap.IsTupleIter it t i) (q2:s.heap.IsTuple t items) (q3:items[i]? = some x)
  (k:∀ h',h'.IsTupleIter it t (i + 1)→Heap.SameBut it s.heap h' → Q x { s with heap:=h' }):wpAny (model prog w) A (Builtin.SmallTypes.nextOf (.ref it)) Q E s:=by
 obtain ⟨oi,e1,e2,e3⟩:=id q1
 obtain ⟨ot,e4,_,nt,e5⟩:=q2
 unfold Builtin.SmallTypes.nextOf
 refine wpAny_bind (wpAny_callSpecial?_slot (name:=Str.ofString "__next__") q1.typeIs F.slot_tuple_iterator_next (wpAny_call_entry F.slot_tuple_iterator_next q1.typeIs F.entry_tuple_iterator_next ?_ (F.args_tuple_iterator_next_1 _)))
 show wpAny (model prog w) _ (field (.ref it) 0 >>= _) _ _ s
 refine wpAny_bind (wpAny_field e1 e3 (x:=.ref t) rfl ?_)
 rw [if_neg (show ¬ ((Value.ref t == Value.none) = true) from Bool.false_ne_true)]
 refine wpAny_bind (wpAny_field e1 e3 (x:=.int i 0) rfl ?_)
 refine wpAny_bind (wpAny_seqItems e4 e5 ?_)
 simp only [Int.toNat_natCast,q3]
 refine wpAny_bind (wpAny_setField e1 e3 (by simp) (wpAny_pure ⟨x,rfl,wpAny_pure (k _ ⟨_,Heap.get?_update_self _ e1 (Obj.isFreed_of_fields (Obj.data_mapFields e3 _)),(Obj.cls_mapFields ..).trans e2,by rw [Obj.data_mapFields e3];simp [rawInt]⟩ (Heap.SameBut.update ..))⟩))
theorem tup_nextOf_end {it t:Addr}{i:Nat}{items:Array Value}{Q:Value→Shared→Prop}(q0:A.handled = none) (q1:s.heap.IsTupleIter it t i) (q2:s.heap.IsTuple t items) (q3:items[i]? = none)
  (k:∀ h' e,Heap.ExtBut it s.heap h' → (∃ o,h'.get? e = some o∧o.cls = .type "StopIteration")→E (.ref e) { s with heap:=h' }):wpAny (model prog w) A (Builtin.SmallTypes.nextOf (.ref it)) Q E s:=by
 obtain ⟨oi,e1,e2,e3⟩:=id q1
 obtain ⟨ot,e4,_,nt,e5⟩:=q2
 unfold Builtin.SmallTypes.nextOf
 refine wpAny_bind (wpAny_callSpecial?_slot (name:=Str.ofString "__next__") q1.typeIs F.slot_tuple_iterator_next (wpAny_call_entry F.slot_tuple_iterator_next q1.typeIs F.entry_tuple_iterator_next ?_ (F.args_tuple_iterator_next_1 _)))
 show wpAny (model prog w) _ (field (.ref it) 0 >>= _) _ _ s
 refine wpAny_bind (wpAny_field e1 e3 (x:=.ref t) rfl ?_)
 rw [if_neg (show ¬ ((Value.ref t == Value.none) = true) from Bool.false_ne_true)]
 refine wpAny_bind (wpAny_field e1 e3 (x:=.int i 0) rfl ?_)
 refine wpAny_bind (wpAny_seqItems e4 e5 ?_)
 simp only [Int.toNat_natCast,q3]
 refine wpAny_bind (wpAny_rule (wpAny_bind (wpAny_setField e1 e3 (by simp) (wpAny_bind ?_))))
 simp only [newExc,newTuple]
 refine wpAny_bind (wpAny_newObj_type (wpAny_bind (m:=firstArgMember _ _) (wpAny_of_eq (a:=Value.none) (by first | rfl | (simp only [firstArgMember];rfl)) (wpAny_newObj_type ?_ (by size_fits)))) (by size_fits))
 simp only [raiseNew]
 refine wpAny_bind (wpAny_handled (?_:wpAny _ _ _ _ _ _))
 first | rw [show A.in1.handled = none from q0] | rw [q0]
 exact wpAny_bind (wpAny_pure (wpAny_throw (k _ _ (((Heap.SameBut.update ..).extBut.push _).push _) ⟨_,Heap.get?_push_size _ rfl,rfl⟩)))
theorem draws_tup (hh:A.handled = none) (it l:Addr) (hne:l≠it) (items:Array Value):
  Draws prog w A it [it,l] items.size (fun i v=>items[i]? = some v) (fun i h=>h.IsTupleIter it l i∧h.IsTuple l items) where
 live:=fun _ _ st=>let ⟨o,ho,_⟩:=st.1;⟨o,ho⟩
 frame:=fun _ _ _ st hk=>⟨let ⟨o,ho,r⟩:=st.1;⟨o,hk it (by simp) o ho,r⟩,let ⟨o,ho,r⟩:=st.2;⟨o,hk l (by simp) o ho,r⟩⟩
 item:=fun i s Q E hi st hQ=>tup_nextOf st.1 st.2 (x:=items[i]) (by simp [hi]) fun h' hit' hs' => hQ _ h' s.toks (by simp [hi]) ⟨hit',let ⟨o,ho,r⟩:=st.2;⟨o,(hs'.2 l hne).trans ho,r⟩⟩ hs'
 done:=fun s Q E st hE=>tup_nextOf_end hh st.1 st.2 (by simp) hE
end
def IteT (K:PySem.W.Frag) (a:Addr):It:=
 ⟨fun i H=>∃ xs x,SqT K H a xs∧xs[i]? = some x,fun i H v H' => ∃ p x,H p = none∧v = .ref p∧H' = upd H p (.tup [.int i,x])∧∀ xs,SqT K H a xs→xs[i]? = some x,fun i H=>∃ xs,SqT K H a xs∧xs.length≤i⟩
def IteL (K:PySem.W.Frag) (a:Addr):It:=
 ⟨fun i H=>∃ xs x,SqL K H a xs∧xs[i]? = some x,fun i H v H' => ∃ p x,H p = none∧v = .ref p∧H' = upd H p (.tup [.int i,x])∧∀ xs,SqL K H a xs→xs[i]? = some x,fun i H=>∃ xs,SqL K H a xs∧xs.length≤i⟩
theorem cls_ne {h:Heap}{a b:Addr}{o u:Obj}(e:h.get? a = some o) (e' : h.get? b = some u) (n:o.cls≠u.cls):a≠b:=by
 rintro rfl;rw [e] at e';cases e';exact n rfl
theorem turn_enumT {P:Program}{w:World}{K:PySem.W.Frag}{elts:List Expr}{tk:Nat}{tpos:Pos}(a e it:Addr):Turn P w K (.Tuple elts tk tpos) (IteT K a) [e,it] e (fun i h=>(∃ old,IsEnum h e it i old)∧h.IsTupleIter it a i) where
 mem:=by simp
 obj:=fun i h st b hb=>by
  obtain ⟨⟨old,he⟩,o,ho,hc,hd⟩:=st
  rcases List.mem_cons.mp hb with rfl | hb
  ·exact ⟨_,he,fun v z=>by cases z⟩
  ·have eb:b = it:=by simpa using hb
   subst eb
   exact ⟨o,ho,fun v z=>by rw [hd] at z;cases z⟩
 keep:=fun i h h' st k=>by
  obtain ⟨⟨old,he⟩,o,ho,r⟩:=st
  exact ⟨⟨old,k e (by simp) _ he⟩,o,k it (by simp) o ho,r⟩
 item:=by
  intro X hP hw hK hc i pins s σ H E I hf st hg
  subst hP hw hK
  obtain ⟨xs,x,hq,hx⟩:=hg
  obtain ⟨its,rv,p,hz⟩:=I.tuple hq
  obtain ⟨u,hu,ru⟩:=rv.get hx
  obtain ⟨⟨old,he⟩,hit⟩:=st
  obtain ⟨oi,hoi,hci,hdi⟩:=id hit
  obtain ⟨ot,hot,hct,nt,hdt⟩:=id p
  have hei:e≠it:=cls_ne he hoi (by rw [hci];show Value.type "enumerate" ≠ Value.type "tuple_iterator";decide)
  have hea:e≠a:=cls_ne he hot (by rw [hct];show Value.type "enumerate" ≠ Value.type "tuple";decide)
  have hai:a≠it:=cls_ne hot hoi (by rw [hci,hct];decide)
  have hlt:i < its.toArray.size:=by
   have:=(List.getElem?_eq_some_iff.mp hu).1
   simpa using this
  refine wpAny_pyNext_enum_itemD (draws_tup (show X.A.in1.handled = none from I.ok.hd hc) it a hai its.toArray) he ⟨hit,p⟩ hlt hei (by simp [hei,hea]) fun x' h' tk' hP ho hs' hT hsz hk=>?_
  have ex:x' = u:=by
   have hP' : its.toArray[i]? = some x' := hP
   have:its[i]? = some x' := by simpa using hP'
   rw [hu] at this;exact (Option.some.inj this).symm
  subst ex
  refine ⟨_,rfl,wpAny_letOwnedTupleGo_enum ho fun h2 he2 hs2=>?_⟩
  have het:e≠s.heap.objs.size:=Nat.ne_of_lt (Heap.lt_size he)
  have new:ObjOk X.prog X.w (upd H s.heap.objs.size (.tup [.int i,x])) h2 s.heap.objs.size (.tup [.int i,x]):=
   ⟨by show 2≤sizeLine;decide,[.int i tk',x'],.cons ⟨tk',rfl⟩ (.cons ru .nil),⟨_,(hs2.2 _ (Ne.symm het)).trans hT,rfl,_,rfl⟩,_,(hs2.2 _ (Ne.symm het)).trans hT,rfl⟩
  have kk:∀ b o,b ∉ [e,it]→s.heap.get? b = some o→h2.get? b = some o:=fun b o hb q=>by
   have h1:b≠e:=fun z=>hb (by simp [z])
   have h2' : b≠it:=fun z=>hb (by simp [z])
   exact (hs2.2 b h1).trans (hk b o h1 h2' q)
  have fresh:=I.hok.fresh (Nat.le_refl s.heap.objs.size)
  refine ⟨.ref s.heap.objs.size,_,I.turnsNew (t' := tk' + 1) kk hf (Nat.le_refl _) new,rfl,⟨_,x,fresh,rfl,rfl,fun ys hy=>by rw [I.tuple_inj hy hq];exact hx⟩,⟨⟨_,he2⟩,?_⟩,fun b hb=>?_⟩
  ·obtain ⟨o3,g1,g2,g3⟩:=hs'.1
   exact ⟨o3,(hs2.2 it (Ne.symm hei)).trans g1,g2,g3⟩
  ·have hb' : b≠s.heap.objs.size:=by
    rcases List.mem_cons.mp hb with rfl | hb
    ·exact het
    ·rw [List.mem_singleton.mp hb];exact Nat.ne_of_lt (Heap.lt_size hoi)
   rw [upd_ne hb'];exact (hf b hb).1
 done:=by
  intro X hP hw hK hc i pins s σ H E I hf st hg
  subst hP hw hK
  obtain ⟨xs,hq,hx⟩:=hg
  obtain ⟨its,rv,p,hz⟩:=I.tuple hq
  obtain ⟨⟨old,he⟩,hit⟩:=st
  obtain ⟨oi,hoi,hci,hdi⟩:=id hit
  obtain ⟨ot,hot,hct,nt,hdt⟩:=id p
  have hai:a≠it:=cls_ne hot hoi (by rw [hci,hct];decide)
  have hl:=rv.length
  unfold pyNext
  have hTy:s.TypeIs (.ref e) "enumerate" := ⟨_,he,rfl⟩
  refine wpAny_bind (wpAny_attempt (wpAny_callSpecial?_slot (name:=Str.ofString "__next__") hTy F.slot_enumerate_next (wpAny_call_entry F.slot_enumerate_next hTy F.entry_enumerate_next ?_ (F.args_enumerate_next_1 _))))
  show wpAny (model X.prog X.w) X.A.in1 (field (.ref e) 2 >>= _) _ _ s
  refine wpAny_bind (wpAny_field he rfl (x:=.ref it) rfl (wpAny_bind (tup_nextOf_end (I.ok.hd hc) hit p (by simp;omega) fun h' y g1 g2=>?_)))
  obtain ⟨o,ho,hcl⟩:=g2
  refine wpAny_bind (wpAny_isInstance (T:= "StopIteration") (b:=true) ⟨o,ho,hcl⟩ isSubtype_stop (wpAny_pure ?_))
  exact ⟨rfl,I.turns (t' := s.toks) (fun b u hb q=>g1 b u (fun z=>hb (by simp [z])) q) hf⟩
 self:=fun _ _ _ _ _ st h=>by
  obtain ⟨⟨old,he⟩,_⟩:=st
  exact wpAny_pyIter_enum he h
theorem turn_enumL {P:Program}{w:World}{K:PySem.W.Frag}{elts:List Expr}{tk:Nat}{tpos:Pos}(a e it:Addr):Turn P w K (.Tuple elts tk tpos) (IteL K a) [e,it] e (fun i h=>(∃ old,IsEnum h e it i old)∧h.IsListIter it a i) where
 mem:=by simp
 obj:=fun i h st b hb=>by
  obtain ⟨⟨old,he⟩,o,ho,hc,hd⟩:=st
  rcases List.mem_cons.mp hb with rfl | hb
  ·exact ⟨_,he,fun v z=>by cases z⟩
  ·have eb:b = it:=by simpa using hb
   subst eb
   exact ⟨o,ho,fun v z=>by rw [hd] at z;cases z⟩
 keep:=fun i h h' st k=>by
  obtain ⟨⟨old,he⟩,o,ho,r⟩:=st
  exact ⟨⟨old,k e (by simp) _ he⟩,o,k it (by simp) o ho,r⟩
 item:=by
  intro X hP hw hK hc i pins s σ H E I hf st hg
  subst hP hw hK
  obtain ⟨xs,x,hq,hx⟩:=hg
  obtain ⟨its,rv,pl,hz⟩:=I.list hq
  obtain ⟨u,hu,ru⟩:=rv.get hx
  obtain ⟨⟨old,he⟩,hit⟩:=st
  obtain ⟨oi,hoi,hci,hdi⟩:=id hit
  have p:s.heap.IsList a its.toArray:=pl.isList
  obtain ⟨ot,hot,hct,nt,hdt⟩:=id p
  have hei:e≠it:=cls_ne he hoi (by rw [hci];show Value.type "enumerate" ≠ Value.type "list_iterator";decide)
  have hea:e≠a:=cls_ne he hot (by rw [hct];show Value.type "enumerate" ≠ Value.type "list";decide)
  have hai:a≠it:=cls_ne hot hoi (by rw [hci,hct];decide)
  have hlt:i < its.toArray.size:=by
   have:=(List.getElem?_eq_some_iff.mp hu).1
   simpa using this
  refine wpAny_pyNext_enum_itemD (Draws.list (show X.A.in1.handled = none from I.ok.hd hc) it a hai its.toArray) he ⟨hit,p⟩ hlt hei (by simp [hei,hea]) fun x' h' tk' hP ho hs' hT hsz hk=>?_
  have ex:x' = u:=by
   have hP' : its.toArray[i]? = some x' := hP
   have:its[i]? = some x' := by simpa using hP'
   rw [hu] at this;exact (Option.some.inj this).symm
  subst ex
  refine ⟨_,rfl,wpAny_letOwnedTupleGo_enum ho fun h2 he2 hs2=>?_⟩
  have het:e≠s.heap.objs.size:=Nat.ne_of_lt (Heap.lt_size he)
  have new:ObjOk X.prog X.w (upd H s.heap.objs.size (.tup [.int i,x])) h2 s.heap.objs.size (.tup [.int i,x]):=
   ⟨by show 2≤sizeLine;decide,[.int i tk',x'],.cons ⟨tk',rfl⟩ (.cons ru .nil),⟨_,(hs2.2 _ (Ne.symm het)).trans hT,rfl,_,rfl⟩,_,(hs2.2 _ (Ne.symm het)).trans hT,rfl⟩
  have kk:∀ b o,b ∉ [e,it]→s.heap.get? b = some o→h2.get? b = some o:=fun b o hb q=>by
   have h1:b≠e:=fun z=>hb (by simp [z])
   have h2' : b≠it:=fun z=>hb (by simp [z])
   exact (hs2.2 b h1).trans (hk b o h1 h2' q)
  have fresh:=I.hok.fresh (Nat.le_refl s.heap.objs.size)
  refine ⟨.ref s.heap.objs.size,_,I.turnsNew (t' := tk' + 1) kk hf (Nat.le_refl _) new,rfl,⟨_,x,fresh,rfl,rfl,fun ys hy=>by rw [I.list_inj hy hq];exact hx⟩,⟨⟨_,he2⟩,?_⟩,fun b hb=>?_⟩
  ·obtain ⟨o3,g1,g2,g3⟩:=hs'.1
   exact ⟨o3,(hs2.2 it (Ne.symm hei)).trans g1,g2,g3⟩
  ·have hb' : b≠s.heap.objs.size:=by
    rcases List.mem_cons.mp hb with rfl | hb
    ·exact het
    ·rw [List.mem_singleton.mp hb];exact Nat.ne_of_lt (Heap.lt_size hoi)
   rw [upd_ne hb'];exact (hf b hb).1
 done:=by
  intro X hP hw hK hc i pins s σ H E I hf st hg
  subst hP hw hK
  obtain ⟨xs,hq,hx⟩:=hg
  obtain ⟨its,rv,pl,hz⟩:=I.list hq
  obtain ⟨⟨old,he⟩,hit⟩:=st
  have p:s.heap.IsList a its.toArray:=pl.isList
  have hl:=rv.length
  unfold pyNext
  have hTy:s.TypeIs (.ref e) "enumerate" := ⟨_,he,rfl⟩
  refine wpAny_bind (wpAny_attempt (wpAny_callSpecial?_slot (name:=Str.ofString "__next__") hTy F.slot_enumerate_next (wpAny_call_entry F.slot_enumerate_next hTy F.entry_enumerate_next ?_ (F.args_enumerate_next_1 _))))
  show wpAny (model X.prog X.w) X.A.in1 (field (.ref e) 2 >>= _) _ _ s
  refine wpAny_bind (wpAny_field he rfl (x:=.ref it) rfl (wpAny_bind (wpAny_nextOf_list_end (I.ok.hd hc) hit p (by simp;omega) fun h' y g1 g2=>?_)))
  obtain ⟨o,ho,hcl⟩:=g2
  refine wpAny_bind (wpAny_isInstance (T:= "StopIteration") (b:=true) ⟨o,ho,hcl⟩ isSubtype_stop (wpAny_pure ?_))
  exact ⟨rfl,I.turns (t' := s.toks) (fun b u hb q=>g1 b u (fun z=>hb (by simp [z])) q) hf⟩
 self:=fun _ _ _ _ _ st h=>by
  obtain ⟨⟨old,he⟩,_⟩:=st
  exact wpAny_pyIter_enum he h
theorem enum_newT (l:Addr) (items:Array Value) (n:Nat) (dct:Option Addr) (sl:Array (Option Value)):
  Meets (Builtin.«enumerate.__new__» ⟨[.type "enumerate",.ref l],[]⟩) (fun _ R s=>s.heap.get? l = some { cls:=.type "tuple",dict:=dct,data:=.seq items n,slots:=sl }∧
   R (.ok (.ret (.ref (s.heap.push { cls:=.type "tuple_iterator",data:=.fields #[.ref l,.int 0 0] }).objs.size)))
    { s with heap:=(s.heap.push { cls:=.type "tuple_iterator",data:=.fields #[.ref l,.int 0 0] }).push { cls:=.type "enumerate",data:=.fields #[.none,.bool false,.ref s.heap.objs.size,rawInt 0,.none,.none] } }):=
 .of_wp fun prog w A R s h=>by
  obtain ⟨hp,g,d,tk,os⟩:=s;obtain ⟨q1,h⟩:=h
  have q0:=sub_enumerate
  have q2:Heap.IsTuple (Shared.heap ⟨hp,g,d,tk,os⟩) l items:=⟨_,q1,rfl,n,rfl⟩
  wp_walk using AutoSeq1.wpAny_loadPart' q1
  refine wpAny_stack_any fun st0=>wpAny_pure ?_
  split
  ·rename_i c0 _ _ _ _ _
   cases (c0 == Value.type "enumerate") <;> (wp_walk using AutoSeq1.wpAny_loadPart' q1,wpAny_pyIter_tuple q2;exact ⟨_,rfl,h⟩)
  ·wp_walk using AutoSeq1.wpAny_loadPart' q1,wpAny_pyIter_tuple q2
   exact ⟨_,rfl,h⟩
section
variable {prog:Program}{w:World}{A:Around}{E:Value→Shared→Prop}{s:Shared}
theorem call_enumT {l:Addr}{items:Array Value}{Q:Value→Shared→Prop}(q2:s.heap.IsTuple l items)
  (h:∀ h',IsEnum h' (s.heap.objs.size + 1) s.heap.objs.size 0 .none→h'.IsTupleIter s.heap.objs.size l 0→(∀ b o,s.heap.get? b = some o→h'.get? b = some o)→Q (.ref (s.heap.objs.size + 1)) { s with heap:=h' }):
  wpAny (model prog w) A (call (.type "enumerate") [.ref l]) Q E s:=by
 obtain ⟨⟨c,dct,dt,sl⟩,q1,e1,n,e2⟩:=q2
 replace e1:c = .type "tuple" := e1
 replace e2:dt = .seq items n:=e2
 subst e1 e2
 refine callType_new F.called_enumerate (by decide) (F.typeCall_enumerate_1 _) (F.newCall_enumerate_1 _) (fun obj=>F.args_object_init_2 obj _) F.entry_enumerate_new (enum_newT l items n dct sl) ⟨q1,?_⟩
 have z1:(s.heap.push { cls:=.type "tuple_iterator",data:=.fields #[.ref l,.int 0 0] }).objs.size = s.heap.objs.size + 1:=Heap.size_push ..
 show _∧_
 rw [z1]
 have q3:IsEnum ((s.heap.push { cls:=.type "tuple_iterator",data:=.fields #[.ref l,.int 0 0] }).push { cls:=.type "enumerate",data:=.fields #[.none,.bool false,.ref s.heap.objs.size,rawInt 0,.none,.none] }) (s.heap.objs.size + 1) s.heap.objs.size 0 .none:=by
  have:=Heap.get?_push_size (s.heap.push { cls:=.type "tuple_iterator",data:=.fields #[.ref l,.int 0 0] }) (o:={ cls:=.type "enumerate",data:=.fields #[.none,.bool false,.ref s.heap.objs.size,rawInt 0,.none,.none] }) rfl
  rw [z1] at this;exact this
 exact ⟨⟨_,q3,rfl⟩,h _ q3 ⟨_,Heap.get?_push_of_some _ (Heap.get?_push_size _ rfl),rfl,rfl⟩ fun b o x=>Heap.get?_push_of_some _ (Heap.get?_push_of_some _ x)⟩
end
section
variable {X:Cx}
def iEnT (K:PySem.W.Frag) (ta:TA):TI:=fun σ H R=>ta σ H fun vs H1=>∃ a,vs = [.ref a]∧(∃ xs,SqT K H1 a xs)∧R (IteT K a) H1
def iEnL (K:PySem.W.Frag) (ta:TA):TI:=fun σ H R=>ta σ H fun vs H1=>∃ a,vs = [.ref a]∧(∃ xs,SqL K H1 a xs)∧R (IteL K a) H1
theorem boot_enum:bootBuiltins "enumerate" = some (.type "enumerate"):=by decide +kernel
theorem pi_enumT {a:Expr}{ta:TA}{p pos:Pos}{elts:List Expr}{tk:Nat}{tpos:Pos}(hg:Gl X "enumerate") (hm:X.mg "enumerate" = none) (ha:PA X [a] ta) (hs:starEach [a] X.env = [(false,eval a X.env)]:=by rfl):PI X (.Tuple elts tk tpos) (.Call (.Name "enumerate" p) [a] [] pos) (iEnT X.K ta):=by
 intro pins s σ H R I h
 refine Call_ (ld_blt I hg hm boot_enum (PyProof.Rows.callWith_type1 (thn (ha pos pins s σ H _ I h) fun us s1 ⟨vs,H1,I1,r1,q1⟩=>?_) hs rfl))
 obtain ⟨l,e,⟨xs,hq⟩,q⟩:=q1
 subst e
 obtain ⟨u,rfl,r⟩:=Vals.one r1
 cases (show u = Value.ref l from r)
 obtain ⟨its,rv,pt,hz⟩:=I1.tuple hq
 refine call_enumT (show s1.heap.IsTuple l its.toArray from pt) fun h' he hi hk=>?_
 refine wpAny_pyIter_enum he ⟨s1.heap.objs.size + 1,[s1.heap.objs.size + 1,s1.heap.objs.size],_,_,H1,rfl,I1.kept (t' := s1.toks) hk,turn_enumT l _ _,⟨⟨_,he⟩,hi⟩,fun b hb=>?_,q⟩
 have hb' : s1.heap.objs.size≤b:=by
  rcases List.mem_cons.mp hb with rfl | hb
  ·exact Nat.le_succ _
  ·rw [List.mem_singleton.mp hb];exact Nat.le_refl _
 exact I1.fpOk hb' (I1.hok.fresh hb')
theorem pi_enumL {a:Expr}{ta:TA}{p pos:Pos}{elts:List Expr}{tk:Nat}{tpos:Pos}(hg:Gl X "enumerate") (hm:X.mg "enumerate" = none) (ha:PA X [a] ta) (hs:starEach [a] X.env = [(false,eval a X.env)]:=by rfl):PI X (.Tuple elts tk tpos) (.Call (.Name "enumerate" p) [a] [] pos) (iEnL X.K ta):=by
 intro pins s σ H R I h
 refine Call_ (ld_blt I hg hm boot_enum (PyProof.Rows.callWith_type1 (thn (ha pos pins s σ H _ I h) fun us s1 ⟨vs,H1,I1,r1,q1⟩=>?_) hs rfl))
 obtain ⟨l,e,⟨xs,hq⟩,q⟩:=q1
 subst e
 obtain ⟨u,rfl,r⟩:=Vals.one r1
 cases (show u = Value.ref l from r)
 obtain ⟨its,rv,pt,hz⟩:=I1.list hq
 refine call_enumerate_list pt.isList fun h' he hi _ hk=>?_
 refine wpAny_pyIter_enum he ⟨s1.heap.objs.size + 1,[s1.heap.objs.size + 1,s1.heap.objs.size],_,_,H1,rfl,I1.kept (t' := s1.toks) hk,turn_enumL l _ _,⟨⟨_,he⟩,hi⟩,fun b hb=>?_,q⟩
 have hb' : s1.heap.objs.size≤b:=by
  rcases List.mem_cons.mp hb with rfl | hb
  ·exact Nat.le_succ _
  ·rw [List.mem_singleton.mp hb];exact Nat.le_refl _
 exact I1.fpOk hb' (I1.hok.fresh hb')
end
end L2
namespace L2
open PySem PySem.Spec PyProof.Rows
section
variable {X:Cx}
theorem strsAre_of {ys:List Str}:∀ {us:List Value},Vals (ys.map V.str) us→StrsAre us ys:=by
 induction ys with
 | nil=>intro us r;rw [List.map_nil] at r;cases r;exact .nil
 | cons n ns ih=>
  intro us r
  rw [List.map_cons] at r
  cases r with
  | cons r1 r2=>
   obtain ⟨t,e⟩:=r1
   subst e
   exact .cons n t (ih r2)
end
end L2
namespace L2
open PySem PySem.Spec PyProof.Rows
section
variable {X:Cx}{tg:Expr}
end
section
variable {X:Cx}{tg:Expr}
end
section
variable {prog:Program}{w:World}{A:Around}{E:Value→Shared→Prop}{s:Shared}
variable {I:Addr}{fp wr:List Addr}{G:Array GenState→Array GenState→Prop}{n:Nat}{P:Nat→Value→Prop}{St:Nat→Shared→Prop}
end
section
variable {X:Cx}
theorem boot_rev:bootBuiltins "reversed" = some (.type "reversed"):=by decide +kernel
theorem boot_lst:bootBuiltins "list" = some (.type "list"):=by decide +kernel
end
end L2
namespace L2
open PySem PySem.Spec PyProof.Rows
section
variable {X:Cx}{K:PySem.W.Frag}
theorem ix_tupK (e:X.K = K):IxR X (rIxT K):=by subst e;exact ix_tup
theorem ix_listK (e:X.K = K):IxR X (rIxL K):=by subst e;exact ix_list
theorem sl_listK (e:X.K = K):SlR X (rSlL K):=by subst e;exact sl_list
theorem op_eqDK (e:X.K = K) (hu:X.A.units + 64 < cLine):OpR X (compareOp .Eq) (rEqD K fun b=>b):=by subst e;exact op_eqD hu
theorem op_neDK (e:X.K = K) (hu:X.A.units + 64 < cLine):OpR X (compareOp .NotEq) (rEqD K fun b=>!b):=by subst e;exact op_neD hu
theorem call_lenK (e:X.K = K):CallR X (.builtin "len") (fun xs H Q=>∃ p ys,xs = [.ref p]∧(SqL K H p ys∨SqT K H p ys)∧Q (.int ys.length) H):=by subst e;exact call_len_seq
theorem op_catTK (e:X.K = K):OpR X (binaryOp .Add) (rCatT K):=by subst e;exact op_catT
theorem call_tupleK (e:X.K = K):CallR X (.type "tuple") (fun xs H Q=>∃ p ys,xs = [.ref p]∧((SqL K H p ys∧∀ l,H l = none→Q (.ref l) (upd H l (.tup ys)))∨(SqT K H p ys∧Q (.ref p) H))):=by subst e;exact call_tuple_of
end
theorem st_BoolOp {op:BoolOp}{vs:List Expr}{p:Pos}{es:List Expr}{env:Env}:starEach (.BoolOp op vs p :: es) env = (false,eval (.BoolOp op vs p) env) :: starEach es env:=rfl
theorem st_BinOp {a:Expr}{op:Operator}{b:Expr}{p:Pos}{es:List Expr}{env:Env}:starEach (.BinOp a op b p :: es) env = (false,eval (.BinOp a op b p) env) :: starEach es env:=rfl
theorem st_ListComp {a:Expr}{g:List Comprehension}{sc:Scope}{p:Pos}{es:List Expr}{env:Env}:starEach (.ListComp a g sc p :: es) env = (false,eval (.ListComp a g sc p) env) :: starEach es env:=rfl
theorem st_Compare {a:Expr}{ops:List CmpOp}{cs:List Expr}{p:Pos}{es:List Expr}{env:Env}:starEach (.Compare a ops cs p :: es) env = (false,eval (.Compare a ops cs p) env) :: starEach es env:=rfl
theorem st_Call {f:Expr}{as:List Expr}{kw:List Keyword}{p:Pos}{es:List Expr}{env:Env}:starEach (.Call f as kw p :: es) env = (false,eval (.Call f as kw p) env) :: starEach es env:=rfl
theorem st_Constant {c:Const}{k:Nat}{p:Pos}{es:List Expr}{env:Env}:starEach (.Constant c k p :: es) env = (false,eval (.Constant c k p) env) :: starEach es env:=rfl
theorem st_Subscript {a b:Expr}{p:Pos}{es:List Expr}{env:Env}:starEach (.Subscript a b p :: es) env = (false,eval (.Subscript a b p) env) :: starEach es env:=rfl
theorem st_Name {n:Str}{p:Pos}{es:List Expr}{env:Env}:starEach (.Name n p :: es) env = (false,eval (.Name n p) env) :: starEach es env:=rfl
theorem st_List {as:List Expr}{p:Pos}{es:List Expr}{env:Env}:starEach (.List as p :: es) env = (false,eval (.List as p) env) :: starEach es env:=rfl
theorem st_Tuple {as:List Expr}{k:Nat}{p:Pos}{es:List Expr}{env:Env}:starEach (.Tuple as k p :: es) env = (false,eval (.Tuple as k p) env) :: starEach es env:=rfl
section
variable {X:Cx}
end
def tyN:PyData→String
 | .none=> "NoneType"
 | .bool _=> "bool"
 | .int _=> "int"
 | .str _=> "str"
 | .list _=> "list"
 | .tuple _=> "tuple"
 | .dict _=> "dict"
def rIsD (K:PySem.W.Frag):List V→Hp→VK→Prop:=fun xs H Q=>∃ G x d n b,xs = [x,.ty n]∧Same G H∧Dat K G x d∧PySem.W.kitOne K (.type (tyN d)) (.type n) = some b∧Q (.bl b) H
theorem call_isD {X:Cx}{K:PySem.W.Frag}(eK:X.K = K):CallR X (.builtin "isinstance") (rIsD K):=by
 subst eK
 intro pins s σ H xs us Q I r h
 obtain ⟨G,x,d,n,b,rfl,sg,hd,e,q⟩:=h
 obtain ⟨u,w',rfl,rx,ry⟩:=vals2 r
 cases (show w' = Value.type n from ry)
 have fin:∀ tk,EP X pins σ Q (.bool b) { s with toks:=tk }:=fun tk=>⟨.bl b,H,I.tok _,rfl,q⟩
 cases d with
 | none=>rw [hd.non] at rx;exact isinst_ok I rx .non e fin
 | bool y=>rw [hd.bl] at rx;exact isinst_ok I rx (.bl y) e fin
 | int i=>rw [hd.int] at rx;exact isinst_ok I rx (.int i) e fin
 | str y=>rw [hd.str] at rx;exact isinst_ok I rx (.str y) e fin
 | list ds=>
  obtain ⟨p,ys,rfl,hp,_⟩:=hd.lst
  cases (show u = Value.ref p from rx)
  obtain ⟨its,_,⟨o,n',e1,c,_⟩,_⟩:=I.list (SqL.of (sg _ _ hp))
  exact PySem.W.kia_one PySem.W.kitx_list I.kIn ⟨o,e1,c⟩ e (fun z=>nomatch z) fin
 | tuple ds=>
  obtain ⟨p,ys,rfl,hp,_⟩:=hd.tup
  cases (show u = Value.ref p from rx)
  obtain ⟨its,_,⟨o,e1,c,_⟩,_⟩:=I.tuple (sg.tup hp)
  exact PySem.W.kia_one PySem.W.kitx_tuple I.kIn ⟨o,e1,c⟩ e (fun z=>nomatch z) fin
 | dict _=>unfold Dat at hd;exact hd.elim
theorem ev_isD {K:PySem.W.Frag}{σ:St}{G:Hp}{ta:TE}{d:PyData}{n:String}{b:Bool}(ha:Ev K ta σ G d) (e:PySem.W.kitOne K (.type (tyN d)) (.type n) = some b):Ev K (tCB (rIsD K) (tCons ta (tCons (tC (.ty n)) tNil))) σ G (.bool b):=
 fun G1 H s1 s2 Q k=>ha G1 H s1 s2 _ fun x G2 H2 g2 hx=>⟨G2,x,d,n,b,rfl,g2.gh,hx,e,k _ G2 H2 g2 (dat_bl b)⟩
section
variable {X:Cx}
end
end L2
namespace L2
open PySem PySem.Spec PyProof.Rows
def litC:Const→Option PyData
 | .int i=>some (.int i)
 | .str x=>some (.str x)
 | .bool b=>some (.bool b)
 | .none=>some .none
 | _=>none
def lits (f:Expr→Option PyData):Nat→List Expr→Option (List PyData)
 | _,[]=>some []
 | 0,_ :: _=>none
 | k + 1,e :: es=>match f e with
  | some d=>match lits f k es with
   | some ds=>some (d :: ds)
   | none=>none
  | none=>none
def litD:Nat→Expr→Option PyData
 | 0,_=>none
 | n + 1,e=>match e with
  | .Constant c _ _=>litC c
  | .List es _=>match lits (litD n) 60 es with
   | some ds=>some (.list ds)
   | none=>none
  | .Tuple es _ _=>match lits (litD n) 60 es with
   | some ds=>some (.tuple ds)
   | none=>none
  | _=>none
theorem lits_len {f:Expr→Option PyData}:∀ {k:Nat}{es:List Expr}{ds:List PyData},lits f k es = some ds→ds.length≤k
 | _,[],_,h=>by unfold lits at h;cases h;exact Nat.zero_le _
 | 0,_ :: _,_,h=>by unfold lits at h;cases h
 | k + 1,e :: es,ds,h=>by
  unfold lits at h
  cases h1:f e with
  | none=>rw [h1] at h;cases h
  | some d=>
   rw [h1] at h
   cases h2:lits f k es with
   | none=>rw [h2] at h;cases h
   | some ds' =>
    rw [h2] at h;cases h
    have:=lits_len h2
    show ds'.length + 1≤k + 1
    omega
def tLit (K:PySem.W.Frag) (d:PyData):TE:=fun _ H Q=>∃ G,Same G H∧∀ v G' H',Grow G H G' H' → Dat K G' v d→Q v H'
def tLits (K:PySem.W.Frag) (ds:List PyData):TA:=fun _ H Q=>∃ G,Same G H∧∀ vs G' H',Grow G H G' H' → Dats K G' vs ds→Q vs H'
section
variable {X:Cx}
theorem PE.imp {e:Expr}{t t' : TE} (h:PE X e t) (i:∀ σ H Q,t' σ H Q→t σ H Q):PE X e t' := fun pins s σ H Q I q=>h pins s σ H Q I (i σ H Q q)
theorem PA.imp {es:List Expr}{t t' : TA} (h:PA X es t) (i:∀ σ H Q,t' σ H Q→t σ H Q):PA X es t' := fun pos pins s σ H Q I q=>h pos pins s σ H Q I (i σ H Q q)
theorem litD_star {n:Nat}{e:Expr}{d:PyData}(h:litD n e = some d) (es:List Expr) (env:Env):starEach (e :: es) env = (false,eval e env) :: starEach es env:=by
 cases n with
 | zero=>cases h
 | succ n=>
  cases e with
  | Constant c k p=>exact st_Constant
  | List as p=>exact st_List
  | Tuple as k p=>exact st_Tuple
  | _=>cases h
theorem pa_lits {n:Nat}(ih:∀ e d,litD n e = some d→PE X e (tLit X.K d)):∀ (k:Nat) (es:List Expr) (ds:List PyData),lits (litD n) k es = some ds→PA X es (tLits X.K ds)
 | _,[],ds,h=>by
  unfold lits at h;cases h
  exact PA.imp pa_nil fun σ H Q ⟨G,s,k⟩=>k [] G H (Grow.refl s) dats_nil
 | 0,_ :: _,_,h=>by unfold lits at h;cases h
 | k + 1,e :: es,ds,h=>by
  unfold lits at h
  cases h1:litD n e with
  | none=>rw [h1] at h;cases h
  | some d=>
   rw [h1] at h
   cases h2:lits (litD n) k es with
   | none=>rw [h2] at h;cases h
   | some ds' =>
    rw [h2] at h
    cases h
    refine PA.imp (pa_cons (ih e d h1) (pa_lits ih k es ds' h2) (litD_star h1 es X.env)) fun σ H Q ⟨G,s,k⟩=>?_
    exact ⟨G,s,fun v G1 H1 g1 hv=>⟨G1,g1.gh,fun vs G2 H2 g2 hvs=>k (v :: vs) G2 H2 (g1.trans g2) (dats_cons (hv.same g2.gg) hvs)⟩⟩
theorem pe_litn:∀ (n:Nat) (e:Expr) (d:PyData),litD n e = some d→PE X e (tLit X.K d)
 | 0,_,_,h=>by cases h
 | n + 1,e,d,h=>by
  have z:(60:Nat)≤sizeLine:=by decide
  cases e with
  | Constant c k p=>
   have h' : litC c = some d:=h
   cases c with
   | int i=>cases h';exact PE.imp pe_int fun σ H Q ⟨G,s,k⟩=>k _ G H (Grow.refl s) (dat_int i)
   | str x=>cases h';exact PE.imp pe_str fun σ H Q ⟨G,s,k⟩=>k _ G H (Grow.refl s) (dat_str x)
   | bool b=>cases h';exact PE.imp pe_bl fun σ H Q ⟨G,s,k⟩=>k _ G H (Grow.refl s) (dat_bl b)
   | none=>cases h';exact PE.imp pe_non fun σ H Q ⟨G,s,k⟩=>k _ G H (Grow.refl s) dat_non
   | _=>cases h'
  | List as p=>
   have h' : (match lits (litD n) 60 as with | some ds=>some (PyData.list ds) | none=>none) = some d:=h
   cases h1:lits (litD n) 60 as with
   | none=>rw [h1] at h';cases h'
   | some ds=>
    rw [h1] at h'
    cases h'
    have hl:=lits_len h1
    refine PE.imp (pe_lst (pa_lits (pe_litn n) 60 as ds h1)) fun σ H Q ⟨G,s,k⟩=>⟨G,s,fun vs G1 H1 g1 hv=>⟨by rw [hv.length];omega,fun p hp=>?_⟩⟩
    have g:=grow_new (o:=.lst vs) g1.gh hp
    exact k _ _ _ (g1.trans g) (dat_lst upd_same (hv.same g.gg))
  | Tuple as kk p=>
   have h' : (match lits (litD n) 60 as with | some ds=>some (PyData.tuple ds) | none=>none) = some d:=h
   cases h1:lits (litD n) 60 as with
   | none=>rw [h1] at h';cases h'
   | some ds=>
    rw [h1] at h'
    cases h'
    have hl:=lits_len h1
    refine PE.imp (pe_tup (pa_lits (pe_litn n) 60 as ds h1)) fun σ H Q ⟨G,s,k⟩=>⟨G,s,fun vs G1 H1 g1 hv=>⟨by rw [hv.length];omega,fun p hp=>?_⟩⟩
    have g:=grow_new (o:=.tup vs) g1.gh hp
    exact k _ _ _ (g1.trans g) (dat_tup (SqT.of upd_same) (hv.same g.gg))
  | _=>cases h
theorem pe_lit {e:Expr}{d:PyData}(h:litD 6 e = some d):PE X e (tLit X.K d):=pe_litn 6 e d h
theorem ev_lit {K:PySem.W.Frag}{σ:St}{G:Hp}{d:PyData}:Ev K (tLit K d) σ G d:=fun G1 H s1 s2 Q k=>⟨G1,s2,k⟩
end
end L2
namespace L2
open PySem PySem.Spec PyProof.Rows
section
variable {X:Cx}{e st:Expr}{lo hi:Option Expr}{te:TE}{tl th ts:TO}{p2 pos:Pos}
end
end L2
namespace Frac
end Frac
namespace Frac
def cmp (a b:Int × Int):Int:=if a.1 * b.2 < b.1 * a.2 then -1 else if a.1 * b.2 > b.1 * a.2 then 1 else 0
end Frac
namespace Dig
open PySem PySem.NumText
end Dig
namespace Dig
open PySem PySem.NumText PySem.Builtin.Str
theorem len_codes (x:Str):x.length = x.cps.toList.length:=by simp [Str.length]
end Dig
namespace Dig
open PySem PySem.NumText PySem.Builtin.Str
end Dig
namespace Frac
end Frac
namespace Lw
open PySem L2 Frac
theorem bIsi:bootBuiltins "isinstance" = some (.builtin "isinstance"):=by decide +kernel
theorem bTup:bootBuiltins "tuple" = some (.type "tuple"):=by decide +kernel
theorem bBool:bootBuiltins "bool" = some (.type "bool"):=by decide +kernel
theorem bInt:bootBuiltins "int" = some (.type "int"):=by decide +kernel
theorem w0 {i:Int}(h:i.natAbs < 10 ^ 100):i.natAbs < 2 ^ 4000:=Nat.lt_of_lt_of_le h (by decide +kernel)
theorem mw {i j:Int}(h:i.natAbs < 10 ^ 100) (h' : j.natAbs < 10 ^ 100):CMulW i j:=⟨w0 h,w0 h'⟩
theorem mulb {i j:Int}{a b:Nat}(h:i.natAbs≤a) (h' : j.natAbs≤b):(i * j).natAbs≤a * b:=by
 rw [Int.natAbs_mul];exact Nat.mul_le_mul h h'
def KeptBut (d c:Addr) (H H' : Hp):Prop:=∀ b o,H b = some o→b≠d→b≠c→H' b = some o
theorem KeptBut.trans {d c:Addr}{H H1 H2:Hp}(a:KeptBut d c H H1) (b:KeptBut d c H1 H2):KeptBut d c H H2:=fun x o e h1 h2=>b x o (a x o e h1 h2) h1 h2
theorem Same.but {d c:Addr}{H H' : Hp} (h:Same H H'):KeptBut d c H H' := fun b o e _ _=>h b o e
theorem same_new {H:Hp}{p:Addr}{o:HO}(hp:H p = none):Same H (upd H p o):=fun b u e=>by
 rw [upd_ne (ne_of_none e hp)];exact e
theorem atI_ints {ns:List Int}{i:Int}(h0:0≤i) (h1:i < ns.length):∃ z j,atI (ns.map V.int) i = some (V.int z)∧ixN (ns.map V.int).length i = some j∧j < ns.length:=by
 have hj:i.toNat < ns.length:=by omega
 have e:i = (i.toNat:Int):=by omega
 refine ⟨ns[i.toNat],i.toNat,?_,?_,hj⟩
 ·have q:=atI_nat (xs:=ns.map V.int) (j:=i.toNat) (v:=V.int ns[i.toNat]) (by rw [List.getElem?_map,List.getElem?_eq_getElem hj];rfl)
  rw [← e] at q
  exact q
 ·unfold ixN
  rw [if_pos h0,if_pos (by rw [List.length_map];exact h1)]
end Lw
namespace L2
open PySem PySem.Spec PyProof.Rows
section
variable {X:Cx}
end
end L2
namespace Nm
open PySem L2 Lw Dig
abbrev letters:Str:=Str.ofString "abcdefghijklmnopqrstuvwxyz"
theorem let_codes:letters.cps.toList = (List.range 26).map (97 + ·):=by decide +kernel
theorem let_len:letters.length = 26:=by decide +kernel
theorem let_at {i:Int}(h0:0≤i) (h1:i < 26):atI letters.cps.toList i = some (97 + i.toNat):=by
 have e:i = (i.toNat:Int):=by omega
 have q:=atI_nat (xs:=letters.cps.toList) (j:=i.toNat) (v:=97 + i.toNat) (by
  rw [let_codes,List.getElem?_map,List.getElem?_range (by omega)];rfl)
 rw [← e] at q
 exact q
theorem inV_strs (x:Str) (xs:List Str):inV (.str x) (xs.map V.str) = decide (x∈xs):=by
 unfold inV
 induction xs with
 | nil=>simp
 | cons y r ih=>
  rw [List.map_cons,List.any_cons,ih]
  by_cases h:y = x
  ·subst h
   simp [eqV]
  ·have h2:¬ x = y:=fun e=>h e.symm
   simp [eqV,h,h2]
end Nm
namespace Ord
open PySem
abbrev S (x:String):Str:=Str.ofString x
def optsOf (want:Str):List (List Str):=
 if want = S "order" then [[S "like"],[S "up",S "field"],[S "down",S "field"],[S "then",S "order",S "order"],[S "turn",S "order"],[S "pick",S "case",S "order",S "order"]]
 else if want = S "case" then [[S "same",S "field"],[S "both",S "mark"],[S "either",S "mark"],[S "not",S "case"],[S "and",S "case",S "case"],[S "or",S "case",S "case"]]
 else [[S "under",S "field",S "number"],[S "is",S "field",S "number"]]
inductive Wd where
 | t (x:Str)
 | n (a b:Int)
def Wd.d:Wd→PyData
 | .t x=>.str x
 | .n a b=>.tuple [.int a,.int b]
inductive Step (fld:Str→Prop) (num:Int→Int→Prop):List Str→Wd→List Str→Prop
 | field {x:Str}{st:List Str}:fld x→Step fld num (S "field" :: st) (.t x) st
 | number {a b:Int}{st:List Str}:num a b→Step fld num (S "number" :: st) (.n a b) st
 | word {want x:Str}{ps st:List Str}:want≠S "field" → want≠S "number" → (x :: ps)∈optsOf want→Step fld num (want :: st) (.t x) (ps ++ st)
inductive Run (fld:Str→Prop) (num:Int→Int→Prop):List Str→List Wd→List Str→Prop
 | nil {st:List Str}:Run fld num st [] st
 | cons {st st1 st2:List Str}{w:Wd}{ws:List Wd}:Step fld num st w st1→Run fld num st1 ws st2→Run fld num st (w :: ws) st2
def IsOrd (fld:Str→Prop) (num:Int→Int→Prop) (ws:List Wd):Prop:=Run fld num [S "order"] ws []
theorem opts_form (want:Str):∀ o∈optsOf want,∃ x ps,o = x :: ps∧ps.length≤3∧∀ p∈ps,p = S "order" ∨ p = S "case" ∨ p = S "mark" ∨ p = S "field" ∨ p = S "number" := by
 unfold optsOf
 intro o ho
 have:o.length≤4∧o≠[]∧∀ p∈o.drop 1,p = S "order" ∨ p = S "case" ∨ p = S "mark" ∨ p = S "field" ∨ p = S "number" := by
  split at ho
  ·revert o;decide +kernel
  ·split at ho
   ·revert o;decide +kernel
   ·revert o;decide +kernel
 cases o with
 | nil=>exact absurd rfl this.2.1
 | cons x ps=>exact ⟨x,ps,rfl,by have:=this.1;simp at this;omega,this.2.2⟩
end Ord
namespace L2
open PySem PySem.Spec PyProof.Rows
section
variable {X:Cx}{pins:List (Addr × Obj)}{σ:St}{H G:Hp}{s:Shared}
open Classical in
end
section
variable {prog:Program}{w:World}{A:Around}{E:Value→Shared→Prop}{s:Shared}
end
end L2
namespace L2
open PySem PySem.Spec PyProof.Rows
structure DictK (K:PySem.W.Frag) (P:Params) (a:Addr) (g:Str→Option (V × Value)):Prop where
 ex:∃ (es:Array DictEntry) (n:Nat),K.lookup a = some ⟨.type "dict",none,.dict es n,#[]⟩∧PySem.W.KeysLit P es.toList
 lo:(a == sysModules) = false
 at_:∀ x,PySem.W.nsIn K a x = some ((g x).map (·.2))
 rel:∀ x v u,g x = some (v,u)→RelV v u
section
variable {X:Cx}
theorem op_inK:OpR X (compareOp .In) (fun x y H Q=>∃ z a g,x = .str z∧y = .ref a∧DictK X.K X.w.params a g∧Q (.bl (g z).isSome) H):=by
 intro pins s σ H x y v u Q I rx ry h
 obtain ⟨z,a,g,rfl,rfl,D,q⟩:=h
 obtain ⟨t,rfl⟩:=rx
 cases ry
 obtain ⟨es,n,hl,hk⟩:=D.ex
 obtain ⟨m,F⟩:=I.fr
 refine PySem.W.topIn_K F I.mod.kin hl hk (D.at_ z) D.lo ⟨.bl _,H,I.tok _,rfl,?_⟩
 rw [Option.isSome_map];exact q
theorem ix_dictK:IxR X (fun x y H Q=>∃ z a g v u,x = .ref a∧y = .str z∧DictK X.K X.w.params a g∧g z = some (v,u)∧Q v H):=by
 intro value slice pins s σ H x y v u Q I rx ry h hs
 obtain ⟨z,a,g,v',u',rfl,rfl,D,e,q⟩:=h
 cases rx
 obtain ⟨t,rfl⟩:=ry
 obtain ⟨es,n,hl,hk⟩:=D.ex
 obtain ⟨m,F⟩:=I.fr
 exact PySem.W.topItem_K F I.mod.kin hl hk (by rw [D.at_ z,e];rfl) ⟨v',H,I.tok _,D.rel z v' u' e,q⟩ hs
end
end L2
namespace L2
open PySem PySem.Spec PyProof.Rows
theorem norev_tup:typeLookup (.type "tuple") "__reversed__" = pure none:=by rw [typeLookup_type,builtinLookup_eq_fast];kernel_rfl
theorem get_tup:typeLookup (.type "tuple") "__getitem__" = pure (some (.builtin "tuple.__getitem__")):=by rw [typeLookup_type,builtinLookup_eq_fast];kernel_rfl
theorem nodict_tup:isSubtype (.type "tuple") (.type "dict") = pure false:=by rw [isSubtype_type];kernel_rfl
theorem rev_new_meets (t:Addr) (items:Array Value) (n:Nat) (dct:Option Addr) (sl:Array (Option Value)) (hsz:items.size≤sizeLine):
  Meets (Builtin.«reversed.__new__» ⟨[.type "reversed",.ref t],[]⟩) (fun _ R s=>s.heap.get? t = some { cls:=.type "tuple",dict:=dct,data:=.seq items n,slots:=sl }∧
   R (.ok (.ret (Value.ref s.heap.objs.size))) { s with heap:=s.heap.push { cls:=.type "reversed",data:=.fields #[.ref t,rawInt ((items.size:Int) - 1)] },toks:=s.toks + 1 + 1 }):=
 .of_wp fun prog w A R s h=>by
  obtain ⟨hp,g,d,tk,os⟩:=s;obtain ⟨q1,h⟩:=h
  have hT:Shared.TypeIs ⟨hp,g,d,tk,os⟩ (.ref t) "tuple" := ⟨_,q1,rfl⟩
  unfold Builtin.«reversed.__new__»
  refine wpAny_bind (wpAny_of_eq (newClass_reversed _) ?_)
  try dsimp only
  refine wpAny_bind (wpAny_of_eq (a:=()) (by first | rfl | kernel_rfl) ?_)
  refine wpAny_bind (wpAny_of_eq (a:=()) (by first | rfl | kernel_rfl) ?_)
  try dsimp only
  refine wpAny_bind (wpAny_specialOf hT norev_tup ?_)
  try dsimp only
  have hz:IsTup hp t items:=⟨_,q1,rfl,n,rfl⟩
  have z62:sizeLine < 2 ^ 62:=by decide
  have hf:(items.size:Int) < 2 ^ 63:=by omega
  wp_walk using wpAny_isInstance (b:=false) hT nodict_tup,wpAny_specialOf hT get_tup,len_tuple (s:=⟨hp,g,d,tk,os⟩) hz hf
  exact ⟨_,rfl,h⟩
theorem rev_init:Slot "reversed" "__init__" "object.__init__" :=
 .of (owner:= "object") (n:= "__init__") (by rw [typeLookup_type,builtinLookup_eq_fast];kernel_rfl) (by decide +kernel) (by decide +kernel) (by decide +kernel)
  (by first | exact .inl (by decide +kernel) | exact .inr (by decide +kernel)) (by rw [isSubtype_type];kernel_rfl)
theorem rev_called:TypeCalled "reversed" "reversed.__new__" "object.__init__" :=
 ⟨by decide +kernel,by decide +kernel,⟨_,_,F.mro_reversed⟩,F.made_reversed,by decide +kernel,by rw [isSubtype_type];kernel_rfl,rev_init⟩
def rvObj (t:Addr) (i:Int):Obj:={ cls:=.type "reversed",data:=.fields #[.ref t,rawInt i] }
section
variable {prog:Program}{w:World}{A:Around}{E:Value→Shared→Prop}{s:Shared}
theorem call_rev_tup {t:Addr}{items:Array Value}{Q:Value→Shared→Prop}(ht:IsTup s.heap t items) (hsz:items.size≤sizeLine)
  (h:Q (.ref s.heap.objs.size) { s with heap:=s.heap.push (rvObj t ((items.size:Int) - 1)),toks:=s.toks + 1 + 1 }):wpAny (model prog w) A (call (.type "reversed") [.ref t]) Q E s:=by
 obtain ⟨⟨c,dct,dt,sl⟩,e1,e2,n,e3⟩:=ht
 replace e2:c = .type "tuple" := e2
 replace e3:dt = .seq items n:=e3
 subst e2 e3
 exact callType_new rev_called (by decide) (F.typeCall_reversed_1 _) (F.newCall_reversed_1 _) (fun obj=>F.args_object_init_2 obj _) F.entry_reversed_new (rev_new_meets t items n dct sl hsz) ⟨e1,⟨_,Heap.get?_push_size _ rfl,rfl⟩,h⟩
end
end L2
namespace L2
open PySem PySem.Spec PyProof.Rows
theorem rv_owner:Manifest.owners.lookup (String.ofList ['d', 'e', 's', 'r', 'e', 'v', 'e', 'r'].reverse) = some Manifest.sig_reversed:=by kernel_rfl
theorem rv_slot:Slot "reversed" "__next__" "reversed.__next__" :=
 .of (owner:= "reversed") (n:= "__next__") (by rw [typeLookup_type,builtinLookup_eq_fast];kernel_rfl) (by decide +kernel) (by decide +kernel) (by decide +kernel)
  (by first | exact .inl (by decide +kernel) | exact .inr (by decide +kernel)) (by rw [isSubtype_type];kernel_rfl)
theorem rv_entry:entryFor table "reversed.__next__" = some Builtin.«reversed.__next__» := entryFor_of_tree (by kernel_rfl)
theorem rv_args (a:Value):argsOk "reversed.__next__" ⟨[a],[]⟩:=by
 unfold argsOk
 rw [signature?_of (id:= "reversed.__next__") (n:=['_', '_', 't', 'x', 'e', 'n', '_', '_']) (o:=['d', 'e', 's', 'r', 'e', 'v', 'e', 'r']) (by kernel_rfl) rv_owner];kernel_rfl
theorem rv_slotI:Slot "reversed" "__iter__" "reversed.__iter__" :=
 .of (owner:= "reversed") (n:= "__iter__") (by rw [typeLookup_type,builtinLookup_eq_fast];kernel_rfl) (by decide +kernel) (by decide +kernel) (by decide +kernel)
  (by first | exact .inl (by decide +kernel) | exact .inr (by decide +kernel)) (by rw [isSubtype_type];kernel_rfl)
theorem rv_argsI (a:Value):argsOk "reversed.__iter__" ⟨[a],[]⟩:=by
 unfold argsOk
 rw [signature?_of (id:= "reversed.__iter__") (n:=['_', '_', 'r', 'e', 't', 'i', '_', '_']) (o:=['d', 'e', 's', 'r', 'e', 'v', 'e', 'r']) (by kernel_rfl) rv_owner];kernel_rfl
theorem rv_entryI:entryFor table "reversed.__iter__" = some Builtin.«dict_keyiterator.__iter__» :=
 entryFor_alias (id' := "dict_keyiterator.__iter__") (by kernel_rfl) (by first | rfl | decide +kernel | (unfold String.splitOn;simp +decide [String.splitOnAux])) (by decide +kernel) (by kernel_rfl)
def IsRv (h:Heap) (a t:Addr) (i:Int):Prop:=∃ o,h.get? a = some o∧o.cls = .type "reversed" ∧ o.data = .fields #[.ref t,rawInt i]
theorem IsRv.ty {s:Shared}{a t:Addr}{i:Int}(x:IsRv s.heap a t i):s.TypeIs (.ref a) "reversed" := let ⟨o,ho,hc,_⟩:=x;⟨o,ho,hc⟩
section
variable {prog:Program}{w:World}{A:Around}{E:Value→Shared→Prop}{s:Shared}
theorem rv_next {it t:Addr}{i:Nat}{items:Array Value}{x:Value}{Q:Option Value→Shared→Prop}(hit:IsRv s.heap it t (i:Int)) (ht:IsTup s.heap t items) (hx:items[i]? = some x) (hi:(i:Int) < 2 ^ 62)
  (hQ:∀ h' tk,IsRv h' it t ((i:Int) - 1)→Heap.SameBut it s.heap h' → Q (some x) { s with heap:=h',toks:=tk }):wpAny (model prog w) A (pyNext (.ref it)) Q E s:=by
 obtain ⟨o,ho,hc,hd⟩:=id hit
 have hlt:i < items.size:=by
  rcases Nat.lt_or_ge i items.size with z | z
  ·exact z
  ·rw [Array.getElem?_eq_none z] at hx;cases hx
 unfold pyNext
 refine wpAny_bind (wpAny_attempt (wpAny_callSpecial?_slot (name:=Str.ofString "__next__") hit.ty rv_slot (wpAny_call_entry rv_slot hit.ty rv_entry ?_ (rv_args _))))
 unfold Builtin.«reversed.__next__»
 refine wpAny_bind (wpAny_of_eq (a:=(Value.ref it,[])) rfl ?_)
 try dsimp only
 refine wpAny_bind (wpAny_field ho hd (x:=.ref t) rfl ?_)
 refine wpAny_bind (wpAny_field ho hd (x:=rawInt (i:Int)) rfl ?_)
 show wpAny _ _ (if (i:Int) < 0 then _ else _) _ _ s
 rw [if_neg (by omega)]
 refine wpAny_bind (wpAny_specialOf ht.typeIs get_tup ?_)
 show wpAny _ _ (if (some (Value.builtin "tuple.__getitem__")).isNone = true then _ else _) _ _ _
 rw [if_neg (by decide)]
 refine wpAny_bind (wpAny_mkInt ?_)
 refine wpAny_bind (wpAny_attempt (getItem_tuple (s:={ s with toks:=s.toks + 1 }) ht (by omega) (by omega) (j:=i) (by unfold seqIndex?;simp;omega) hx ?_))
 refine wpAny_bind (wpAny_field (s:={ s with toks:=s.toks + 1 }) ho hd (x:=rawInt (i:Int)) rfl ?_)
 try dsimp only
 refine wpAny_bind (wpAny_setField (s:={ s with toks:=s.toks + 1 }) ho hd (by simp) ?_)
 refine wpAny_pure ⟨x,rfl,wpAny_pure (hQ _ _ ?_ (Heap.SameBut.update ..))⟩
 exact ⟨_,Heap.get?_update_self _ ho (Obj.isFreed_of_fields (Obj.data_mapFields hd _)),(Obj.cls_mapFields ..).trans hc,by
  rw [Obj.data_mapFields hd];simp⟩
theorem rv_end {it t:Addr}{Q:Option Value→Shared→Prop}(hh:A.handled = none) (hit:IsRv s.heap it t (-1))
  (hQ:∀ h',Heap.ExtBut it s.heap h' → Q none { s with heap:=h' }):wpAny (model prog w) A (pyNext (.ref it)) Q E s:=by
 obtain ⟨o,ho,hc,hd⟩:=id hit
 unfold pyNext
 refine wpAny_bind (wpAny_attempt (wpAny_callSpecial?_slot (name:=Str.ofString "__next__") hit.ty rv_slot (wpAny_call_entry rv_slot hit.ty rv_entry ?_ (rv_args _))))
 unfold Builtin.«reversed.__next__»
 refine wpAny_bind (wpAny_of_eq (a:=(Value.ref it,[])) rfl ?_)
 try dsimp only
 refine wpAny_bind (wpAny_field ho hd (x:=.ref t) rfl ?_)
 refine wpAny_bind (wpAny_field ho hd (x:=rawInt (-1)) rfl ?_)
 show wpAny _ _ (if (-1:Int) < 0 then _ else _) _ _ s
 rw [if_pos (by decide)]
 refine wpAny_bind (wpAny_rule ?_)
 refine wpAny_bind ?_
 show wpAny _ _ (setField (.ref it) 1 (rawInt (-1)) >>= fun _=>setField (.ref it) 0 .none) _ _ s
 refine wpAny_bind (wpAny_setField ho hd (by simp) ?_)
 have ho2:=Heap.get?_update_self (Obj.mapFields fun f=>f.setIfInBounds 1 (rawInt (-1))) ho (Obj.isFreed_of_fields (Obj.data_mapFields hd _))
 refine wpAny_setField ho2 (Obj.data_mapFields hd _) (by simp) ?_
 refine wpAny_bind ?_
 show wpAny _ _ (newExc (.type "StopIteration") [] >>= _) _ _ _
 refine wpAny_bind ?_
 simp only [newExc,newTuple]
 refine wpAny_bind (wpAny_newObj_type ?_ (by size_fits))
 refine wpAny_bind (m:=firstArgMember _ _) (wpAny_of_eq (a:=Value.none) (by first | rfl | (simp only [firstArgMember];rfl)) ?_)
 refine wpAny_newObj_type ?_ (by size_fits)
 simp only [raiseNew]
 refine wpAny_bind (wpAny_handled ?_)
 rw [show A.in1.handled = none from hh]
 refine wpAny_bind (wpAny_pure (wpAny_throw ?_))
 refine wpAny_bind (wpAny_isInstance (T:= "StopIteration") (b:=true) ⟨_,Heap.get?_push_size _ rfl,rfl⟩ isSubtype_stop ?_)
 refine wpAny_pure (hQ _ ((Heap.ExtBut.push (Heap.ExtBut.push (fun b o hb e=>?_) _) _)))
 exact (Heap.get?_update_other _ _ (Ne.symm hb)).trans ((Heap.get?_update_other _ _ (Ne.symm hb)).trans e)
theorem rv_iter {it t:Addr}{i:Int}{Q:Value→Shared→Prop}(hit:IsRv s.heap it t i) (h:Q (.ref it) s):wpAny (model prog w) A (pyIter (.ref it)) Q E s:=by
 refine wpAny_pyIter_slot hit.ty rv_slotI (wpAny_call_entry rv_slotI hit.ty rv_entryI ?_ (rv_argsI _))
 show wpAny _ _ (ret (.ref it)) _ _ s
 exact wpAny_pure ⟨_,rfl, "reversed",_,hit.ty,rv_slot.lookup,h⟩
end
theorem IsRv.at {h h' : Heap} {a l:Addr}{i:Int}(x:IsRv h a l i) (e:∀ o,h.get? a = some o→h'.get? a = some o):IsRv h' a l i:=let ⟨o,ho,r⟩:=x;⟨o,e _ ho,r⟩
section
variable {prog:Program}{w:World}{A:Around}{E:Value→Shared→Prop}{s:Shared}
variable {I:Addr}{fp wr:List Addr}{G:Array GenState→Array GenState→Prop}{n:Nat}{P:Nat→Value→Prop}{St:Nat→Shared→Prop}
end
section
variable {X:Cx}
def Itv (K:PySem.W.Frag) (a:Addr) (n:Nat):It:=
 ⟨fun i H=>i < n∧∃ xs,SqT K H a xs∧xs.length = n,fun i H x H' => H' = H∧∀ xs,SqT K H a xs→xs.reverse[i]? = some x,fun i H=>i = n∧∃ xs,SqT K H a xs⟩
theorem turn_rev {P:Program}{w:World}{K:PySem.W.Frag}{tg:Expr}(a it:Addr) (n:Nat):Turn P w K tg (Itv K a n) [it] it (fun i h=>IsRv h it a ((n:Int) - 1 - (i:Int))) where
 mem:=by simp
 obj:=fun i h st b hb=>by
  have e:b = it:=by simpa using hb
  subst e
  obtain ⟨o,e,c,d⟩:=st
  exact ⟨o,e,fun v z=>by rw [d] at z;cases z⟩
 keep:=fun i h h' st k=>st.at fun o e=>k it (by simp) o e
 item:=by
  intro X hP hw hK hc i pins s σ H E I hf st hg
  subst hP hw hK
  obtain ⟨hi,xs,hq,hl⟩:=hg
  obtain ⟨its,rv,p,hz⟩:=I.tuple hq
  have z62:sizeLine < 2 ^ 62:=by decide
  have hx:xs.reverse[i]? = some (xs.reverse[i]'(by rw [List.length_reverse];omega)):=List.getElem?_eq_getElem _
  obtain ⟨u,hu,ru⟩:=rv.reverse.get hx
  obtain ⟨f0,f1,f2,f3,f4,f5⟩:=hf it (by simp)
  have e1:(n:Int) - 1 - (i:Int) = ((n - 1 - i:Nat):Int):=by omega
  have st1:=st
  rw [e1] at st1
  have hl' : its.length = n:=by rw [← rv.length];exact hl
  have hu' : its.toArray[n - 1 - i]? = some u:=by
   rw [List.getElem?_reverse (by omega)] at hu
   simpa [hl'] using hu
  refine rv_next st1 p hu' (by omega) fun h' tk st' sb=>?_
  have I1:Inv X pins σ H { s with heap:=h',toks:=tk }:=I.turned (fun b o hb e=>(sb.2 b hb).trans e) f0 f1 f3 f4 f5
  have e2:((n - 1 - i:Nat):Int) - 1 = (n:Int) - 1 - ((i + 1:Nat):Int):=by omega
  rw [e2] at st'
  obtain ⟨o,e,c,d⟩:=id st'
  exact ⟨u,rfl,go_of (s:={ s with heap:=h',toks:=tk }) e c d (by decide) ⟨_,H,I1,ru,⟨rfl,fun ys hy=>by rw [I.tuple_inj hy hq];exact hx⟩,st',fun b hb=>(hf b hb).1⟩⟩
 done:=by
  intro X hP hw hK hc i pins s σ H E I hf st hg
  subst hP hw hK
  obtain ⟨rfl,xs,hq⟩:=hg
  obtain ⟨f0,f1,f2,f3,f4,f5⟩:=hf it (by simp)
  have e1:(i:Int) - 1 - (i:Int) = -1:=by omega
  rw [e1] at st
  exact rv_end (I.ok.hd hc) st fun h' eb=>⟨rfl,I.turned (t' := s.toks) (fun b o hb e=>eb b o hb e) f0 f1 f3 f4 f5⟩
 self:=fun _ _ _ _ _ st h=>rv_iter st h
def iRev (K:PySem.W.Frag) (tl:TE):TI:=fun σ H R=>tl σ H fun x H1=>∃ a xs,x = .ref a∧SqT K H1 a xs∧R (Itv K a xs.length) H1
theorem pi_rev {tg l:Expr}{tl:TE}{p2 q2:Pos}(hg2:Gl X "reversed") (hm2:X.mg "reversed" = none) (hl:PE X l tl) (hs2:starEach [l] X.env = [(false,eval l X.env)]:=by rfl):PI X tg (.Call (.Name "reversed" p2) [l] [] q2) (iRev X.K tl):=by
 intro pins s σ H R I h
 refine wpAny_Call_Name_kw (ld_blt I hg2 hm2 boot_rev (PyProof.Rows.callWith_type1 ?_ hs2 rfl))
 rw [hs2]
 show wpAny _ _ (spliced [(false,eval l X.env)]) _ _ s
 refine Calls.spliced_cons (thn (hl pins s σ H _ I h) fun v s1 ⟨x,H1,I1,r1,q1⟩=>Calls.spliced_nil ?_)
 obtain ⟨a,xs,e,hq,q⟩:=q1
 subst e
 cases r1
 obtain ⟨its,rv,p,hz⟩:=I1.tuple hq
 have hsz:its.toArray.size≤sizeLine:=by rw [List.size_toArray,← rv.length];exact hz
 refine call_rev_tup p hsz ?_
 have it1:IsRv (s1.heap.push (rvObj a ((its.toArray.size:Int) - 1))) s1.heap.objs.size a ((xs.length:Int) - 1 - ((0:Nat):Int)):=by
  refine ⟨_,Heap.get?_push_size _ rfl,rfl,?_⟩
  show Data.fields #[.ref a,rawInt ((its.toArray.size:Int) - 1)] = _
  rw [List.size_toArray,← rv.length];simp
 refine rv_iter (s:={ s1 with heap:=s1.heap.push (rvObj a ((its.toArray.size:Int) - 1)),toks:=s1.toks + 1 + 1 }) it1 ?_
 refine ⟨s1.heap.objs.size,[s1.heap.objs.size],_,_,H1,rfl,I1.kept (t' := s1.toks + 1 + 1) fun b o e=>Heap.get?_push_of_some _ e,turn_rev a _ xs.length,it1,fun b hb=>?_,q⟩
 have e:b = s1.heap.objs.size:=by simpa using hb
 subst e
 exact I1.fpOk (Nat.le_refl _) (I1.hok.fresh (Nat.le_refl _))
end
end L2
namespace L2
open PySem PySem.Spec PyProof.Rows
def tupIn (K:PySem.W.Frag):Value→Option (List Value)
 | .ref a=>(match K.lookup a with
  | some o=>(match o.cls,o.data with
   | .type n,.seq its _=>if n == "tuple" && its.size≤8 then some its.toList else none
   | _,_=>none)
  | none=>none)
 | _=>none
def strsIn:List Value→Option (List Str)
 | []=>some []
 | .str x _ :: r=>(strsIn r).map (x :: ·)
 | _=>none
def wdOk (K:PySem.W.Frag) (e:DictEntry) (r:Str × Str × List Str):Bool:=
 match e.key with
 | .str x _=>x == r.1 && (match tupIn K e.val with
  | some [.str k _,v2]=>k == r.2.1 && (match tupIn K v2 with
   | some its=>strsIn its == some r.2.2
   | none=>false)
  | _=>false)
 | _=>false
def wdsOk (K:PySem.W.Frag):List DictEntry→List (Str × Str × List Str)→Bool
 | [],[]=>true
 | e :: es,r :: rs=>wdOk K e r && wdsOk K es rs
 | _,_=>false
def gOf (es:List DictEntry) (z:Str):Option (V × Value):=(es.find? (·.key.isStr z)).map fun e=>((absV e.val).getD .non,e.val)
theorem tupIn_sqT {K:PySem.W.Frag}{v:Value}{its:List Value}(h:tupIn K v = some its):∃ a,v = .ref a∧∀ (H:Hp) (xs:List V),Vals xs its→SqT K H a xs:=by
 unfold tupIn at h
 cases v with
 | ref a=>
  dsimp only at h
  refine ⟨a,rfl,fun H xs hv=>?_⟩
  cases hk:K.lookup a with
  | none=>rw [hk] at h;cases h
  | some o=>
   rw [hk] at h
   dsimp only at h
   split at h
   ·rename_i n its' m hc hd
    split at h
    ·rename_i hz
     injection h with h
     subst h
     simp only [Bool.and_eq_true,beq_iff_eq,decide_eq_true_eq] at hz
     exact .inr ⟨o,its',m,hk,by rw [hc,hz.1],hd,Nat.le_trans hz.2 (by decide),hv⟩
    ·cases h
   ·cases h
 | _=>cases h
theorem strsIn_vals:∀ {l:List Value}{xs:List Str},strsIn l = some xs→Vals (xs.map V.str) l
 | [],xs,h=>by
  unfold strsIn at h
  injection h with h;subst h;exact .nil
 | v :: r,xs,h=>by
  unfold strsIn at h
  split at h
  ·rename_i e;cases e
  ·rename_i x t r' e
   injection e with e1 e2
   subst e1 e2
   cases hr:strsIn r with
   | none=>rw [hr] at h;cases h
   | some ys=>
    rw [hr] at h
    injection h with h
    subst h
    exact .cons ⟨_,rfl⟩ (strsIn_vals hr)
  ·cases h
theorem wdOk_val {K:PySem.W.Frag}{e:DictEntry}{r:Str × Str × List Str}(h:wdOk K e r = true):(∃ t,e.key = .str r.1 t)∧∃ a,e.val = .ref a∧∀ G:Hp,Dat K G (.ref a) (.tuple [.str r.2.1,.tuple (r.2.2.map PyData.str)]):=by
 unfold wdOk at h
 split at h
 ·rename_i x t hk
  rw [Bool.and_eq_true,beq_iff_eq] at h
  obtain ⟨rfl,h⟩:=h
  refine ⟨⟨t,hk⟩,?_⟩
  split at h
  ·rename_i k t2 v2 ht
   rw [Bool.and_eq_true,beq_iff_eq] at h
   obtain ⟨rfl,h⟩:=h
   split at h
   ·rename_i its hi
    rw [beq_iff_eq] at h
    obtain ⟨a,ha,sa⟩:=tupIn_sqT ht
    obtain ⟨b,hb,sb⟩:=tupIn_sqT hi
    refine ⟨a,ha,fun G=>dat_tup (sa G [.str r.2.1,.ref b] (.cons ⟨_,rfl⟩ (.cons (by rw [hb];rfl) .nil))) (dats_cons (dat_str _) (dats_cons (dat_tup (sb G _ (strsIn_vals h)) ?_) dats_nil))⟩
    exact dats_strs' _
   ·cases h
  ·cases h
 ·cases h
where
 dats_strs' {K:PySem.W.Frag}{G:Hp}:∀ ws:List Str,Dats K G (ws.map V.str) (ws.map PyData.str)
  | []=>dats_nil
  | w :: ws=>dats_cons (dat_str w) (dats_strs' ws)
theorem isStr_iff {x z:Str}{t:Tok}:(Value.str x t).isStr z = decide (x = z):=by
 unfold Value.isStr
 by_cases h:x = z
 ·subst h;simp
 ·simp [h]
theorem wds_find {K:PySem.W.Frag}(z:Str):∀ {es:List DictEntry}{rs:List (Str × Str × List Str)},wdsOk K es rs = true→
  (es.find? (·.key.isStr z) = none∧rs.find? (fun r=>decide (r.1 = z)) = none)∨∃ e r,es.find? (·.key.isStr z) = some e∧rs.find? (fun r=>decide (r.1 = z)) = some r∧wdOk K e r = true
 | [],[],_=>.inl ⟨rfl,rfl⟩
 | [],_ :: _,h=>by cases h
 | _ :: _,[],h=>by cases h
 | e :: es,r :: rs,h=>by
  unfold wdsOk at h
  rw [Bool.and_eq_true] at h
  obtain ⟨⟨t,hk⟩,_⟩:=wdOk_val h.1
  have q:e.key.isStr z = decide (r.1 = z):=by rw [hk];exact isStr_iff
  rw [List.find?_cons,List.find?_cons,q]
  by_cases hz:r.1 = z
  ·rw [decide_eq_true hz]
   exact .inr ⟨e,r,rfl,rfl,h.1⟩
  ·rw [decide_eq_false hz]
   exact wds_find z h.2
theorem wds_nokey {K:PySem.W.Frag}:∀ {es:List DictEntry}{rs:List (Str × Str × List Str)},wdsOk K es rs = true→es.any (·.refKey) = false
 | [],[],_=>rfl
 | [],_ :: _,h=>by cases h
 | _ :: _,[],h=>by cases h
 | e :: es,r :: rs,h=>by
  unfold wdsOk at h
  rw [Bool.and_eq_true] at h
  obtain ⟨⟨t,hk⟩,_⟩:=wdOk_val h.1
  rw [List.any_cons,wds_nokey h.2,Bool.or_false]
  unfold DictEntry.refKey
  rw [hk]
theorem dictK_of {K:PySem.W.Frag}{P:Params}{a:Addr}{es:Array DictEntry}{n:Nat}{rs:List (Str × Str × List Str)}(hl:K.lookup a = some ⟨.type "dict",none,.dict es n,#[]⟩) (hk:PySem.W.KeysLit P es.toList) (lo:(a == sysModules) = false)
  (h:wdsOk K es.toList rs = true):DictK K P a (gOf es.toList)∧∀ z,(rs.find? (fun r=>decide (r.1 = z)) = none∧gOf es.toList z = none)∨∃ r v u,rs.find? (fun r=>decide (r.1 = z)) = some r∧gOf es.toList z = some (v,u)∧∀ G:Hp,Dat K G v (.tuple [.str r.2.1,.tuple (r.2.2.map PyData.str)]):=by
 refine ⟨⟨⟨es,n,hl,hk⟩,lo,fun x=>?_,fun x v u e=>?_⟩,fun z=>?_⟩
 ·unfold PySem.W.nsIn
  rw [hl]
  dsimp only
  unfold gOf
  rcases wds_find x h with ⟨e1,_⟩ | ⟨e,r,e1,_,_⟩
  ·rw [e1,wds_nokey h];rfl
  ·rw [e1];rfl
 ·unfold gOf at e
  rcases wds_find x h with ⟨e1,_⟩ | ⟨e',r,e1,_,ok⟩
  ·rw [e1] at e;cases e
  ·rw [e1] at e
   obtain ⟨_,a',ha,_⟩:=wdOk_val ok
   rw [Option.map_some] at e
   injection e with e
   injection e with e1 e2
   subst e1 e2
   rw [ha];rfl
 ·rcases wds_find z h with ⟨e1,e2⟩ | ⟨e,r,e1,e2,ok⟩
  ·exact .inl ⟨e2,by unfold gOf;rw [e1];rfl⟩
  ·obtain ⟨_,a',ha,hd⟩:=wdOk_val ok
   refine .inr ⟨r,.ref a',e.val,e2,?_,hd⟩
   unfold gOf
   rw [e1,Option.map_some,ha];rfl
end L2
namespace Ord
open PySem L2
def wordsT:List (Str × Str × List Str):=
 [(S "like",S "order",[]),(S "up",S "order",[S "field"]),(S "down",S "order",[S "field"]),(S "then",S "order",[S "order",S "order"]),(S "turn",S "order",[S "order"]),(S "pick",S "order",[S "case",S "order",S "order"]),
  (S "same",S "case",[S "field"]),(S "both",S "case",[S "mark"]),(S "either",S "case",[S "mark"]),(S "not",S "case",[S "case"]),(S "and",S "case",[S "case",S "case"]),(S "or",S "case",[S "case",S "case"]),
  (S "under",S "mark",[S "field",S "number"]),(S "is",S "mark",[S "field",S "number"])]
def wordT (z:Str):Option (Str × Str × List Str):=wordsT.find? (fun r=>decide (r.1 = z))
structure Wds (K:PySem.W.Frag) (P:Params) (mg:Str→Option Value) where
 a:Addr
 g:Str→Option (V × Value)
 m:mg "WORDS" = some (.ref a)
 D:DictK K P a g
 no:∀ z,wordT z = none→g z = none
 yes:∀ z r,wordT z = some r→∃ v u,g z = some (v,u)∧∀ G:Hp,Dat K G v (.tuple [.str r.2.1,.tuple (r.2.2.map PyData.str)])
theorem wds_of {K:PySem.W.Frag}{P:Params}{mg:Str→Option Value}{a:Addr}{es:Array DictEntry}{n:Nat}(hm:mg "WORDS" = some (.ref a)) (hl:K.lookup a = some ⟨.type "dict",none,.dict es n,#[]⟩) (hk:PySem.W.KeysLit P es.toList) (lo:(a == sysModules) = false)
  (h:wdsOk K es.toList wordsT = true):Nonempty (Wds K P mg):=by
 obtain ⟨D,q⟩:=dictK_of hl hk lo h
 refine ⟨⟨a,_,hm,D,fun z e=>?_,fun z r e=>?_⟩⟩
 ·rcases q z with ⟨_,e1⟩ | ⟨r,v,u,e1,_⟩
  ·exact e1
  ·rw [show wordT z = _ from e1] at e;cases e
 ·rcases q z with ⟨e1,_⟩ | ⟨r',v,u,e1,e2,hd⟩
  ·rw [show wordT z = _ from e1] at e;cases e
  ·rw [show wordT z = _ from e1] at e
   injection e with e;subst e
   exact ⟨v,u,e2,hd⟩
theorem wordT_opts:∀ want∈[S "order",S "case",S "mark"],∀ o∈optsOf want,∃ x ps,o = x :: ps∧wordT x = some (x,want,ps):=by
 intro want hw
 simp only [List.mem_cons,List.not_mem_nil,or_false] at hw
 have key:∀ want∈[S "order",S "case",S "mark"],∀ o∈optsOf want,o≠[]∧wordT (o.headD (S "")) = some (o.headD (S ""),want,o.tail):=by decide +kernel
 intro o ho
 have q:=key want (by simpa using hw) o ho
 cases o with
 | nil=>exact absurd rfl q.1
 | cons x ps=>exact ⟨x,ps,rfl,q.2⟩
theorem wordT_none {z:Str}(h:z ∉ ["like", "up", "down", "then", "turn", "pick", "same", "both", "either", "not", "and", "or", "under", "is"].map Str.ofString):wordT z = none:=by
 unfold wordT
 rw [List.find?_eq_none]
 intro r hr
 simp only [decide_eq_true_eq]
 intro e
 subst e
 apply h
 revert r
 decide +kernel
end Ord
namespace Rdo
open PySem Dig Ord Nm L2 Frac
theorem wordT_mem {z:Str}{r:Str × Str × List Str}(h:wordT z = some r):r∈wordsT∧r.1 = z:=by
 unfold wordT at h
 exact ⟨List.mem_of_find?_eq_some h,by have:=List.find?_some h;simpa using this⟩
theorem step_word {fld:Str→Prop}{num:Int→Int→Prop}{st st1:List Str}{w:Wd}(h:Step fld num st w st1) (hs:∀ x∈st,x∈[S "order",S "case",S "mark",S "field",S "number"]):
  (∃ x st0,st = S "field" :: st0∧w = .t x∧fld x∧st1 = st0)∨(∃ a b st0,st = S "number" :: st0∧w = .n a b∧num a b∧st1 = st0)∨
  ∃ want x ps st0,st = want :: st0∧w = .t x∧want≠S "field" ∧ want≠S "number" ∧ wordT x = some (x,want,ps)∧ps.length≤3∧st1 = ps ++ st0:=by
 cases h with
 | field hx=>exact .inl ⟨_,_,rfl,rfl,hx,rfl⟩
 | number hx=>exact .inr (.inl ⟨_,_,_,rfl,rfl,hx,rfl⟩)
 | @word want x ps st0 n1 n2 ho=>
  have hw:=hs want List.mem_cons_self
  have hw3:want∈[S "order",S "case",S "mark"]:=by
   simp only [List.mem_cons,List.not_mem_nil,or_false] at hw ⊢
   rcases hw with z | z | z | z | z
   ·exact .inl z
   ·exact .inr (.inl z)
   ·exact .inr (.inr z)
   ·exact absurd z n1
   ·exact absurd z n2
  obtain ⟨y,qs,e,hy⟩:=wordT_opts want hw3 _ ho
  injection e with e1 e2
  subst e1 e2
  obtain ⟨x',ps',e,hl,_⟩:=opts_form want _ ho
  injection e with e1 e2
  subst e1 e2
  exact .inr (.inr ⟨want,x,ps,st0,rfl,rfl,n1,n2,hy,hl,rfl⟩)
end Rdo
namespace L2
open PySem PySem.Spec PyProof.Rows
section
variable {κ:Type}[DecidableEq κ]
end
theorem kV_is {P:Program}{w:World}{k:Key}{u:Value}(r:RelV (kV k) u):(mixKind P w).is k u = true:=by
 cases k with
 | inl i=>obtain ⟨t,e⟩:=(show ∃ t,u = Value.int i t from r);subst e;exact mixKind_int P w i t
 | inr x=>obtain ⟨t,e⟩:=(show ∃ t,u = Value.str x t from r);subst e;exact mixKind_str P w x t
theorem items_are {P:Program}{w:World}:∀ {ks:List Key}{us:List Value},Vals (ks.map kV) us→ItemsAre (mixKind P w) ks us
 | [],_,r=>by rw [List.map_nil] at r;cases r;exact .nil
 | k :: ks,_,r=>by
  rw [List.map_cons] at r
  cases r with
  | cons h t=>exact .cons (kV_is h) (items_are t)
section
variable {P:Program}{w:World}{H:Hp}{h:Heap}{a:Addr}
end
section
variable {X:Cx}{pins:List (Addr × Obj)}{σ:St}{H:Hp}{s:Shared}{a:Addr}{y v:V}{u r:Value}{o:Option V}{A:Around}{E:Value→Shared→Prop}
theorem Inv.big (I:Inv X pins σ H s):sysModules < s.heap.objs.size:=by
 have h:mainGlobals < s.heap.objs.size:=(I.mod.glob.keeps I.bk).lt
 exact Nat.lt_trans (by decide) h
theorem d_write {h' : Heap} {t' : Nat} {ob:HO}(I:Inv X pins σ H s) (mu:Mut (H a)) (hs:Heap.SameBut a s.heap h') (he:∃ q,h'.get? a = some q) (new:ObjOk X.prog X.w (upd H a ob) h' a ob):
  Inv X pins σ (upd H a ob) { s with heap:=h',toks:=t' }:=
 I.write (x:=a) (e:=a) mu (.inl rfl) (fun b q hb z=>(hs.2 b hb).trans z) he new
end
section
variable {X:Cx}{pins:List (Addr × Obj)}{σ:St}{H:Hp}{s:Shared}{a:Addr}{kvs:List (Key × V)}{k:Key}{u:Value}{A:Around}{E:Value→Shared→Prop}
end
section
variable {X:Cx}{o i e value:Expr}{pos pos' tpos:Pos} {td ty tv:TE}
end
section
variable {X:Cx}{pos:Pos}
end
section
variable {X:Cx}{pins:List (Addr × Obj)}{σ:St}{H:Hp}{s:Shared}{a:Addr}{y d:V}{u r:Value}{o:Option V}{A:Around}{E:Value→Shared→Prop}
end
section
variable {X:Cx}{o e f:Expr}{apos cpos:Pos}{td ty tx:TE}
end
section
variable {X:Cx}{pins:List (Addr × Obj)}{σ:St}{H:Hp}{s:Shared}{a:Addr}{kvs:List (Key × V)}{A:Around}{E:Value→Shared→Prop}
end
section
variable {X:Cx}{pins:List (Addr × Obj)}{σ:St}{H:Hp}{s:Shared}{a:Addr}{y:V}{u:Value}{A:Around}{E:Value→Shared→Prop}
end
end L2
namespace Nm
open PySem L2 Lw Dig
end Nm
namespace L2
open PySem PySem.Spec PyProof.Rows
section
variable {prog:Program}{w:World}{A:Around}{E:Value→Shared→Prop}{s:Shared}
theorem tell_no {a:Addr}{stored:List Value}{Q:Bool→Shared→Prop}(hq:∀ Q:Bool→Shared→Prop,Q true s→wpAny (model prog w) A (eqIsQuiet 8 (.ref a)) Q E s) (hst:∀ v∈stored,∃ x t,v = .str x t) (h:Q false s):wpAny (model prog w) A (tableMayTell (.ref a) stored) Q E s:=by
 unfold tableMayTell
 split
 ·exact wpAny_pure h
 ·refine wpAny_bind (hq _ ?_)
  simp only [Bool.not_true,Bool.false_eq_true,if_false]
  refine wpAny_bind ?_
  refine wpAny_forIn_list _ (fun rest r s' => s' = s∧r = (none,())∧∀ v∈rest,∃ x t,v = .str x t) _ ?_ ?_ _ _ ⟨rfl,rfl,hst⟩
  ·rintro x rest r s' ⟨rfl,rfl,hr⟩
   obtain ⟨z,t,rfl⟩:=hr x List.mem_cons_self
   refine wpAny_bind ?_
   unfold eqIsQuiet
   refine wpAny_pure ?_
   simp only [Bool.not_true,Bool.false_eq_true,if_false]
   exact wpAny_pure ⟨rfl,rfl,fun v hv=>hr v (List.mem_cons_of_mem _ hv)⟩
  ·rintro r s' ⟨rfl,rfl,_⟩
   exact wpAny_pure h
theorem find_no {d a:Addr}{o:Obj}{es:Array DictEntry}{ep:Nat}{hh:Int}{Q:Option Nat→Shared→Prop}(ho:s.heap.get? d = some o) (hd:o.data = .dict es ep) (hk:∀ e∈es,∃ x t,e.key = .str x t)
  (hq:∀ Q:Bool→Shared→Prop,Q true s→wpAny (model prog w) A (eqIsQuiet 8 (.ref a)) Q E s) (heq:∀ (x:Str) (t:Tok) (Q:Bool→Shared→Prop),Q false s→wpAny (model prog w) A (eqBool (.str x t) (.ref a)) Q E s) (h:Q none s):
  wpAny (model prog w) A (dictFind d (.ref a) hh) Q E s:=by
 have hany:¬ (es.any fun e=>e.key == Value.ref a && e.hash != hh) = true:=by
  rw [← Array.any_toList,List.any_eq_true]
  rintro ⟨e,hin,hc⟩
  obtain ⟨x,t,ek⟩:=hk e (Array.mem_toList_iff.mp hin)
  rw [ek] at hc
  simp at hc
 have hst:∀ v∈(placesWithHash es.size (fun i=>es[i]?.map (·.hash)) hh).filterMap (fun i=>es[i]?.map (·.key)),∃ x t,v = .str x t:=by
  intro v hv
  obtain ⟨i,_,hi⟩:=List.mem_filterMap.mp hv
  cases hei:es[i]? with
  | none=>rw [hei] at hi;cases hi
  | some e=>
   rw [hei] at hi
   obtain rfl:e.key = v:=by simpa using hi
   exact hk e (Array.mem_of_getElem? hei)
 unfold dictFind
 try with_reducible refine wpAny_holding ?_
 refine wpAny_bind (wpAny_dictEntries ho hd ?_)
 dsimp only
 rw [if_neg (show ¬ ((Value.ref a :: (placesWithHash es.size (fun i=>es[i]?.map (·.hash)) hh).filterMap (fun i=>es[i]?.map (·.key))).all carriedByValue) = true by simp [carriedByValue])]
 rw [if_neg hany]
 by_cases hone:(((placesWithHash es.size (fun i=>es[i]?.map (·.hash)) hh).filterMap (fun i=>es[i]?.map (·.key))) == [Value.ref a]) = true <;>
 (first | rw [if_pos hone] | rw [if_neg hone]) <;> (first | refine wpAny_bind (wpAny_pure ?_) | refine wpAny_bind (tell_no hq hst ?_)) <;> (
  rw [if_neg (by simp)]
  refine wpAny_bind ?_
  refine wpAny_forIn_list _ (fun rest b s' => s' = s∧b = (none,none)) _ ?_ ?_ _ _ ⟨rfl,rfl⟩
  ·rintro x rest b s' ⟨rfl,rfl⟩
   cases hex:es[x]? with
   | none=>exact wpAny_pure ⟨rfl,rfl⟩
   | some e=>
    obtain ⟨z,t,ek⟩:=hk e (Array.mem_of_getElem? hex)
    dsimp only
    by_cases hh' : (e.hash == hh) = true
    ·rw [if_pos hh']
     rw [ek]
     refine wpAny_bind (wpAny_dictEpoch ho hd (wpAny_bind (heq z t _ (wpAny_bind (wpAny_dictEpoch ho hd ?_)))))
     show wpAny _ _ (if (ep != ep) = true then _ else _) _ E _
     rw [if_neg (by simp)]
     simp only [Bool.false_eq_true,if_false]
     refine wpAny_bind (wpAny_rule ?_)
     first | rw [if_neg (by simp)] | skip
     first
      | exact wpAny_pure ⟨rfl,rfl⟩
      | exact wpAny_bind (wpAny_pure (wpAny_pure ⟨rfl,rfl⟩))
    ·rw [if_neg hh']
     exact wpAny_pure ⟨rfl,rfl⟩
  ·rintro b s' ⟨rfl,rfl⟩
   exact wpAny_pure h)
theorem in_no {d a:Addr}{o:Obj}{es:Array DictEntry}{ep:Nat}{ks:List Key}{Q:Value→Shared→Prop}(hu:A.units + 1 < cLine) (hkey:IsTupleKey (mixKind prog w) s.heap ks a) (ho:s.heap.get? d = some o) (hc:o.cls = .type "dict") (hd:o.data = .dict es ep) (hs:(d == sysModules) = false)
  (hk:∀ e∈es,∃ x t,e.key = .str x t) (heq:∀ (x:Str) (t:Tok) (s' : Shared),s'.heap = s.heap→SeqAt.EqAt A.in1 s' (.str x t) (.ref a) false) (h:Q (.bool false) { s with toks:=s.toks + (ks.length + 1) }):wpAny (model prog w) A (compareOp .In (.ref a) (.ref d)) Q E s:=by
 have hty:s.TypeIs (.ref d) "dict" := ⟨o,ho,hc⟩
 show wpAny _ _ (do return .bool (← contains (.ref d) (.ref a))) Q E s
 refine wpAny_bind ?_
 unfold contains
 try with_reducible refine wpAny_holding ?_
 refine wpAny_bind (wpAny_specialOf hty slot_dict_contains.lookup ?_)
 show wpAny _ _ (if (some (Value.builtin "dict.__contains__") == some Value.none) = true then _ else _) _ E s
 rw [if_neg (by rw [beq_builtin_none];exact Bool.false_ne_true)]
 refine wpAny_bind (wpAny_callSpecialUnlessNone?_slot (name:=Str.ofString "__contains__") hty slot_dict_contains
  (wpAny_call_entry slot_dict_contains hty entry_dict_contains ?_ (args_dict_contains _ _)))
 show wpAny _ _ (dictGet d (.ref a) >>= _) _ _ s
 refine wpAny_bind ?_
 unfold dictGet
 try with_reducible refine wpAny_holding ?_
 refine wpAny_bind (wpAny_pyHash_tuple (knd:=mixKind prog w) (A:=A.in1) (show A.units + 1 < cLine from hu) hkey (wpAny_bind (find_no (s:={ s with toks:=s.toks + (ks.length + 1) }) ho hd hk (fun Q h=>wpAny_eqIsQuiet_tuple (knd:=mixKind prog w) hkey h) (fun x t Q h=>heq x t { s with toks:=s.toks + (ks.length + 1) } rfl prog w _ Q h) ?_)))
 refine wpAny_pure ?_
 show wpAny _ _ (Builtin.Dict.pendingKey? d (.ref a) >>= _) _ _ _
 exact wpAny_bind (wpAny_pendingKey_other hs (wpAny_pure ⟨_,rfl,wpAny_truthy_bool (wpAny_pure h)⟩))
end
section
variable {X:Cx}
def rInKW (K:PySem.W.Frag) (P:Params):R2:=fun x y H Q=>∃ a g,y = .ref a∧DictK K P a g∧((∃ z,x = .str z∧Q (.bl (g z).isSome) H)∨∃ (p:Addr) (b c:Int),x = .ref p∧SqT K H p [.int b,.int c]∧Q (.bl false) H)
theorem op_inKW (hu:X.A.units + 64 < cLine):OpR X (compareOp .In) (rInKW X.K X.w.params):=by
 intro pins s σ H x y v u Q I rx ry h
 obtain ⟨a,g,rfl,D,h⟩:=h
 rcases h with ⟨z,rfl,q⟩ | ⟨p,b,c,rfl,hp,q⟩
 ·exact op_inK pins s σ H _ _ v u Q I rx ry ⟨z,a,g,rfl,rfl,D,q⟩
 ·cases rx
  cases ry
  obtain ⟨es,n,hl,hk⟩:=D.ex
  obtain ⟨its,rv,pt,hz⟩:=I.tuple hp
  obtain ⟨o,ho,hc,nn,hdt⟩:=id pt
  have hia:ItemsAre (mixKind X.prog X.w) [.inl b,.inl c] its:=by
   cases rv with
   | cons r1 r2=>cases r2 with
    | cons r2 r3=>cases r3;exact .cons (kV_is (k:=.inl b) r1) (.cons (kV_is (k:=.inl c) r2) .nil)
  refine in_no (by omega) (ks:=[.inl b,.inl c]) ⟨o,its.toArray,nn,ho,hc,hdt,by simpa using hia⟩ (I.mod.kin.keeps I.bk _ _ hl) rfl rfl D.lo (fun e he=>?_) (fun x t s' hs' => ?_) ⟨.bl false,H,I.tok _,rfl,q⟩
  ·obtain ⟨x,t,e1,_⟩:=hk.all e (Array.mem_toList_iff.mpr he)
   exact ⟨x,t,e1⟩
  ·refine SeqAt.EqAt.str_tuple (items:=its.toArray) x t (hs'.symm ▸ pt) ?_
   show X.A.units + 1 < cLine
   omega
end
end L2
namespace L2
open PySem PySem.Spec PyProof.Rows
section
variable {prog:Program}{w:World}{A:Around}{E:Value→Shared→Prop}{s:Shared}
theorem rng_collect {Q:List Value→Shared→Prop}{r:Addr}{a b c:Int}{t u v:Tok}{n:Nat}(hh:A.handled = none) (hr:IsRange s.heap r a b c t u v) (hsmall:Builtin.Range.small a b c = true) (hn:Builtin.Range.rangeSize a b c = n) (hlen:n≤2 ^ 24)
  (hQ:∀ (h' : Heap) (tk:Nat) (acc:Array Value),(∀ b o,s.heap.get? b = some o→h'.get? b = some o)→ItemsOf (fun i v=>∃ t,v = .int (a + i * c) t) acc n→Q acc.toList { s with heap:=h',toks:=tk }):wpAny (model prog w) A (collect (.ref r)) Q E s:=by
 have e1:=F.entry_proto_collect
 have e2:=F.entry_list_iadd
 have p1:=F.plain_proto_collect
 have p2:=F.plain_list_iadd
 unfold collect
 refine wpAny_bind (wpAny_runValue (codeAny_builtin e1 ?_))
 rw [Around.under_plainId p1 _]
 show wpAny _ A.in1 (newList [] >>= fun z=>again (.builtin "list.__iadd__" ⟨[z,.ref r],[]⟩)) _ _ s
 refine wpAny_bind (wpAny_newObj_type (wpAny_pure ⟨plainId_quiet p2 _,codeAny_builtin e2 ?_⟩))
 rw [Around.under_plainId p2 _]
 show wpAny (model prog w) A.in1 (Builtin.List.listExtendWith (.ref s.heap.objs.size) (.ref r) (.ref s.heap.objs.size)) _ _ _
 have hS:(s.heap.push { cls:=.type "list",data:=.seq ([]:List Value).toArray }).get? s.heap.objs.size = some { cls:=.type "list",data:=.seq #[] 0 }:=
  Heap.get?_push_size _ rfl
 have fin' : ∀ (h' : Heap) (tk:Nat) (acc:Array Value) (c' : Nat),(∀ b o,s.heap.get? b = some o→h'.get? b = some o)→h'.get? s.heap.objs.size = some { cls:=.type "list",dict:=none,data:=.seq acc c',slots:=#[] }→ItemsOf (fun i v=>∃ t,v = .int (a + i * c) t) acc n→
   wpAny (model prog w) A (match Value.ref s.heap.objs.size with
   | Value.ref a=>do
    match (← load a).data with
     | Data.seq xs _=>pure xs.toList | _=>unsupported "internal:collect"
   | _=>unsupported "internal:collect") Q E { s with heap:=h',toks:=tk }:=fun h' tk acc c' hk hS' hacc=>by
  show wpAny (model prog w) A (load s.heap.objs.size >>= _) Q E _
  exact wpAny_bind (wpAny_load hS' (wpAny_pure (hQ h' tk acc hk hacc)))
 refine wpAny_mono (wpAny_extend_range (A:=A) (R:=fun rs s' => ∃ (h' : Heap) (tk:Nat) (acc:Array Value) (c' : Nat),rs = .ok (.ret (.ref s.heap.objs.size))∧s' = { s with heap:=h',toks:=tk }∧(∀ b o,s.heap.get? b = some o→h'.get? b = some o)∧h'.get? s.heap.objs.size = some { cls:=.type "list",dict:=none,data:=.seq acc c',slots:=#[] }∧ItemsOf (fun i v=>∃ t,v = .int (a + i * c) t) acc n)
  (s:={ s with heap:=s.heap.push { cls:=.type "list",data:=.seq ([]:List Value).toArray } }) hh (Heap.get?_push_of_some _ hr) hsmall hn hlen _ _ 0 hS fun h' tk acc' c' hk hS' hacc=>⟨h',tk,acc',c',rfl,rfl,fun b o e=>hk b o (Nat.ne_of_lt (Heap.lt_size e)) (Heap.get?_push_of_some _ e),hS',hacc⟩) (fun fin s' h=>?_) (fun e s' h=>?_)
 ·cases fin with
  | done f=>
   obtain ⟨h',tk,acc,c',e,rfl,k1,k2,k3⟩:=h
   cases e
   exact fin' h' tk acc c' k1 k2 k3
  | again cc=>exact ⟨h.1,codeAny_mono h.2 fun rs s'' hr' => by
    obtain ⟨h',tk,acc,c',rfl,rfl,k1,k2,k3⟩:=hr'
    exact fin' h' tk acc c' k1 k2 k3⟩
 ·obtain ⟨_,_,_,_,z,_⟩:=h
  cases z
end
theorem vals_rng {lo:Int}{n:Nat}{acc:Array Value}(h:ItemsOf (fun i v=>∃ t,v = .int (lo + i * 1) t) acc n):Vals ((List.range n).map fun (i:Nat)=>V.int (lo + i)) acc.toList:=by
 obtain ⟨z1,z2⟩:=h
 have key:∀ (n:Nat) (l:List Value),l.length = n→(∀ (i:Nat) v,l[i]? = some v→∃ t,v = Value.int (lo + i) t)→Vals ((List.range n).map fun (i:Nat)=>V.int (lo + i)) l:=by
  intro n
  induction n with
  | zero=>intro l hl _;cases l with
   | nil=>exact .nil
   | cons _ _=>cases hl
  | succ n ih=>
   intro l hl hi
   have e1:l = l.dropLast ++ [l[n]'(by omega)]:=by
    have hne:l≠[]:=by intro z;subst z;cases hl
    have:=(List.dropLast_concat_getLast hne).symm
    rw [List.getLast_eq_getElem] at this
    simpa [hl] using this
   rw [e1,List.range_succ,List.map_append]
   refine Vals.append (ih l.dropLast (by simp [hl]) fun i v hv=>?_) ?_
   ·refine hi i v ?_
    rw [List.getElem?_dropLast] at hv
    split at hv
    ·exact hv
    ·cases hv
   ·obtain ⟨t,e⟩:=hi n (l[n]'(by omega)) (List.getElem?_eq_getElem (by omega))
    exact .cons ⟨t,e⟩ .nil
 refine key n acc.toList (by simp [z1]) fun i v hv=>?_
 obtain ⟨t,e⟩:=z2 i v (by simpa using hv)
 exact ⟨t,by rw [e];congr 1;omega⟩
section
variable {X:Cx}
end
end L2
namespace L2
open PySem PySem.Spec PyProof.Rows
section
variable {prog:Program}{w:World}{A:Around}{E:Value→Shared→Prop}{s:Shared}
end
section
variable {X:Cx}{K:PySem.W.Frag}{e st:Expr}{te:TE}{ts:TO}{p2 pos:Pos}
end
end L2
namespace HT
open PySem PySem.Spec PyProof.Rows
section
variable {prog:Program}{w:World}{A:Around}{E:Value→Shared→Prop}{s:Shared}
theorem getItem_tuple_all {t sl:Addr}{items:Array Value}{vl vu:Value}{lo hi:Option Int}{Q:Value→Shared→Prop}(ht:IsTup s.heap t items) (hs:s.heap.IsSliceOf sl vl vu .none) (pl:IsPart vl lo) (pu:IsPart vu hi)
  (hw:sIx items.size 0 lo = 0∧sIx items.size items.size hi = items.size) (h:Q (.ref t) s):wpAny (model prog w) A (getItem (.ref t) (.ref sl)) Q E s:=by
 obtain ⟨os,hos,hcs,hds⟩:=id hs
 have hTs:s.TypeIs (.ref sl) "slice" := ⟨os,hos,hcs⟩
 unfold getItem
 try with_reducible refine wpAny_holding ?_
 first | refine wpAny_bind (wpAny_pure ?_) | skip
 refine wpAny_bind (wpAny_sequenceKey ht.typeIs (by decide) ?_)
 refine wpAny_bind (wpAny_callSpecial?_slot (name:=Str.ofString "__getitem__") ht.typeIs PyProof.Rows.slot_tuple_getitem
  (wpAny_call_entry PyProof.Rows.slot_tuple_getitem ht.typeIs entry_tuple_getitem ?_ (args_tuple_getitem _ _)))
 show wpAny _ _ (Builtin.Tuple.tupleItemsOf (.ref t) >>= _) _ _ s
 refine wpAny_bind (tupleItemsOf_ ht ?_)
 refine wpAny_bind (wpAny_typeOf hTs ?_)
 rw [if_pos (by decide)]
 refine wpAny_bind (sliceApplied_gen hs pl pu ?_)
 have hyes:(((sIx items.size 0 lo:Nat):Int) == 0 && (1:Int) == 1 && (sIx items.size items.size hi - sIx items.size 0 lo) == items.size) = true:=by
  rw [hw.1,hw.2];simp
 show wpAny _ _ (if (((sIx items.size 0 lo:Nat):Int) == 0 && (1:Int) == 1 && (sIx items.size items.size hi - sIx items.size 0 lo) == items.size) = true then _ else _) _ _ s
 rw [if_pos hyes]
 refine wpAny_bind (m:=Builtin.Tuple.tupleIsExact (.ref t)) ?_
 unfold Builtin.Tuple.tupleIsExact
 refine wpAny_bind (wpAny_typeOf ht.typeIs (wpAny_pure ?_))
 rw [if_pos (by decide)]
 refine wpAny_bind (wpAny_rule ?_)
 first
  | exact wpAny_pure ⟨_,rfl,wpAny_pure h⟩
  | exact wpAny_bind (wpAny_pure (wpAny_pure ⟨_,rfl,wpAny_pure h⟩))
end
end HT
namespace L2
open PySem PySem.Spec PyProof.Rows
section
variable {X:Cx}{K:PySem.W.Frag}
def rSlTA (K:PySem.W.Frag):V→Option Int→Option Int→Hp→VK→Prop:=fun x lo hi H Q=>∃ a xs,x = .ref a∧SqT K H a xs∧
 ((HT.sIx xs.length 0 lo = 0∧HT.sIx xs.length xs.length hi = xs.length)→Q (.ref a) H)∧(¬ (HT.sIx xs.length 0 lo = 0∧HT.sIx xs.length xs.length hi = xs.length)→∀ p,H p = none→Q (.ref p) (upd H p (.tup (cutV xs lo hi))))
theorem sl_tupA (e:X.K = K):SlR X (rSlTA K):=by
 subst e
 intro pins s σ H x v vl vu lo hi sl Q I rx hs pl pu h
 obtain ⟨a,xs,rfl,hx,q1,q2⟩:=h
 by_cases hw:HT.sIx xs.length 0 lo = 0∧HT.sIx xs.length xs.length hi = xs.length
 ·cases rx
  obtain ⟨its,r,ht,hz⟩:=I.tuple hx
  have hlen:its.toArray.size = xs.length:=by rw [List.size_toArray];exact r.length.symm
  exact ⟨"tuple",_,PyProof.Rows.slot_tuple_getitem.lookup,ht.typeIs,HT.getItem_tuple_all ht hs pl pu (by rw [hlen];exact hw) ⟨.ref a,H,I,rfl,q1 hw⟩⟩
 ·exact sl_tup pins s σ H _ v vl vu lo hi sl Q I rx hs pl pu ⟨a,xs,rfl,hx,hw,q2 hw⟩
theorem ev_slT {σ:St}{G:Hp}{te:TE}{tl th:TO}{ds:List PyData}{lo hi:Option Int}(h:Ev K te σ G (.tuple ds)) (hl:∀ H (Q:Option Int→Hp→Prop),Q lo H→tl σ H Q) (hh:∀ H (Q:Option Int→Hp→Prop),Q hi H→th σ H Q):
  Ev K (tSl (rSlTA K) te tl th) σ G (.tuple ((ds.drop (HT.sIx ds.length 0 lo)).take (HT.sIx ds.length ds.length hi - HT.sIx ds.length 0 lo))):=
 fun G1 H s1 s2 Q k=>h G1 H s1 s2 _ fun v G2 H2 g2 hv=>by
  obtain ⟨p,xs,rfl,hp,hxs⟩:=hv.tup
  have hlen:=hxs.length
  refine hl _ _ (hh _ _ ⟨p,xs,rfl,g2.gh.tup hp,fun hw=>?_,fun hw q hq=>?_⟩)
  ·refine k _ _ _ g2 ?_
   rw [hlen] at hw
   rw [hw.1,hw.2,List.drop_zero,Nat.sub_zero,List.take_of_length_le (Nat.le_refl _)]
   exact dat_tup hp hxs
  ·have g:=grow_new (o:=.tup (cutV xs lo hi)) g2.gh hq
   refine k _ _ _ (g2.trans g) (dat_tup (SqT.of upd_same) ?_)
   have q:=dats_take (HT.sIx ds.length ds.length hi - HT.sIx ds.length 0 lo) (dats_drop (HT.sIx ds.length 0 lo) (hxs.same g.gg))
   rw [← hlen] at q ⊢
   exact q
theorem ev_catT {σ:St}{G:Hp}{ta tb:TE}{ds es:List PyData}(ha:Ev K ta σ G (.tuple ds)) (hb:Ev K tb σ G (.tuple es)) (hne:ds≠[]) (hz:ds.length + es.length≤sizeLine):Ev K (tOp (rCatT K) ta tb) σ G (.tuple (ds ++ es)):=
 ev_op ha hb fun G1 H u v Q s1 s2 hu hv k=>by
  obtain ⟨p,xs,rfl,hp,hxs⟩:=hu.tup
  obtain ⟨q,ys,rfl,hq,hys⟩:=hv.tup
  have l1:=hxs.length
  have l2:=hys.length
  refine ⟨p,q,xs,ys,rfl,rfl,s2.tup hp,s2.tup hq,fun e=>hne (by subst e;exact List.length_eq_zero_iff.mp l1.symm),by omega,fun e=>?_,fun e r hr=>?_⟩
  ·refine k _ G1 H (Grow.refl s2) ?_
   subst e
   have:es = []:=List.length_eq_zero_iff.mp l2.symm
   subst this
   rw [List.append_nil]
   exact dat_tup hp hxs
  ·have g:=grow_new (o:=.tup (xs ++ ys)) s2 hr
   exact k _ _ _ g (dat_tup (SqT.of upd_same) (dats_append (hxs.same g.gg) (hys.same g.gg)))
theorem ev_slL {σ:St}{G:Hp}{te:TE}{tl th:TO}{ds:List PyData}{lo hi:Option Int}(h:Ev K te σ G (.list ds)) (hl:∀ H (Q:Option Int→Hp→Prop),Q lo H→tl σ H Q) (hh:∀ H (Q:Option Int→Hp→Prop),Q hi H→th σ H Q):
  Ev K (tSl (rSlL K) te tl th) σ G (.list ((ds.drop (HT.sIx ds.length 0 lo)).take (HT.sIx ds.length ds.length hi - HT.sIx ds.length 0 lo))):=
 fun G1 H s1 s2 Q k=>h G1 H s1 s2 _ fun v G2 H2 g2 hv=>by
  obtain ⟨p,xs,rfl,hp,hxs⟩:=hv.lst
  have hlen:=hxs.length
  refine hl _ _ (hh _ _ ⟨p,xs,rfl,SqL.of (g2.gh _ _ hp),fun q hq=>?_⟩)
  have g:=grow_new (o:=.lst (cutV xs lo hi)) g2.gh hq
  refine k _ _ _ (g2.trans g) (dat_lst upd_same ?_)
  have q:=dats_take (HT.sIx ds.length ds.length hi - HT.sIx ds.length 0 lo) (dats_drop (HT.sIx ds.length 0 lo) (hxs.same g.gg))
  rw [← hlen] at q ⊢
  exact q
end
end L2
namespace L2
open PySem PySem.Spec PyProof.Rows
section
variable {K:PySem.W.Frag}{σ:St}{G:Hp}{ta tb:TE}
theorem ev_addS {x y:Str}(ha:Ev K ta σ G (.str x)) (hb:Ev K tb σ G (.str y)) (hz:x.length + y.length≤sizeLine):
  Ev K (tOp (fun x y H Q=>∃ i j,x = .str i∧y = .str j∧i.length + j.length≤sizeLine∧Q (.str (i ++ j)) H) ta tb) σ G (.str (x ++ y)):=
 ev_op ha hb fun G1 H u v Q s1 s2 hu hv k=>⟨x,y,hu.str,hv.str,hz,k _ G1 H (Grow.refl s2) (dat_str _)⟩
end
end L2
namespace Rdo
open PySem L2 Ord Nm
end Rdo
namespace L2
open PySem PySem.Spec PyProof.Rows
structure LamScope (fr sc:Scope) (ps cap:List Str):Prop where
 kind:sc.kind = .function
 co:sc.isCoroutine = false
 gen:sc.isGenerator = false
 cell:∀ p∈sc.names,p.2≠.cell
 par:∀ y∈ps,sc.names.lookup y = some .local
 free:∀ p∈sc.names,p.2 = .free→fr.names.lookup p.1 = some .cell
 caps:∀ y∈cap,(y,NameKind.free)∈sc.names
 capl:∀ y∈cap,sc.names.lookup y = some .free
 nd:(ps ++ cap).Nodup
def IsLam (H:Hp) (f:Addr) (q:Str) (params:Arguments) (body:Expr) (sc:Scope) (cl:List (Str × Addr)):Prop:=
 ∃ (pm ctv:Value) (c' : Addr) (oc:Obj),H f = some (.frz (PySem.W.kla_obj "<lambda>" q params body sc cl pm c' ctv) (.own f))∧H c' = some (.frz oc (.own c'))∧CodeOf oc q
structure CellsAre (s:Shared) (H:Hp) (cl:List (Str × Addr)) (cap:List Str) (vals:St):Prop where
 inj:∀ x y c,cl.lookup x = some c→cl.lookup y = some c→x = y
 isc:∀ x c,cl.lookup x = some c→(∃ v,s.heap.IsCell c v)∧H c = none
 val:∀ (i:Nat) (y:Str) (v:V),cap[i]? = some y→vals[i]? = some (some v)→∃ c u,cl.lookup y = some c∧s.heap.IsCell c (some u)∧RelV v u
theorem codeRec_frz {P:Program}{w:World}{H:Hp}{h:Heap}{c:Addr}{oc:Obj}{q:Str}(ok:HOk P w H h) (e:H c = some (.frz oc (.own c))) (hc:CodeOf oc q):h.CodeRec (.ref c) q:=by
 obtain ⟨e1,_⟩:=ok c _ e
 obtain ⟨vs,t,d1,d2⟩:=hc
 exact ⟨c,oc,vs,t,rfl,e1,d1,d2⟩
theorem CellsAre.un {s s' : Shared} {H H' : Hp} {cl:List (Str × Addr)}{cap:List Str}{vals:St}{fs:List Addr}(C:CellsAre s H cl cap vals) (u:Un fs [] H H' s.heap s'.heap):CellsAre s' H' cl cap vals:=by
 have kc:∀ c v,H c = none→s.heap.IsCell c v→s'.heap.IsCell c v:=fun c v n ⟨o,ho,hd⟩=>by
  obtain ⟨sl,e⟩:=u.any ho n (by simp)
  exact ⟨_,e,hd⟩
 refine ⟨C.inj,fun x c h=>?_,fun i y v h1 h2=>?_⟩
 ·obtain ⟨⟨v,hv⟩,n⟩:=C.isc x c h
  obtain ⟨o,ho,hd⟩:=id hv
  exact ⟨⟨v,kc c v n hv⟩,u.free c o ho n (by simp)⟩
 ·obtain ⟨c,w,e1,e2,r⟩:=C.val i y v h1 h2
  exact ⟨c,w,e1,kc c _ (C.isc y c e1).2 e2,r⟩
theorem IsLam.same {H H' : Hp} {f:Addr}{q:Str}{params:Arguments}{body:Expr}{sc:Scope}{cl:List (Str × Addr)}(L:IsLam H f q params body sc cl) (k:∀ b o u,H b = some (.frz o u)→H' b = some (.frz o u)):IsLam H' f q params body sc cl:=
 let ⟨pm,ctv,c',oc,h1,h2,h3⟩:=L;⟨pm,ctv,c',oc,k _ _ _ h1,k _ _ _ h2,h3⟩
theorem lookup_mem {α:Type}{y:Str}{u:α}:∀ {l:List (Str × α)},(l.map (·.1)).Nodup→(y,u)∈l→l.lookup y = some u
 | [],_,h=>by simp at h
 | (z,v) :: l,nd,h=>by
  rw [List.lookup_cons]
  rw [List.map_cons,List.nodup_cons] at nd
  rcases List.mem_cons.mp h with e | h
  ·cases e;simp
  ·have:y≠z:=fun e=>nd.1 (e ▸ List.mem_map_of_mem (f:=(·.1)) h)
   have hb:(y == z) = false:=by simpa using this
   rw [hb]
   exact lookup_mem nd.2 h
theorem zip_fst {α β:Type}:∀ (l:List α) (m:List β),(l.zip m).map (·.1) = l.take m.length
 | [],_=>by simp
 | _ :: _,[]=>by simp
 | a :: l,b :: m=>by
  rw [List.zip_cons_cons,List.map_cons,List.length_cons,List.take_succ_cons,zip_fst l m]
theorem lookup_rev {α:Type}{ps:List Str}{us:List α}{i:Nat}{y:Str}{u:α}(nd:ps.Nodup) (hp:ps[i]? = some y) (hu:us[i]? = some u):(ps.zip us).reverse.lookup y = some u:=by
 refine lookup_mem ?_ ?_
 ·rw [List.map_reverse]
  refine (List.reverse_perm _).nodup_iff.mpr ?_
  rw [zip_fst]
  exact nd.sublist (List.take_sublist _ _)
 ·rw [List.mem_reverse]
  refine List.mem_of_getElem? (i:=i) ?_
  rw [List.getElem?_zip_eq_some]
  exact ⟨hp,hu⟩
def lamCx (P:Program) (w:World) (K:PySem.W.Frag) (mg:Str→Option Value) (base:Heap) (N:List Str) (q:Str) (sc:Scope) (f c' : Addr) (cl:List (Str × Addr)) (A:Around) (outer:List Env) (s:Shared) (H:Hp):Cx where
 prog:=P
 w:=w
 K:=K
 mg:=mg
 base:=base
 A:=A.deeper (PySem.W.envX q sc s.heap.objs.size f (.ref c') cl)
 N:=N
 s₀:=s
 H₀:=H
 env:=PySem.W.envX q sc s.heap.objs.size f (.ref c') cl
 outer:=outer
 stack:=PySem.W.envX q sc s.heap.objs.size f (.ref c') cl :: outer
 ex:=[]
 calm:=true
 fn:=fun _=>false
 pn:=[]
 xe:=fun _ _=>False
section
variable {P:Program}{w:World}{K:PySem.W.Frag}{mg:Str→Option Value}{base:Heap}{A:Around}{outer:List Env}{s:Shared}{H:Hp}{f:Addr}{q:Str}{params:Arguments}{body:Expr}{fr sc:Scope}{cl:List (Str × Addr)}{ps cap:List Str}
theorem lam_inv {c' : Addr} {us:List Value}{vs:List V}{vals:St}{h₁:Heap}{tk:Nat}(S:LamScope fr sc ps cap) (hcap:∀ y,sc.names.lookup y = some .free→∃ c,cl.lookup y = some c) (hd:A.handled = none) (e0:Env0 P w K mg base A outer s H) (hl:vs.length = ps.length) (hv:vals.length = cap.length) (r:Vals vs us) (C:CellsAre s H cl cap vals)
  (hns:h₁.Ns s.heap.objs.size (fun x=>(ps.zip us).reverse.lookup x)) (hk:∀ b o,s.heap.get? b = some o→h₁.get? b = some o):
  Inv (lamCx P w K mg base (ps ++ cap) q sc f c' cl A outer s H) [] (vs.map some ++ vals) H { s with heap:=h₁,toks:=tk }:=by
 have noA:∀ b:Addr,b ∉ (lamCx P w K mg base (ps ++ cap) q sc f c' cl A outer s H).ex:=fun b z=>absurd (show b∈([]:List Addr) from z) (by simp)
 have ndp:ps.Nodup:=(List.nodup_append.mp S.nd).1
 refine ⟨⟨e0.mod,S.kind,rfl,rfl,Nat.le_refl _,C.inj,fun y hy=>?_,(fun y c h=>Bool.noConfusion h),fun _=>hd,Around.frames_deeper e0.frames,.inr ⟨rfl,rfl⟩,fun b z=>absurd z (noA b),e0.bs,e0.bsz,fun b _ _=>noA b,fun b z=>absurd z (noA b),e0.funs,e0.frf⟩,
  rfl,e0.bare,Un.kept hk,⟨_,hns,fun i y v h1 h2 h3=>?_⟩,fun y c h=>?_,e0.hok.fresh (Nat.le_refl _),fun y c h=>(C.isc y c h).2,fun p hp=>absurd (show p∈([]:List (Addr × Obj)) from hp) (by simp),e0.hok.kept hk,?_⟩
 ·have hy:sc.names.lookup y = some .cell∨sc.names.lookup y = some .free:=hy
  rcases hy with hy | hy
  ·exact absurd rfl (S.cell _ (PySem.mem_of_lookup hy))
  ·exact hcap y hy
 ·by_cases hi:i < ps.length
  ·have hp:ps[i]? = some y:=by
    have:(ps ++ cap)[i]? = some y:=h1
    rw [List.getElem?_append_left hi] at this;exact this
   have ha:vs[i]? = some v:=by
    rw [List.getElem?_append_left (by rw [List.length_map];omega),List.getElem?_map] at h2
    cases e:vs[i]? with
    | none=>rw [e] at h2;cases h2
    | some a=>rw [e] at h2;cases h2;rfl
   obtain ⟨u,hu,rv⟩:=r.get ha
   refine ⟨u,rv,.inl ⟨S.par y (List.mem_of_getElem? hp),?_⟩⟩
   exact lookup_rev ndp hp hu
  ·have hc:cap[i - ps.length]? = some y:=by
    have:(ps ++ cap)[i]? = some y:=h1
    rw [List.getElem?_append_right (by omega)] at this;exact this
   have ha:vals[i - ps.length]? = some (some v):=by
    rw [List.getElem?_append_right (by rw [List.length_map];omega),List.length_map,hl] at h2;exact h2
   obtain ⟨c,u,e1,e2,rv⟩:=C.val _ y v hc ha
   obtain ⟨o,ho,hd'⟩:=e2
   exact ⟨u,rv,.inr ⟨.inr (S.capl y (List.mem_of_getElem? hc)),c,e1,o,hk _ _ ho,hd'⟩⟩
 ·obtain ⟨⟨v,o,ho,hd'⟩,_⟩:=C.isc y c h
  exact ⟨v,o,hk _ _ ho,hd'⟩
 ·show (vs.map some ++ vals).length = (ps ++ cap).length
  rw [List.length_append,List.length_append,List.length_map,hl,hv]
theorem lam_run {k:Nat}{us:List Value}{vs:List V}{vals:St}{te:TE}{Q:VK}{E:XK}(S:LamScope fr sc ps cap) (hcap:∀ y,sc.names.lookup y = some .free→∃ c,cl.lookup y = some c) (hr:Room (k + 1) A) (e0:Env0 P w K mg base A outer s H) (L:IsLam H f q params body sc cl) (C:CellsAre s H cl cap vals)
  (hbind:∀ (pm ctv:Value) (c' : Addr),bindArgs (PySem.W.kla_fn "<lambda>" q params body sc cl pm (.ref c') ctv) ⟨us,[]⟩ = pure (ps.zip us)) (hl:vs.length = ps.length) (hv:vals.length = cap.length) (r:Vals vs us)
  (hbody:∀ c',Room k (A.deeper (PySem.W.envX q sc s.heap.objs.size f (.ref c') cl))→PE (lamCx P w K mg base (ps ++ cap) q sc f c' cl A outer s H) body te) (hq:te (vs.map some ++ vals) H Q):
  codeAny (model P w) A (.call (.ref f) ⟨us,[]⟩) (CR CX0 outer P w H s Q E) s:=by
 obtain ⟨pm,ctv,c',oc,h1,h2,h3⟩:=L
 obtain ⟨ho,_⟩:=e0.hok f _ h1
 have lim:s.heap.NoLimit:=e0.mod.nolimit.keeps fun b o e=>(e0.bs b o e).1
 refine PySem.W.kla_callFunE hr.depth ho rfl S.co S.gen rfl (codeRec_frz e0.hok h2 h3) ?_
 rw [hbind pm ctv c']
 refine wpAny_pure (wpAny_newFunctionEnv S.cell (fun y hy=>S.par y.1 (List.of_mem_zip hy).1) (fun h₁ hns hsb=>⟨lim.fresh _ hsb,?_⟩) S.kind)
 have old1:∀ b u,s.heap.get? b = some u→h₁.get? b = some u:=fun b u e=>
  hsb.extBut b u (Nat.ne_of_lt (Heap.lt_size e)) (Heap.get?_push_of_some _ e)
 have I:=lam_inv (tk:=s.toks + (ps.zip us).length) (f:=f) (q:=q) (c' := c') S hcap hr.hd e0 hl hv r C hns old1
 refine PySem.W.kla_codeExpr (wpAny_mono (hbody c' (hr.deeper _) [] _ _ H Q I hq) (fun v s' hs=>?_) fun e s' z=>z.elim)
 obtain ⟨x,H',J,rv,q'⟩:=hs
 exact ⟨x,H',J.os,J.bare,J.base,J.hok,rv,q'⟩
end
end L2
namespace L2
open PySem PySem.Spec PyProof.Rows
def BM (mg:Str→Option Value) (h:Heap):Prop:=∃ bm ob,mg "__builtins__" = some (.ref bm)∧bm≠builtinsNs∧h.get? bm = some ob∧ob.cls = .type "module" ∧ ob.dict = some builtinsNs∧ob.data = .plain
theorem among_snoc {pos pos' : Pos} {c v:Value}:∀ (l:List Value),TriplesOk l→codeAmong pos' (l ++ [rawInt pos.line,rawInt pos.col,c]) = some v→codeAmong pos' l = some v∨(pos'.line = pos.line∧pos'.col = pos.col∧v = c):=by
 intro l h
 fun_induction TriplesOk l
  with
 | case1=>
  intro e
  simp only [List.nil_append,rawInt,codeAmong] at e
  split at e
  ·rename_i hc
   simp at hc
   cases e
   exact .inr ⟨by omega,by omega,rfl⟩
  ·cases e
 | case2 a t b u x rest ih=>
  intro e
  simp only [List.cons_append,codeAmong] at e ⊢
  split at e
  ·rename_i hc;rw [if_pos hc];exact .inl e
  ·rename_i hc;rw [if_neg hc];exact ih h e
 | case3 l z1 z2=>exact False.elim h
section
variable {X:Cx}{pins:List (Addr × Obj)}{σ:St}{H:Hp}{s:Shared}{sc:Scope}{ps cap:List Str}{P c:Addr}{cr:Nat→Nat→Option Str}{q:Str}{params:Arguments}{body:Expr}{pos:Pos}
theorem LamScope.cells (S:LamScope X.env.scope sc ps cap) (ok:X.Ok):∀ p∈sc.names,p.2 = .free→∃ c,X.env.cells.lookup p.1 = some c:=
 fun p hp e=>ok.has p.1 (.inl (S.free p hp e))
theorem LamScope.sub (S:LamScope X.env.scope sc ps cap) (ok:X.Ok) {y:Str}{c:Addr}(h:(clOf X.env sc.names []).lookup y = some c):X.env.cells.lookup y = some c:=
 clOf_mem (S.cells ok) (fun _ _ z=>by simp at z) h
theorem Inv.cellsAre (I:Inv X pins σ H s) (S:LamScope X.env.scope sc ps cap) {js:List Nat}(hjs:js.map (fun j=>X.N[j]?) = cap.map some):CellsAre s H (clOf X.env sc.names []) cap (capV σ js):=by
 have ok:=I.ok
 refine ⟨fun x y c h1 h2=>ok.inj x y c (S.sub ok h1) (S.sub ok h2),fun x c h=>⟨I.cell x c (S.sub ok h),I.freeC x c (S.sub ok h)⟩,fun i y v e1 e2=>?_⟩
 have hy:y∈cap:=List.mem_of_getElem? e1
 unfold capV at e2
 rw [List.getElem?_map] at e2
 cases ej:js[i]? with
 | none=>rw [ej] at e2;cases e2
 | some j=>
  rw [ej] at e2
  have e2'' : (σ[j]?).join = some v:=Option.some.inj e2
  have eN:X.N[j]? = some y:=by
   have:=congrArg (fun l=>l[i]?) hjs
   simp only [List.getElem?_map,ej,e1,Option.map_some] at this
   exact Option.some.inj this
  have eσ:σ[j]? = some (some v):=by
   cases z:σ[j]? with
   | none=>rw [z] at e2'';cases e2''
   | some w' =>
    rw [z] at e2''
    have:w' = some v:=by simpa using e2''
    rw [this]
  have kc:X.env.scope.names.lookup y = some .cell:=S.free (y,.free) (S.caps y hy) rfl
  obtain ⟨m0,hn0,hl0⟩:=I.loc
  obtain ⟨u,ru,lk⟩:=hl0 j y v eN eσ (.inr (.inl kc))
  rcases lk with ⟨k,_⟩ | ⟨_,c,ec,hc⟩
  ·have k' : X.env.scope.names.lookup y = some .local:=k
   rw [kc] at k';cases k'
  ·obtain ⟨c',hc'⟩:=Option.isSome_iff_exists.mp (clOf_has (env:=X.env) (acc:=[]) (S.caps y hy))
   have hcc:c' = c:=Option.some.inj ((S.sub ok hc').symm.trans ec)
   subst hcc
   exact ⟨c',u,hc',hc,ru⟩
def tLam (P:Addr) (cr:Nat→Nat→Option Str) (q:Str) (params:Arguments) (body:Expr) (sc:Scope) (cl:List (Str × Addr)):TE:=fun σ H Q=>H P = some (.tbl cr)∧∀ f H',H f = none→Same H H' → IsLam H' f q params body sc cl→Q (.ref f) H'
theorem pe_lam (S:LamScope X.env.scope sc ps cap) (hcode:X.env.code = .ref c) (C:PySem.W.CodeHd X.base c P) (hbm:BM X.mg X.base) (hq:q = X.env.qual ++ "<lambda>") (hcr:cr pos.line pos.col = some q) (hdef:defaultsOf params X.env = ([],[]):=by rfl):
  PE X (.Lambda params body sc pos) (tLam P cr q params body sc (clOf X.env sc.names [])):=by
 intro pins s σ H Q I h
 obtain ⟨hP,h⟩:=h
 refine PySem.W.kla_eval hdef ?_
 rw [← hq]
 obtain ⟨tb,hget,ht3,hcodes⟩:=I.hok P _ hP
 have hg:s.heap.Ns mainGlobals X.mg:=I.mod.glob.keeps I.bk
 have hgP:mainGlobals≠P:=fun z=>by
  obtain ⟨o,es,ep,e,hd,_⟩:=hg
  rw [z,hget] at e;cases e;cases hd
 have hb:s.heap.BuiltinsAt X.mg P:=by
  obtain ⟨bm,ob,b1,b2,b3,b4,b5,b6⟩:=hbm
  have e:=I.bk _ _ b3
  refine ⟨bm,ob,b1,b2,fun z=>?_,fun z=>?_,e,b4,b5,b6⟩
  ·obtain ⟨o,es,ep,e',hd,_⟩:=hg
   rw [← z,e] at e';cases e';rw [b6] at hd;cases hd
  ·rw [z,hget] at e;cases e;cases b4
 have hcl:closureFor sc X.env = pure (clOf X.env sc.names []):=closureFor_eq (S.cells I.ok)
 cases hf:codeAmong pos tb.toList with
 | some cv=>
  obtain ⟨c',oc,q',rfl,e2,e3,e4⟩:=hcodes pos cv hf
  rw [hcr] at e2;cases e2
  refine PySem.W.kla_makeFunctionHit hcl I.ok.glob hg hcode (C.keeps I.bk) hget ht3 hf hb fun ctv h' tk hk hsz=>?_
  have hfr:H h'.objs.size = none:=I.hok.fresh hsz
  refine ⟨.ref h'.objs.size,upd H h'.objs.size (.frz (PySem.W.kla_obj "<lambda>" q params body sc (clOf X.env sc.names []) ((X.mg "__name__").getD .none) c' ctv) (.own h'.objs.size)),I.laid (t' := tk) (fun b u e=>Heap.get?_push_of_some _ (hk b u e)) hsz ⟨Heap.get?_push_size _ rfl,_,Heap.get?_push_size _ rfl⟩,rfl,h _ _ hfr (fun b u e=>by rw [upd_ne (ne_of_none e hfr)];exact e) ⟨_,_,c',oc,upd_same,?_,e4⟩⟩
  rw [upd_ne (ne_of_none e3 hfr)];exact e3
 | none=>
  refine PySem.W.kla_makeFunction hcl I.ok.glob hg hcode (C.keeps I.bk) hget ht3 hf hgP hb fun c' ctv h' tk hx hge hlt hrec htb=>?_
  obtain ⟨c2,oc,vs,tt,e2,hoc,hd,hv⟩:=hrec
  cases e2
  have hcn:H c' = none:=I.hok.fresh hge
  have hsz:s.heap.objs.size≤h'.objs.size:=Nat.le_of_lt (Nat.lt_of_le_of_lt hge hlt)
  have hfr:H h'.objs.size = none:=I.hok.fresh hsz
  have hcf:c' ≠ h'.objs.size:=Nat.ne_of_lt hlt
  have hPc:P≠c' := ne_of_none hP hcn
  have hPf:P≠h'.objs.size:=ne_of_none hP hfr
  have sm:∀ b u,H b = some u→upd (upd H c' (.frz oc (.own c'))) h'.objs.size (.frz (PySem.W.kla_obj "<lambda>" q params body sc (clOf X.env sc.names []) ((X.mg "__name__").getD .none) c' ctv) (.own h'.objs.size)) b = some u:=fun b u e=>by
   rw [upd_ne (ne_of_none e hfr),upd_ne (ne_of_none e hcn)];exact e
  have cc:upd (upd H c' (.frz oc (.own c'))) h'.objs.size (.frz (PySem.W.kla_obj "<lambda>" q params body sc (clOf X.env sc.names []) ((X.mg "__name__").getD .none) c' ctv) (.own h'.objs.size)) c' = some (.frz oc (.own c')):=by
   rw [upd_ne hcf,upd_same]
  have hk:∀ b o,b≠P→s.heap.get? b = some o→(h'.push (PySem.W.kla_obj "<lambda>" q params body sc (clOf X.env sc.names []) ((X.mg "__name__").getD .none) c' ctv)).get? b = some o:=fun b o hb e=>Heap.get?_push_of_some _ (hx b o hb e)
  refine ⟨.ref h'.objs.size,_,I.un (t' := tk) ⟨fun b o e n _ _=>hk b o (fun z=>by rw [z,hP] at n;cases n) e,fun b o e n _ _=>⟨o.slots,hk b o (fun z=>by rw [z,hP] at n;cases n) e⟩,fun b o e n _=>?_,fun b o e _=>?_,fun b xs e=>sm b _ e,fun b o u e=>sm b _ e,fun b r e=>sm b _ e⟩ ?_,rfl,h _ _ hfr sm ⟨_,_,c',oc,upd_same,cc,vs,tt,hd,hv⟩⟩
  ·have h1:b≠c' := Nat.ne_of_lt (Nat.lt_of_lt_of_le (Heap.lt_size e) hge)
   have h2:b≠h'.objs.size:=Nat.ne_of_lt (Nat.lt_of_lt_of_le (Heap.lt_size e) hsz)
   rw [upd_ne h2,upd_ne h1];exact n
  ·by_cases hb:b = P
   ·subst hb;exact ⟨_,Heap.get?_push_of_some _ htb⟩
   ·exact ⟨o,hk b o hb e⟩
  ·intro b u e
   by_cases h1:b = h'.objs.size
   ·subst h1
    rw [upd_same] at e;cases e
    exact ⟨Heap.get?_push_size _ rfl,_,Heap.get?_push_size _ rfl⟩
   ·by_cases h2:b = c'
    ·subst h2
     rw [cc] at e;cases e
     exact ⟨Heap.get?_push_of_some _ hoc,_,Heap.get?_push_of_some _ hoc⟩
    ·rw [upd_ne h1,upd_ne h2] at e
     by_cases h3:b = P
     ·subst h3
      rw [hP] at e;cases e
      refine ⟨_,Heap.get?_push_of_some _ htb,?_,fun pos' v e=>?_⟩
      ·rw [Array.toList_append];exact TriplesOk_snoc _ _ _ _ ht3
      ·rw [Array.toList_append] at e
       rcases among_snoc (pos:=pos) tb.toList ht3 e with e | ⟨e1,e2,rfl⟩
       ·obtain ⟨d,od,q',z1,z2,z3,z4⟩:=hcodes pos' v e
        exact ⟨d,od,q',z1,z2,sm _ _ z3,z4⟩
       ·exact ⟨c',oc,q,rfl,by rw [e1,e2];exact hcr,cc,vs,tt,hd,hv⟩
     ·refine (I.hok b u e).stay (fun d v hd' e' => hk d v ?_ e') (fun d e' => sm d _ e') (fun d xs e' => sm d _ e') fun d o' u' e' => sm d _ e'
      rintro rfl
      rcases hd' with z | z
      ·exact h3 z.symm
      ·rw [hP] at z;cases z
end
end L2
namespace L2
open PySem PySem.Spec PyProof.Rows
abbrev SpS:=Shared→List V→Hp→VK→Prop
structure FnOkS (P:Program) (w:World) (K:PySem.W.Frag) (mg:Str→Option Value) (base:Heap) (k:Nat) (f:Addr) (fd:FuncData) (ps:List Str) (sp:SpS):Prop where
 len:∀ s vs H Q,sp s vs H Q→vs.length = ps.length
 run:∀ (A:Around) (outer:List Env) (s:Shared) (H:Hp) (args:Args) (us:List Value) (vs:List V) (Q:VK),Room k A→Env0 P w K mg base A outer s H→BindsTo s fd args (ps.zip us)→Vals vs us→sp s vs H Q→
  codeAny (model P w) A (.call (.ref f) args) (CR CX0 outer P w H s Q E0) s
theorem fn_ofS {P:Program}{w:World}{K:PySem.W.Frag}{mg:Str→Option Value}{base:Heap}{k:Nat}{f:Addr}{name qual:Str}{params:Arguments}{body:List Stmt}{scope:Scope}{dV kV doc pm cdv ct oc:Value}{an od:Option Addr}
  {osl:Array (Option Value)}{N ps:List Str}{sp:SpS}(lk:K.lookup f = some ⟨oc,od,.func (PySem.W.fnOf name qual params body scope dV kV doc pm an cdv ct),osl⟩) (hcd:PySem.W.codeIn K cdv qual = true) (S:FnScope N ps scope)
  (len:∀ s vs H Q,sp s vs H Q→vs.length = ps.length)
  (hbody:∀ (A:Around) (outer:List Env) (s:Shared) (H:Hp) (vs:List V) (Q:VK),Room k (A.deeper (envOfC qual scope s.heap.objs.size f cdv))→sp s vs H Q→
   ∃ t,PSs (cxOf CX0 P w K mg base N qual scope f cdv A outer s H E0) body t∧t { nx:=fun _ H' => Q .non H',rt:=Q } (start N vs) H):
  FnOkS P w K mg base (k + 1) f (PySem.W.fnOf name qual params body scope dV kV doc pm an cdv ct) ps sp:=by
 refine ⟨len,fun A outer s H args us vs Q hr e0 hb r hsp=>?_⟩
 have hl:=len _ _ _ _ hsp
 have KX:K.In s.heap:=e0.mod.kin.keeps fun b o e=>(e0.bs b o e).1
 have lim:s.heap.NoLimit:=e0.mod.nolimit.keeps fun b o e=>(e0.bs b o e).1
 have hkind:∀ y∈ps.zip us,scope.names.lookup y.1 = some .local∨(scope.names.lookup y.1 = some .cell∧((cellsFrom (s.heap.objs.size + 1) scope.names []).lookup y.1).isSome = true):=fun ⟨n,v⟩ hy=>by
  rcases S.par n (List.of_mem_zip hy).1 with q | q
  ·exact .inl q
  ·exact .inr ⟨q,PySem.W.cellsFrom_some _ _ _ (.inl q)⟩
 refine codeAny_call_function hr.depth (KX _ _ lk) rfl S.co S.gen rfl (PySem.W.codeRec_of KX hcd) (hb _ _ _ _ ?_)
 refine wpAny_newFunctionEnv_cells S.kind hkind fun env he s1 x=>?_
 subst he
 refine ⟨lim.keeps x.toInCall.keep,codeAny_func ?_⟩
 obtain ⟨t,ht,hq⟩:=hbody A outer s H vs Q (hr.deeper _) hsp
 have I:Inv (cxOf CX0 P w K mg base N qual scope f cdv A outer s H E0) [] (start N vs) H s1:=inv_start S hr.hd e0 hl r x
 refine wpAny_mono (ht [] s1 (start N vs) H _ I hq) (fun fl s' hs=>?_) fun e s' hs=>hs
 have fin:∀ {σ' : St} {H' : Hp} {v:V}{u:Value},Inv (cxOf CX0 P w K mg base N qual scope f cdv A outer s H E0) [] σ' H' s' → RelV v u→Q v H' → CE outer P w H s Q u s' :=
  fun {σ' H' v u} J rv q=>⟨v,H',J.os,J.bare,J.base,J.hok,rv,q⟩
 cases fl with
 | ret u=>
  obtain ⟨v,σ',H',J,rv,q⟩:=hs
  exact fin J rv q
 | next=>
  obtain ⟨σ',H',J,q⟩:=hs
  exact fin (v:=V.non) (u:=Value.none) J rfl q
 | brk=>
  obtain ⟨_,_,_,q⟩:=hs
  exact False.elim q
 | cont=>
  obtain ⟨_,_,_,q⟩:=hs
  exact False.elim q
section
variable {P:Program}{w:World}{K:PySem.W.Frag}{mg:Str→Option Value}{base:Heap}
theorem Fun.okS {x qual:Str}{st:Stmt}{f:Addr}{fd:FuncData}{N ps:List Str}{k:Nat}{sp:SpS}(F:Fun K x qual st f fd) (S:FnScope N ps (defScope st)) (len:∀ s vs H Q,sp s vs H Q→vs.length = ps.length)
  (hbody:∀ (cdv:Value) (A:Around) (outer:List Env) (s:Shared) (H:Hp) (vs:List V) (Q:VK),Room k (A.deeper (envOfC qual (defScope st) s.heap.objs.size f cdv))→sp s vs H Q→
   ∃ t,PSs (cxOf CX0 P w K mg base N qual (defScope st) f cdv A outer s H E0).nox (defBody st) t∧t { nx:=fun _ H' => Q .non H',rt:=Q } (start N vs) H):FnOkS P w K mg base (k + 1) f fd ps sp:=by
 obtain ⟨oc,od,kV,doc,pm,an,cdv,ct,osl,rfl,lk,hcd⟩:=F.ex
 refine fn_ofS lk hcd S len fun A outer s H vs Q hr hsp=>?_
 obtain ⟨t,h,q⟩:=hbody cdv A outer s H vs Q hr hsp
 exact ⟨t,h.nox,q⟩
theorem Fun.okC {x qual:Str}{st:Stmt}{f:Addr}{fd:FuncData}{N ps:List Str}{k:Nat}{sp:Sp}(F:Fun K x qual st f fd) (S:FnScope N ps (defScope st)) (len:∀ vs H Q E,sp vs H Q E→vs.length = ps.length)
  (hbody:∀ (cdv:Value) (A:Around) (outer:List Env) (s:Shared) (H:Hp) (vs:List V) (Q:VK) (E:XK),cdv = fd.code→Room k (A.deeper (envOfC qual (defScope st) s.heap.objs.size f cdv))→sp vs H Q E→
   ∃ t,PSs (cxOf CX0 P w K mg base N qual (defScope st) f cdv A outer s H E).nox (defBody st) t∧t { nx:=fun _ H' => Q .non H',rt:=Q } (start N vs) H):FnOk P w K mg base CX0 (k + 1) f fd ps sp:=by
 obtain ⟨oc,od,kV,doc,pm,an,cdv,ct,osl,rfl,lk,hcd⟩:=F.ex
 refine fn_of lk hcd S len fun A outer s H vs Q E hr hsp=>?_
 obtain ⟨t,h,q⟩:=hbody cdv A outer s H vs Q E rfl hr hsp
 exact ⟨t,h.nox,q⟩
end
section
variable {X:Cx}{k i:Nat}{x:Str}{f:Addr}{q:Str}{params:Arguments}{body:Expr}{fr sc:Scope}{cl:List (Str × Addr)}{ps cap:List Str}{vals:St}{te:TE}{e:Expr}{es:List Expr}{t:TA}{p pos:Pos}
end
section
variable {X:Cx}{kk:Nat}{x y:Str}{f c P:Addr}{fd:FuncData}{cr:Nat→Nat→Option Str}{q:Str}{params:Arguments}{body e0:Expr}{sc:Scope}{cap:List Str}{t0 te:TE}{p pos lpos:Pos}
end
end L2
namespace L2
open PySem PySem.Spec PyProof.Rows
theorem mem_look {β:Type}{a:Addr}{b:β}:∀ {l:List (Addr × β)},l.lookup a = some b→(a,b)∈l
 | [],h=>by simp at h
 | (z,v) :: l,h=>by
  rw [List.lookup_cons] at h
  cases hb:a == z with
  | true=>
   rw [hb] at h
   have:a = z:=by simpa using hb
   cases h;subst this;exact List.mem_cons_self
  | false=>rw [hb] at h;exact List.mem_cons_of_mem _ (mem_look h)
theorem look_mem {β:Type}{a:Addr}{b:β}:∀ {l:List (Addr × β)},(l.map (·.1)).Nodup→(a,b)∈l→l.lookup a = some b
 | [],_,h=>by simp at h
 | (z,v) :: l,nd,h=>by
  rw [List.lookup_cons]
  rw [List.map_cons,List.nodup_cons] at nd
  rcases List.mem_cons.mp h with e | h
  ·cases e;simp
  ·have:a≠z:=fun e=>nd.1 (e ▸ List.mem_map_of_mem (f:=(·.1)) h)
   have hb:(a == z) = false:=by simpa using this
   rw [hb]
   exact look_mem nd.2 h
structure Bs (K:PySem.W.Frag) (mg:Str→Option Value) (base:Heap):Prop where
 kin:K.In base
 bm:BM mg base
abbrev Tabs:=List (Addr × (Nat→Nat→Option Str))
def TabsIn (H:Hp) (tabs:Tabs):Prop:=∀ p∈tabs,H p.1 = some (.tbl p.2)
theorem law_callT {P:Program}{w:World}{K:PySem.W.Frag}{mg mb:Str→Option Value}{k:Nat}{fa a:Addr}{fd:FuncData}{x:Str}{sp:Sp}{s₁:Shared}{vs:List Value}{ns:List Int}(tabs:Tabs)
  (KX:K.In s₁.heap) (hns:s₁.heap.Ns mainGlobals mg) (hb:s₁.heap.Ns builtinsNs mb) (hbb:∀ x:Str,x≠ "__name__" → mb x = bootBuiltins x) (hlim:s₁.heap.NoLimit) (hg:s₁.gens = #[])
  (ha:s₁.heap.get? a = some { cls:=.type "list",data:=.seq vs.toArray }) (hi:IntsAre vs ns) (hl:ns.length≤sizeLine) (hr:Room k callerA)
  (hbm:BM mg s₁.heap) (hT:∀ p∈tabs,s₁.heap.get? p.1 = some { cls:=.none,data:=.fields #[] }) (hIs:∀ p∈tabs,isCodeTable s₁.heap p.1) (hKt:∀ p∈tabs,K.lookup p.1 = none) (hnd:(tabs.map (·.1)).Nodup)
  (F:∀ base:Heap,K.In base→base.Ns mainGlobals mg→Bs K mg base→FnOk P w K mg base CX0 k fa fd [x] sp) (hbind:∀ (s:Shared) (u:Value),BindsTo s fd ⟨[u],[]⟩ [(x,u)])
  (hsp:∀ H:Hp,TabsIn H tabs→SqL K H a (ns.map V.int)→sp [.ref a] H (fun v _=>v = .bl true) fun _ _ _=>False):
  codeAny (model P w) callerA (.call (.ref fa) ⟨[.ref a],[]⟩) (fun r s' => r = .ok (.ret (.bool true))∧OldK s₁.heap s'.heap∧s'.os = s₁.os∧AllBare s'.gens) s₁:=by
 have rv:=vals_ints hi
 have lenV:=hi.length
 have core:∀ H:Hp,TabsIn H tabs→SqL K H a (ns.map V.int)→HOk P w H s₁.heap→(∀ b,H b≠none→(b = a∧∃ o xs,H b = some (.frz o (.lst xs)))∨∃ p∈tabs,p.1 = b)→(H a≠none→K.lookup a = none)→
   codeAny (model P w) callerA (.call (.ref fa) ⟨[.ref a],[]⟩) (fun r s' => r = .ok (.ret (.bool true))∧OldK s₁.heap s'.heap∧s'.os = s₁.os∧AllBare s'.gens) s₁:=by
  intro H hTb hS hok hA hK
  have base_of:∀ {b:Addr}{o:Obj},s₁.heap.get? b = some o→H b = none→(hidT s₁.heap H).get? b = some o:=fun e n=>hidT_get e n
  have noT:∀ {b:Addr}{o:Obj},s₁.heap.get? b = some o→(∀ vs n,o.data≠.seq vs n)→(∀ vs,o.data≠.fields vs)→H b = none:=fun {b o} e d1 d2=>by
   cases q:H b with
   | none=>rfl
   | some u=>
    rcases hA b (by rw [q];simp) with ⟨e',_⟩ | ⟨p,hp,e'⟩
    ·subst e'
     rw [ha] at e;cases e
     exact absurd rfl (d1 _ _)
    ·subst e'
     rw [hT p hp] at e;cases e
     exact absurd rfl (d2 _)
  have noA:∀ {b:Addr}{o:Obj}{es:Array DictEntry}{ep:Nat},s₁.heap.get? b = some o→o.data = .dict es ep→H b = none:=fun {b o es ep} e d=>noT e (fun vs n z=>by rw [d] at z;cases z) fun vs z=>by rw [d] at z;cases z
  have nsK:∀ {b:Addr}{m:Str→Option Value},s₁.heap.Ns b m→(hidT s₁.heap H).Ns b m:=fun {b m} ⟨o,es,ep,e,d,r⟩=>⟨o,es,ep,base_of e (noA e d),d,r⟩
  have hKb:K.In (hidT s₁.heap H):=fun b o e=>base_of (KX b o e) (by
   cases q:H b with
   | none=>rfl
   | some u=>
    rcases hA b (by rw [q];simp) with ⟨e',_⟩ | ⟨p,hp,e'⟩
    ·subst e'
     rw [hK (by rw [q];simp)] at e;cases e
    ·subst e'
     rw [hKt p hp] at e;cases e)
  have hBs:Bs K mg (hidT s₁.heap H):=⟨hKb,by
   obtain ⟨bm,ob,b1,b2,b3,b4,b5,b6⟩:=hbm
   exact ⟨bm,ob,b1,b2,base_of b3 (noT b3 (fun vs n z=>by rw [b6] at z;cases z) fun vs z=>by rw [b6] at z;cases z),b4,b5,b6⟩⟩
  have hM:Mod K mg (hidT s₁.heap H):=⟨hKb,nsK hns,⟨mb,nsK hb,hbb⟩,let ⟨mc,h1,h2⟩:=hlim;⟨mc,nsK h1,h2⟩⟩
  have e0:Env0 P w K mg (hidT s₁.heap H) callerA [] s₁ H:=⟨rfl,hM,fun b o e=>of_hidT e,Nat.le_of_eq (hidT_size _ _),trivial,fun b hb=>absurd (show b∈([]:List Addr) from hb) (by simp),hok,.of_eq hg⟩
  refine codeAny_mono ((F _ hKb (nsK hns) hBs).run callerA [] s₁ H ⟨[.ref a],[]⟩ [.ref a] [.ref a] _ _ hr e0 (hbind s₁ (.ref a)) (.cons rfl .nil) (hsp H hTb hS)) fun r s' h=>?_
  cases r with
  | error e=>exact False.elim h
  | ok fl=>
   cases fl with
   | next=>exact False.elim h
   | brk=>exact False.elim h
   | cont=>exact False.elim h
   | ret u=>
    obtain ⟨v,H',os,bare,un,hok',r',q⟩:=h
    have q' : v = .bl true:=q
    subst q'
    obtain rfl:u = Value.bool true:=r'
    refine ⟨rfl,⟨fun b o e=>?_,fun b o e=>un.there b o e (by simp)⟩,os,bare⟩
    cases q:H b with
    | none=>exact .inl (un.keep b o e q (by intro z;exact absurd (show b∈([]:List Addr) from z) (by simp)) (by simp))
    | some u=>
     rcases hA b (by rw [q];simp) with ⟨e',ob,xs,z⟩ | ⟨p,hp,e'⟩
     ·have z2:=un.frzs b ob _ z
      obtain ⟨e1,_⟩:=hok b _ z
      obtain ⟨e2,_⟩:=hok' b _ z2
      rw [e] at e1;cases e1
      exact .inl e2
     ·subst e'
      have z:=un.tbls _ _ (hTb p hp)
      obtain ⟨ps,e1,_⟩:=hok' _ _ z
      rw [hT p hp] at e;cases e
      exact .inr (.inl ⟨hIs p hp,rfl,#[],ps,rfl,by rw [Array.empty_append];exact e1⟩)
 have hpa:∀ p∈tabs,p.1≠a:=fun p hp z=>by
  have:=hT p hp
  rw [z,ha] at this;cases this
 have tl:∀ p∈tabs,tabs.lookup p.1 = some p.2:=fun p hp=>look_mem hnd hp
 have okT:∀ (H:Hp) (b:Addr) (cr:Nat→Nat→Option Str),tabs.lookup b = some cr→ObjOk P w H s₁.heap b (.tbl cr):=fun H b cr e=>
  ⟨#[],hT (b,cr) (mem_look e),trivial,fun pos v z=>by cases z⟩
 cases hk:K.lookup a with
 | some o=>
  have e:=KX a o hk
  rw [ha] at e
  cases e
  refine core (fun b=>(tabs.lookup b).map HO.tbl) (fun p hp=>by show (tabs.lookup p.1).map HO.tbl = _;rw [tl p hp];rfl) (.inr ⟨_,vs.toArray,_,hk,rfl,rfl,rfl,by rw [List.size_toArray,lenV];exact hl,by simpa using rv⟩) (fun b u z=>?_) (fun b z=>?_) fun z=>?_
  ·obtain ⟨cr,e1,e2⟩:=Option.map_eq_some_iff.mp z
   subst e2
   exact okT _ b cr e1
  ·replace z:(tabs.lookup b).map HO.tbl≠none:=z
   cases e:tabs.lookup b with
   | none=>rw [e] at z;exact absurd rfl z
   | some cr=>exact .inr ⟨_,mem_look e,rfl⟩
  ·replace z:(tabs.lookup a).map HO.tbl≠none:=z
   cases e:tabs.lookup a with
   | none=>rw [e] at z;exact absurd rfl z
   | some cr=>exact absurd rfl (hpa _ (mem_look e))
 | none=>
  refine core (fun b=>if b = a then some (.frz { cls:=.type "list",data:=.seq vs.toArray } (.lst (ns.map V.int))) else (tabs.lookup b).map HO.tbl) (fun p hp=>?_) (.inl (.inr ⟨{ cls:=.type "list",data:=.seq vs.toArray },if_pos rfl⟩)) (fun b u z=>?_) (fun b z=>?_) fun _=>hk
  ·show (if p.1 = a then _ else (tabs.lookup p.1).map HO.tbl) = _
   rw [if_neg (hpa p hp),tl p hp];rfl
  ·by_cases hb:b = a
   ·have z' := (if_pos hb).symm.trans z
    cases z'
    subst hb
    exact ⟨ha,by rw [List.length_map];exact hl,vs,_,rv,ha⟩
   ·have z' := (if_neg hb).symm.trans z
    obtain ⟨cr,e1,e2⟩:=Option.map_eq_some_iff.mp z'
    subst e2
    exact okT _ b cr e1
  ·by_cases hb:b = a
   ·exact .inl ⟨hb,_,_,if_pos hb⟩
   ·replace z:(if b = a then _ else (tabs.lookup b).map HO.tbl)≠none:=z
    rw [if_neg hb] at z
    cases e:tabs.lookup b with
    | none=>rw [e] at z;exact absurd rfl z
    | some cr=>exact .inr ⟨_,mem_look e,rfl⟩
theorem walk_ofT {l:PySem.W.OpenLaw}{n k:Nat}{q:Program}{loose:List Str}{XP:(Str→Option Value)→Heap→Prop}{YP:World→Heap→Prop}{d:DefRec}{K:Params→PySem.W.Frag}{sp:World→Sp}{x:Str}(tabs:World→Tabs)
  (hn:l.most = some n) (hn2:n≤sizeLine) (hdf:d.params.defaults = []) (hr:Room k callerA)
  (hY:∀ (w:World) (h:Heap),YP w h→(K w.params).In h∧∀ p∈tabs w,h.get? p.1 = some { cls:=.none,data:=.fields #[] })
  (F:∀ (w:World) (mg:Str→Option Value) (fa:Addr) (h:Heap),(K w.params).In h→h.Ns mainGlobals mg→mg d.name = some (.ref fa)→
   ∃ fd:FuncData,(∀ (s:Shared) (u:Value),BindsTo s fd ⟨[u],[]⟩ [(x,u)])∧((∀ p∈tabs w,(K w.params).lookup p.1 = none)∧(∀ p∈tabs w,isCodeTable h p.1)∧((tabs w).map (·.1)).Nodup)∧
    ∀ base:Heap,(K w.params).In base→base.Ns mainGlobals mg→Bs (K w.params) mg base→FnOk l.prog w (K w.params) mg base CX0 k fa fd [x] (sp w))
  (hsp:∀ (w:World) (H:Hp) (a:Addr) (ns:List Int),ns.length≤n→TabsIn H (tabs w)→SqL (K w.params) H a (ns.map V.int)→sp w [.ref a] H (fun v _=>v = .bl true) fun _ _ _=>False):
  PySem.W.WalkO q loose XP YP l.row.toRowW d [] (fun f vs=>PySem.call f vs):=by
 refine Att.attach_call hn hdf fun w s₀ s₁ mg mb fa o pm cd doc a vs ns G Y ho hd hcd hmg hobj hints hlen hg=>?_
 obtain ⟨KX,hT⟩:=hY w _ Y
 obtain ⟨fd,hb,⟨h1,h2,h3⟩,hF⟩:=F w mg fa _ KX G.T.g hmg
 exact law_callT (tabs w) KX G.T.g G.T.b G.T.builtins G.T.nolimit hg hobj hints (Nat.le_trans hlen hn2) hr G.T.bmain hT h2 h1 h3 hF hb (fun H hO hS=>hsp w H a ns hlen hO hS)
def spLawT (K:PySem.W.Frag) (tabs:Tabs):Sp:=fun vs H Q _=>∃ (a:Addr) (ns:List Int),vs = [.ref a]∧SqL K H a (ns.map V.int)∧ns.length≤63∧TabsIn H tabs∧∀ H',Q (.bl true) H'
theorem isTab_of {K:PySem.W.Frag}{h:Heap}{c P:Addr}(X:K.In h) (e:PySem.W.codeHdIn K c P = true):isCodeTable h P:=by
 obtain ⟨o,vs,file,tf,flags,tg,inF,text,tt,e1,e2,e3,e4,_⟩:=PySem.W.codeHd_of_K X e
 exact ⟨c,o,vs,e1,e2,e3,e4⟩
end L2
namespace L2
open PySem PySem.Spec PyProof.Rows
theorem cellsFrom_app:∀ (names:List (Str × NameKind)) (n:Nat) (a b:List (Str × Addr)),cellsFrom n names (a ++ b) = cellsFrom n names a ++ b
 | [],_,_,_=>rfl
 | (x,k) :: r,n,a,b=>by
  unfold cellsFrom
  split
  ·rw [← List.cons_append];exact cellsFrom_app r (n + 1) _ b
  ·exact cellsFrom_app r n a b
theorem lookup_app {α:Type}{y:Str}{l m:List (Str × α)}:(l ++ m).lookup y = (l.lookup y).or (m.lookup y):=by
 induction l with
 | nil=>simp
 | cons p r ih=>
  obtain ⟨z,v⟩:=p
  rw [List.cons_append,List.lookup_cons,List.lookup_cons]
  split
  ·simp
  ·exact ih
theorem forIn_same {α:Type}{f g:α→PUnit→Sem (ForInStep PUnit)}:∀ (l:List α),(∀ x∈l,f x ⟨⟩ = g x ⟨⟩)→forIn l PUnit.unit f = forIn l PUnit.unit g
 | [],_=>rfl
 | x :: l,h=>by
  rw [List.forIn_cons,List.forIn_cons,h x List.mem_cons_self]
  congr 1
  funext r
  cases r with
  | done b=>rfl
  | yield b=>exact forIn_same l fun y hy=>h y (List.mem_cons_of_mem _ hy)
theorem store_same {e e' : Env} {n:Str}{v:Value}(h1:e.scope = e'.scope) (h2:e.locals = e'.locals) (h3:e.globals = e'.globals) (h4:e.cells.lookup n = e'.cells.lookup n):storeName e n v = storeName e' n v:=by
 unfold storeName
 have k1:e.kindOf n = e'.kindOf n:=by unfold Env.kindOf;rw [h1]
 have k2:e.blockKind = e'.blockKind:=by unfold Env.blockKind;rw [h1]
 have k3:cellOf e n = cellOf e' n:=by unfold cellOf;rw [h4]
 have k4:localSet e n v = localSet e' n v:=by unfold localSet;rw [h2]
 rw [k1,k2,k3,k4,h1,h2,h3]
section
variable {M:Model}{A:Around}{E:Value→Shared→Prop}{s:Shared}
theorem newEnv_both {scope:Scope}{globals:Addr}{cl:List (Str × Addr)}{binds:List (Str × Value)}{qual:Str}{func:Option Addr}{code:Value}{builtins:Addr}{Q:Env→Shared→Prop}(hk:scope.kind = .function)
  (hkind:∀ x∈binds,scope.names.lookup x.1 = some .local∨(scope.names.lookup x.1 = some .cell∧((cellsFrom (s.heap.objs.size + 1) scope.names []).lookup x.1).isSome = true))
  (hcl:∀ x∈binds,scope.names.lookup x.1 = some .local→cl.lookup x.1 = none)
  (hQ:∀ env',env' = newEnv scope s.heap.objs.size globals (cellsFrom (s.heap.objs.size + 1) scope.names []) qual func code none builtins→∀ s',InCallC s env'.locals (bindL env'.kindOf binds fun _=>none) env'.cells (bindC env'.kindOf binds fun _=>none) s' →
   Q (newEnv scope s.heap.objs.size globals (cellsFrom (s.heap.objs.size + 1) scope.names [] ++ cl) qual func code none builtins) s'):
  wpAny M A (newFunctionEnv scope globals cl binds qual func code none builtins) Q E s:=by
 simp only [newFunctionEnv,Option.isSome_none,Bool.false_eq_true,if_false]
 refine wpAny_bind (wpAny_alloc ?_)
 refine wpAny_bind (wpAny_layCells _ (fun name kind cells=>by cases hkc:kind == NameKind.cell <;> simp [hkc]) _ _ _ _ ?_)
 have ok:=cellsFrom_ok scope.names (s.heap.push { cls:=.type "frame",data:=.dict #[] }) (s.heap.objs.size + 1) [] ⟨fun _ _ hm=>(nomatch hm),List.Pairwise.nil⟩ (by rw [Heap.size_push];exact Nat.le_refl _)
 rw [Heap.size_push] at ok
 rw [show ({ s with heap:=s.heap.push { cls:=.type "frame",data:=.dict #[] } }:Shared).heap.objs.size = s.heap.objs.size + 1 from Heap.size_push ..]
 rw [show cellsFrom (s.heap.objs.size + 1) scope.names cl = cellsFrom (s.heap.objs.size + 1) scope.names [] ++ cl from cellsFrom_app _ _ [] cl]
 refine wpAny_bind ?_
 rw [forIn_same (g:=fun (x:Str × Value) _=>do storeName (newEnv scope s.heap.objs.size globals (cellsFrom (s.heap.objs.size + 1) scope.names []) qual func code none builtins) x.1 x.2;pure (.yield ⟨⟩)) binds fun x hx=>?_]
 ·refine wpAny_bindParams (s₀:=s) (env:=newEnv scope s.heap.objs.size globals (cellsFrom (s.heap.objs.size + 1) scope.names []) qual func code none builtins)
   _ (fun _ _ _=>rfl) hk binds (fun _=>none) (fun _=>none) _ _
   ⟨⟨⟨_,_,rfl⟩,(Heap.Ns.new s.heap (.type "frame")).keeps (pushCells_keeps _ _),fun b o e=>pushCells_keeps _ _ b o (Heap.get?_push_of_some _ e),Nat.le_refl _⟩,
    fun n c hc=>(ok.empty n c (mem_of_lookup hc)).1,ok.apart,fun n c hm=>(ok.empty n c hm).2⟩
   hkind fun s' x=>wpAny_pure (hQ _ rfl s' x)
 ·have e:storeName (newEnv scope s.heap.objs.size globals (cellsFrom (s.heap.objs.size + 1) scope.names [] ++ cl) qual func code none builtins) x.1 x.2 = storeName (newEnv scope s.heap.objs.size globals (cellsFrom (s.heap.objs.size + 1) scope.names []) qual func code none builtins) x.1 x.2:=by
   refine store_same rfl rfl rfl ?_
   show (cellsFrom (s.heap.objs.size + 1) scope.names [] ++ cl).lookup x.1 = (cellsFrom (s.heap.objs.size + 1) scope.names []).lookup x.1
   rw [lookup_app]
   rcases hkind x hx with h | ⟨_,h⟩
   ·rw [hcl x hx h];simp
   ·obtain ⟨c,hc⟩:=Option.isSome_iff_exists.mp h
    rw [hc];rfl
  exact congrArg (fun m:Sem Unit=>m >>= fun _=>(pure (ForInStep.yield PUnit.unit):Sem (ForInStep PUnit))) e
end
theorem cells_kind {y:Str}{c:Addr}:∀ {names:List (Str × NameKind)}{n:Nat}{acc:List (Str × Addr)},(y,c)∈cellsFrom n names acc→(y,NameKind.cell)∈names∨(y,c)∈acc
 | [],_,_,h=>.inr h
 | (x,k) :: r,n,acc,h=>by
  unfold cellsFrom at h
  split at h
  ·rename_i hk
   have hk' : k = .cell:=by simpa using hk
   rcases cells_kind h with a | a
   ·exact .inl (List.mem_cons_of_mem _ a)
   ·rcases List.mem_cons.mp a with e | a
    ·cases e;rw [hk'];exact .inl List.mem_cons_self
    ·exact .inr a
  ·rcases cells_kind h with a | a
   ·exact .inl (List.mem_cons_of_mem _ a)
   ·exact .inr a
structure CloScope (fr sc:Scope) (ps loc cap:List Str):Prop where
 kind:sc.kind = .function
 co:sc.isCoroutine = false
 gen:sc.isGenerator = false
 par:∀ y∈ps,sc.names.lookup y = some .local∨sc.names.lookup y = some .cell
 free:∀ p∈sc.names,p.2 = .free→fr.names.lookup p.1 = some .cell
 caps:∀ y∈cap,(y,NameKind.free)∈sc.names
 capl:∀ y∈cap,sc.names.lookup y = some .free
 nd:(ps ++ loc ++ cap).Nodup
 ndn:(sc.names.map (·.1)).Nodup
def IsDef (H:Hp) (f:Addr) (name q:Str) (params:Arguments) (body:List Stmt) (sc:Scope) (cl:List (Str × Addr)):Prop:=
 ∃ (doc pm ctv:Value) (c' : Addr) (oc:Obj),H f = some (.frz (PySem.W.fnMade name q params body sc cl doc pm c' ctv) (.own f))∧H c' = some (.frz oc (.own c'))∧CodeOf oc q
theorem IsDef.same {H H' : Hp} {f:Addr}{name q:Str}{params:Arguments}{body:List Stmt}{sc:Scope}{cl:List (Str × Addr)}(L:IsDef H f name q params body sc cl) (k:∀ b o u,H b = some (.frz o u)→H' b = some (.frz o u)):IsDef H' f name q params body sc cl:=
 let ⟨doc,pm,ctv,c',oc,h1,h2,h3⟩:=L;⟨doc,pm,ctv,c',oc,k _ _ _ h1,k _ _ _ h2,h3⟩
theorem IsDef.fnAt {P:Program}{w:World}{H:Hp}{h:Heap}{f:Addr}{name q:Str}{params:Arguments}{body:List Stmt}{sc:Scope}{cl:List (Str × Addr)}(ok:HOk P w H h) (L:IsDef H f name q params body sc cl):PySem.W.FnAt f h:=by
 obtain ⟨doc,pm,ctv,c',oc,h1,_⟩:=L
 obtain ⟨ho,_⟩:=ok f _ h1
 exact ⟨_,_,_,_,ho⟩
def envB (q:Str) (sc:Scope) (L f:Addr) (cd:Value) (cl:List (Str × Addr)):Env:=PySem.W.envX q sc L f cd (cellsFrom (L + 1) sc.names [] ++ cl)
def cloCx (P:Program) (w:World) (K:PySem.W.Frag) (mg:Str→Option Value) (base:Heap) (N:List Str) (q:Str) (sc:Scope) (f c' : Addr) (cl:List (Str × Addr)) (A:Around) (outer:List Env) (s:Shared) (H:Hp):Cx where
 prog:=P
 w:=w
 K:=K
 mg:=mg
 base:=base
 A:=A.deeper (envB q sc s.heap.objs.size f (.ref c') cl)
 N:=N
 s₀:=s
 H₀:=H
 env:=envB q sc s.heap.objs.size f (.ref c') cl
 outer:=outer
 stack:=envB q sc s.heap.objs.size f (.ref c') cl :: outer
 ex:=[]
 calm:=true
 fn:=fun y=>match sc.names.lookup y with | some .free=>false | _=>true
 pn:=[]
 xe:=fun _ _=>False
section
variable {P:Program}{w:World}{K:PySem.W.Frag}{mg:Str→Option Value}{base:Heap}{A:Around}{outer:List Env}{s:Shared}{H:Hp}{f:Addr}{name q:Str}{params:Arguments}{body:List Stmt}{fr sc:Scope}{cl:List (Str × Addr)}{ps loc cap:List Str}
theorem clo_inv {c' : Addr} {us:List Value}{vs:List V}{vals:St}{s1:Shared}(S:CloScope fr sc ps loc cap) (hcap:∀ y,sc.names.lookup y = some .free→∃ c,cl.lookup y = some c) (hclp:∀ y c,cl.lookup y = some c→sc.names.lookup y = some .free) (hd:A.handled = none) (e0:Env0 P w K mg base A outer s H) (hl:vs.length = ps.length) (hv:vals.length = cap.length) (r:Vals vs us) (C:CellsAre s H cl cap vals)
  (x:InCallC s s.heap.objs.size (bindL (envOfC q sc s.heap.objs.size f (.ref c')).kindOf (ps.zip us) fun _=>none) (cellsFrom (s.heap.objs.size + 1) sc.names []) (bindC (envOfC q sc s.heap.objs.size f (.ref c')).kindOf (ps.zip us) fun _=>none) s1):
  Inv (cloCx P w K mg base (ps ++ loc ++ cap) q sc f c' cl A outer s H) [] (vs.map some ++ List.replicate loc.length none ++ vals) H s1:=by
 obtain ⟨h1,tk,rfl,hk⟩:=x.done
 have noA:∀ b:Addr,b ∉ (cloCx P w K mg base (ps ++ loc ++ cap) q sc f c' cl A outer s H).ex:=fun b z=>absurd (show b∈([]:List Addr) from z) (by simp)
 have ndp:ps.Nodup:=(List.nodup_append.mp (List.nodup_append.mp S.nd).1).1
 have clt:∀ y c,cl.lookup y = some c→c < s.heap.objs.size:=fun y c h=>by
  obtain ⟨⟨v,o,ho,_⟩,_⟩:=C.isc y c h
  exact Heap.lt_size ho
 have cgt:∀ y c,(cellsFrom (s.heap.objs.size + 1) sc.names []).lookup y = some c→s.heap.objs.size < c:=fun y c h=>x.above y c (PySem.mem_of_lookup h)
 have two:∀ y c,(cloCx P w K mg base (ps ++ loc ++ cap) q sc f c' cl A outer s H).env.cells.lookup y = some c→(cellsFrom (s.heap.objs.size + 1) sc.names []).lookup y = some c∨((cellsFrom (s.heap.objs.size + 1) sc.names []).lookup y = none∧cl.lookup y = some c):=fun y c h=>by
  have h:(cellsFrom (s.heap.objs.size + 1) sc.names [] ++ cl).lookup y = some c:=h
  rw [lookup_app] at h
  cases e:(cellsFrom (s.heap.objs.size + 1) sc.names []).lookup y with
  | some c2=>rw [e] at h;exact .inl h
  | none=>rw [e] at h;exact .inr ⟨rfl,by simpa using h⟩
 refine ⟨⟨e0.mod,S.kind,rfl,rfl,Nat.le_refl _,fun y z c h1 h2=>?_,fun y hy=>?_,fun y c hf h=>?_,fun _=>hd,Around.frames_deeper e0.frames,.inr ⟨rfl,rfl⟩,fun b z=>absurd z (noA b),e0.bs,e0.bsz,fun b _ _=>noA b,fun b z=>absurd z (noA b),e0.funs,e0.frf⟩,
  rfl,e0.bare,Un.kept hk,⟨_,x.toInCall.ns,fun i y v h1 h2 h3=>?_⟩,fun y c h=>?_,e0.hok.fresh (Nat.le_refl _),fun y c h=>?_,fun p hp=>absurd (show p∈([]:List (Addr × Obj)) from hp) (by simp),e0.hok.kept hk,?_⟩
 ·rcases two y c h1 with a | ⟨_,a⟩ <;> rcases two z c h2 with b | ⟨_,b⟩
  ·exact name_of_addr x.apart (PySem.mem_of_lookup a) (PySem.mem_of_lookup b)
  ·exact absurd (Nat.lt_trans (cgt y c a) (clt z c b)) (Nat.lt_irrefl _)
  ·exact absurd (Nat.lt_trans (cgt z c b) (clt y c a)) (Nat.lt_irrefl _)
  ·exact C.inj y z c a b
 ·have hy:sc.names.lookup y = some .cell∨sc.names.lookup y = some .free:=hy
  show ∃ c,(cellsFrom (s.heap.objs.size + 1) sc.names [] ++ cl).lookup y = some c
  rw [lookup_app]
  rcases hy with hy | hy
  ·obtain ⟨c,e⟩:=cell_has (n:=s.heap.objs.size + 1) hy
   exact ⟨c,by rw [e];rfl⟩
  ·obtain ⟨c,e⟩:=hcap y hy
   cases e2:(cellsFrom (s.heap.objs.size + 1) sc.names []).lookup y with
   | some c2=>exact ⟨c2,rfl⟩
   | none=>exact ⟨c,by rw [e];rfl⟩
 ·have hf:(match sc.names.lookup y with | some .free=>false | _=>true) = true:=hf
  rcases two y c h with a | ⟨_,a⟩
  ·exact Nat.le_of_lt (cgt y c a)
  ·rw [hclp y c a] at hf;cases hf
 ·have h1:(ps ++ loc ++ cap)[i]? = some y:=h1
  have lr:(List.replicate loc.length (none:Option V)).length = loc.length:=List.length_replicate
  by_cases hi:i < ps.length
  ·have hp:ps[i]? = some y:=by
    rw [List.append_assoc,List.getElem?_append_left hi] at h1;exact h1
   have ha:vs[i]? = some v:=by
    rw [List.append_assoc,List.getElem?_append_left (by rw [List.length_map];omega),List.getElem?_map] at h2
    cases e:vs[i]? with
    | none=>rw [e] at h2;cases h2
    | some a=>rw [e] at h2;cases h2;rfl
   obtain ⟨u,hu,rv⟩:=r.get ha
   refine ⟨u,rv,?_⟩
   rcases S.par y (List.mem_of_getElem? hp) with k | k
   ·exact .inl ⟨k,bindL_get ndp hp hu k⟩
   ·obtain ⟨c,e⟩:=cell_has (n:=s.heap.objs.size + 1) k
    refine .inr ⟨.inl k,c,?_,?_⟩
    ·show (cellsFrom (s.heap.objs.size + 1) sc.names [] ++ cl).lookup y = some c
     rw [lookup_app,e];rfl
    ·have q' := x.cell y c e
     rw [bindC_get ndp hp hu (by show sc.names.lookup y≠_;rw [k];decide)] at q'
     exact q'
  ·by_cases hi2:i < ps.length + loc.length
   ·rw [List.getElem?_append_left (by rw [List.length_append,List.length_map,lr];omega),List.getElem?_append_right (by rw [List.length_map];omega),List.getElem?_replicate] at h2
    split at h2 <;> cases h2
   ·have hc:cap[i - (ps ++ loc).length]? = some y:=by
     rw [List.getElem?_append_right (by rw [List.length_append];omega)] at h1;exact h1
    have ha:vals[i - (ps ++ loc).length]? = some (some v):=by
     rw [List.getElem?_append_right (by rw [List.length_append,List.length_map,lr];omega)] at h2
     rw [List.length_append,List.length_map,lr,hl] at h2
     rw [List.length_append];exact h2
    obtain ⟨c,u,e1,e2,rv⟩:=C.val _ y v hc ha
    obtain ⟨o,ho,hd'⟩:=e2
    refine ⟨u,rv,.inr ⟨.inr (S.capl y (List.mem_of_getElem? hc)),c,?_,o,hk _ _ ho,hd'⟩⟩
    show (cellsFrom (s.heap.objs.size + 1) sc.names [] ++ cl).lookup y = some c
    have hn:(cellsFrom (s.heap.objs.size + 1) sc.names []).lookup y = none:=by
     cases e3:(cellsFrom (s.heap.objs.size + 1) sc.names []).lookup y with
     | none=>rfl
     | some c3=>
      have:=(cells_kind (PySem.mem_of_lookup e3)).resolve_right (by simp)
      have k:=S.capl y (List.mem_of_getElem? hc)
      have k2:=lookup_mem S.ndn this
      rw [k] at k2;cases k2
    rw [lookup_app,hn,e1];rfl
 ·rcases two y c h with a | ⟨_,a⟩
  ·exact ⟨_,x.cell y c a⟩
  ·obtain ⟨⟨v,o,ho,hd'⟩,_⟩:=C.isc y c a
   exact ⟨v,o,hk _ _ ho,hd'⟩
 ·rcases two y c h with a | ⟨_,a⟩
  ·exact e0.hok.fresh (Nat.le_of_lt (cgt y c a))
  ·exact (C.isc y c a).2
 ·show (vs.map some ++ List.replicate loc.length none ++ vals).length = (ps ++ loc ++ cap).length
  rw [List.length_append,List.length_append,List.length_append,List.length_append,List.length_map,List.length_replicate,hl,hv]
end
end L2
namespace L2
open PySem PySem.Spec PyProof.Rows
section
variable {P:Program}{w:World}{K:PySem.W.Frag}{mg:Str→Option Value}{base:Heap}{A:Around}{outer:List Env}{s:Shared}{H:Hp}{f:Addr}{name q:Str}{params:Arguments}{body:List Stmt}{fr sc:Scope}{cl:List (Str × Addr)}{ps loc cap:List Str}
theorem clo_run {k:Nat}{us:List Value}{vs:List V}{vals:St}{Q:VK}(S:CloScope fr sc ps loc cap) (hcap:∀ y,sc.names.lookup y = some .free→∃ c,cl.lookup y = some c) (hclp:∀ y c,cl.lookup y = some c→sc.names.lookup y = some .free) (hr:Room (k + 1) A) (e0:Env0 P w K mg base A outer s H) (L:IsDef H f name q params body sc cl) (C:CellsAre s H cl cap vals)
  (hbind:∀ (doc pm ctv:Value) (c' : Addr),bindArgs (PySem.W.fnX name q params body sc cl .none .none doc pm none (.ref c') ctv) ⟨us,[]⟩ = pure (ps.zip us)) (hl:vs.length = ps.length) (hv:vals.length = cap.length) (r:Vals vs us)
  (hbody:∀ c',Room k (A.deeper (envB q sc s.heap.objs.size f (.ref c') cl))→∃ t,PSs (cloCx P w K mg base (ps ++ loc ++ cap) q sc f c' cl A outer s H) body t∧t { nx:=fun _ H' => Q .non H',rt:=Q } (vs.map some ++ List.replicate loc.length none ++ vals) H):
  codeAny (model P w) A (.call (.ref f) ⟨us,[]⟩) (CR CX0 outer P w H s Q E0) s:=by
 obtain ⟨doc,pm,ctv,c',oc,h1,h2,h3⟩:=L
 obtain ⟨ho,_⟩:=e0.hok f _ h1
 have lim:s.heap.NoLimit:=e0.mod.nolimit.keeps fun b o e=>(e0.bs b o e).1
 refine codeAny_call_function hr.depth ho rfl S.co S.gen rfl (codeRec_frz e0.hok h2 h3) ?_
 rw [hbind doc pm ctv c']
 have hkind:∀ y∈ps.zip us,sc.names.lookup y.1 = some .local∨(sc.names.lookup y.1 = some .cell∧((cellsFrom (s.heap.objs.size + 1) sc.names []).lookup y.1).isSome = true):=fun ⟨n,v⟩ hy=>by
  rcases S.par n (List.of_mem_zip hy).1 with q | q
  ·exact .inl q
  ·exact .inr ⟨q,PySem.W.cellsFrom_some _ _ _ (.inl q)⟩
 refine wpAny_pure (newEnv_both S.kind hkind (fun y hy hloc=>?_) fun env he s1 x=>?_)
 ·cases e:cl.lookup y.1 with
  | none=>rfl
  | some c=>rw [hclp _ _ e] at hloc;cases hloc
 subst he
 refine ⟨lim.keeps x.toInCall.keep,codeAny_func ?_⟩
 obtain ⟨t,ht,hq⟩:=hbody c' (hr.deeper _)
 have I:=clo_inv (f:=f) (q:=q) (c' := c') S hcap hclp hr.hd e0 hl hv r C x
 refine wpAny_mono (ht [] s1 _ H _ I hq) (fun fl s' hs=>?_) fun e s' z=>z.elim
 have fin:∀ {σ' : St} {H' : Hp} {v:V}{u:Value},Inv (cloCx P w K mg base (ps ++ loc ++ cap) q sc f c' cl A outer s H) [] σ' H' s' → RelV v u→Q v H' → CE outer P w H s Q u s' :=
  fun {σ' H' v u} J rv q=>⟨v,H',J.os,J.bare,J.base,J.hok,rv,q⟩
 cases fl with
 | ret u=>
  obtain ⟨v,σ',H',J,rv,q⟩:=hs
  exact fin J rv q
 | next=>
  obtain ⟨σ',H',J,q⟩:=hs
  exact fin (v:=V.non) (u:=Value.none) J rfl q
 | brk=>
  obtain ⟨_,_,_,q⟩:=hs
  exact False.elim q
 | cont=>
  obtain ⟨_,_,_,q⟩:=hs
  exact False.elim q
end
section
variable {X:Cx}{pins:List (Addr × Obj)}{σ:St}{H:Hp}{s:Shared}{sc:Scope}{ps loc cap:List Str}{P c:Addr}{cr:Nat→Nat→Option Str}{name q:Str}{params:Arguments}{body:List Stmt}{pos:Pos}
theorem CloScope.cells {fr:Scope}(S:CloScope X.env.scope sc ps loc cap) (ok:X.Ok):∀ p∈sc.names,p.2 = .free→∃ c,X.env.cells.lookup p.1 = some c:=
 fun p hp e=>ok.has p.1 (.inl (S.free p hp e))
theorem CloScope.sub (S:CloScope X.env.scope sc ps loc cap) (ok:X.Ok) {y:Str}{c:Addr}(h:(clOf X.env sc.names []).lookup y = some c):X.env.cells.lookup y = some c:=
 clOf_mem (S.cells (fr:=sc) ok) (fun _ _ z=>by simp at z) h
theorem clOf_free {env:Env}{y:Str}{c:Addr}:∀ {names:List (Str × NameKind)}{acc:List (Str × Addr)},(clOf env names acc).lookup y = some c→(y,NameKind.free)∈names∨acc.lookup y = some c
 | [],_,h=>.inr h
 | (x,k) :: r,acc,h=>by
  unfold clOf at h
  rcases clOf_free h with a | a
  ·exact .inl (List.mem_cons_of_mem _ a)
  ·by_cases hk:(k == NameKind.free) = true
   ·rw [if_pos hk,List.lookup_cons] at a
    by_cases e:(y == x) = true
    ·have e' : y = x:=by simpa using e
     have k' : k = .free:=by simpa using hk
     subst e' k'
     exact .inl List.mem_cons_self
    ·have e' : (y == x) = false:=by simpa using e
     rw [e'] at a;exact .inr a
   ·rw [if_neg hk] at a;exact .inr a
theorem Inv.cellsOf (I:Inv X pins σ H s) (S:CloScope X.env.scope sc ps loc cap) {js:List Nat}(hjs:js.map (fun j=>X.N[j]?) = cap.map some):CellsAre s H (clOf X.env sc.names []) cap (capV σ js):=by
 have ok:=I.ok
 refine ⟨fun x y c h1 h2=>ok.inj x y c (S.sub ok h1) (S.sub ok h2),fun x c h=>⟨I.cell x c (S.sub ok h),I.freeC x c (S.sub ok h)⟩,fun i y v e1 e2=>?_⟩
 have hy:y∈cap:=List.mem_of_getElem? e1
 unfold capV at e2
 rw [List.getElem?_map] at e2
 cases ej:js[i]? with
 | none=>rw [ej] at e2;cases e2
 | some j=>
  rw [ej] at e2
  have e2'' : (σ[j]?).join = some v:=Option.some.inj e2
  have eN:X.N[j]? = some y:=by
   have:=congrArg (fun l=>l[i]?) hjs
   simp only [List.getElem?_map,ej,e1,Option.map_some] at this
   exact Option.some.inj this
  have eσ:σ[j]? = some (some v):=by
   cases z:σ[j]? with
   | none=>rw [z] at e2'';cases e2''
   | some w' =>
    rw [z] at e2''
    have:w' = some v:=by simpa using e2''
    rw [this]
  have kc:X.env.scope.names.lookup y = some .cell:=S.free (y,.free) (S.caps y hy) rfl
  obtain ⟨m0,hn0,hl0⟩:=I.loc
  obtain ⟨u,ru,lk⟩:=hl0 j y v eN eσ (.inr (.inl kc))
  rcases lk with ⟨k,_⟩ | ⟨_,c,ec,hc⟩
  ·have k' : X.env.scope.names.lookup y = some .local:=k
   rw [kc] at k';cases k'
  ·obtain ⟨c',hc'⟩:=Option.isSome_iff_exists.mp (clOf_has (env:=X.env) (acc:=[]) (S.caps y hy))
   have hcc:c' = c:=Option.some.inj ((S.sub ok hc').symm.trans ec)
   subst hcc
   exact ⟨c',u,hc',hc,ru⟩
theorem mk_def (S:CloScope X.env.scope sc ps loc cap) (hcode:X.env.code = .ref c) (C:PySem.W.CodeHd X.base c P) (hbm:BM X.mg X.base) (hcr:cr pos.line pos.col = some q) (I:Inv X pins σ H s) (hP:H P = some (.tbl cr)) {E:Value→Shared→Prop}:
  wpAny (model X.prog X.w) X.A (makeFunction name q params (.stmts body) sc X.env [] [] [] pos pos.line) (fun v s' => ∃ f H',Inv X pins σ H' s' ∧ v = Value.ref f∧H f = none∧Same H H' ∧ IsDef H' f name q params body sc (clOf X.env sc.names [])) E s:=by
 obtain ⟨tb,hget,ht3,hcodes⟩:=I.hok P _ hP
 have hg:s.heap.Ns mainGlobals X.mg:=I.mod.glob.keeps I.bk
 have hgP:mainGlobals≠P:=fun z=>by
  obtain ⟨o,es,ep,e,hd,_⟩:=hg
  rw [z,hget] at e;cases e;cases hd
 have hb:s.heap.BuiltinsAt X.mg P:=by
  obtain ⟨bm,ob,b1,b2,b3,b4,b5,b6⟩:=hbm
  have e:=I.bk _ _ b3
  refine ⟨bm,ob,b1,b2,fun z=>?_,fun z=>?_,e,b4,b5,b6⟩
  ·obtain ⟨o,es,ep,e',hd,_⟩:=hg
   rw [← z,e] at e';cases e';rw [b6] at hd;cases hd
  ·rw [z,hget] at e;cases e;cases b4
 have hcl:closureFor sc X.env = pure (clOf X.env sc.names []):=closureFor_eq (S.cells (fr:=sc) I.ok)
 cases hf:codeAmong pos tb.toList with
 | some cv=>
  obtain ⟨c',oc,q',rfl,e2,e3,e4⟩:=hcodes pos cv hf
  rw [hcr] at e2;cases e2
  refine PySem.W.makeFunction_hit hcl I.ok.glob hg hcode (C.keeps I.bk) hget ht3 hf hb fun ctv doc h' tk hk hsz=>?_
  have hfr:H h'.objs.size = none:=I.hok.fresh hsz
  refine ⟨h'.objs.size,upd H h'.objs.size (.frz (PySem.W.fnMade name q params body sc (clOf X.env sc.names []) doc ((X.mg "__name__").getD .none) c' ctv) (.own h'.objs.size)),I.laid (t' := tk) (fun b u e=>Heap.get?_push_of_some _ (hk b u e)) hsz ⟨Heap.get?_push_size _ rfl,_,Heap.get?_push_size _ rfl⟩,rfl,hfr,(fun b u e=>by rw [upd_ne (ne_of_none e hfr)];exact e),⟨_,_,_,c',oc,upd_same,?_,e4⟩⟩
  rw [upd_ne (ne_of_none e3 hfr)];exact e3
 | none=>
  refine PySem.W.makeFunction_K hcl I.ok.glob hg hcode (C.keeps I.bk) hget ht3 hf hgP hb fun c' ctv doc h' tk hx hge hlt hrec htb=>?_
  obtain ⟨c2,oc,vs,tt,e2,hoc,hd,hv⟩:=hrec
  cases e2
  have hcn:H c' = none:=I.hok.fresh hge
  have hsz:s.heap.objs.size≤h'.objs.size:=Nat.le_of_lt (Nat.lt_of_le_of_lt hge hlt)
  have hfr:H h'.objs.size = none:=I.hok.fresh hsz
  have hcf:c' ≠ h'.objs.size:=Nat.ne_of_lt hlt
  have hPc:P≠c' := ne_of_none hP hcn
  have hPf:P≠h'.objs.size:=ne_of_none hP hfr
  have sm:∀ b u,H b = some u→upd (upd H c' (.frz oc (.own c'))) h'.objs.size (.frz (PySem.W.fnMade name q params body sc (clOf X.env sc.names []) doc ((X.mg "__name__").getD .none) c' ctv) (.own h'.objs.size)) b = some u:=fun b u e=>by
   rw [upd_ne (ne_of_none e hfr),upd_ne (ne_of_none e hcn)];exact e
  have cc:upd (upd H c' (.frz oc (.own c'))) h'.objs.size (.frz (PySem.W.fnMade name q params body sc (clOf X.env sc.names []) doc ((X.mg "__name__").getD .none) c' ctv) (.own h'.objs.size)) c' = some (.frz oc (.own c')):=by
   rw [upd_ne hcf,upd_same]
  have hk:∀ b o,b≠P→s.heap.get? b = some o→(h'.push (PySem.W.fnMade name q params body sc (clOf X.env sc.names []) doc ((X.mg "__name__").getD .none) c' ctv)).get? b = some o:=fun b o hb e=>Heap.get?_push_of_some _ (hx b o hb e)
  refine ⟨h'.objs.size,_,I.un (t' := tk) ⟨fun b o e n _ _=>hk b o (fun z=>by rw [z,hP] at n;cases n) e,fun b o e n _ _=>⟨o.slots,hk b o (fun z=>by rw [z,hP] at n;cases n) e⟩,fun b o e n _=>?_,fun b o e _=>?_,fun b xs e=>sm b _ e,fun b o u e=>sm b _ e,fun b r e=>sm b _ e⟩ ?_,rfl,hfr,sm,⟨_,_,_,c',oc,upd_same,cc,vs,tt,hd,hv⟩⟩
  ·have h1:b≠c' := Nat.ne_of_lt (Nat.lt_of_lt_of_le (Heap.lt_size e) hge)
   have h2:b≠h'.objs.size:=Nat.ne_of_lt (Nat.lt_of_lt_of_le (Heap.lt_size e) hsz)
   rw [upd_ne h2,upd_ne h1];exact n
  ·by_cases hb:b = P
   ·subst hb;exact ⟨_,Heap.get?_push_of_some _ htb⟩
   ·exact ⟨o,hk b o hb e⟩
  ·intro b u e
   by_cases h1:b = h'.objs.size
   ·subst h1
    rw [upd_same] at e;cases e
    exact ⟨Heap.get?_push_size _ rfl,_,Heap.get?_push_size _ rfl⟩
   ·by_cases h2:b = c'
    ·subst h2
     rw [cc] at e;cases e
     exact ⟨Heap.get?_push_of_some _ hoc,_,Heap.get?_push_of_some _ hoc⟩
    ·rw [upd_ne h1,upd_ne h2] at e
     by_cases h3:b = P
     ·subst h3
      rw [hP] at e;cases e
      refine ⟨_,Heap.get?_push_of_some _ htb,?_,fun pos' v e=>?_⟩
      ·rw [Array.toList_append];exact TriplesOk_snoc _ _ _ _ ht3
      ·rw [Array.toList_append] at e
       rcases among_snoc (pos:=pos) tb.toList ht3 e with e | ⟨e1,e2,rfl⟩
       ·obtain ⟨d,od,q',z1,z2,z3,z4⟩:=hcodes pos' v e
        exact ⟨d,od,q',z1,z2,sm _ _ z3,z4⟩
       ·exact ⟨c',oc,q,rfl,by rw [e1,e2];exact hcr,cc,vs,tt,hd,hv⟩
     ·refine (I.hok b u e).stay (fun d v hd' e' => hk d v ?_ e') (fun d e' => sm d _ e') (fun d xs e' => sm d _ e') fun d o' u' e' => sm d _ e'
      rintro rfl
      rcases hd' with z | z
      ·exact h3 z.symm
      ·rw [hP] at z;cases z
def tDef (i:Nat) (P:Addr) (cr:Nat→Nat→Option Str) (name q:Str) (params:Arguments) (body:List Stmt) (sc:Scope) (cl:List (Str × Addr)):TS:=fun D σ H=>H P = some (.tbl cr)∧∀ f H',H f = none→Same H H' → IsDef H' f name q params body sc cl→D.nx (σ.set i (some (.ref f))) H'
theorem ps_def {i:Nat}(S:CloScope X.env.scope sc ps loc cap) (hcode:X.env.code = .ref c) (C:PySem.W.CodeHd X.base c P) (hbm:BM X.mg X.base) (hq:q = qualnameIn X.env name name) (hcr:cr pos.line pos.col = some q) (hN:X.N.Nodup) (hi:X.N[i]? = some name) (hx:X.env.scope.names.lookup name = some .local)
  (hd0:params.defaults = []:=by rfl) (hk0:params.kw_defaults = []:=by rfl) (ha:annTrees params none X.env = []:=by rfl):
  PS X (.FunctionDef name params body [] none [] sc none name pos) (tDef i P cr name q params body sc (clOf X.env sc.names [])):=by
 intro pins s σ H D I h
 obtain ⟨hP,h⟩:=h
 refine PySem.W.nestDef_K hd0 hk0 ha ?_
 rw [← hq]
 refine thn (mk_def S hcode C hbm hcr I hP) fun v s' ⟨f,H',I',ev,hf,sm,L⟩=>?_
 subst ev
 exact store_ok I' hN hi (.inl hx) (show RelV (.ref f) (.ref f) from rfl) (fun s2 I2=>⟨_,H',I2,h f H' hf sm L⟩) (.inr hx)
end
end L2
namespace L2
open PySem PySem.Spec PyProof.Rows
def Kp (H H' : Hp):Prop:=(∀ b xs,H b = some (.tup xs)→H' b = some (.tup xs))∧∀ b o u,H b = some (.frz o u)→H' b = some (.frz o u)
theorem Kp.refl (H:Hp):Kp H H:=⟨fun _ _ h=>h,fun _ _ _ h=>h⟩
theorem Kp.trans {H H1 H2:Hp}(a:Kp H H1) (b:Kp H1 H2):Kp H H2:=⟨fun c xs h=>b.1 c xs (a.1 c xs h),fun c o u h=>b.2 c o u (a.2 c o u h)⟩
theorem Kp.of {fs:List Addr}{H H' : Hp} {h h' : Heap} (u:Un fs [] H H' h h'):Kp H H' := ⟨u.tups,u.frzs⟩
mutual
def noL:PyData→Bool
 | .list _=>false
 | .tuple ds=>noLs ds
 | .dict _=>false
 | _=>true
def noLs:List PyData→Bool
 | []=>true
 | d :: r=>noL d && noLs r
end
theorem Kp.sqT {K:PySem.W.Frag}{H H' : Hp} {q:Addr}{xs:List V}(k:Kp H H') (h:SqT K H q xs):SqT K H' q xs:=by
 rcases h with h | h
 ·refine .inl ?_
  rcases h with h | ⟨o,h⟩
  ·exact .inl (k.1 _ _ h)
  ·exact .inr ⟨o,k.2 _ _ _ h⟩
 ·exact .inr h
mutual
theorem Kp.dat {K:PySem.W.Frag}{H H' : Hp} (k:Kp H H'):∀ (d:PyData) (v:V),noL d = true→Dat K H v d→Dat K H' v d
 | .none,v,_,h=>by rw [h.non];exact dat_non
 | .bool b,v,_,h=>by rw [h.bl];exact dat_bl b
 | .int i,v,_,h=>by rw [h.int];exact dat_int i
 | .str x,v,_,h=>by rw [h.str];exact dat_str x
 | .tuple ds,v,n,h=>by
  obtain ⟨q,xs,rfl,hq,hx⟩:=h.tup
  exact dat_tup (k.sqT hq) (Kp.dats k ds xs (by unfold noL at n;exact n) hx)
 | .list _,v,n,_=>by unfold noL at n;cases n
 | .dict _,v,n,_=>by unfold noL at n;cases n
theorem Kp.dats {K:PySem.W.Frag}{H H' : Hp} (k:Kp H H'):∀ (ds:List PyData) (xs:List V),noLs ds = true→Dats K H xs ds→Dats K H' xs ds
 | [],xs,_,h=>by rw [h.nil];exact dats_nil
 | d :: r,xs,n,h=>by
  obtain ⟨y,ys,rfl,hy,hr⟩:=h.cons
  unfold noLs at n
  rw [Bool.and_eq_true] at n
  exact dats_cons (Kp.dat k d y n.1 hy) (Kp.dats k r ys n.2 hr)
end
def ClOk (P:Program) (w:World) (K:PySem.W.Frag) (mg:Str→Option Value) (base:Heap) (k:Nat) (f:Addr) (n:Nat) (sp:Sp) (s:Shared) (H:Hp):Prop:=
 ∃ (name q:Str) (params:Arguments) (body:List Stmt) (sc:Scope) (cl:List (Str × Addr)) (cap:List Str) (vals:St) (H1:Hp),Kp H1 H∧IsDef H f name q params body sc cl∧CellsAre s H cl cap vals∧
  ∀ (A:Around) (outer:List Env) (s' : Shared) (H' : Hp) (us:List Value) (vs:List V) (Q:VK),Room k A→Env0 P w K mg base A outer s' H' → Kp H1 H' → IsDef H' f name q params body sc cl→CellsAre s' H' cl cap vals→Vals vs us→vs.length = n→sp vs H' Q E0→
   codeAny (model P w) A (.call (.ref f) ⟨us,[]⟩) (CR CX0 outer P w H' s' Q E0) s'
section
variable {P:Program}{w:World}{K:PySem.W.Frag}{mg:Str→Option Value}{base:Heap}{k n:Nat}{f:Addr}{sp:Sp}{s s' : Shared} {H H' : Hp}
theorem ClOk.un {fs:List Addr}(C:ClOk P w K mg base k f n sp s H) (u:Un fs [] H H' s.heap s'.heap):ClOk P w K mg base k f n sp s' H' :=
 let ⟨name,q,params,body,sc,cl,cap,vals,H1,h1,h2,h3,h4⟩:=C
 ⟨name,q,params,body,sc,cl,cap,vals,H1,h1.trans (Kp.of u),h2.same u.frzs,h3.un u,h4⟩
theorem ClOk.fnAt (C:ClOk P w K mg base k f n sp s H) (ok:HOk P w H s.heap):PySem.W.FnAt f s.heap:=
 let ⟨_,_,_,_,_,_,_,_,_,_,h2,_,_⟩:=C
 h2.fnAt ok
theorem ClOk.run {A:Around}{outer:List Env}{us:List Value}{vs:List V}{Q:VK}(C:ClOk P w K mg base k f n sp s H) (hr:Room k A) (e0:Env0 P w K mg base A outer s H) (r:Vals vs us) (hl:vs.length = n) (hs:sp vs H Q E0):
  codeAny (model P w) A (.call (.ref f) ⟨us,[]⟩) (CR CX0 outer P w H s Q E0) s:=
 let ⟨name,q,params,body,sc,cl,cap,vals,H1,h1,h2,h3,h4⟩:=C
 h4 A outer s H us vs Q hr e0 h1 h2 h3 r hl hs
end
section
variable {X:Cx}{k i n:Nat}{x:Str}{f:Addr}{sp:Sp}{e:Expr}{es:List Expr}{t:TA}{p pos:Pos}
theorem Inv.un0 {pins:List (Addr × Obj)}{σ:St}{H:Hp}{s:Shared}(J:Inv X pins σ H s) (hex:X.ex = []):Un X.fs [] X.H₀ H X.s₀.heap s.heap:=by
 have:=J.base
 rw [hex] at this;exact this
def tCallF (i:Nat) (f:Addr) (n:Nat) (sp:Sp) (t:TA):TE:=fun σ H Q=>σ[i]? = some (some (.ref f))∧t σ H fun vs H1=>vs.length = n∧sp vs H1 Q E0
theorem pe_callF (hN:X.N[i]? = some x) (hv:Vis X.env.scope x) (hr:Room k X.A) (hex:X.ex = []) (C:ClOk X.prog X.w X.K X.mg X.base k f n sp X.s₀ X.H₀) (ha:PA X (e :: es) t)
  (hd:(x == ("__debug__" : Str)) = false:=by decide) (hcd:(x == ("__classdict__" : Str)) = false:=by decide) (he:starEach (e :: es) X.env = (false,eval e X.env) :: starEach es X.env:=by rfl) (hpl:(backTo pos (starEach es X.env)).any (·.1) = false:=by rfl):
  PE X (.Call (.Name x p) (e :: es) [] pos) (tCallF i f n sp t):=by
 intro pins s σ H Q I h
 obtain ⟨eσ,h⟩:=h
 refine wpAny_Call_Name_kw (thn (pe_var hN hv hd hcd pins s σ H (fun v H' => v = .ref f∧H' = H) I ⟨_,eσ,rfl,rfl⟩) fun u s1 ⟨v,H1,I1,r,ev,eH⟩=>?_)
 subst ev eH
 obtain rfl:u = Value.ref f:=r
 refine PySem.W.callWith_F ((C.un (I1.un0 hex)).fnAt I1.hok) (thn (ha pos pins s1 σ H1 _ I1 h) fun us s2 ⟨vs,H2,I2,rv,hl,hq⟩=>⟨(C.un (I2.un0 hex)).fnAt I2.hok,?_⟩) he hpl
 refine wpAny_call (codeAny_mono ((C.un (I2.un0 hex)).run hr I2.env0 rv hl hq) fun r s' hq' => ?_)
 cases r with
 | error e=>exact False.elim hq'
 | ok fl=>
  cases fl with
  | ret u=>exact I2.after hq'
  | next=>exact False.elim hq'
  | brk=>exact False.elim hq'
  | cont=>exact False.elim hq'
theorem pe_callH {fd:FuncData}{ps:List Str}{C:Shared→Hp→Prop}(F:FnOkS X.prog X.w X.K X.mg X.base k f fd ps (fun s vs H Q=>C s H∧sp vs H Q E0)) (hC:C X.s₀ X.H₀) (hst:∀ fs s H s' H',Un fs [] H H' s.heap s'.heap→C s H→C s' H') (hex:X.ex = [])
  (hr:Room k X.A) (hg:Gl X x) (hm:X.mg x = some (.ref f)) (hk:PySem.W.keepIn X.K (.ref f) = true) (hb:Binds X.K fd ps [])
  (ha:PA X (e :: es) t) (hdb:(x == ("__debug__" : Str)) = false:=by decide) (he:starEach (e :: es) X.env = (false,eval e X.env) :: starEach es X.env:=by rfl) (hpl:(backTo pos (starEach es X.env)).any (·.1) = false:=by rfl):
  PE X (.Call (.Name x p) (e :: es) [] pos) (tCall sp [] E0 t):=by
 intro pins s σ H Q I h
 refine wpAny_Call_Name_kw (ld_glob I hg hm ?_ hdb)
 refine PySem.W.callWith_K (h₀:=X.base) I.ok.mod.kin hk (thn (ha pos pins s σ H _ I h) fun us s2 ⟨vs,H2,I2,rr,q⟩=>⟨I2.kIn,?_⟩) he hpl
 have q:sp (vs ++ []) H2 Q E0:=q
 rw [List.append_nil] at q
 have hC2:=hst _ _ _ _ _ (I2.un0 hex) hC
 have hl:us.length = ps.length:=by rw [← rr.length];exact F.len _ _ _ _ ⟨hC2,q⟩
 have hb' := hb s2 us I2.kIn (by rw [List.append_nil];exact hl)
 rw [List.append_nil] at hb'
 refine wpAny_call (codeAny_mono (F.run X.A X.stack s2 H2 ⟨us,[]⟩ us _ Q hr I2.env0 hb' rr ⟨hC2,q⟩) fun r s' hq' => ?_)
 cases r with
 | error e=>exact False.elim hq'
 | ok fl=>
  cases fl with
  | ret u=>exact I2.after hq'
  | next=>exact False.elim hq'
  | brk=>exact False.elim hq'
  | cont=>exact False.elim hq'
end
end L2
namespace L2
open PySem PySem.Spec PyProof.Rows
section
variable {K:PySem.W.Frag}{σ:St}{G:Hp}{d:PyData}{i j n:Nat}{f f1 f2:Addr}{t:TA}{ta tb:TE}{ds:List PyData}{R:List PyData→PyData→Prop}
theorem ev_callF (hi:σ[i]? = some (some (.ref f))) (h:EvA K t σ G ds) (hn:ds.length = n) (hR:R ds d):Ev K (tCallF i f n (spP K R) t) σ G d:=
 fun G1 H s1 s2 Q k=>⟨hi,h G1 H s1 s2 _ fun vs G2 H2 g2 hv=>⟨by rw [hv.length];exact hn,G2,ds,d,g2.gh,hv,hR,fun v G' H' g hd=>k v G' H' (g2.trans g) hd⟩⟩
def spC (K:PySem.W.Frag) (f1 f2:Addr) (R:List PyData→PyData→Prop):Sp:=fun vs H Q _=>∃ (G:Hp) (ds:List PyData) (d:PyData) (xs:List V),vs = xs ++ [.ref f1,.ref f2]∧Same G H∧Dats K G xs ds∧R ds d∧∀ v G' H',Grow G H G' H' → Dat K G' v d→Q v H'
end
section
variable {X:Cx}{pins:List (Addr × Obj)}{σ:St}{H:Hp}{s:Shared}{sc:Scope}{ps loc cap:List Str}{name q:Str}{params:Arguments}{body:List Stmt}{f:Addr}{k:Nat}{sp:Sp}
theorem cl_of {js:List Nat}(I:Inv X pins σ H s) (S:CloScope X.env.scope sc ps loc cap) (hjs:js.map (fun j=>X.N[j]?) = cap.map some) (L:IsDef H f name q params body sc (clOf X.env sc.names []))
  (hbind:∀ (cl:List (Str × Addr)) (us:List Value),us.length = ps.length→∀ (doc pm ctv:Value) (c' : Addr),bindArgs (PySem.W.fnX name q params body sc cl .none .none doc pm none (.ref c') ctv) ⟨us,[]⟩ = pure (ps.zip us))
  (hbody:∀ (A:Around) (outer:List Env) (s' : Shared) (H' : Hp) (vs:List V) (Q:VK) (f c' : Addr) (cl:List (Str × Addr)),Room k (A.deeper (envB q sc s'.heap.objs.size f (.ref c') cl))→Kp H H' → vs.length = ps.length→sp vs H' Q E0→
   ∃ t,PSs (cloCx X.prog X.w X.K X.mg X.base (ps ++ loc ++ cap) q sc f c' cl A outer s' H') body t∧t { nx:=fun _ H' => Q .non H',rt:=Q } (vs.map some ++ List.replicate loc.length none ++ capV σ js) H'):
  ClOk X.prog X.w X.K X.mg X.base (k + 1) f ps.length sp s H:=by
 have lenJ:js.length = cap.length:=by have:=congrArg List.length hjs;simpa using this
 refine ⟨name,q,params,body,sc,clOf X.env sc.names [],cap,capV σ js,H,Kp.refl H,L,I.cellsOf S hjs,fun A outer s' H' us vs Q hr e0 kp L' C' r hl hs=>?_⟩
 refine clo_run S (fun y hy=>?_) (fun y c hc=>?_) hr e0 L' C' (hbind _ us (by rw [← r.length];exact hl)) hl (by unfold capV;rw [List.length_map,lenJ]) r fun c' hr' => hbody A outer s' H' vs Q f c' _ hr' kp hl hs
 ·exact Option.isSome_iff_exists.mp (clOf_has (env:=X.env) (acc:=[]) (PySem.mem_of_lookup hy))
 ·rcases clOf_free hc with m | m
  ·exact lookup_mem S.ndn m
  ·cases m
theorem pe_hand {e:Expr}{es:List Expr}{t:TA}{p pos:Pos}{x:Str}{g:Addr}{fd:FuncData}{C:Addr→Addr→Shared→Hp→Prop}{sp2:Addr→Addr→St→Sp}{RH:Addr→Addr→St→Hp→Prop}
  (F:∀ f1 f2 σ,FnOkS X.prog X.w X.K X.mg X.base k g fd ps (fun s vs H Q=>C f1 f2 s H∧sp2 f1 f2 σ vs H Q E0))
  (hC:∀ pins σ H s f1 f2,Inv X pins σ H s→RH f1 f2 σ H→C f1 f2 s H)
  (hr:Room k X.A) (hg:Gl X x) (hm:X.mg x = some (.ref g)) (hk:PySem.W.keepIn X.K (.ref g) = true) (hb:Binds X.K fd ps [])
  (ha:PA X (e :: es) t) (hdb:(x == ("__debug__" : Str)) = false:=by decide) (he:starEach (e :: es) X.env = (false,eval e X.env) :: starEach es X.env:=by rfl) (hpl:(backTo pos (starEach es X.env)).any (·.1) = false:=by rfl):
  PE X (.Call (.Name x p) (e :: es) [] pos) (fun σ H Q=>t σ H fun vs H1=>∃ f1 f2,RH f1 f2 σ H1∧sp2 f1 f2 σ vs H1 Q E0):=by
 intro pins s σ H Q I h
 refine wpAny_Call_Name_kw (ld_glob I hg hm ?_ hdb)
 refine PySem.W.callWith_K (h₀:=X.base) I.ok.mod.kin hk (thn (ha pos pins s σ H _ I h) fun us s2 ⟨vs,H2,I2,rr,f1,f2,q1,q⟩=>⟨I2.kIn,?_⟩) he hpl
 have hC2:=hC _ _ _ _ f1 f2 I2 q1
 have hl:us.length = ps.length:=by rw [← rr.length];exact (F f1 f2 σ).len _ _ _ _ ⟨hC2,q⟩
 have hb' := hb s2 us I2.kIn (by rw [List.append_nil];exact hl)
 rw [List.append_nil] at hb'
 refine wpAny_call (codeAny_mono ((F f1 f2 σ).run X.A X.stack s2 H2 ⟨us,[]⟩ us _ Q hr I2.env0 hb' rr ⟨hC2,q⟩) fun r s' hq' => ?_)
 cases r with
 | error e=>exact False.elim hq'
 | ok fl=>
  cases fl with
  | ret u=>exact I2.after hq'
  | next=>exact False.elim hq'
  | brk=>exact False.elim hq'
  | cont=>exact False.elim hq'
end
end L2
namespace Num
open Frac Dig
end Num
namespace Rdo
open PySem Dig Ord Nm L2 Frac
theorem Run.app {fld:Str→Prop}{num:Int→Int→Prop}{st st1 st2:List Str}{a b:List Wd}(h:Run fld num st a st1) (k:Run fld num st1 b st2):Run fld num st (a ++ b) st2:=by
 induction h with
 | nil=>exact k
 | cons s _ ih=>exact .cons s (ih k)
theorem Step.frame {fld:Str→Prop}{num:Int→Int→Prop}{st st1:List Str}{w:Wd}(r:List Str) (h:Ord.Step fld num st w st1):Ord.Step fld num (st ++ r) w (st1 ++ r):=by
 cases h with
 | field hx=>exact .field hx
 | number hx=>exact .number hx
 | word n1 n2 ho=>
  rw [List.append_assoc]
  exact .word n1 n2 ho
theorem Run.frame {fld:Str→Prop}{num:Int→Int→Prop}{st st1:List Str}{a:List Wd}(r:List Str) (h:Run fld num st a st1):Run fld num (st ++ r) a (st1 ++ r):=by
 induction h with
 | nil=>exact .nil
 | cons s _ ih=>exact .cons (Step.frame r s) ih
section
variable {fld:Str→Prop}{num:Int→Int→Prop}{a b:List Wd}
theorem o_then (ha:IsOrd fld num a) (hb:IsOrd fld num b):IsOrd fld num (.t (S "then") :: (a ++ b)):=
 .cons (st1:=[S "order",S "order"]) (Ord.Step.word (ps:=[S "order",S "order"]) (st:=[]) (by decide +kernel) (by decide +kernel) (by decide +kernel)) (Run.app (Run.frame [S "order"] ha) hb)
theorem o_turn (hb:IsOrd fld num b):IsOrd fld num (.t (S "turn") :: b):=
 .cons (st1:=[S "order"]) (Ord.Step.word (ps:=[S "order"]) (st:=[]) (by decide +kernel) (by decide +kernel) (by decide +kernel)) hb
end
end Rdo
namespace Look
open PySem Ord Rdo
inductive An where
 | ahead
 | like
 | behind
 deriving DecidableEq
def An.turn:An→An
 | .ahead=>.behind
 | .like=>.like
 | .behind=>.ahead
def An.t:An→Str
 | .ahead=>S "ahead"
 | .like=>S "like"
 | .behind=>S "behind"
def An.how:An→Str
 | .ahead=>S "less"
 | .like=>S "same"
 | .behind=>S "more"
inductive Tv where
 | an (a:An)
 | tr (b:Bool)
 | mk (b c:Bool)
 | wd (w:Wd)
def Tv.d:Tv→PyData
 | .an a=>.str a.t
 | .tr b=>.bool b
 | .mk b c=>.list [.bool b,.bool c]
 | .wd w=>w.d
structure En where
 look:Str→An
 one:Str→Int→Int→An
 two:Str→Int→Int→An
def isA (a b:An):Bool:=decide (a = b)
def appN (E:En):Nat→List Tv→Tv
 | 0,_=>.an .like
 | 1,[.wd (.t z)]=>.an (E.look z)
 | 2,[.wd (.t z)]=>.an (E.look z).turn
 | 3,[.an a,.an b]=>.an (if a = .like then b else a)
 | 4,[.an a]=>.an a.turn
 | 5,[.tr c,.an a,.an b]=>.an (if c = true then a else b)
 | 6,[.wd (.t z)]=>.tr (isA (E.look z) .like)
 | 7,[.mk b c]=>.tr (b && c)
 | 8,[.mk b c]=>.tr (b || c)
 | 9,[.tr b]=>.tr (!b)
 | 10,[.tr b,.tr c]=>.tr (b && c)
 | 11,[.tr b,.tr c]=>.tr (b || c)
 | 12,[.wd (.t z),.wd (.n a b)]=>.mk (isA (E.one z a b) .ahead) (isA (E.two z a b) .ahead)
 | 13,[.wd (.t z),.wd (.n a b)]=>.mk (isA (E.one z a b) .like) (isA (E.two z a b) .like)
 | _,_=>.an .like
def wix (x:Str):Nat:=wordsT.findIdx fun r=>decide (r.1 = x)
def push (E:En) (w:Wd) (st:List Tv):List Tv:=match w with
 | .n a b=>.wd (.n a b) :: st
 | .t x=>match wordT x with
  | some r=>appN E (wix x) (st.take r.2.2.length) :: st.drop r.2.2.length
  | none=>.wd (.t x) :: st
def ev (E:En):List Wd→List Tv→List Tv
 | [],st=>st
 | w :: ws,st=>push E w (ev E ws st)
theorem ev_app (E:En) (a b:List Wd) (st:List Tv):ev E (a ++ b) st = ev E a (ev E b st):=by
 induction a with
 | nil=>rfl
 | cons w a ih=>show push E w (ev E (a ++ b) st) = _;rw [ih];rfl
def Ty (fld:Str→Prop) (num:Int→Int→Prop) (p:Str) (v:Tv):Prop:=
 (p = S "order" ∧ ∃ a,v = .an a)∨(p = S "case" ∧ ∃ b,v = .tr b)∨(p = S "mark" ∧ ∃ b c,v = .mk b c)∨(p = S "field" ∧ ∃ z,fld z∧v = .wd (.t z))∨(p = S "number" ∧ ∃ a b,num a b∧v = .wd (.n a b))
theorem kinds_ne:(S "order" ≠ S "case" ∧ S "order" ≠ S "mark" ∧ S "order" ≠ S "field" ∧ S "order" ≠ S "number")∧(S "case" ≠ S "mark" ∧ S "case" ≠ S "field" ∧ S "case" ≠ S "number")∧(S "mark" ≠ S "field" ∧ S "mark" ≠ S "number")∧S "field" ≠ S "number" := by decide +kernel
theorem Ty.order {fld:Str→Prop}{num:Int→Int→Prop}{v:Tv}(h:Ty fld num (S "order") v):∃ a,v = .an a:=by
 obtain ⟨⟨n1,n2,n3,n4⟩,_⟩:=kinds_ne
 rcases h with ⟨_,h⟩ | ⟨e,_⟩ | ⟨e,_⟩ | ⟨e,_⟩ | ⟨e,_⟩
 ·exact h
 ·exact absurd e n1
 ·exact absurd e n2
 ·exact absurd e n3
 ·exact absurd e n4
theorem Ty.case {fld:Str→Prop}{num:Int→Int→Prop}{v:Tv}(h:Ty fld num (S "case") v):∃ b,v = .tr b:=by
 obtain ⟨⟨n1,n2,n3,n4⟩,⟨m1,m2,m3⟩,_⟩:=kinds_ne
 rcases h with ⟨e,_⟩ | ⟨_,h⟩ | ⟨e,_⟩ | ⟨e,_⟩ | ⟨e,_⟩
 ·exact absurd e.symm n1
 ·exact h
 ·exact absurd e m1
 ·exact absurd e m2
 ·exact absurd e m3
theorem Ty.mark {fld:Str→Prop}{num:Int→Int→Prop}{v:Tv}(h:Ty fld num (S "mark") v):∃ b c,v = .mk b c:=by
 obtain ⟨⟨n1,n2,n3,n4⟩,⟨m1,m2,m3⟩,⟨k1,k2⟩,_⟩:=kinds_ne
 rcases h with ⟨e,_⟩ | ⟨e,_⟩ | ⟨_,h⟩ | ⟨e,_⟩ | ⟨e,_⟩
 ·exact absurd e.symm n2
 ·exact absurd e.symm m1
 ·exact h
 ·exact absurd e k1
 ·exact absurd e k2
theorem Ty.field {fld:Str→Prop}{num:Int→Int→Prop}{v:Tv}(h:Ty fld num (S "field") v):∃ z,fld z∧v = .wd (.t z):=by
 obtain ⟨⟨n1,n2,n3,n4⟩,⟨m1,m2,m3⟩,⟨k1,k2⟩,l1⟩:=kinds_ne
 rcases h with ⟨e,_⟩ | ⟨e,_⟩ | ⟨e,_⟩ | ⟨_,h⟩ | ⟨e,_⟩
 ·exact absurd e.symm n3
 ·exact absurd e.symm m2
 ·exact absurd e.symm k1
 ·exact h
 ·exact absurd e l1
theorem Ty.number {fld:Str→Prop}{num:Int→Int→Prop}{v:Tv}(h:Ty fld num (S "number") v):∃ a b,num a b∧v = .wd (.n a b):=by
 obtain ⟨⟨n1,n2,n3,n4⟩,⟨m1,m2,m3⟩,⟨k1,k2⟩,l1⟩:=kinds_ne
 rcases h with ⟨e,_⟩ | ⟨e,_⟩ | ⟨e,_⟩ | ⟨e,_⟩ | ⟨_,h⟩
 ·exact absurd e.symm n4
 ·exact absurd e.symm m3
 ·exact absurd e.symm k2
 ·exact absurd e.symm l1
 ·exact h
inductive Tys (fld:Str→Prop) (num:Int→Int→Prop):List Str→List Tv→Prop
 | nil:Tys fld num [] []
 | cons {p:Str}{v:Tv}{ps:List Str}{vs:List Tv}:Ty fld num p v→Tys fld num ps vs→Tys fld num (p :: ps) (v :: vs)
theorem word14 {x:Str}{want:Str}{ps:List Str}(h:wordT x = some (x,want,ps)):
  (x = S "like" ∧ want = S "order" ∧ ps = [])∨(x = S "up" ∧ want = S "order" ∧ ps = [S "field"])∨(x = S "down" ∧ want = S "order" ∧ ps = [S "field"])∨(x = S "then" ∧ want = S "order" ∧ ps = [S "order",S "order"])∨
  (x = S "turn" ∧ want = S "order" ∧ ps = [S "order"])∨(x = S "pick" ∧ want = S "order" ∧ ps = [S "case",S "order",S "order"])∨(x = S "same" ∧ want = S "case" ∧ ps = [S "field"])∨(x = S "both" ∧ want = S "case" ∧ ps = [S "mark"])∨
  (x = S "either" ∧ want = S "case" ∧ ps = [S "mark"])∨(x = S "not" ∧ want = S "case" ∧ ps = [S "case"])∨(x = S "and" ∧ want = S "case" ∧ ps = [S "case",S "case"])∨(x = S "or" ∧ want = S "case" ∧ ps = [S "case",S "case"])∨
  (x = S "under" ∧ want = S "mark" ∧ ps = [S "field",S "number"])∨(x = S "is" ∧ want = S "mark" ∧ ps = [S "field",S "number"]):=by
 have m:=(wordT_mem h).1
 unfold wordsT at m
 simp only [List.mem_cons,List.not_mem_nil,or_false,Prod.mk.injEq] at m
 exact m
theorem wix14:wix (S "like") = 0∧wix (S "up") = 1∧wix (S "down") = 2∧wix (S "then") = 3∧wix (S "turn") = 4∧wix (S "pick") = 5∧wix (S "same") = 6∧wix (S "both") = 7∧wix (S "either") = 8∧wix (S "not") = 9∧wix (S "and") = 10∧wix (S "or") = 11∧wix (S "under") = 12∧wix (S "is") = 13:=by decide +kernel
theorem app_ty {fld:Str→Prop}{num:Int→Int→Prop}{E:En}{x want:Str}{ps:List Str}{vs:List Tv}(h:wordT x = some (x,want,ps)) (hv:Tys fld num ps vs):Ty fld num want (appN E (wix x) vs):=by
 obtain ⟨w0,w1,w2,w3,w4,w5,w6,w7,w8,w9,w10,w11,w12,w13⟩:=wix14
 have go1:∀ {p:Str},Tys fld num [p] vs→∃ v,vs = [v]∧Ty fld num p v:=fun h=>by cases h with | cons a b=>cases b;exact ⟨_,rfl,a⟩
 have go2:∀ {p q:Str},Tys fld num [p,q] vs→∃ v u,vs = [v,u]∧Ty fld num p v∧Ty fld num q u:=fun h=>by cases h with | cons a b=>cases b with | cons b c=>cases c;exact ⟨_,_,rfl,a,b⟩
 have go3:∀ {p q r:Str},Tys fld num [p,q,r] vs→∃ v u t,vs = [v,u,t]∧Ty fld num p v∧Ty fld num q u∧Ty fld num r t:=fun h=>by cases h with | cons a b=>cases b with | cons b c=>cases c with | cons c d=>cases d;exact ⟨_,_,_,rfl,a,b,c⟩
 rcases word14 h with ⟨rfl,rfl,rfl⟩ | ⟨rfl,rfl,rfl⟩ | ⟨rfl,rfl,rfl⟩ | ⟨rfl,rfl,rfl⟩ | ⟨rfl,rfl,rfl⟩ | ⟨rfl,rfl,rfl⟩ | ⟨rfl,rfl,rfl⟩ | ⟨rfl,rfl,rfl⟩ | ⟨rfl,rfl,rfl⟩ | ⟨rfl,rfl,rfl⟩ | ⟨rfl,rfl,rfl⟩ | ⟨rfl,rfl,rfl⟩ | ⟨rfl,rfl,rfl⟩ | ⟨rfl,rfl,rfl⟩
 ·rw [w0];exact .inl ⟨rfl,_,rfl⟩
 ·obtain ⟨v,rfl,h1⟩:=go1 hv;obtain ⟨z,_,rfl⟩:=h1.field;rw [w1];exact .inl ⟨rfl,_,rfl⟩
 ·obtain ⟨v,rfl,h1⟩:=go1 hv;obtain ⟨z,_,rfl⟩:=h1.field;rw [w2];exact .inl ⟨rfl,_,rfl⟩
 ·obtain ⟨v,u,rfl,h1,h2⟩:=go2 hv;obtain ⟨a,rfl⟩:=h1.order;obtain ⟨b,rfl⟩:=h2.order;rw [w3];exact .inl ⟨rfl,_,rfl⟩
 ·obtain ⟨v,rfl,h1⟩:=go1 hv;obtain ⟨a,rfl⟩:=h1.order;rw [w4];exact .inl ⟨rfl,_,rfl⟩
 ·obtain ⟨v,u,t,rfl,h1,h2,h3⟩:=go3 hv;obtain ⟨a,rfl⟩:=h1.case;obtain ⟨b,rfl⟩:=h2.order;obtain ⟨c,rfl⟩:=h3.order;rw [w5];exact .inl ⟨rfl,_,rfl⟩
 ·obtain ⟨v,rfl,h1⟩:=go1 hv;obtain ⟨z,_,rfl⟩:=h1.field;rw [w6];exact .inr (.inl ⟨rfl,_,rfl⟩)
 ·obtain ⟨v,rfl,h1⟩:=go1 hv;obtain ⟨a,b,rfl⟩:=h1.mark;rw [w7];exact .inr (.inl ⟨rfl,_,rfl⟩)
 ·obtain ⟨v,rfl,h1⟩:=go1 hv;obtain ⟨a,b,rfl⟩:=h1.mark;rw [w8];exact .inr (.inl ⟨rfl,_,rfl⟩)
 ·obtain ⟨v,rfl,h1⟩:=go1 hv;obtain ⟨a,rfl⟩:=h1.case;rw [w9];exact .inr (.inl ⟨rfl,_,rfl⟩)
 ·obtain ⟨v,u,rfl,h1,h2⟩:=go2 hv;obtain ⟨a,rfl⟩:=h1.case;obtain ⟨b,rfl⟩:=h2.case;rw [w10];exact .inr (.inl ⟨rfl,_,rfl⟩)
 ·obtain ⟨v,u,rfl,h1,h2⟩:=go2 hv;obtain ⟨a,rfl⟩:=h1.case;obtain ⟨b,rfl⟩:=h2.case;rw [w11];exact .inr (.inl ⟨rfl,_,rfl⟩)
 ·obtain ⟨v,u,rfl,h1,h2⟩:=go2 hv;obtain ⟨z,_,rfl⟩:=h1.field;obtain ⟨a,b,_,rfl⟩:=h2.number;rw [w12];exact .inr (.inr (.inl ⟨rfl,_,_,rfl⟩))
 ·obtain ⟨v,u,rfl,h1,h2⟩:=go2 hv;obtain ⟨z,_,rfl⟩:=h1.field;obtain ⟨a,b,_,rfl⟩:=h2.number;rw [w13];exact .inr (.inr (.inl ⟨rfl,_,_,rfl⟩))
theorem tys_split {fld:Str→Prop}{num:Int→Int→Prop}{st:List Str}:∀ {ps:List Str}{vs:List Tv},Tys fld num (ps ++ st) vs→Tys fld num ps (vs.take ps.length)∧Tys fld num st (vs.drop ps.length)
 | [],vs,h=>⟨.nil,h⟩
 | p :: ps,vs,h=>by
  cases h with
  | cons a b=>
   obtain ⟨h1,h2⟩:=tys_split b
   exact ⟨.cons a h1,h2⟩
theorem Tys.length {fld:Str→Prop}{num:Int→Int→Prop}:∀ {ps:List Str}{vs:List Tv},Tys fld num ps vs→ps.length = vs.length
 | _,_,.nil=>rfl
 | _,_,.cons _ b=>congrArg (· + 1) (Tys.length b)
abbrev Kinds (st:List Str):Prop:=∀ x∈st,x∈[S "order",S "case",S "mark",S "field",S "number"]
theorem push_ty {fld:Str→Prop}{num:Int→Int→Prop}{E:En}(hf:∀ z,fld z→wordT z = none) {st st1:List Str}{w:Wd}{vs:List Tv}(h:Ord.Step fld num st w st1) (hs:Kinds st) (hv:Tys fld num st1 vs):
  Tys fld num st (push E w vs)∧∀ R,push E w (vs ++ R) = push E w vs ++ R:=by
 rcases step_word h hs with ⟨x,st0,rfl,rfl,hx,rfl⟩ | ⟨a,b,st0,rfl,rfl,hx,rfl⟩ | ⟨want,x,ps,st0,rfl,rfl,n1,n2,hw,hl,rfl⟩
 ·have e:∀ us,push E (.t x) us = .wd (.t x) :: us:=fun us=>by unfold push;dsimp only;rw [hf x hx]
  rw [e]
  exact ⟨.cons (.inr (.inr (.inr (.inl ⟨rfl,x,hx,rfl⟩)))) hv,fun R=>by rw [e];rfl⟩
 ·exact ⟨.cons (.inr (.inr (.inr (.inr ⟨rfl,a,b,hx,rfl⟩)))) hv,fun R=>rfl⟩
 ·have e:∀ us,push E (.t x) us = appN E (wix x) (us.take ps.length) :: us.drop ps.length:=fun us=>by unfold push;dsimp only;rw [hw]
  rw [e]
  obtain ⟨h1,h2⟩:=tys_split hv
  have hlen:=hv.length
  rw [List.length_append] at hlen
  refine ⟨.cons (app_ty hw h1) h2,fun R=>?_⟩
  rw [e,List.take_append_of_le_length (by omega),List.drop_append_of_le_length (by omega)]
  rfl
theorem step_kinds {fld:Str→Prop}{num:Int→Int→Prop}{st st1:List Str}{w:Wd}(h:Ord.Step fld num st w st1) (hs:Kinds st):Kinds st1:=by
 rcases step_word h hs with ⟨x,st0,rfl,rfl,hx,rfl⟩ | ⟨a,b,st0,rfl,rfl,hx,rfl⟩ | ⟨want,x,ps,st0,rfl,rfl,n1,n2,hw,hl,rfl⟩
 ·exact fun p hp=>hs p (List.mem_cons_of_mem _ hp)
 ·exact fun p hp=>hs p (List.mem_cons_of_mem _ hp)
 ·intro p hp
  rcases List.mem_append.mp hp with hp | hp
  ·have key:∀ r∈wordsT,∀ p∈r.2.2,p∈[S "order",S "case",S "mark",S "field",S "number"]:=by decide +kernel
   exact key _ (wordT_mem hw).1 p hp
  ·exact hs p (List.mem_cons_of_mem _ hp)
theorem ev_ty {fld:Str→Prop}{num:Int→Int→Prop}{E:En}(hf:∀ z,fld z→wordT z = none) {st st1:List Str}{ws:List Wd}(h:Run fld num st ws st1):Kinds st→∀ {vs:List Tv},Tys fld num st1 vs→
  Tys fld num st (ev E ws vs)∧∀ R,ev E ws (vs ++ R) = ev E ws vs ++ R:=by
 induction h with
 | nil=>intro _ vs hv;exact ⟨hv,fun R=>rfl⟩
 | cons a b ih=>
  intro hs vs hv
  obtain ⟨h1,h2⟩:=ih (step_kinds a hs) hv
  obtain ⟨h3,h4⟩:=push_ty (E:=E) hf a hs h1
  exact ⟨h3,fun R=>by show push E _ (ev E _ (vs ++ R)) = _;rw [h2,h4];rfl⟩
theorem kinds_o:Kinds [S "order"]:=fun x hx=>by rw [List.mem_singleton.mp hx];exact List.mem_cons_self
theorem ev_order {fld:Str→Prop}{num:Int→Int→Prop}(E:En) (hf:∀ z,fld z→wordT z = none) {ws:List Wd}(h:IsOrd fld num ws):∃ a,∀ R,ev E ws R = .an a :: R:=by
 obtain ⟨h1,h2⟩:=ev_ty (E:=E) hf h kinds_o (vs:=[]) .nil
 cases hc:ev E ws [] with
 | nil=>rw [hc] at h1;cases h1
 | cons v r=>
  rw [hc] at h1
  cases h1 with
  | cons x y=>
   cases y
   obtain ⟨a,rfl⟩:=x.order
   refine ⟨a,fun R=>?_⟩
   have:=h2 R
   rw [List.nil_append] at this
   rw [this,hc];rfl
def hsA (a b:Int × Int):An:=if a.1 * b.2 < b.1 * a.2 then .ahead else if a.1 * b.2 > b.1 * a.2 then .behind else .like
theorem hsA_turn (a b:Int × Int):hsA b a = (hsA a b).turn:=by
 unfold hsA
 generalize a.1 * b.2 = x
 generalize b.1 * a.2 = y
 by_cases h1:x < y
 ·have n1:¬ y < x:=by omega
  simp only [h1,n1,gt_iff_lt,if_true,if_false];rfl
 ·by_cases h2:y < x
  ·simp only [h1,h2,gt_iff_lt,if_true,if_false];rfl
  ·simp only [h1,h2,gt_iff_lt,if_false];rfl
def enOf (book:List Str) (f g:List (Int × Int)):En where
 look z:=hsA (f.getD (book.idxOf z) (0,1)) (g.getD (book.idxOf z) (0,1))
 one z a b:=hsA (f.getD (book.idxOf z) (0,1)) (a,b)
 two z a b:=hsA (g.getD (book.idxOf z) (0,1)) (a,b)
end Look
namespace L2
open PySem PySem.Spec PyProof.Rows MeetsSeq
theorem tuple_index_meets (t:Addr) (items:Array Value) (n:Nat) (dct:Option Addr) (sl:Array (Option Value)) (x:Value) (e:Value→Bool) (he:∀ y,y∈items→EqGives y x (e y)) (j:Nat) (hj:j < items.size)
  (hit:e items[j] = true) (hno:∀ m (hm:m < items.size),m < j→e items[m] = false):
  Meets (Builtin.«tuple.index» ⟨[.ref t,x],[]⟩) (fun _ R s=>s.heap.get? t = some { cls:=.type "tuple",dict:=dct,data:=.seq items n,slots:=sl }∧R (.ok (.ret (.int j s.toks))) { s with toks:=s.toks + 1 }):=
 .of_wp fun prog w A R s h=>by
  obtain ⟨hp,g,d,tk,os⟩:=s;obtain ⟨q1,h⟩:=h
  wp_walk using wpAny_loadPart' q1
  show wpAny (model prog w) A.in1 (forIn ([:min items.size items.size]:Std.Legacy.Range) ((none:Option Fin),()) _) _ _ _
  rw [Std.Legacy.Range.forIn_eq_forIn_range']
  have hz:[:min items.size items.size].size = items.size:=by simp [Std.Legacy.Range.size]
  rw [hz]
  refine wpAny_forIn_list _ (fun rest b s' => s' = ⟨hp,g,d,tk,os⟩∧b = (none,())∧∃ i,i≤j∧rest = List.range' i (items.size - i)) _ ?_ ?_ _ _ ⟨rfl,rfl,0,Nat.zero_le _,rfl⟩
  ·rintro i rest b s' ⟨rfl,rfl,k,hk,hr⟩
   have hlt:k < items.size:=by omega
   have hr' : i = k∧rest = List.range' (k + 1) (items.size - (k + 1)):=by
    rw [show items.size - k = (items.size - (k + 1)) + 1 by omega,List.range'_succ] at hr
    injection hr with e1 e2
    exact ⟨e1,e2⟩
   obtain ⟨rfl,rfl⟩:=hr'
   have hi:items[i]? = some items[i]:=by simp [hlt]
   rw [hi]
   dsimp only
   refine wpAny_bind (he _ (Array.getElem_mem hlt) prog w _ _ _ _ ?_)
   by_cases hij:i = j
   ·subst hij
    rw [hit,if_pos rfl]
    wp_walk
    exact ⟨_,rfl,h⟩
   ·rw [hno i hlt (by omega)]
    exact wpAny_pure ⟨rfl,rfl,i + 1,by omega,rfl⟩
  ·rintro b s' ⟨rfl,rfl,k,hk,hr⟩
   have:items.size - k = 0:=by
    have:=congrArg List.length hr
    simpa using this.symm
   omega
def strE (z:Str):Value→Bool
 | .str a _=>a == z
 | _=>false
section
variable {X:Cx}
def rTIndex (K:PySem.W.Frag):V→List V→Hp→VK→Prop:=fun x vs H Q=>∃ (p:Addr) (ws:List Str) (z:Str),x = .ref p∧vs = [.str z]∧SqT K H p (ws.map V.str)∧z∈ws∧Q (.int (ws.idxOf z:Nat)) H
theorem mt_tindex {K:PySem.W.Frag}(eK:X.K = K):MtM X "tuple.index" (rTIndex K):=by
 subst eK
 intro pins s σ H x vs v us Q I rx rv h
 obtain ⟨p,ws,z,rfl,rfl,hp,hz,q⟩:=h
 cases rx
 obtain ⟨u,rfl,ru⟩:=vals1 rv
 obtain ⟨t,rfl⟩:=ru
 obtain ⟨its,r,pt,hl⟩:=I.tuple hp
 obtain ⟨⟨c,dct,dt,sl⟩,e1,e2,n,e3⟩:=pt
 replace e2:c = .type "tuple" := e2
 replace e3:dt = .seq its.toArray n:=e3
 subst e2 e3
 have hlen:its.length = ws.length:=by rw [← r.length,List.length_map]
 have el:∀ (i:Nat) (hi:i < its.toArray.size),∃ t',its.toArray[i] = Value.str (ws.getD i z) t' := fun i hi=>by
  have hi' : i < its.length:=by simpa using hi
  obtain ⟨u,hu,ru⟩:=r.get (i:=i) (x:=V.str (ws.getD i z)) (by rw [List.getElem?_map,List.getD_eq_getElem?_getD,List.getElem?_eq_getElem (by omega)];rfl)
  obtain ⟨t',rfl⟩:=ru
  refine ⟨t',?_⟩
  have:its[i] = Value.str (ws.getD i z) t' := by
   rw [List.getElem?_eq_getElem hi'] at hu;exact Option.some.inj hu
  simpa using this
 have hjl:ws.idxOf z < its.length:=by rw [hlen];exact List.idxOf_lt_length_of_mem hz
 refine call_meets F.slot_tuple_index ⟨_,e1,rfl⟩ F.entry_tuple_index (F.args_tuple_index_2 _ _)
  (tuple_index_meets p its.toArray n dct sl (.str z t) (strE z) (fun y hy=>?_) (ws.idxOf z) (by simpa using hjl) ?_ fun m hm hlt=>?_) ⟨e1,?_⟩
 ·obtain ⟨i,hi,rfl⟩:=Array.mem_iff_getElem.mp hy
  obtain ⟨t',e⟩:=el i hi
  rw [e]
  exact eqGives_str _ _ _ _
 ·obtain ⟨t',e⟩:=el _ (by simpa using hjl)
  rw [e]
  have:ws.getD (ws.idxOf z) z = z:=by
   rw [List.getD_eq_getElem?_getD,List.getElem?_eq_getElem (by omega)]
   exact List.getElem_idxOf (by omega)
  rw [this]
  show (z == z) = true
  exact beq_self_eq_true z
 ·obtain ⟨t',e⟩:=el m hm
  rw [e]
  show (ws.getD m z == z) = false
  have hm' : m < ws.length:=by have:m < its.length:=(by simpa using hm);omega
  have hne:(ws[m] == z) = false:=List.not_of_lt_findIdx (p:=(· == z)) (xs:=ws) hlt
  rw [List.getD_eq_getElem?_getD,List.getElem?_eq_getElem hm']
  exact hne
 ·exact ⟨.int _,H,I.tok _,⟨_,rfl⟩,q⟩
end
end L2
namespace L2
open PySem PySem.Spec PyProof.Rows
def tdsOk:List DictEntry→List (Str × Str)→Bool
 | [],[]=>true
 | e :: es,r :: rs=>(match e.key,e.val with
  | .str x _,.str v _=>x == r.1 && v == r.2
  | _,_=>false) && tdsOk es rs
 | _,_=>false
theorem td_val {e:DictEntry}{r:Str × Str}(h:(match e.key,e.val with
  | .str x _,.str v _=>x == r.1 && v == r.2
  | _,_=>false) = true):(∃ t,e.key = .str r.1 t)∧∃ t,e.val = .str r.2 t:=by
 split at h
 ·rename_i x t v u h1 h2
  rw [Bool.and_eq_true,beq_iff_eq,beq_iff_eq] at h
  obtain ⟨rfl,rfl⟩:=h
  exact ⟨⟨t,h1⟩,u,h2⟩
 ·cases h
theorem td_find (z:Str):∀ {es:List DictEntry}{rs:List (Str × Str)},tdsOk es rs = true→
  (es.find? (·.key.isStr z) = none∧rs.find? (fun r=>decide (r.1 = z)) = none)∨∃ e r,es.find? (·.key.isStr z) = some e∧rs.find? (fun r=>decide (r.1 = z)) = some r∧∃ t,e.val = .str r.2 t
 | [],[],_=>.inl ⟨rfl,rfl⟩
 | [],_ :: _,h=>by cases h
 | _ :: _,[],h=>by cases h
 | e :: es,r :: rs,h=>by
  unfold tdsOk at h
  rw [Bool.and_eq_true] at h
  obtain ⟨⟨t,hk⟩,hv⟩:=td_val h.1
  have q:e.key.isStr z = decide (r.1 = z):=by rw [hk];exact isStr_iff
  rw [List.find?_cons,List.find?_cons,q]
  by_cases hz:r.1 = z
  ·rw [decide_eq_true hz]
   exact .inr ⟨e,r,rfl,rfl,hv⟩
  ·rw [decide_eq_false hz]
   exact td_find z h.2
theorem td_nokey:∀ {es:List DictEntry}{rs:List (Str × Str)},tdsOk es rs = true→es.any (·.refKey) = false
 | [],[],_=>rfl
 | [],_ :: _,h=>by cases h
 | _ :: _,[],h=>by cases h
 | e :: es,r :: rs,h=>by
  unfold tdsOk at h
  rw [Bool.and_eq_true] at h
  obtain ⟨⟨t,hk⟩,_⟩:=td_val h.1
  rw [List.any_cons,td_nokey h.2,Bool.or_false]
  unfold DictEntry.refKey
  rw [hk]
structure Txs (K:PySem.W.Frag) (P:Params) (mg:Str→Option Value) (x:Str) (rs:List (Str × Str)) where
 a:Addr
 g:Str→Option (V × Value)
 m:mg x = some (.ref a)
 D:DictK K P a g
 yes:∀ z v,rs.find? (fun r=>decide (r.1 = z)) = some (z,v)→∃ u,g z = some (.str v,u)
theorem txs_of {K:PySem.W.Frag}{P:Params}{mg:Str→Option Value}{x:Str}{a:Addr}{es:Array DictEntry}{n:Nat}{rs:List (Str × Str)}(hm:mg x = some (.ref a)) (hl:K.lookup a = some ⟨.type "dict",none,.dict es n,#[]⟩) (hk:PySem.W.KeysLit P es.toList) (lo:(a == sysModules) = false)
  (h:tdsOk es.toList rs = true):Nonempty (Txs K P mg x rs):=by
 refine ⟨⟨a,gOf es.toList,hm,⟨⟨es,n,hl,hk⟩,lo,fun x=>?_,fun x v u e=>?_⟩,fun z v e=>?_⟩⟩
 ·unfold PySem.W.nsIn
  rw [hl]
  dsimp only
  unfold gOf
  rcases td_find x h with ⟨e1,_⟩ | ⟨e,r,e1,_,_⟩
  ·rw [e1,td_nokey h];rfl
  ·rw [e1];rfl
 ·unfold gOf at e
  rcases td_find x h with ⟨e1,_⟩ | ⟨e',r,e1,_,t,ht⟩
  ·rw [e1] at e;cases e
  ·rw [e1] at e
   rw [Option.map_some] at e
   injection e with e
   injection e with e1 e2
   subst e1 e2
   rw [ht];exact ⟨t,rfl⟩
 ·rcases td_find z h with ⟨_,e2⟩ | ⟨e',r,e1,e2,t,ht⟩
  ·rw [e2] at e;cases e
  ·rw [e2] at e
   injection e with e;subst e
   refine ⟨e'.val,?_⟩
   unfold gOf
   rw [e1,Option.map_some,ht];rfl
end L2
namespace Look
open PySem Ord Rdo
theorem wordT14:wordT (S "like") = some (S "like",S "order",[])∧wordT (S "turn") = some (S "turn",S "order",[S "order"])∧wordT (S "then") = some (S "then",S "order",[S "order",S "order"])∧wordT (S "pick") = some (S "pick",S "order",[S "case",S "order",S "order"])∧wordT (S "not") = some (S "not",S "case",[S "case"])∧
  wordT (S "up") = some (S "up",S "order",[S "field"])∧wordT (S "down") = some (S "down",S "order",[S "field"]):=by decide +kernel
theorem push_w {E:En}{x:Str}{r:Str × Str × List Str}(h:wordT x = some r) (st:List Tv):push E (.t x) st = appN E (wix x) (st.take r.2.2.length) :: st.drop r.2.2.length:=by unfold push;dsimp only;rw [h]
section
variable {E:En}{one other cs:List Wd}{a b:An}{c:Bool}
theorem ev_like (R:List Tv):ev E [.t (S "like")] R = .an .like :: R:=by
 show push E (.t (S "like")) R = _
 rw [push_w wordT14.1,wix14.1];rfl
theorem ev_turn (h:∀ R,ev E one R = .an a :: R) (R:List Tv):ev E (.t (S "turn") :: one) R = .an a.turn :: R:=by
 show push E (.t (S "turn")) (ev E one R) = _
 rw [h,push_w wordT14.2.1,wix14.2.2.2.2.1];rfl
theorem ev_then (h:∀ R,ev E one R = .an a :: R) (h' : ∀ R,ev E other R = .an b :: R) (R:List Tv):ev E (.t (S "then") :: (one ++ other)) R = .an (if a = .like then b else a) :: R:=by
 show push E (.t (S "then")) (ev E (one ++ other) R) = _
 rw [ev_app,h',h,push_w wordT14.2.2.1,wix14.2.2.2.1];rfl
theorem ev_pick (hc:∀ R,ev E cs R = .tr c :: R) (h:∀ R,ev E one R = .an a :: R) (h' : ∀ R,ev E other R = .an b :: R) (R:List Tv):ev E (.t (S "pick") :: (cs ++ (one ++ other))) R = .an (if c = true then a else b) :: R:=by
 show push E (.t (S "pick")) (ev E (cs ++ (one ++ other)) R) = _
 rw [ev_app,ev_app,h',h,hc,push_w wordT14.2.2.2.1,wix14.2.2.2.2.2.1];rfl
theorem ev_not (hc:∀ R,ev E cs R = .tr c :: R) (R:List Tv):ev E (.t (S "not") :: cs) R = .tr (!c) :: R:=by
 show push E (.t (S "not")) (ev E cs R) = _
 rw [hc,push_w wordT14.2.2.2.2.1,wix14.2.2.2.2.2.2.2.2.2.1];rfl
end
end Look
namespace Look
open PySem Ord Rdo
section
variable {fld:Str→Prop}{num:Int→Int→Prop}{a b cs:List Wd}
abbrev IsCase (fld:Str→Prop) (num:Int→Int→Prop) (ws:List Wd):Prop:=Run fld num [S "case"] ws []
abbrev IsMark (fld:Str→Prop) (num:Int→Int→Prop) (ws:List Wd):Prop:=Run fld num [S "mark"] ws []
theorem o_like:IsOrd fld num [.t (S "like")]:=.cons (st1:=[]) (Ord.Step.word (ps:=[]) (st:=[]) (by decide +kernel) (by decide +kernel) (by decide +kernel)) .nil
theorem o_up {x:Str}(hx:fld x):IsOrd fld num [.t (S "up"),.t x]:=.cons (st1:=[S "field"]) (Ord.Step.word (ps:=[S "field"]) (st:=[]) (by decide +kernel) (by decide +kernel) (by decide +kernel)) (.cons (Ord.Step.field hx) .nil)
theorem o_down {x:Str}(hx:fld x):IsOrd fld num [.t (S "down"),.t x]:=.cons (st1:=[S "field"]) (Ord.Step.word (ps:=[S "field"]) (st:=[]) (by decide +kernel) (by decide +kernel) (by decide +kernel)) (.cons (Ord.Step.field hx) .nil)
theorem o_pickC (hc:IsCase fld num cs) (ha:IsOrd fld num a) (hb:IsOrd fld num b):IsOrd fld num (.t (S "pick") :: (cs ++ (a ++ b))):=
 .cons (st1:=[S "case",S "order",S "order"]) (Ord.Step.word (ps:=[S "case",S "order",S "order"]) (st:=[]) (by decide +kernel) (by decide +kernel) (by decide +kernel))
  (Run.app (Run.frame [S "order",S "order"] hc) (Run.app (Run.frame [S "order"] ha) hb))
theorem c_not (hc:IsCase fld num cs):IsCase fld num (.t (S "not") :: cs):=.cons (st1:=[S "case"]) (Ord.Step.word (ps:=[S "case"]) (st:=[]) (by decide +kernel) (by decide +kernel) (by decide +kernel)) hc
theorem c_same {x:Str}(hx:fld x):IsCase fld num [.t (S "same"),.t x]:=.cons (st1:=[S "field"]) (Ord.Step.word (ps:=[S "field"]) (st:=[]) (by decide +kernel) (by decide +kernel) (by decide +kernel)) (.cons (Ord.Step.field hx) .nil)
theorem c_both (hm:IsMark fld num cs):IsCase fld num (.t (S "both") :: cs):=.cons (st1:=[S "mark"]) (Ord.Step.word (ps:=[S "mark"]) (st:=[]) (by decide +kernel) (by decide +kernel) (by decide +kernel)) hm
theorem c_either (hm:IsMark fld num cs):IsCase fld num (.t (S "either") :: cs):=.cons (st1:=[S "mark"]) (Ord.Step.word (ps:=[S "mark"]) (st:=[]) (by decide +kernel) (by decide +kernel) (by decide +kernel)) hm
theorem c_and (ha:IsCase fld num a) (hb:IsCase fld num b):IsCase fld num (.t (S "and") :: (a ++ b)):=.cons (st1:=[S "case",S "case"]) (Ord.Step.word (ps:=[S "case",S "case"]) (st:=[]) (by decide +kernel) (by decide +kernel) (by decide +kernel)) (Run.app (Run.frame [S "case"] ha) hb)
theorem c_or (ha:IsCase fld num a) (hb:IsCase fld num b):IsCase fld num (.t (S "or") :: (a ++ b)):=.cons (st1:=[S "case",S "case"]) (Ord.Step.word (ps:=[S "case",S "case"]) (st:=[]) (by decide +kernel) (by decide +kernel) (by decide +kernel)) (Run.app (Run.frame [S "case"] ha) hb)
theorem m_two {m x:Str}{p q:Int}(hm:m = S "under" ∨ m = S "is") (hx:fld x) (hn:num p q):IsMark fld num [.t m,.t x,.n p q]:=
 .cons (st1:=[S "field",S "number"]) (Ord.Step.word (ps:=[S "field",S "number"]) (st:=[]) (by decide +kernel) (by decide +kernel) (by rcases hm with rfl | rfl <;> decide +kernel)) (.cons (Ord.Step.field hx) (.cons (Ord.Step.number hn) .nil))
end
section
variable {E:En}
theorem ev_up {x:Str}(hx:wordT x = none) (R:List Tv):ev E [.t (S "up"),.t x] R = .an (E.look x) :: R:=by
 show push E (.t (S "up")) (push E (.t x) R) = _
 have e:push E (.t x) R = .wd (.t x) :: R:=by unfold push;dsimp only;rw [hx]
 rw [e,push_w wordT14.2.2.2.2.2.1,wix14.2.1];rfl
theorem ev_down {x:Str}(hx:wordT x = none) (R:List Tv):ev E [.t (S "down"),.t x] R = .an (E.look x).turn :: R:=by
 show push E (.t (S "down")) (push E (.t x) R) = _
 have e:push E (.t x) R = .wd (.t x) :: R:=by unfold push;dsimp only;rw [hx]
 rw [e,push_w wordT14.2.2.2.2.2.2,wix14.2.2.1];rfl
end
theorem t_inj {a b:An}:a.t = b.t↔a = b:=by
 constructor
 ·intro h
  have k:∀ a b:An,a.t = b.t→a = b:=by intro a b;cases a <;> cases b <;> decide +kernel
  exact k a b h
 ·rintro rfl;rfl
end Look
namespace Look
open PySem Ord Rdo
abbrev Fs:=List (Int × Int)
def lookA (book:List Str) (ws:List Wd) (f g:Fs):An:=match ev (enOf book f g) ws [] with
 | .an a :: _=>a
 | _=>.like
theorem lookA_ev {fld:Str→Prop}{num:Int→Int→Prop}{book:List Str}{ws:List Wd}(f g:Fs) (hf:∀ z,fld z→wordT z = none) (h:IsOrd fld num ws):∀ R,ev (enOf book f g) ws R = .an (lookA book ws f g) :: R:=by
 obtain ⟨a,ha⟩:=ev_order (enOf book f g) hf h
 have e:lookA book ws f g = a:=by unfold lookA;rw [ha []]
 rw [e];exact ha
theorem lookA_of {book:List Str}{ws:List Wd}{f g:Fs}{a:An}(h:∀ R,ev (enOf book f g) ws R = .an a :: R):lookA book ws f g = a:=by unfold lookA;rw [h []]
def cmpN (i j:Nat):An:=if i < j then .ahead else if i > j then .behind else .like
def rk (L:Fs→Fs→An) (gs:List Fs) (f:Fs):Nat:=gs.countP fun g=>decide (L f g = .behind)
def agree (L:Fs→Fs→An) (gs:List Fs):Bool:=gs.all fun f=>gs.all fun g=>decide (L f g = cmpN (rk L gs f) (rk L gs g))
structure Wk (L:Fs→Fs→An) (D:Fs→Prop):Prop where
 anti:∀ f g,D f→D g→L g f = (L f g).turn
 trans:∀ f g h,D f→D g→D h→L f g≠.behind→L g h≠.behind→L f h≠.behind
theorem turn_ahead {a:An}(h:a.turn = .ahead):a = .behind:=by cases a <;> first | rfl | cases h
theorem turn_behind {a:An}(h:a.turn = .behind):a = .ahead:=by cases a <;> first | rfl | cases h
theorem Wk.self {L:Fs→Fs→An}{D:Fs→Prop}(w:Wk L D) {f:Fs}(hf:D f):L f f = .like:=by
 have:=w.anti f f hf hf
 cases e:L f f with
 | like=>rfl
 | ahead=>rw [e] at this;cases this
 | behind=>rw [e] at this;cases this
theorem Wk.sub {L:Fs→Fs→An}{D D' : Fs→Prop} (w:Wk L D) (h:∀ f,D' f→D f):Wk L D' := ⟨fun f g a b=>w.anti f g (h f a) (h g b),fun f g k a b c=>w.trans f g k (h f a) (h g b) (h k c)⟩
theorem Wk.lt_le {L:Fs→Fs→An}{D:Fs→Prop}(w:Wk L D) {f g h:Fs}(hf:D f) (hg:D g) (hh:D h) (a:L f g = .ahead) (b:L g h≠.behind):L f h = .ahead:=by
 have n1:L f h≠.behind:=w.trans f g h hf hg hh (by rw [a];decide) b
 cases e:L f h with
 | ahead=>rfl
 | behind=>exact absurd e n1
 | like=>
  have e2:L h f = .like:=by rw [w.anti f h hf hh,e];rfl
  have:=w.trans g h f hg hh hf b (by rw [e2];decide)
  have e3:L g f = .behind:=by rw [w.anti f g hf hg,a];rfl
  exact absurd e3 this
theorem Wk.le_lt {L:Fs→Fs→An}{D:Fs→Prop}(w:Wk L D) {f g h:Fs}(hf:D f) (hg:D g) (hh:D h) (a:L f g≠.behind) (b:L g h = .ahead):L f h = .ahead:=by
 have n1:L f h≠.behind:=w.trans f g h hf hg hh a (by rw [b];decide)
 cases e:L f h with
 | ahead=>rfl
 | behind=>exact absurd e n1
 | like=>
  have e2:L h f = .like:=by rw [w.anti f h hf hh,e];rfl
  have:=w.trans h f g hh hf hg (by rw [e2];decide) a
  have e3:L h g = .behind:=by rw [w.anti g h hg hh,b];rfl
  exact absurd e3 this
theorem countP_le' {α:Type}{p q:α→Bool}:∀ {l:List α},(∀ x∈l,p x = true→q x = true)→l.countP p≤l.countP q
 | [],_=>Nat.le_refl _
 | x :: r,h=>by
  have ih:=countP_le' (p:=p) (q:=q) (l:=r) fun y hy=>h y (List.mem_cons_of_mem _ hy)
  rw [List.countP_cons,List.countP_cons]
  have:=h x List.mem_cons_self
  cases e:p x with
  | false=>simp;omega
  | true=>rw [this e];simp;omega
theorem countP_lt' {α:Type}{p q:α→Bool}:∀ {l:List α},(∀ x∈l,p x = true→q x = true)→(∃ x∈l,p x = false∧q x = true)→l.countP p < l.countP q
 | [],_,⟨x,hx,_⟩=>by cases hx
 | x :: r,h,⟨y,hy,e1,e2⟩=>by
  rw [List.countP_cons,List.countP_cons]
  have le:=countP_le' (p:=p) (q:=q) (l:=r) fun z hz=>h z (List.mem_cons_of_mem _ hz)
  rcases List.mem_cons.mp hy with rfl | hy
  ·rw [e1,e2];simp;omega
  ·have ih:=countP_lt' (p:=p) (q:=q) (l:=r) (fun z hz=>h z (List.mem_cons_of_mem _ hz)) ⟨y,hy,e1,e2⟩
   have:=h x List.mem_cons_self
   cases e:p x with
   | false=>simp;omega
   | true=>rw [this e];simp;omega
theorem rk_lt {L:Fs→Fs→An}{gs:List Fs}(w:Wk L (· ∈ gs)) {f g:Fs}(hf:f∈gs) (hg:g∈gs) (a:L f g = .ahead):rk L gs f < rk L gs g:=by
 refine countP_lt' (fun h hh e=>?_) ⟨f,hf,?_,?_⟩
 ·have e' : L f h = .behind:=of_decide_eq_true e
  have e2:L h f = .ahead:=by rw [w.anti f h hf hh,e'];rfl
  have e3:=w.lt_le hh hf hg e2 (by rw [a];decide)
  exact decide_eq_true (by rw [w.anti h g hh hg,e3];rfl)
 ·rw [w.self hf];decide
 ·exact decide_eq_true (by rw [w.anti f g hf hg,a];rfl)
theorem rk_le {L:Fs→Fs→An}{gs:List Fs}(w:Wk L (· ∈ gs)) {f g:Fs}(hf:f∈gs) (hg:g∈gs) (a:L f g≠.behind):rk L gs f≤rk L gs g:=by
 refine countP_le' fun h hh e=>?_
 have e' : L f h = .behind:=of_decide_eq_true e
 have e2:L h f = .ahead:=by rw [w.anti f h hf hh,e'];rfl
 have e3:=w.lt_le hh hf hg e2 a
 exact decide_eq_true (by rw [w.anti h g hh hg,e3];rfl)
theorem agree_iff (L:Fs→Fs→An) (gs:List Fs):agree L gs = true↔Wk L (· ∈ gs):=by
 constructor
 ·intro h
  have key:∀ f g,f∈gs→g∈gs→L f g = cmpN (rk L gs f) (rk L gs g):=fun f g hf hg=>by
   unfold agree at h
   exact of_decide_eq_true (List.all_eq_true.mp (List.all_eq_true.mp h f hf) g hg)
  refine ⟨fun f g hf hg=>?_,fun f g k hf hg hk a b=>?_⟩
  ·rw [key f g hf hg,key g f hg hf]
   unfold cmpN
   generalize rk L gs f = i
   generalize rk L gs g = j
   by_cases h1:i < j
   ·have:¬ j < i:=by omega
    simp only [h1,this,if_true,if_false,gt_iff_lt];rfl
   ·by_cases h2:j < i
    ·simp only [h1,h2,if_true,if_false,gt_iff_lt];rfl
    ·simp only [h1,h2,if_false,gt_iff_lt];rfl
  ·rw [key f g hf hg] at a
   rw [key g k hg hk] at b
   rw [key f k hf hk]
   revert a b
   unfold cmpN
   generalize rk L gs f = i
   generalize rk L gs g = j
   generalize rk L gs k = m
   intro a b
   have h1:¬ i > j:=fun z=>a (by rw [if_neg (by omega),if_pos z])
   have h2:¬ j > m:=fun z=>b (by rw [if_neg (by omega),if_pos z])
   by_cases h3:i < m
   ·rw [if_pos h3];decide
   ·rw [if_neg h3,if_neg (by omega)];decide
 ·intro w
  unfold agree
  refine List.all_eq_true.mpr fun f hf=>List.all_eq_true.mpr fun g hg=>decide_eq_true ?_
  unfold cmpN
  cases e:L f g with
  | ahead=>rw [if_pos (rk_lt w hf hg e)]
  | behind=>
   have e2:L g f = .ahead:=by rw [w.anti f g hf hg,e];rfl
   have:=rk_lt w hg hf e2
   rw [if_neg (by omega),if_pos this]
  | like=>
   have e2:L g f = .like:=by rw [w.anti f g hf hg,e];rfl
   have h1:=rk_le w hf hg (by rw [e];decide)
   have h2:=rk_le w hg hf (by rw [e2];decide)
   rw [if_neg (by omega),if_neg (by omega)]
def uniq (fs:List Fs):List Fs:=fs.foldl (fun acc f=>if (acc.any fun g=>decide (g = f)) = true then acc else acc ++ [f]) []
theorem uniq_mem (fs:List Fs):∀ f,f∈uniq fs↔f∈fs:=by
 have key:∀ (l acc:List Fs) (f:Fs),f∈l.foldl (fun acc f=>if (acc.any fun g=>decide (g = f)) = true then acc else acc ++ [f]) acc↔f∈acc∨f∈l:=by
  intro l
  induction l with
  | nil=>intro acc f;simp
  | cons x r ih=>
   intro acc f
   rw [List.foldl_cons,ih]
   by_cases h:(acc.any fun g=>decide (g = x)) = true
   ·rw [if_pos h]
    obtain ⟨y,hy,e⟩:=List.any_eq_true.mp h
    have e' : y = x:=of_decide_eq_true e
    subst e'
    constructor
    ·rintro (q | q)
     ·exact .inl q
     ·exact .inr (List.mem_cons_of_mem _ q)
    ·rintro (q | q)
     ·exact .inl q
     ·rcases List.mem_cons.mp q with rfl | q
      ·exact .inl hy
      ·exact .inr q
   ·rw [if_neg h]
    simp only [List.mem_append,List.mem_cons,List.not_mem_nil,or_false]
    constructor
    ·rintro ((q | q) | q)
     ·exact .inl q
     ·exact .inr (.inl q)
     ·exact .inr (.inr q)
    ·rintro (q | q | q)
     ·exact .inl (.inl q)
     ·exact .inl (.inr q)
     ·exact .inr q
 intro f
 have:=key fs [] f
 unfold uniq
 rw [this];simp
theorem Wk.turn {L:Fs→Fs→An}{D:Fs→Prop}(w:Wk L D):Wk (fun f g=>(L f g).turn) D:=by
 refine ⟨fun f g hf hg=>by rw [w.anti f g hf hg],fun f g h hf hg hh a b=>?_⟩
 have a' : L g f≠.behind:=fun z=>a (by rw [w.anti g f hg hf,z];rfl)
 have b' : L h g≠.behind:=fun z=>b (by rw [w.anti h g hh hg,z];rfl)
 have:=w.trans h g f hh hg hf b' a'
 intro z
 have z' : L f h = .ahead:=turn_behind z
 exact this (by rw [w.anti f h hf hh,z'];rfl)
theorem Wk.then_ {L M:Fs→Fs→An}{D:Fs→Prop}(w:Wk L D) (v:Wk M D):Wk (fun f g=>if L f g = .like then M f g else L f g) D:=by
 refine ⟨fun f g hf hg=>?_,fun f g h hf hg hh a b=>?_⟩
 ·show (if L g f = .like then M g f else L g f) = (if L f g = .like then M f g else L f g).turn
  rw [w.anti f g hf hg,v.anti f g hf hg]
  cases L f g <;> rfl
 ·skip
  have a1:L f g≠.behind:=fun z=>a (by rw [z];rfl)
  have b1:L g h≠.behind:=fun z=>b (by rw [z];rfl)
  cases e1:L f g with
  | behind=>exact absurd e1 a1
  | ahead=>rw [w.lt_le hf hg hh e1 b1];exact fun z=>by cases z
  | like=>
   cases e2:L g h with
   | behind=>exact absurd e2 b1
   | ahead=>rw [w.le_lt hf hg hh a1 e2];exact fun z=>by cases z
   | like=>
    have n1:L f h≠.behind:=w.trans f g h hf hg hh a1 b1
    have n2:L h f≠.behind:=w.trans h g f hh hg hf (by rw [w.anti g h hg hh,e2];decide) (by rw [w.anti f g hf hg,e1];decide)
    have e3:L f h = .like:=by
     cases e:L f h with
     | like=>rfl
     | behind=>exact absurd e n1
     | ahead=>exact absurd (by rw [w.anti f h hf hh,e];rfl) n2
    rw [e3,if_pos rfl]
    rw [if_pos e1] at a
    rw [if_pos e2] at b
    exact v.trans f g h hf hg hh a b
theorem wk_like {D:Fs→Prop}:Wk (fun _ _=>.like) D:=⟨fun _ _ _ _=>rfl,fun _ _ _ _ _ _ a _=>a⟩
theorem mul_le_of {a b c d:Int}(hb:1≤b) (h:a * d≤c * d) (hd:1≤d):a≤c:=by
 rcases Int.lt_or_le c a with z | z
 ·have:c * d < a * d:=Int.mul_lt_mul_of_pos_right z (by omega)
  omega
 ·exact z
theorem cross_trans {a b c:Int × Int}(ha:1≤a.2) (hb:1≤b.2) (hc:1≤c.2) (h1:a.1 * b.2≤b.1 * a.2) (h2:b.1 * c.2≤c.1 * b.2):a.1 * c.2≤c.1 * a.2:=by
 have q1:a.1 * b.2 * c.2≤b.1 * a.2 * c.2:=Int.mul_le_mul_of_nonneg_right h1 (by omega)
 have q2:b.1 * c.2 * a.2≤c.1 * b.2 * a.2:=Int.mul_le_mul_of_nonneg_right h2 (by omega)
 have e1:a.1 * b.2 * c.2 = (a.1 * c.2) * b.2:=by rw [Int.mul_assoc,Int.mul_comm b.2 c.2,← Int.mul_assoc]
 have e2:b.1 * a.2 * c.2 = b.1 * c.2 * a.2:=by rw [Int.mul_assoc,Int.mul_comm a.2 c.2,← Int.mul_assoc]
 have e3:c.1 * b.2 * a.2 = (c.1 * a.2) * b.2:=by rw [Int.mul_assoc,Int.mul_comm b.2 a.2,← Int.mul_assoc]
 exact mul_le_of hb (by omega) hb
def FPos (n:Nat) (f:Fs):Prop:=f.length = n∧∀ p∈f,1≤p.2
theorem FPos.get {n:Nat}{f:Fs}(h:FPos n f) (i:Nat):1≤(f.getD i (0,1)).2:=by
 rw [List.getD_eq_getElem?_getD]
 cases e:f[i]? with
 | none=>decide
 | some p=>exact h.2 p (List.mem_of_getElem? e)
theorem hsA_le {a b:Int × Int}:hsA a b≠.behind↔a.1 * b.2≤b.1 * a.2:=by
 unfold hsA
 by_cases h1:a.1 * b.2 < b.1 * a.2
 ·rw [if_pos h1];exact ⟨fun _=>by omega,fun _=>by decide⟩
 ·rw [if_neg h1]
  by_cases h2:a.1 * b.2 > b.1 * a.2
  ·rw [if_pos h2];exact ⟨fun z=>absurd rfl z,fun z=>by omega⟩
  ·rw [if_neg h2];exact ⟨fun _=>by omega,fun _=>by decide⟩
theorem wk_field (i n:Nat):Wk (fun f g=>hsA (f.getD i (0,1)) (g.getD i (0,1))) (FPos n):=
 ⟨fun f g _ _=>hsA_turn _ _,fun f g h hf hg hh a b=>hsA_le.mpr (cross_trans (hf.get i) (hg.get i) (hh.get i) (hsA_le.mp a) (hsA_le.mp b))⟩
end Look
namespace K28
open PySem L2 Frac Lw Dig PySem.NumText Nm
def top (i:Nat):Stmt:=PySem.Challenge.pw_ordertext_k28_turning.main.body.getD i (.Pass ⟨0,0,0,0⟩)
abbrev s_telling:Stmt:=top 7
abbrev s_taken:Stmt:=top 8
abbrev s_word_told:Stmt:=top 9
abbrev s_put_together:Stmt:=top 10
abbrev s_is_open:Stmt:=top 11
abbrev s_answer:Stmt:=top 12
abbrev s_one_then_other:Stmt:=top 13
abbrev s_turned_about:Stmt:=top 14
abbrev s_picked:Stmt:=top 15
abbrev s_settled_by:Stmt:=top 16
abbrev s_compared:Stmt:=top 18
abbrev s_how_stands:Stmt:=top 19
abbrev s_looked:Stmt:=top 21
abbrev s_each_once:Stmt:=top 22
abbrev s_table_of:Stmt:=top 23
abbrev s_looks_of:Stmt:=top 24
abbrev s_looks_agree:Stmt:=top 25
abbrev s_against_ranks:Stmt:=top 26
abbrev s_three_against:Stmt:=top 27
abbrev s_picked_out:Stmt:=top 28
abbrev s_ranks_in:Stmt:=top 29
abbrev s_by_size:Stmt:=top 30
abbrev s_turning:Stmt:=top 32
abbrev s_ranks_of:Stmt:=top 33
abbrev s__law_next:Stmt:=top 35
abbrev s__law_fraction:Stmt:=top 36
abbrev s__law_book:Stmt:=top 37
abbrev s__law_pool:Stmt:=top 38
abbrev s__law_row:Stmt:=top 39
abbrev s__law_case:Stmt:=top 40
abbrev s__law_order:Stmt:=top 41
abbrev s__law_due:Stmt:=top 42
abbrev s_law:Stmt:=top 43
theorem sc_telling:FnScope ["order", "by_field", "by_mark", "told", "word"] ["order", "by_field", "by_mark"] (defScope s_telling):=⟨rfl,rfl,rfl,by decide +kernel,rfl,by decide +kernel,by decide +kernel⟩
theorem sc_taken:FnScope ["told", "many", "parts"] ["told", "many"] (defScope s_taken):=⟨rfl,rfl,rfl,by decide +kernel,rfl,by decide +kernel,by decide +kernel⟩
theorem sc_word_told:FnScope ["word", "parts", "by_field", "by_mark"] ["word", "parts", "by_field", "by_mark"] (defScope s_word_told):=⟨rfl,rfl,rfl,by decide +kernel,rfl,by decide +kernel,by decide +kernel⟩
theorem sc_put_together:FnScope ["word", "parts"] ["word", "parts"] (defScope s_put_together):=⟨rfl,rfl,rfl,by decide +kernel,rfl,by decide +kernel,by decide +kernel⟩
theorem sc_is_open:FnScope ["part"] ["part"] (defScope s_is_open):=⟨rfl,rfl,rfl,by decide +kernel,rfl,by decide +kernel,by decide +kernel⟩
theorem sc_answer:FnScope ["word", "how"] ["word", "how"] (defScope s_answer):=⟨rfl,rfl,rfl,by decide +kernel,rfl,by decide +kernel,by decide +kernel⟩
theorem sc_one_then_other:FnScope ["one", "other"] ["one", "other"] (defScope s_one_then_other):=⟨rfl,rfl,rfl,by decide +kernel,rfl,by decide +kernel,by decide +kernel⟩
theorem sc_turned_about:FnScope ["part"] ["part"] (defScope s_turned_about):=⟨rfl,rfl,rfl,by decide +kernel,rfl,by decide +kernel,by decide +kernel⟩
theorem sc_picked:FnScope ["case", "one", "other"] ["case", "one", "other"] (defScope s_picked):=⟨rfl,rfl,rfl,by decide +kernel,rfl,by decide +kernel,by decide +kernel⟩
theorem sc_settled_by:FnScope ["truth", "word", "parts", "rest"] ["truth", "word", "parts"] (defScope s_settled_by):=⟨rfl,rfl,rfl,by decide +kernel,rfl,by decide +kernel,by decide +kernel⟩
theorem sc_compared:FnScope ["one", "other", "left", "right"] ["one", "other"] (defScope s_compared):=⟨rfl,rfl,rfl,by decide +kernel,rfl,by decide +kernel,by decide +kernel⟩
theorem sc_how_stands:FnScope ["one", "other", "size"] ["one", "other"] (defScope s_how_stands):=⟨rfl,rfl,rfl,by decide +kernel,rfl,by decide +kernel,by decide +kernel⟩
theorem sc_looked:FnScope ["order", "book", "first", "second", "by_field", "by_mark"] ["order", "book", "first", "second"] (defScope s_looked):=⟨rfl,rfl,rfl,by decide +kernel,rfl,by decide +kernel,by decide +kernel⟩
theorem sc_each_once:FnScope ["things", "kept", "thing"] ["things"] (defScope s_each_once):=⟨rfl,rfl,rfl,by decide +kernel,rfl,by decide +kernel,by decide +kernel⟩
theorem sc_table_of:FnScope ["order", "book", "things"] ["order", "book", "things"] (defScope s_table_of):=⟨rfl,rfl,rfl,by decide +kernel,rfl,by decide +kernel,by decide +kernel⟩
theorem sc_looks_of:FnScope ["order", "book", "one", "things"] ["order", "book", "one", "things"] (defScope s_looks_of):=⟨rfl,rfl,rfl,by decide +kernel,rfl,by decide +kernel,by decide +kernel⟩
theorem sc_looks_agree:FnScope ["table"] ["table"] (defScope s_looks_agree):=⟨rfl,rfl,rfl,by decide +kernel,rfl,by decide +kernel,by decide +kernel⟩
theorem sc_against_ranks:FnScope ["table", "ranks", "one", "row", "other", "look"] ["table"] (defScope s_against_ranks):=⟨rfl,rfl,rfl,by decide +kernel,rfl,by decide +kernel,by decide +kernel⟩
theorem sc_three_against:FnScope ["table", "pair", "third", "three"] ["table"] (defScope s_three_against):=⟨rfl,rfl,rfl,by decide +kernel,rfl,by decide +kernel,by decide +kernel⟩
theorem sc_picked_out:FnScope ["row", "places"] ["row", "places"] (defScope s_picked_out):=⟨rfl,rfl,rfl,by decide +kernel,rfl,by decide +kernel,by decide +kernel⟩
theorem sc_ranks_in:FnScope ["table"] ["table"] (defScope s_ranks_in):=⟨rfl,rfl,rfl,by decide +kernel,rfl,by decide +kernel,by decide +kernel⟩
theorem sc_by_size:FnScope ["one", "other"] ["one", "other"] (defScope s_by_size):=⟨rfl,rfl,rfl,by decide +kernel,rfl,by decide +kernel,by decide +kernel⟩
theorem sc_turning:FnScope ["order", "book", "row", "ranks"] ["order", "book", "row"] (defScope s_turning):=⟨rfl,rfl,rfl,by decide +kernel,rfl,by decide +kernel,by decide +kernel⟩
theorem sc_ranks_of:FnScope ["order", "book", "row", "apart", "table", "three", "ranks", "thing", "rank"] ["order", "book", "row"] (defScope s_ranks_of):=⟨rfl,rfl,rfl,by decide +kernel,rfl,by decide +kernel,by decide +kernel⟩
theorem sc__law_next:FnScope ["deck", "cells", "at", "mixed"] ["deck"] (defScope s__law_next):=⟨rfl,rfl,rfl,by decide +kernel,rfl,by decide +kernel,by decide +kernel⟩
theorem sc__law_fraction:FnScope ["deck", "cell", "more", "small", "some", "great"] ["deck"] (defScope s__law_fraction):=⟨rfl,rfl,rfl,by decide +kernel,rfl,by decide +kernel,by decide +kernel⟩
theorem sc__law_book:FnScope ["deck", "letters", "cell", "many", "names", "place", "tail", "found", "k", "pad", "name"] ["deck"] (defScope s__law_book):=⟨rfl,rfl,rfl,by decide +kernel,rfl,by decide +kernel,by decide +kernel⟩
theorem sc__law_pool:FnScope ["deck"] ["deck"] (defScope s__law_pool):=⟨rfl,rfl,rfl,by decide +kernel,rfl,by decide +kernel,by decide +kernel⟩
theorem sc__law_row:FnScope ["deck", "book", "pool", "most", "row", "k"] ["deck", "book", "pool", "most"] (defScope s__law_row):=⟨rfl,rfl,rfl,by decide +kernel,rfl,by decide +kernel,by decide +kernel⟩
theorem sc__law_case:FnScope ["deck", "field", "pool", "cell", "marks", "k", "more", "mark"] ["deck", "field", "pool"] (defScope s__law_case):=⟨rfl,rfl,rfl,by decide +kernel,rfl,by decide +kernel,by decide +kernel⟩
theorem sc__law_order:FnScope ["deck", "book", "pool", "deep", "cell", "field", "leaf", "one", "other", "mark"] ["deck", "book", "pool", "deep"] (defScope s__law_order):=⟨rfl,rfl,rfl,by decide +kernel,rfl,by decide +kernel,by decide +kernel⟩
theorem sc__law_due:FnScope ["order", "book", "row", "found", "place", "thing", "ahead"] ["order", "book", "row"] (defScope s__law_due):=⟨rfl,rfl,rfl,by decide +kernel,rfl,by decide +kernel,by decide +kernel⟩
theorem sc_law:FnScope ["script", "deck", "k", "book", "pool", "order", "row", "due", "turn", "found"] ["script"] (defScope s_law):=⟨rfl,rfl,rfl,by decide +kernel,rfl,by decide +kernel,by decide +kernel⟩
def stLine:Stmt→Nat
 | .FunctionDef _ _ _ _ _ _ _ _ _ pos=>pos.line
 | _=>0
abbrev s_by_field:Stmt:=(defBody s_looked).getD 0 (.Pass ⟨0,0,0,0⟩)
abbrev lq_by_field:Str:=(Str.ofString "looked" ++ ".<locals>.") ++ "by_field"
theorem sc_by_field:CloScope (defScope s_looked) (defScope s_by_field) ["word", "field"] ["place"] ["book", "first", "second"]:=⟨rfl,rfl,rfl,by decide +kernel,(by show ∀ p∈(_:List (Str × NameKind)),p.2 = NameKind.free→List.lookup p.1 (defScope s_looked).names = some NameKind.cell;decide +kernel),by decide +kernel,by decide +kernel,by decide +kernel,by decide +kernel⟩
abbrev s_by_mark:Stmt:=(defBody s_looked).getD 1 (.Pass ⟨0,0,0,0⟩)
abbrev lq_by_mark:Str:=(Str.ofString "looked" ++ ".<locals>.") ++ "by_mark"
theorem sc_by_mark:CloScope (defScope s_looked) (defScope s_by_mark) ["word", "field", "number"] ["place"] ["book", "first", "second"]:=⟨rfl,rfl,rfl,by decide +kernel,(by show ∀ p∈(_:List (Str × NameKind)),p.2 = NameKind.free→List.lookup p.1 (defScope s_looked).names = some NameKind.cell;decide +kernel),by decide +kernel,by decide +kernel,by decide +kernel,by decide +kernel⟩
abbrev cr_looked:Nat→Nat→Option Str:=fun l _=>if l = stLine s_by_field then some lq_by_field else some lq_by_mark
abbrev lq_turning:Str:=(Str.ofString "turning" ++ ".<locals>.") ++ "<lambda>"
set_option genInjectivity false in
structure Top (K:PySem.W.Frag) (mg:Str→Option Value) where
 f_telling:Addr
 fd_telling:FuncData
 F_telling:Fun K "telling" "telling" s_telling f_telling fd_telling
 b_telling:Binds K fd_telling ["order", "by_field", "by_mark"] []
 m_telling:mg "telling" = some (.ref f_telling)
 f_taken:Addr
 fd_taken:FuncData
 F_taken:Fun K "taken" "taken" s_taken f_taken fd_taken
 b_taken:Binds K fd_taken ["told", "many"] []
 m_taken:mg "taken" = some (.ref f_taken)
 f_word_told:Addr
 fd_word_told:FuncData
 F_word_told:Fun K "word_told" "word_told" s_word_told f_word_told fd_word_told
 b_word_told:Binds K fd_word_told ["word", "parts", "by_field", "by_mark"] []
 m_word_told:mg "word_told" = some (.ref f_word_told)
 f_put_together:Addr
 fd_put_together:FuncData
 F_put_together:Fun K "put_together" "put_together" s_put_together f_put_together fd_put_together
 b_put_together:Binds K fd_put_together ["word", "parts"] []
 m_put_together:mg "put_together" = some (.ref f_put_together)
 f_is_open:Addr
 fd_is_open:FuncData
 F_is_open:Fun K "is_open" "is_open" s_is_open f_is_open fd_is_open
 b_is_open:Binds K fd_is_open ["part"] []
 m_is_open:mg "is_open" = some (.ref f_is_open)
 f_answer:Addr
 fd_answer:FuncData
 F_answer:Fun K "answer" "answer" s_answer f_answer fd_answer
 b_answer:Binds K fd_answer ["word", "how"] []
 m_answer:mg "answer" = some (.ref f_answer)
 f_one_then_other:Addr
 fd_one_then_other:FuncData
 F_one_then_other:Fun K "one_then_other" "one_then_other" s_one_then_other f_one_then_other fd_one_then_other
 b_one_then_other:Binds K fd_one_then_other ["one", "other"] []
 m_one_then_other:mg "one_then_other" = some (.ref f_one_then_other)
 f_turned_about:Addr
 fd_turned_about:FuncData
 F_turned_about:Fun K "turned_about" "turned_about" s_turned_about f_turned_about fd_turned_about
 b_turned_about:Binds K fd_turned_about ["part"] []
 m_turned_about:mg "turned_about" = some (.ref f_turned_about)
 f_picked:Addr
 fd_picked:FuncData
 F_picked:Fun K "picked" "picked" s_picked f_picked fd_picked
 b_picked:Binds K fd_picked ["case", "one", "other"] []
 m_picked:mg "picked" = some (.ref f_picked)
 f_settled_by:Addr
 fd_settled_by:FuncData
 F_settled_by:Fun K "settled_by" "settled_by" s_settled_by f_settled_by fd_settled_by
 b_settled_by:Binds K fd_settled_by ["truth", "word", "parts"] []
 m_settled_by:mg "settled_by" = some (.ref f_settled_by)
 f_compared:Addr
 fd_compared:FuncData
 F_compared:Fun K "compared" "compared" s_compared f_compared fd_compared
 b_compared:Binds K fd_compared ["one", "other"] []
 m_compared:mg "compared" = some (.ref f_compared)
 f_how_stands:Addr
 fd_how_stands:FuncData
 F_how_stands:Fun K "how_stands" "how_stands" s_how_stands f_how_stands fd_how_stands
 b_how_stands:Binds K fd_how_stands ["one", "other"] []
 m_how_stands:mg "how_stands" = some (.ref f_how_stands)
 f_looked:Addr
 fd_looked:FuncData
 F_looked:Fun K "looked" "looked" s_looked f_looked fd_looked
 b_looked:Binds K fd_looked ["order", "book", "first", "second"] []
 m_looked:mg "looked" = some (.ref f_looked)
 f_each_once:Addr
 fd_each_once:FuncData
 F_each_once:Fun K "each_once" "each_once" s_each_once f_each_once fd_each_once
 b_each_once:Binds K fd_each_once ["things"] []
 m_each_once:mg "each_once" = some (.ref f_each_once)
 f_table_of:Addr
 fd_table_of:FuncData
 F_table_of:Fun K "table_of" "table_of" s_table_of f_table_of fd_table_of
 b_table_of:Binds K fd_table_of ["order", "book", "things"] []
 m_table_of:mg "table_of" = some (.ref f_table_of)
 f_looks_of:Addr
 fd_looks_of:FuncData
 F_looks_of:Fun K "looks_of" "looks_of" s_looks_of f_looks_of fd_looks_of
 b_looks_of:Binds K fd_looks_of ["order", "book", "one", "things"] []
 m_looks_of:mg "looks_of" = some (.ref f_looks_of)
 f_looks_agree:Addr
 fd_looks_agree:FuncData
 F_looks_agree:Fun K "looks_agree" "looks_agree" s_looks_agree f_looks_agree fd_looks_agree
 b_looks_agree:Binds K fd_looks_agree ["table"] []
 m_looks_agree:mg "looks_agree" = some (.ref f_looks_agree)
 f_against_ranks:Addr
 fd_against_ranks:FuncData
 F_against_ranks:Fun K "against_ranks" "against_ranks" s_against_ranks f_against_ranks fd_against_ranks
 b_against_ranks:Binds K fd_against_ranks ["table"] []
 m_against_ranks:mg "against_ranks" = some (.ref f_against_ranks)
 f_three_against:Addr
 fd_three_against:FuncData
 F_three_against:Fun K "three_against" "three_against" s_three_against f_three_against fd_three_against
 b_three_against:Binds K fd_three_against ["table"] []
 m_three_against:mg "three_against" = some (.ref f_three_against)
 f_picked_out:Addr
 fd_picked_out:FuncData
 F_picked_out:Fun K "picked_out" "picked_out" s_picked_out f_picked_out fd_picked_out
 b_picked_out:Binds K fd_picked_out ["row", "places"] []
 m_picked_out:mg "picked_out" = some (.ref f_picked_out)
 f_ranks_in:Addr
 fd_ranks_in:FuncData
 F_ranks_in:Fun K "ranks_in" "ranks_in" s_ranks_in f_ranks_in fd_ranks_in
 b_ranks_in:Binds K fd_ranks_in ["table"] []
 m_ranks_in:mg "ranks_in" = some (.ref f_ranks_in)
 f_by_size:Addr
 fd_by_size:FuncData
 F_by_size:Fun K "by_size" "by_size" s_by_size f_by_size fd_by_size
 b_by_size:Binds K fd_by_size ["one", "other"] []
 m_by_size:mg "by_size" = some (.ref f_by_size)
 f_turning:Addr
 fd_turning:FuncData
 F_turning:Fun K "turning" "turning" s_turning f_turning fd_turning
 b_turning:Binds K fd_turning ["order", "book", "row"] []
 m_turning:mg "turning" = some (.ref f_turning)
 f_ranks_of:Addr
 fd_ranks_of:FuncData
 F_ranks_of:Fun K "ranks_of" "ranks_of" s_ranks_of f_ranks_of fd_ranks_of
 b_ranks_of:Binds K fd_ranks_of ["order", "book", "row"] []
 m_ranks_of:mg "ranks_of" = some (.ref f_ranks_of)
 f__law_next:Addr
 fd__law_next:FuncData
 F__law_next:Fun K "_law_next" "_law_next" s__law_next f__law_next fd__law_next
 b__law_next:Binds K fd__law_next ["deck"] []
 m__law_next:mg "_law_next" = some (.ref f__law_next)
 f__law_fraction:Addr
 fd__law_fraction:FuncData
 F__law_fraction:Fun K "_law_fraction" "_law_fraction" s__law_fraction f__law_fraction fd__law_fraction
 b__law_fraction:Binds K fd__law_fraction ["deck"] []
 m__law_fraction:mg "_law_fraction" = some (.ref f__law_fraction)
 f__law_book:Addr
 fd__law_book:FuncData
 F__law_book:Fun K "_law_book" "_law_book" s__law_book f__law_book fd__law_book
 b__law_book:Binds K fd__law_book ["deck"] []
 m__law_book:mg "_law_book" = some (.ref f__law_book)
 f__law_pool:Addr
 fd__law_pool:FuncData
 F__law_pool:Fun K "_law_pool" "_law_pool" s__law_pool f__law_pool fd__law_pool
 b__law_pool:Binds K fd__law_pool ["deck"] []
 m__law_pool:mg "_law_pool" = some (.ref f__law_pool)
 f__law_row:Addr
 fd__law_row:FuncData
 F__law_row:Fun K "_law_row" "_law_row" s__law_row f__law_row fd__law_row
 b__law_row:Binds K fd__law_row ["deck", "book", "pool", "most"] []
 m__law_row:mg "_law_row" = some (.ref f__law_row)
 f__law_case:Addr
 fd__law_case:FuncData
 F__law_case:Fun K "_law_case" "_law_case" s__law_case f__law_case fd__law_case
 b__law_case:Binds K fd__law_case ["deck", "field", "pool"] []
 m__law_case:mg "_law_case" = some (.ref f__law_case)
 f__law_order:Addr
 fd__law_order:FuncData
 F__law_order:Fun K "_law_order" "_law_order" s__law_order f__law_order fd__law_order
 b__law_order:Binds K fd__law_order ["deck", "book", "pool", "deep"] []
 m__law_order:mg "_law_order" = some (.ref f__law_order)
 f__law_due:Addr
 fd__law_due:FuncData
 F__law_due:Fun K "_law_due" "_law_due" s__law_due f__law_due fd__law_due
 b__law_due:Binds K fd__law_due ["order", "book", "row"] []
 m__law_due:mg "_law_due" = some (.ref f__law_due)
 c_looked:Addr
 P_looked:Addr
 cd_looked:fd_looked.code = .ref c_looked
 ch_looked:PySem.W.codeHdIn K c_looked P_looked = true
 c_turning:Addr
 P_turning:Addr
 cd_turning:fd_turning.code = .ref c_turning
 ch_turning:PySem.W.codeHdIn K c_turning P_turning = true
 len_:mg "len" = none
 range_:mg "range" = none
 tuple_:mg "tuple" = none
 isinstance_:mg "isinstance" = none
 list_:mg "list" = none
 reversed_:mg "reversed" = none
 enumerate_:mg "enumerate" = none
 zip_:mg "zip" = none
 sorted_:mg "sorted" = none
 int_:mg "int" = none
 bool_:mg "bool" = none
 tt:PySem.W.kitOne K (.type "tuple") (.type "tuple") = some true
 st:PySem.W.kitOne K (.type "str") (.type "tuple") = some false
 bt:PySem.W.kitOne K (.type "bool") (.type "tuple") = some false
 ib:PySem.W.kitOne K (.type "int") (.type "bool") = some false
end K28
namespace K28
open PySem L2 Frac Lw Dig PySem.NumText Nm
open Ord
abbrev dF (p:Int × Int):PyData:=.tuple [.int p.1,.int p.2]
theorem dats_strs {K:PySem.W.Frag}{G:Hp}:∀ ws:List Str,Dats K G (ws.map V.str) (ws.map PyData.str)
 | []=>dats_nil
 | w :: ws=>dats_cons (dat_str w) (dats_strs ws)
theorem datStrs {K:PySem.W.Frag}{G:Hp}:∀ {ws:List Str}{xs:List V},Dats K G xs (ws.map PyData.str)→xs = ws.map V.str
 | [],_,h=>h.nil
 | w :: ws,_,h=>by
  obtain ⟨y,ys,rfl,hd,r⟩:=h.cons
  rw [hd.str,datStrs r];rfl
section
variable {P:Program}{w:World}{K:PySem.W.Frag}{mg:Str→Option Value}{base:Heap}
theorem ev_eqS {σ:St}{G:Hp}{ta tb:TE}{x y:Str}(ha:Ev K ta σ G (.str x)) (hb:Ev K tb σ G (.str y)):Ev K (tOp rEq ta tb) σ G (.bool (decide (x = y))):=
 ev_op ha hb fun G1 H u v Q s1 s2 hx hy k=>by
  rw [hx.str,hy.str]
  refine ⟨rfl,?_⟩
  have e:decide (V.str x = V.str y) = decide (x = y):=by
   by_cases h:x = y
   ·rw [decide_eq_true h,decide_eq_true (by rw [h])]
   ·rw [decide_eq_false h,decide_eq_false fun z=>h (by injection z)]
  rw [e]
  exact k _ G1 H (Grow.refl s2) (dat_bl _)
theorem ev_cat {σ:St}{G:Hp}{ta tb:TE}{xs ys:List PyData}(ha:Ev K ta σ G (.list xs)) (hb:Ev K tb σ G (.list ys)) (hl:xs.length + ys.length≤sizeLine):Ev K (tOp rCat ta tb) σ G (.list (xs ++ ys)):=
 ev_op ha hb fun G1 H u v Q s1 s2 hx hy k=>by
  obtain ⟨p,us,rfl,hp,hus⟩:=hx.lst
  obtain ⟨q,vs,rfl,hq,hvs⟩:=hy.lst
  refine ⟨p,q,us,vs,rfl,rfl,s2 _ _ hp,s2 _ _ hq,by rw [hus.length,hvs.length];exact hl,fun l hl=>?_⟩
  have g:=grow_new (o:=.lst (us ++ vs)) s2 hl
  exact k _ _ _ g (dat_lst upd_same ((dats_append hus hvs).same g.gg))
end
end K28
namespace K28
open PySem L2 Frac Lw Dig PySem.NumText Nm
open Ord Num Look
def Sz (p:Int × Int):Prop:=p.1.natAbs < 10 ^ 40∧p.2.natAbs < 10 ^ 40
def RCmp:List PyData→PyData→Prop:=fun as d=>∃ p q:Int × Int,as = [dF p,dF q]∧Sz p∧Sz q∧d = .int (cmp p q)
def RHow:List PyData→PyData→Prop:=fun as d=>∃ p q:Int × Int,as = [dF p,dF q]∧Sz p∧Sz q∧d = .str (hsA p q).how
def ROpen:List PyData→PyData→Prop:=fun as d=>((∃ x,as = [.str x])∨∃ b,as = [.bool b])∧d = .bool false
def RAns:List PyData→PyData→Prop:=fun as d=>∃ a:An,(as = [.str (S "look"),.str a.how]∧d = .str a.t)∨∃ x,x≠S "look" ∧ as = [.str x,.str a.how]∧d = .bool (decide (a.how = x))
def RTurn:List PyData→PyData→Prop:=fun as d=>∃ a:An,as = [.str a.t]∧d = .str a.turn.t
def RThen:List PyData→PyData→Prop:=fun as d=>∃ a b:An,as = [.str a.t,.str b.t]∧d = .str (if a = .like then b else a).t
def RPick:List PyData→PyData→Prop:=fun as d=>∃ (c:Bool) (a b:An),as = [.bool c,.str a.t,.str b.t]∧d = .str (if c = true then a else b).t
def RSet:List PyData→PyData→Prop:=fun as d=>∃ (t:Bool) (x:Str) (b c:Bool),as = [.bool t,.str x,.list [.bool b,.bool c]]∧d = .bool (if t = true then b || c else b && c)
abbrev aheadT:List (Str × Str):=[(S "less",S "ahead"),(S "same",S "like"),(S "more",S "behind")]
abbrev otherT:List (Str × Str):=[(S "ahead",S "behind"),(S "like",S "like"),(S "behind",S "ahead")]
theorem ahead_at (a:An):aheadT.find? (fun r=>decide (r.1 = a.how)) = some (a.how,a.t):=by cases a <;> decide +kernel
theorem other_at (a:An):otherT.find? (fun r=>decide (r.1 = a.t)) = some (a.t,a.turn.t):=by cases a <;> decide +kernel
theorem like_t (a:An):decide (a.t = S "like") = decide (a = .like):=by cases a <;> decide +kernel
section
variable {P:Program}{w:World}{K:PySem.W.Frag}{mg:Str→Option Value}{base:Heap}
theorem ev_txs {σ:St}{G:Hp}{tb:TE}{x z v:Str}{rs:List (Str × Str)}(W:Txs K w.params mg x rs) (hb:Ev K tb σ G (.str z)) (h:rs.find? (fun r=>decide (r.1 = z)) = some (z,v)):
  Ev K (tOp (fun x y H Q=>∃ z a g v u,x = .ref a∧y = .str z∧DictK K w.params a g∧g z = some (v,u)∧Q v H) (tC (.ref W.a)) tb) σ G (.str v):=
 fun G1 H s1 s2 Q k=>hb G1 H s1 s2 _ fun u G2 H2 g2 hu=>by
  obtain ⟨u',hu'⟩:=W.yes z v h
  rw [hu.str]
  exact ⟨z,W.a,W.g,.str v,u',rfl,rfl,W.D,hu',k _ G2 H2 g2 (dat_str _)⟩
theorem ok_compared (T:Top K mg):FnOk P w K mg base CX0 1 T.f_compared T.fd_compared ["one", "other"] (spP K RCmp):=by
 refine T.F_compared.ok sc_compared (fun vs H Q E h=>?_) (fun cdv A outer s H vs Q E hr h=>?_)
 ·obtain ⟨G,as,d,sg,hv,⟨p,q,rfl,_⟩,_⟩:=h
  rw [hv.length];rfl
 ·obtain ⟨G,as,d,sg,hv,⟨p,q,rfl,hp,hq,rfl⟩,k⟩:=h
  obtain ⟨v1,r1,rfl,h1,hv⟩:=hv.cons
  obtain ⟨v2,r2,rfl,h2,hv⟩:=hv.cons
  cases hv.nil
  have zz:∀ {x:Int},x.natAbs < 10 ^ 40→x.natAbs < 10 ^ 100:=fun h=>Nat.lt_of_lt_of_le h (by decide)
  refine ⟨_,(pss_cons (ps_set (i:=2) sc_compared.nd rfl (Or.inl rfl) (pe_op op_mulW (pe_ix (ix_tupK (K:=K) rfl) (pv 0) pe_int (fun _ _=>rfl)) (pe_ix (ix_tupK (K:=K) rfl) (pv 1) pe_int (fun _ _=>rfl))))
   (pss_cons (ps_set (i:=3) sc_compared.nd rfl (Or.inl rfl) (pe_op op_mulW (pe_ix (ix_tupK (K:=K) rfl) (pv 1) pe_int (fun _ _=>rfl)) (pe_ix (ix_tupK (K:=K) rfl) (pv 0) pe_int (fun _ _=>rfl))))
   (pss_cons (ps_if (pt_cmpR op_lt (pv 2) (pv 3) (nomark _)) (pss_one (ps_ret (pe_un un_neg pe_int))) pss_nil)
   (pss_cons (ps_if (pt_cmpR op_gt (pv 2) (pv 3) (nomark _)) (pss_one (ps_ret pe_int)) pss_nil)
   (pss_one (ps_ret pe_int)))))) ,?_⟩
  refine asg_ev (K:=K) (ev_iC (ev_ixT (ev_var rfl h1) ev_int rfl rfl) (ev_ixT (ev_var rfl h2) ev_int rfl rfl) (mw (zz hp.1) (zz hq.2)) (dat_int _)) sg fun v3 G1 H1 g1 h3=>?_
  refine asg_ev (K:=K) (ev_iC (ev_ixT (ev_var rfl (h2.same g1.gg)) ev_int rfl rfl) (ev_ixT (ev_var rfl (h1.same g1.gg)) ev_int rfl rfl) (mw (zz hq.1) (zz hp.2)) (dat_int _)) g1.gh fun v4 G2 H2 g2 h4=>?_
  have g12:=g1.trans g2
  refine if_ev (evt_test (K:=K) (ev_i0 (ev_var rfl (h3.same g2.gg)) (ev_var rfl h4) (dat_bl _))) g2.gh (fun e G3 H3 g3=>?_) (fun e G3 H3 g3=>?_)
  ·have e' := of_decide_eq_true e
   have:cmp p q = -1:=by unfold cmp;rw [if_pos e']
   exact ⟨1,rfl,k (.int (-1)) G3 H3 (g12.trans g3) (by rw [this];exact dat_int _)⟩
  ·have e' := of_decide_eq_false e
   refine if_ev (evt_test (K:=K) (ev_i0 (ev_var rfl ((h3.same g2.gg).same g3.gg)) (ev_var rfl (h4.same g3.gg)) (dat_bl _))) g3.gh (fun f G4 H4 g4=>?_) (fun f G4 H4 g4=>?_)
   ·have f' := of_decide_eq_true f
    have:cmp p q = 1:=by unfold cmp;rw [if_neg e',if_pos f']
    exact k (.int 1) G4 H4 ((g12.trans g3).trans g4) (by rw [this];exact dat_int _)
   ·have f' := of_decide_eq_false f
    have:cmp p q = 0:=by unfold cmp;rw [if_neg e',if_neg f']
    exact k (.int 0) G4 H4 ((g12.trans g3).trans g4) (by rw [this];exact dat_int _)
theorem ok_how (T:Top K mg):FnOk P w K mg base CX0 2 T.f_how_stands T.fd_how_stands ["one", "other"] (spP K RHow):=by
 have G_compared:FnOk P w K mg base CX0 1 T.f_compared T.fd_compared ["one", "other"] (spP K RCmp):=ok_compared T
 refine T.F_how_stands.ok sc_how_stands (fun vs H Q E h=>?_) (fun cdv A outer s H vs Q E hr h=>?_)
 ·obtain ⟨G,as,d,sg,hv,⟨p,q,rfl,_⟩,_⟩:=h
  rw [hv.length];rfl
 ·obtain ⟨G,as,d,sg,hv,⟨p,q,rfl,hp,hq,rfl⟩,k⟩:=h
  obtain ⟨v1,r1,rfl,h1,hv⟩:=hv.cons
  obtain ⟨v2,r2,rfl,h2,hv⟩:=hv.cons
  cases hv.nil
  refine ⟨_,(pss_cons (ps_set (i:=2) sc_how_stands.nd rfl (Or.inl rfl) (pe_call G_compared hr (by rfl) T.m_compared T.F_compared.kp T.b_compared .nil pass0 (pa_cons (pv 0) (pa_cons (pv 1) pa_nil st_Name) st_Name)))
   (pss_cons (ps_if (pt_cmpR op_eq (pv 2) pe_int (nomark _)) (pss_one (ps_ret pe_str)) pss_nil)
   (pss_one (ps_ret (pe_ifExp (pt_cmpR op_lt (pv 2) pe_int (nomark _)) pe_str pe_str))))) ,?_⟩
  refine asg_ev (K:=K) (ev_call (E:=E0) (R:=RCmp) (d:=.int (cmp p q)) (eva_cons (ev_var rfl h1) (eva_cons (ev_var rfl h2) eva_nil)) ⟨p,q,rfl,hp,hq,rfl⟩) sg fun v3 G1 H1 g1 h3=>?_
  refine if_ev (evt_test (K:=K) (ev_eqI (ev_var rfl h3) ev_int)) g1.gh (fun e G2 H2 g2=>?_) (fun e G2 H2 g2=>?_)
  ·refine ret_ev (K:=K) (G:=G2) (d:=.str (hsA p q).how) (ev_d ev_str ?_) g2.gh fun v G3 H3 g3 hv=>k v G3 H3 ((g1.trans g2).trans g3) hv
   have e' := of_decide_eq_true e
   unfold cmp at e'
   unfold hsA
   split at e'
   ·cases e'
   ·split at e'
    ·cases e'
    ·rename_i n1 n2;rw [if_neg n1,if_neg n2];rfl
  ·refine ret_ev (K:=K) (G:=G2) (d:=.str (hsA p q).how) (ev_ite (evt_test (K:=K) (ev_i0 (ev_var rfl (h3.same g2.gg)) ev_int (dat_bl _))) (fun f=>ev_d ev_str ?_) (fun f=>ev_d ev_str ?_)) g2.gh fun v G3 H3 g3 hv=>k v G3 H3 ((g1.trans g2).trans g3) hv
   ·have f' := of_decide_eq_true f
    unfold cmp at f'
    unfold hsA
    split at f'
    ·rename_i n1;rw [if_pos n1];rfl
    ·split at f'
     ·cases f'
     ·cases f'
   ·have f' := of_decide_eq_false f
    have e' := of_decide_eq_false e
    unfold cmp at f' e'
    unfold hsA
    split at f'
    ·exact absurd (by decide) f'
    ·rename_i n1
     rw [if_neg n1] at e' ⊢
     split at f'
     ·rename_i n2;rw [if_pos n2];rfl
     ·rename_i n2;rw [if_neg n2] at e';exact absurd rfl e'
theorem ok_open (T:Top K mg):FnOk P w K mg base CX0 1 T.f_is_open T.fd_is_open ["part"] (spP K ROpen):=by
 refine T.F_is_open.ok sc_is_open (fun vs H Q E h=>?_) (fun cdv A outer s H vs Q E hr h=>?_)
 ·obtain ⟨G,as,d,sg,hv,⟨h1,_⟩,_⟩:=h
  rw [hv.length]
  rcases h1 with ⟨x,rfl⟩ | ⟨b,rfl⟩ <;> rfl
 ·obtain ⟨G,as,d,sg,hv,⟨h0,rfl⟩,k⟩:=h
  refine ⟨_,(pss_one (ps_ret (pe_callB (call_isD (K:=K) rfl) (by rfl) T.isinstance_ bIsi (pa_cons (pv 0) (pa_cons (pe_bltn (v:=.ty "tuple") (by rfl) T.tuple_ bTup rfl) pa_nil))))) ,?_⟩
  rcases h0 with ⟨x,rfl⟩ | ⟨b,rfl⟩
  ·obtain ⟨v1,r1,rfl,h1,hv⟩:=hv.cons
   cases hv.nil
   exact ret_ev (K:=K) (ev_isD (ev_var rfl h1) T.st) sg k
  ·obtain ⟨v1,r1,rfl,h1,hv⟩:=hv.cons
   cases hv.nil
   exact ret_ev (K:=K) (ev_isD (ev_var rfl h1) T.bt) sg k
theorem ok_answer (T:Top K mg) (W1:Txs K w.params mg "AHEAD" aheadT):FnOk P w K mg base CX0 1 T.f_answer T.fd_answer ["word", "how"] (spP K RAns):=by
 refine T.F_answer.ok sc_answer (fun vs H Q E h=>?_) (fun cdv A outer s H vs Q E hr h=>?_)
 ·obtain ⟨G,as,d,sg,hv,⟨a,h1⟩,_⟩:=h
  rw [hv.length]
  rcases h1 with ⟨rfl,_⟩ | ⟨x,_,rfl,_⟩ <;> rfl
 ·obtain ⟨G,as,d,sg,hv,⟨a,h0⟩,k⟩:=h
  refine ⟨_,(pss_one (ps_ret (pe_ifExp (pt_cmpR op_eq (pv 0) pe_str (nomark _)) (pe_ix ix_dictK (pe_glob (v:=.ref W1.a) (by rfl) W1.m rfl) (pv 1) (fun _ _=>rfl)) (pe_cmpR op_eq (pv 1) (pv 0) (nomark _))))) ,?_⟩
  rcases h0 with ⟨rfl,rfl⟩ | ⟨x,hx,rfl,rfl⟩
  ·obtain ⟨v1,r1,rfl,h1,hv⟩:=hv.cons
   obtain ⟨v2,r2,rfl,h2,hv⟩:=hv.cons
   cases hv.nil
   exact ret_ev (K:=K) (ev_ite (evt_test (K:=K) (ev_eqS (ev_var rfl h1) ev_str)) (fun _=>ev_txs W1 (ev_var rfl h2) (ahead_at a)) (fun z=>absurd (of_decide_eq_false z) (fun n=>n rfl))) sg k
  ·obtain ⟨v1,r1,rfl,h1,hv⟩:=hv.cons
   obtain ⟨v2,r2,rfl,h2,hv⟩:=hv.cons
   cases hv.nil
   exact ret_ev (K:=K) (ev_ite (evt_test (K:=K) (ev_eqS (ev_var rfl h1) ev_str)) (fun z=>absurd (of_decide_eq_true z) hx) (fun _=>ev_eqS (ev_var rfl h2) (ev_var rfl h1))) sg k
theorem ok_turned (T:Top K mg) (W2:Txs K w.params mg "OTHER_WAY" otherT):FnOk P w K mg base CX0 2 T.f_turned_about T.fd_turned_about ["part"] (spP K RTurn):=by
 have G_is_open:FnOk P w K mg base CX0 1 T.f_is_open T.fd_is_open ["part"] (spP K ROpen):=ok_open T
 refine T.F_turned_about.ok sc_turned_about (fun vs H Q E h=>?_) (fun cdv A outer s H vs Q E hr h=>?_)
 ·obtain ⟨G,as,d,sg,hv,⟨a,rfl,_⟩,_⟩:=h
  rw [hv.length];rfl
 ·obtain ⟨G,as,d,sg,hv,⟨a,rfl,rfl⟩,k⟩:=h
  obtain ⟨v1,r1,rfl,h1,hv⟩:=hv.cons
  cases hv.nil
  refine ⟨_,(pss_one (ps_ret (pe_ifExp (pt_val (pe_call G_is_open hr (by rfl) T.m_is_open T.F_is_open.kp T.b_is_open .nil pass0 (pa_cons (pv 0) pa_nil st_Name))) (pe_tup (pa_cons pe_str (pa_cons (pv 0) pa_nil st_Name) st_Constant)) (pe_ix ix_dictK (pe_glob (v:=.ref W2.a) (by rfl) W2.m rfl) (pv 0) (fun _ _=>rfl))))) ,?_⟩
  exact ret_ev (K:=K) (ev_ite (evt_b (K:=K) (ev_call (E:=E0) (R:=ROpen) (d:=.bool false) (eva_cons (ev_var rfl h1) eva_nil) ⟨.inl ⟨_,rfl⟩,rfl⟩)) (fun z=>nomatch z) (fun _=>ev_txs W2 (ev_var rfl h1) (other_at a))) sg k
theorem ok_then (T:Top K mg):FnOk P w K mg base CX0 2 T.f_one_then_other T.fd_one_then_other ["one", "other"] (spP K RThen):=by
 have G_is_open:FnOk P w K mg base CX0 1 T.f_is_open T.fd_is_open ["part"] (spP K ROpen):=ok_open T
 refine T.F_one_then_other.ok sc_one_then_other (fun vs H Q E h=>?_) (fun cdv A outer s H vs Q E hr h=>?_)
 ·obtain ⟨G,as,d,sg,hv,⟨a,b,rfl,_⟩,_⟩:=h
  rw [hv.length];rfl
 ·obtain ⟨G,as,d,sg,hv,⟨a,b,rfl,rfl⟩,k⟩:=h
  obtain ⟨v1,r1,rfl,h1,hv⟩:=hv.cons
  obtain ⟨v2,r2,rfl,h2,hv⟩:=hv.cons
  cases hv.nil
  refine ⟨_,(pss_cons (ps_if (pt_val (pe_call G_is_open hr (by rfl) T.m_is_open T.F_is_open.kp T.b_is_open .nil pass0 (pa_cons (pv 0) pa_nil st_Name))) (pss_one (ps_ret (pe_tup (pa_cons pe_str (pa_cons (pv 0) (pa_cons (pv 1) pa_nil st_Name) st_Name) st_Constant)))) pss_nil)
   (pss_one (ps_ret (pe_ifExp (pt_cmpR op_eq (pv 0) pe_str (nomark _)) (pv 1) (pv 0))))) ,?_⟩
  refine if_no (evt_b (K:=K) (ev_call (E:=E0) (R:=ROpen) (d:=.bool false) (eva_cons (ev_var rfl h1) eva_nil) ⟨.inl ⟨_,rfl⟩,rfl⟩)) sg fun G1 H1 g1=>?_
  refine ret_ev (K:=K) (G:=G1) (ev_ite (evt_test (K:=K) (ev_eqS (ev_var rfl (h1.same g1.gg)) ev_str)) (fun z=>?_) (fun z=>?_)) g1.gh fun v G' H' g hv=>k v G' H' (g1.trans g) hv
  ·rw [like_t] at z
   rw [if_pos (of_decide_eq_true z)]
   exact ev_var rfl (h2.same g1.gg)
  ·rw [like_t] at z
   rw [if_neg (of_decide_eq_false z)]
   exact ev_var rfl (h1.same g1.gg)
theorem ok_picked (T:Top K mg):FnOk P w K mg base CX0 2 T.f_picked T.fd_picked ["case", "one", "other"] (spP K RPick):=by
 have G_is_open:FnOk P w K mg base CX0 1 T.f_is_open T.fd_is_open ["part"] (spP K ROpen):=ok_open T
 refine T.F_picked.ok sc_picked (fun vs H Q E h=>?_) (fun cdv A outer s H vs Q E hr h=>?_)
 ·obtain ⟨G,as,d,sg,hv,⟨c,a,b,rfl,_⟩,_⟩:=h
  rw [hv.length];rfl
 ·obtain ⟨G,as,d,sg,hv,⟨c,a,b,rfl,rfl⟩,k⟩:=h
  obtain ⟨v1,r1,rfl,h1,hv⟩:=hv.cons
  obtain ⟨v2,r2,rfl,h2,hv⟩:=hv.cons
  obtain ⟨v3,r3,rfl,h3,hv⟩:=hv.cons
  cases hv.nil
  refine ⟨_,(pss_cons (ps_if (pt_val (pe_call G_is_open hr (by rfl) T.m_is_open T.F_is_open.kp T.b_is_open .nil pass0 (pa_cons (pv 0) pa_nil st_Name))) (pss_one (ps_ret (pe_tup (pa_cons pe_str (pa_cons (pv 0) (pa_cons (pv 1) (pa_cons (pv 2) pa_nil st_Name) st_Name) st_Name) st_Constant)))) pss_nil)
   (pss_one (ps_ret (pe_ifExp (pt_val (pv 0)) (pv 1) (pv 2))))) ,?_⟩
  refine if_no (evt_b (K:=K) (ev_call (E:=E0) (R:=ROpen) (d:=.bool false) (eva_cons (ev_var rfl h1) eva_nil) ⟨.inr ⟨_,rfl⟩,rfl⟩)) sg fun G1 H1 g1=>?_
  refine ret_ev (K:=K) (G:=G1) (ev_ite (evt_b (K:=K) (ev_var rfl (h1.same g1.gg))) (fun z=>?_) (fun z=>?_)) g1.gh fun v G' H' g hv=>k v G' H' (g1.trans g) hv
  ·subst z;exact ev_var rfl (h2.same g1.gg)
  ·subst z;exact ev_var rfl (h3.same g1.gg)
end
end K28
namespace K28
open PySem L2 Frac Lw Dig PySem.NumText Nm
open Ord Num Look
section
variable {P:Program}{w:World}{K:PySem.W.Frag}{mg:Str→Option Value}{base:Heap}
theorem ev_notV {σ:St}{G:Hp}{ta:TE}{b:Bool}(h:Ev K ta σ G (.bool b)):Ev K (tNotV ta) σ G (.bool (!b)):=
 fun G1 H s1 s2 Q k=>h G1 H s1 s2 _ fun v G2 H2 g2 hv=>⟨b,hv.bl,k _ G2 H2 g2 (dat_bl _)⟩
theorem ev_inB {σ:St}{G:Hp}{ta tb:TE}{t b c:Bool}(ha:Ev K ta σ G (.bool t)) (hb:Ev K tb σ G (.list [.bool b,.bool c])):Ev K (tOp (rIn K false) ta tb) σ G (.bool (b == t || c == t)):=
 ev_op ha hb fun G1 H u v Q s1 s2 hu hv k=>by
  obtain ⟨p,xs,rfl,hp,hx⟩:=hv.lst
  obtain ⟨y1,r1,rfl,h1,hx⟩:=hx.cons
  obtain ⟨y2,r2,rfl,h2,hx⟩:=hx.cons
  cases hx.nil
  rw [hu.bl]
  rw [h1.bl,h2.bl] at hp
  refine ⟨p,_,rfl,.inl (SqL.of (s2 _ _ hp)),rfl,rfl,?_⟩
  have e:inV (.bl t) [.bl b,.bl c] = (b == t || c == t):=by cases t <;> cases b <;> cases c <;> rfl
  show Q (.bl (inV (.bl t) [.bl b,.bl c])) H
  rw [e]
  exact k _ G1 H (Grow.refl s2) (dat_bl _)
theorem ok_settled (T:Top K mg):FnOk P w K mg base CX0 2 T.f_settled_by T.fd_settled_by ["truth", "word", "parts"] (spP K RSet):=by
 have G_is_open:FnOk P w K mg base CX0 1 T.f_is_open T.fd_is_open ["part"] (spP K ROpen):=ok_open T
 refine T.F_settled_by.ok sc_settled_by (fun vs H Q E h=>?_) (fun cdv A outer s H vs Q E hr h=>?_)
 ·obtain ⟨G,as,d,sg,hv,⟨t,x,b,c,rfl,_⟩,_⟩:=h
  rw [hv.length];rfl
 ·obtain ⟨G,as,d,sg,hv,⟨t,x,b,c,rfl,rfl⟩,k⟩:=h
  have hu:=hr.units
  obtain ⟨v1,r1,rfl,h1,hv⟩:=hv.cons
  obtain ⟨v2,r2,rfl,h2,hv⟩:=hv.cons
  obtain ⟨v3,r3,rfl,h3,hv⟩:=hv.cons
  cases hv.nil
  refine ⟨_,(pss_cons (ps_if (pt_cmpR op_in_seq (pv 0) (pv 2) (by rfl)) (pss_one (ps_ret (pv 0))) pss_nil)
   (pss_cons (ps_lc (x:= "part") (cap:=[]) (js:=[]) (i:=3) (y:= "rest") ⟨rfl,by decide +kernel,by decide +kernel,rfl,(by show ∀ p∈(_:List (Str × NameKind)),p.2 = NameKind.free→List.lookup p.1 (defScope s_settled_by).names = some NameKind.cell;decide +kernel),by decide +kernel,by decide +kernel,by decide +kernel⟩ rfl rfl (fun _ _ h=>h) sc_settled_by.nd rfl rfl (pi_list (pv 2)) (fun _ _ _ _=>⟨(pif_one (pt_val (pe_call G_is_open hr (by rfl) T.m_is_open T.F_is_open.kp T.b_is_open .nil pass0 (pa_cons (pv 0) pa_nil st_Name)))),(pv 0)⟩))
   (pss_cons (ps_if (pt_cmpR (op_eqDK (K:=K) rfl hu) (pv 3) (pe_lst pa_nil) (nomark _)) (pss_one (ps_ret (pe_not (pv 0)))) pss_nil)
   (pss_one (ps_ret (pe_ifExp (pt_cmpR op_eq (pe_callB (call_lenK (K:=K) rfl) (by rfl) T.len_ PySem.boot_len (pa_cons (pv 3) pa_nil st_Name)) pe_int (nomark _)) (pe_ix (ix_listK (K:=K) rfl) (pv 3) pe_int (fun _ _=>rfl)) (pe_tup (pa_cons (pv 1) (pa_cons (pe_ix (ix_listK (K:=K) rfl) (pv 3) pe_int (fun _ _=>rfl)) (pa_cons (pe_ix (ix_listK (K:=K) rfl) (pv 3) pe_int (fun _ _=>rfl)) pa_nil st_Subscript) st_Subscript) st_Name)))))))) ,?_⟩
  refine if_ev (evt_test (K:=K) (ev_inB (ev_var rfl h1) (ev_var rfl h3))) sg (fun z G1 H1 g1=>?_) (fun z G1 H1 g1=>?_)
  ·refine ret_ev (K:=K) (G:=G1) (d:=.bool (if t = true then b || c else b && c)) (ev_d (ev_var rfl (h1.same g1.gg)) ?_) g1.gh fun v G' H' g hv=>k v G' H' (g1.trans g) hv
   revert z;cases t <;> cases b <;> cases c <;> simp
  ·have h3' : Dat K G1 v3 (.list ([b,c].map PyData.bool)):=h3.same g1.gg
   refine (ev_lcL (K:=K) (G:=G1) [b,c] PyData.bool (fun _=>none) (ev_var rfl h3') (by show 2 < sizeLine;decide) (fun G2 i a x sG ha hx=>?_)).use g1.gh fun v4 G2 H2 g2 h4=>?_
   ·exact .inr ⟨rfl,evt_b (K:=K) (ev_call (E:=E0) (R:=ROpen) (d:=.bool false) (eva_cons (ev_var rfl hx) eva_nil) ⟨.inr ⟨_,rfl⟩,rfl⟩)⟩
   ·have h4' : Dat K G2 v4 (.list []):=by
     have e:[b,c].filterMap (fun _=>(none:Option PyData)) = []:=rfl
     rw [e] at h4;exact h4
    have pl0:Pl 2 (.list []):=pl_lst fun x hx=>by cases hx
    refine if_ev (evt_test (K:=K) (ev_eqD (ev_var rfl h4') (ev_lst eva_nil (by decide)) pl0 pl0 (by decide))) g2.gh (fun y G3 H3 g3=>?_) (fun y=>?_)
    ·refine ret_ev (K:=K) (G:=G3) (d:=.bool (if t = true then b || c else b && c)) (ev_d (ev_notV (ev_var rfl (((h1.same g1.gg).same g2.gg).same g3.gg))) ?_) g3.gh fun v G' H' g hv=>k v G' H' (((g1.trans g2).trans g3).trans g) hv
     revert z;cases t <;> cases b <;> cases c <;> simp
    ·rw [PySem.Spec.same_self] at y;cases y
def spTaken:Sp:=fun vs H Q _=>∃ (p:Addr) (n:Nat) (xs:List V),vs = [.ref p,.int (n:Nat)]∧H p = some (.lst xs)∧n≤xs.length∧n≤1000∧
 ∀ l H',H l = none→l≠p→H' l = some (.lst (xs.drop (xs.length - n)).reverse)→H' p = some (.lst (xs.take (xs.length - n)))→(∀ b,b≠l→b≠p→H' b = H b)→Q (.ref l) H'
theorem ok_taken (T:Top K mg):FnOk P w K mg base CX0 1 T.f_taken T.fd_taken ["told", "many"] spTaken:=by
 refine T.F_taken.ok sc_taken (fun vs H Q E h=>?_) (fun cdv A outer s H vs Q E hr h=>?_)
 ·obtain ⟨p,n,xs,rfl,_⟩:=h
  rfl
 ·obtain ⟨p,n,xs,rfl,hp,hn,hm,k⟩:=h
  have zl:(2000:Nat)≤sizeLine:=by decide
  refine ⟨_,(pss_cons (ps_set (i:=2) sc_taken.nd rfl (Or.inl rfl) (pe_lst pa_nil))
   (pss_cons (ps_while PassesOwn.never (pt_cmpR op_lt (pe_callB (call_lenK (K:=K) rfl) (by rfl) T.len_ PySem.boot_len (pa_cons (pv 2) pa_nil st_Name)) (pv 1) (nomark _)) (pss_one (ps_expr (pe_bm PySem.F.plainAttrs_list PySem.F.slot_list_append PySem.F.type_list_append mt_append (pv 2) (pa_cons (pe_bm0 PySem.F.plainAttrs_list PySem.F.slot_list_pop PySem.F.type_list_pop mt_pop (pv 0)) pa_nil st_Call)))))
   (pss_one (ps_ret (pv 2))))) ,?_⟩
  refine ⟨(by show 0≤sizeLine;decide),fun l hl=>?_⟩
  have nlp:l≠p:=fun z=>by subst z;rw [hp] at hl;cases hl
  refine while_by (fun σ H' => ∃ j,j≤n∧σ = [some (.ref p),some (.int (n:Nat)),some (.ref l)]∧H' l = some (.lst (xs.drop (xs.length - j)).reverse)∧H' p = some (.lst (xs.take (xs.length - j)))∧∀ b,b≠l→b≠p→H' b = H b) (fun σ H' => match H' l with | some (.lst ys)=>n - ys.length | _=>0)
   ⟨0,Nat.zero_le _,rfl,by rw [upd_same];simp,by rw [upd_ne (Ne.symm nlp),hp];simp,fun b h1 h2=>by rw [upd_ne h1]⟩ ?_ ?_
  ·rintro σ H1 ⟨j,hj,rfl,h1,h2,h3⟩
   have hlen:((xs.drop (xs.length - j)).reverse).length = j:=by rw [List.length_reverse,List.length_drop];omega
   have hlt:(xs.take (xs.length - j)).length = xs.length - j:=by rw [List.length_take];omega
   have hmu:(match H1 l with | some (.lst ys)=>n - ys.length | _=>0) = n - j:=by rw [h1];show n - _ = _;rw [hlen]
   refine ⟨_,rfl,l,_,rfl,.inl (SqL.of h1),_,rfl,_,_,rfl,rfl,_,rfl,?_⟩
   by_cases hjn:j < n
   ·have e:decide (((xs.drop (xs.length - j)).reverse.length:Int) < (n:Nat)) = true:=decide_eq_true (by rw [hlen];omega)
    rw [e]
    refine iteT ?_
    have hy:(xs.take (xs.length - j))[(xs.take (xs.length - j)).length - 1]? = some (xs[xs.length - j - 1]'(by omega)):=by
     rw [hlt,List.getElem?_take_of_lt (by omega),List.getElem?_eq_getElem]
    have edl:(xs.take (xs.length - j)).dropLast = xs.take (xs.length - (j + 1)):=by
     rw [List.dropLast_eq_take,hlt,List.take_take]
     congr 1;omega
    have edr:(xs.drop (xs.length - j)).reverse ++ [xs[xs.length - j - 1]'(by omega)] = (xs.drop (xs.length - (j + 1))).reverse:=by
     have:xs.drop (xs.length - (j + 1)) = xs[xs.length - j - 1]'(by omega) :: xs.drop (xs.length - j):=by
      rw [List.drop_eq_getElem_cons (by omega:xs.length - (j + 1) < xs.length)]
      congr 1
      congr 1;omega
     rw [this,List.reverse_cons]
    refine ⟨_,rfl,.inl ⟨rfl,_,SqL.of h1⟩,_,rfl,.inl ⟨rfl,_,SqL.of h2⟩,p,_,_,rfl,rfl,h2,hy,l,_,_,rfl,rfl,(by rw [upd_ne nlp];exact h1),(by rw [hlen];omega),?_,?_⟩
    ·refine ⟨j + 1,hjn,rfl,by rw [upd_same,edr],by rw [upd_ne (Ne.symm nlp),upd_same,edl],fun b hb1 hb2=>by rw [upd_ne hb1,upd_ne hb2];exact h3 b hb1 hb2⟩
    ·show (match L2.upd _ l _ l with | some (.lst ys)=>n - ys.length | _=>0) < _
     rw [hmu,upd_same]
     show n - _ < _
     rw [List.length_append,hlen]
     show n - (j + 1) < n - j
     omega
   ·have e:decide (((xs.drop (xs.length - j)).reverse.length:Int) < (n:Nat)) = false:=decide_eq_false (by rw [hlen];omega)
    rw [e]
    refine iteF ?_
    have:j = n:=by omega
    subst this
    exact ⟨_,rfl,k l H1 hl nlp h1 h2 h3⟩
  ·rintro σ H1 Q1 Q2 hq ⟨v,e1,p',ys,e2,e3,v2,e4,i,j,e5,e6,c,e7,e8⟩
   exact ⟨v,e1,p',ys,e2,e3,v2,e4,i,j,e5,e6,c,e7,hq _ _ e8⟩
end
def RPut:List PyData→PyData→Prop:=fun as d=>∃ (x:Str) (n:Nat) (vs:List Tv),as = [.str x,.list (vs.map Tv.d)]∧d = (appN ⟨fun _=>.like,fun _ _ _=>.like,fun _ _ _=>.like⟩ n vs).d∧
 ((x = S "then" ∧ n = 3∧∃ a b,vs = [.an a,.an b])∨(x = S "turn" ∧ n = 4∧∃ a,vs = [.an a])∨(x = S "pick" ∧ n = 5∧∃ c a b,vs = [.tr c,.an a,.an b])∨(x = S "not" ∧ n = 9∧∃ a,vs = [.tr a])∨(x = S "and" ∧ n = 10∧∃ a b,vs = [.tr a,.tr b])∨(x = S "or" ∧ n = 11∧∃ a b,vs = [.tr a,.tr b]))
theorem words_ne:(S "turn" ≠ S "then" ∧ S "pick" ≠ S "then" ∧ S "pick" ≠ S "turn")∧(S "not" ≠ S "then" ∧ S "not" ≠ S "turn" ∧ S "not" ≠ S "pick")∧(S "and" ≠ S "then" ∧ S "and" ≠ S "turn" ∧ S "and" ≠ S "pick" ∧ S "and" ≠ S "not")∧(S "or" ≠ S "then" ∧ S "or" ≠ S "turn" ∧ S "or" ≠ S "pick" ∧ S "or" ≠ S "not")∧S "and" ≠ S "or" := by decide +kernel
section
variable {P:Program}{w:World}{K:PySem.W.Frag}{mg:Str→Option Value}{base:Heap}
theorem if_yes {G H:Hp}{D:Ends}{σ:St}{tc:TT}{t u:TS}(h:EvT tc σ G true) (s:Same G H) (k:∀ G' H',Grow G H G' H' → t D σ H'):tIfS tc t u D σ H:=if_ev h s (fun _=>k) fun z=>nomatch z
theorem evt_is {σ:St}{G:Hp}{ta tb:TE}{x y:Str}(ha:Ev K ta σ G (.str x)) (hb:Ev K tb σ G (.str y)) (e:x = y):EvT (tTest (tOp rEq ta tb)) σ G true:=evt_c (evt_test (K:=K) (ev_eqS ha hb)) (decide_eq_true e)
theorem evt_isnt {σ:St}{G:Hp}{ta tb:TE}{x y:Str}(ha:Ev K ta σ G (.str x)) (hb:Ev K tb σ G (.str y)) (e:x≠y):EvT (tTest (tOp rEq ta tb)) σ G false:=evt_c (evt_test (K:=K) (ev_eqS ha hb)) (decide_eq_false e)
theorem ok_put (T:Top K mg) (W2:Txs K w.params mg "OTHER_WAY" otherT):FnOk P w K mg base CX0 3 T.f_put_together T.fd_put_together ["word", "parts"] (spP K RPut):=by
 have G_is_open:FnOk P w K mg base CX0 2 T.f_is_open T.fd_is_open ["part"] (spP K ROpen):=(ok_open T).mono (by decide)
 have G_one_then_other:FnOk P w K mg base CX0 2 T.f_one_then_other T.fd_one_then_other ["one", "other"] (spP K RThen):=ok_then T
 have G_turned_about:FnOk P w K mg base CX0 2 T.f_turned_about T.fd_turned_about ["part"] (spP K RTurn):=ok_turned T W2
 have G_picked:FnOk P w K mg base CX0 2 T.f_picked T.fd_picked ["case", "one", "other"] (spP K RPick):=ok_picked T
 have G_settled_by:FnOk P w K mg base CX0 2 T.f_settled_by T.fd_settled_by ["truth", "word", "parts"] (spP K RSet):=ok_settled T
 obtain ⟨⟨n1,n2,n3⟩,⟨m1,m2,m3⟩,⟨a1,a2,a3,a4⟩,⟨o1,o2,o3,o4⟩,ao⟩:=words_ne
 refine T.F_put_together.ok sc_put_together (fun vs H Q E h=>?_) (fun cdv A outer s H vs Q E hr h=>?_)
 ·obtain ⟨G,as,d,sg,hv,⟨x,n,us,rfl,_⟩,_⟩:=h
  rw [hv.length];rfl
 ·obtain ⟨G,as,d,sg,hv,⟨x,n,us,rfl,rfl,hx⟩,k⟩:=h
  obtain ⟨v1,r1,rfl,h1,hv⟩:=hv.cons
  obtain ⟨v2,r2,rfl,h2,hv⟩:=hv.cons
  cases hv.nil
  refine ⟨_,(pss_cons (ps_if (pt_cmpR op_eq (pv 0) pe_str (nomark _)) (pss_one (ps_ret (pe_call G_one_then_other hr (by rfl) T.m_one_then_other T.F_one_then_other.kp T.b_one_then_other .nil pass0 (pa_cons (pe_ix (ix_listK (K:=K) rfl) (pv 1) pe_int (fun _ _=>rfl)) (pa_cons (pe_ix (ix_listK (K:=K) rfl) (pv 1) pe_int (fun _ _=>rfl)) pa_nil st_Subscript) st_Subscript)))) pss_nil)
   (pss_cons (ps_if (pt_cmpR op_eq (pv 0) pe_str (nomark _)) (pss_one (ps_ret (pe_call G_turned_about hr (by rfl) T.m_turned_about T.F_turned_about.kp T.b_turned_about .nil pass0 (pa_cons (pe_ix (ix_listK (K:=K) rfl) (pv 1) pe_int (fun _ _=>rfl)) pa_nil st_Subscript)))) pss_nil)
   (pss_cons (ps_if (pt_cmpR op_eq (pv 0) pe_str (nomark _)) (pss_one (ps_ret (pe_call G_picked hr (by rfl) T.m_picked T.F_picked.kp T.b_picked .nil pass0 (pa_cons (pe_ix (ix_listK (K:=K) rfl) (pv 1) pe_int (fun _ _=>rfl)) (pa_cons (pe_ix (ix_listK (K:=K) rfl) (pv 1) pe_int (fun _ _=>rfl)) (pa_cons (pe_ix (ix_listK (K:=K) rfl) (pv 1) pe_int (fun _ _=>rfl)) pa_nil st_Subscript) st_Subscript) st_Subscript)))) pss_nil)
   (pss_cons (ps_if (pt_cmpR op_eq (pv 0) pe_str (nomark _)) (pss_one (ps_ret (pe_ifExp (pt_val (pe_call G_is_open hr (by rfl) T.m_is_open T.F_is_open.kp T.b_is_open .nil pass0 (pa_cons (pe_ix (ix_listK (K:=K) rfl) (pv 1) pe_int (fun _ _=>rfl)) pa_nil st_Subscript))) (pe_tup (pa_cons pe_str (pa_cons (pe_ix (ix_listK (K:=K) rfl) (pv 1) pe_int (fun _ _=>rfl)) pa_nil st_Subscript) st_Constant)) (pe_not (pe_ix (ix_listK (K:=K) rfl) (pv 1) pe_int (fun _ _=>rfl)))))) pss_nil)
   (pss_one (ps_ret (pe_call G_settled_by hr (by rfl) T.m_settled_by T.F_settled_by.kp T.b_settled_by .nil pass0 (pa_cons (pe_cmpR op_eq (pv 0) pe_str (nomark _)) (pa_cons (pv 0) (pa_cons (pv 1) pa_nil st_Name) st_Name) st_Compare)))))))) ,?_⟩
  rcases hx with ⟨rfl,rfl,a,b,rfl⟩ | ⟨rfl,rfl,a,rfl⟩ | ⟨rfl,rfl,c,a,b,rfl⟩ | ⟨rfl,rfl,a,rfl⟩ | ⟨rfl,rfl,a,b,rfl⟩ | ⟨rfl,rfl,a,b,rfl⟩
  ·refine if_yes (evt_is (K:=K) (ev_var rfl h1) ev_str rfl) sg fun G1 H1 g1=>?_
   have h2' := h2.same g1.gg
   exact ret_ev (K:=K) (G:=G1) (ev_call (E:=E0) (R:=RThen) (eva_cons (ev_ixL (ev_var rfl h2') ev_int rfl rfl) (eva_cons (ev_ixL (ev_var rfl h2') ev_int rfl rfl) eva_nil)) ⟨a,b,rfl,rfl⟩) g1.gh fun v G' H' g hv=>k v G' H' (g1.trans g) hv
  ·refine if_no (evt_isnt (K:=K) (ev_var rfl h1) ev_str n1) sg fun G1 H1 g1=>?_
   refine if_yes (evt_is (K:=K) (ev_var rfl (h1.same g1.gg)) ev_str rfl) g1.gh fun G2 H2 g2=>?_
   have g12:=g1.trans g2
   have h2' := h2.same g12.gg
   exact ret_ev (K:=K) (G:=G2) (ev_call (E:=E0) (R:=RTurn) (eva_cons (ev_ixL (ev_var rfl h2') ev_int rfl rfl) eva_nil) ⟨a,rfl,rfl⟩) g2.gh fun v G' H' g hv=>k v G' H' (g12.trans g) hv
  ·refine if_no (evt_isnt (K:=K) (ev_var rfl h1) ev_str n2) sg fun G1 H1 g1=>?_
   refine if_no (evt_isnt (K:=K) (ev_var rfl (h1.same g1.gg)) ev_str n3) g1.gh fun G2 H2 g2=>?_
   have g12:=g1.trans g2
   refine if_yes (evt_is (K:=K) (ev_var rfl (h1.same g12.gg)) ev_str rfl) g2.gh fun G3 H3 g3=>?_
   have g13:=g12.trans g3
   have h2' := h2.same g13.gg
   exact ret_ev (K:=K) (G:=G3) (ev_call (E:=E0) (R:=RPick) (eva_cons (ev_ixL (ev_var rfl h2') ev_int rfl rfl) (eva_cons (ev_ixL (ev_var rfl h2') ev_int rfl rfl) (eva_cons (ev_ixL (ev_var rfl h2') ev_int rfl rfl) eva_nil))) ⟨c,a,b,rfl,rfl⟩) g3.gh fun v G' H' g hv=>k v G' H' (g13.trans g) hv
  ·refine if_no (evt_isnt (K:=K) (ev_var rfl h1) ev_str m1) sg fun G1 H1 g1=>?_
   refine if_no (evt_isnt (K:=K) (ev_var rfl (h1.same g1.gg)) ev_str m2) g1.gh fun G2 H2 g2=>?_
   have g12:=g1.trans g2
   refine if_no (evt_isnt (K:=K) (ev_var rfl (h1.same g12.gg)) ev_str m3) g2.gh fun G3 H3 g3=>?_
   have g13:=g12.trans g3
   refine if_yes (evt_is (K:=K) (ev_var rfl (h1.same g13.gg)) ev_str rfl) g3.gh fun G4 H4 g4=>?_
   have g14:=g13.trans g4
   have h2' := h2.same g14.gg
   exact ret_ev (K:=K) (G:=G4) (ev_ite (evt_b (K:=K) (ev_call (E:=E0) (R:=ROpen) (d:=.bool false) (eva_cons (ev_ixL (ev_var rfl h2') ev_int rfl rfl) eva_nil) ⟨.inr ⟨_,rfl⟩,rfl⟩)) (fun z=>nomatch z) (fun _=>ev_notV (ev_ixL (ev_var rfl h2') ev_int rfl rfl))) g4.gh fun v G' H' g hv=>k v G' H' (g14.trans g) hv
  ·refine if_no (evt_isnt (K:=K) (ev_var rfl h1) ev_str a1) sg fun G1 H1 g1=>?_
   refine if_no (evt_isnt (K:=K) (ev_var rfl (h1.same g1.gg)) ev_str a2) g1.gh fun G2 H2 g2=>?_
   have g12:=g1.trans g2
   refine if_no (evt_isnt (K:=K) (ev_var rfl (h1.same g12.gg)) ev_str a3) g2.gh fun G3 H3 g3=>?_
   have g13:=g12.trans g3
   refine if_no (evt_isnt (K:=K) (ev_var rfl (h1.same g13.gg)) ev_str a4) g3.gh fun G4 H4 g4=>?_
   have g14:=g13.trans g4
   exact ret_ev (K:=K) (G:=G4) (ev_call (E:=E0) (R:=RSet) (eva_cons (ev_d (ev_eqS (ev_var rfl (h1.same g14.gg)) ev_str) (by rw [decide_eq_false ao])) (eva_cons (ev_var rfl (h1.same g14.gg)) (eva_cons (ev_var rfl (h2.same g14.gg)) eva_nil))) ⟨false,_,a,b,rfl,rfl⟩) g4.gh fun v G' H' g hv=>k v G' H' (g14.trans g) hv
  ·refine if_no (evt_isnt (K:=K) (ev_var rfl h1) ev_str o1) sg fun G1 H1 g1=>?_
   refine if_no (evt_isnt (K:=K) (ev_var rfl (h1.same g1.gg)) ev_str o2) g1.gh fun G2 H2 g2=>?_
   have g12:=g1.trans g2
   refine if_no (evt_isnt (K:=K) (ev_var rfl (h1.same g12.gg)) ev_str o3) g2.gh fun G3 H3 g3=>?_
   have g13:=g12.trans g3
   refine if_no (evt_isnt (K:=K) (ev_var rfl (h1.same g13.gg)) ev_str o4) g3.gh fun G4 H4 g4=>?_
   have g14:=g13.trans g4
   exact ret_ev (K:=K) (G:=G4) (ev_call (E:=E0) (R:=RSet) (eva_cons (ev_d (ev_eqS (ev_var rfl (h1.same g14.gg)) ev_str) (by rw [decide_eq_true rfl])) (eva_cons (ev_var rfl (h1.same g14.gg)) (eva_cons (ev_var rfl (h2.same g14.gg)) eva_nil))) ⟨true,_,a,b,rfl,rfl⟩) g4.gh fun v G' H' g hv=>k v G' H' (g14.trans g) hv
end
end K28
namespace K28
open PySem L2 Frac Lw Dig PySem.NumText Nm
open Ord Num Look
def RBF (book:List Str) (E:En):List PyData→PyData→Prop:=fun as d=>∃ z,z∈book∧((as = [.str (S "look"),.str z]∧d = .str (E.look z).t)∨(as = [.str (S "same"),.str z]∧d = .bool (isA (E.look z) .like)))
def RBM (book:List Str) (num:Int→Int→Prop) (E:En):List PyData→PyData→Prop:=fun as d=>∃ z,z∈book∧∃ a b,num a b∧((as = [.str (S "less"),.str z,dF (a,b)]∧d = .list [.bool (isA (E.one z a b) .ahead),.bool (isA (E.two z a b) .ahead)])∨
 (as = [.str (S "same"),.str z,dF (a,b)]∧d = .list [.bool (isA (E.one z a b) .like),.bool (isA (E.two z a b) .like)]))
def RWT (book:List Str) (num:Int→Int→Prop) (E:En):List PyData→PyData→Prop:=fun as d=>∃ (x want:Str) (ps:List Str) (vs:List Tv),as = [.str x,.list (vs.map Tv.d)]∧wordT x = some (x,want,ps)∧Tys (· ∈ book) num ps vs∧d = (appN E (wix x) vs).d
def cls2 (P:Program) (w:World) (K:PySem.W.Frag) (mg:Str→Option Value) (base:Heap) (book:List Str) (num:Int→Int→Prop) (E:En) (f1 f2:Addr):Shared→Hp→Prop:=fun s H=>ClOk P w K mg base 3 f1 2 (spP K (RBF book E)) s H∧ClOk P w K mg base 3 f2 3 (spP K (RBM book num E)) s H
theorem cls2_un {P:Program}{w:World}{K:PySem.W.Frag}{mg:Str→Option Value}{base:Heap}{book:List Str}{num:Int→Int→Prop}{E:En}{f1 f2:Addr}:∀ (fs:List Addr) (s:Shared) (H:Hp) (s' : Shared) (H' : Hp),Un fs [] H H' s.heap s'.heap→cls2 P w K mg base book num E f1 f2 s H→cls2 P w K mg base book num E f1 f2 s' H' :=
 fun _ _ _ _ _ u C=>⟨C.1.un u,C.2.un u⟩
section
variable {P:Program}{w:World}{K:PySem.W.Frag}{mg:Str→Option Value}{base:Heap}
theorem ok_wt (T:Top K mg) (W2:Txs K w.params mg "OTHER_WAY" otherT) (book:List Str) (num:Int→Int→Prop) (E:En) (f1 f2:Addr):FnOkS P w K mg base 4 T.f_word_told T.fd_word_told ["word", "parts", "by_field", "by_mark"] (fun s vs H Q=>cls2 P w K mg base book num E f1 f2 s H∧spC K f1 f2 (RWT book num E) vs H Q E0):=by
 have G_turned_about:FnOk P w K mg base CX0 3 T.f_turned_about T.fd_turned_about ["part"] (spP K RTurn):=(ok_turned T W2).mono (by decide)
 have G_settled_by:FnOk P w K mg base CX0 3 T.f_settled_by T.fd_settled_by ["truth", "word", "parts"] (spP K RSet):=(ok_settled T).mono (by decide)
 have G_put_together:FnOk P w K mg base CX0 3 T.f_put_together T.fd_put_together ["word", "parts"] (spP K RPut):=ok_put T W2
 obtain ⟨w0,w1,w2,w3,w4,w5,w6,w7,w8,w9,w10,w11,w12,w13⟩:=wix14
 refine T.F_word_told.okS sc_word_told (fun s vs H Q h=>?_) (fun cdv A outer s H vs Q hr h=>?_)
 ·obtain ⟨_,G,as,d,xs,rfl,sg,hv,⟨x,want,ps,us,rfl,_⟩,_⟩:=h
  rw [List.length_append,hv.length];rfl
 ·obtain ⟨⟨C_by_field,C_by_mark⟩,G,as,d,xs,rfl,sg,hv,⟨x,want,ps,us,rfl,hw,hty,rfl⟩,k⟩:=h
  have hu:=hr.units
  obtain ⟨v1,r1,rfl,h1,hv⟩:=hv.cons
  obtain ⟨v2,r2,rfl,h2,hv⟩:=hv.cons
  cases hv.nil
  have go1:∀ {p:Str},Tys (· ∈ book) num [p] us→∃ v,us = [v]∧Ty (· ∈ book) num p v:=fun h=>by cases h with | cons a b=>cases b;exact ⟨_,rfl,a⟩
  have go2:∀ {p q:Str},Tys (· ∈ book) num [p,q] us→∃ v u,us = [v,u]∧Ty (· ∈ book) num p v∧Ty (· ∈ book) num q u:=fun h=>by cases h with | cons a b=>cases b with | cons b c=>cases c;exact ⟨_,_,rfl,a,b⟩
  have go3:∀ {p q r:Str},Tys (· ∈ book) num [p,q,r] us→∃ v u t,us = [v,u,t]∧Ty (· ∈ book) num p v∧Ty (· ∈ book) num q u∧Ty (· ∈ book) num r t:=fun h=>by cases h with | cons a b=>cases b with | cons b c=>cases c with | cons c d=>cases d;exact ⟨_,_,_,rfl,a,b,c⟩
  refine ⟨_,(pss_cons (ps_if (pt_cmpR op_eq (pv 0) pe_str (nomark _)) (pss_one (ps_ret pe_str)) pss_nil)
   (pss_cons (ps_if (pt_cmpR op_eq (pv 0) pe_str (nomark _)) (pss_one (ps_ret (pe_callF (i:=2) rfl (Or.inl rfl) (hr.mono (by decide)) rfl C_by_field (pa_cons pe_str (pa_cons (pe_ix (ix_listK (K:=K) rfl) (pv 1) pe_int (fun _ _=>rfl)) pa_nil st_Subscript) st_Constant)))) pss_nil)
   (pss_cons (ps_if (pt_cmpR op_eq (pv 0) pe_str (nomark _)) (pss_one (ps_ret (pe_call G_turned_about hr (by rfl) T.m_turned_about T.F_turned_about.kp T.b_turned_about .nil pass0 (pa_cons (pe_callF (i:=2) rfl (Or.inl rfl) (hr.mono (by decide)) rfl C_by_field (pa_cons pe_str (pa_cons (pe_ix (ix_listK (K:=K) rfl) (pv 1) pe_int (fun _ _=>rfl)) pa_nil st_Subscript) st_Constant)) pa_nil st_Call)))) pss_nil)
   (pss_cons (ps_if (pt_cmpR op_eq (pv 0) pe_str (nomark _)) (pss_one (ps_ret (pe_callF (i:=2) rfl (Or.inl rfl) (hr.mono (by decide)) rfl C_by_field (pa_cons pe_str (pa_cons (pe_ix (ix_listK (K:=K) rfl) (pv 1) pe_int (fun _ _=>rfl)) pa_nil st_Subscript) st_Constant)))) pss_nil)
   (pss_cons (ps_if (pt_cmpR op_eq (pv 0) pe_str (nomark _)) (pss_one (ps_ret (pe_callF (i:=3) rfl (Or.inl rfl) (hr.mono (by decide)) rfl C_by_mark (pa_cons pe_str (pa_cons (pe_ix (ix_listK (K:=K) rfl) (pv 1) pe_int (fun _ _=>rfl)) (pa_cons (pe_ix (ix_listK (K:=K) rfl) (pv 1) pe_int (fun _ _=>rfl)) pa_nil st_Subscript) st_Subscript) st_Constant)))) pss_nil)
   (pss_cons (ps_if (pt_cmpR op_eq (pv 0) pe_str (nomark _)) (pss_one (ps_ret (pe_callF (i:=3) rfl (Or.inl rfl) (hr.mono (by decide)) rfl C_by_mark (pa_cons pe_str (pa_cons (pe_ix (ix_listK (K:=K) rfl) (pv 1) pe_int (fun _ _=>rfl)) (pa_cons (pe_ix (ix_listK (K:=K) rfl) (pv 1) pe_int (fun _ _=>rfl)) pa_nil st_Subscript) st_Subscript) st_Constant)))) pss_nil)
   (pss_cons (ps_if (pt_cmpR op_eq (pv 0) pe_str (nomark _)) (pss_one (ps_ret (pe_call G_settled_by hr (by rfl) T.m_settled_by T.F_settled_by.kp T.b_settled_by .nil pass0 (pa_cons pe_bl (pa_cons pe_str (pa_cons (pe_ix (ix_listK (K:=K) rfl) (pv 1) pe_int (fun _ _=>rfl)) pa_nil st_Subscript) st_Constant) st_Constant)))) pss_nil)
   (pss_cons (ps_if (pt_cmpR op_eq (pv 0) pe_str (nomark _)) (pss_one (ps_ret (pe_call G_settled_by hr (by rfl) T.m_settled_by T.F_settled_by.kp T.b_settled_by .nil pass0 (pa_cons pe_bl (pa_cons pe_str (pa_cons (pe_ix (ix_listK (K:=K) rfl) (pv 1) pe_int (fun _ _=>rfl)) pa_nil st_Subscript) st_Constant) st_Constant)))) pss_nil)
   (pss_one (ps_ret (pe_call G_put_together hr (by rfl) T.m_put_together T.F_put_together.kp T.b_put_together .nil pass0 (pa_cons (pv 0) (pa_cons (pv 1) pa_nil st_Name) st_Name)))))))))))) ,?_⟩
  rcases word14 hw with ⟨rfl,rfl,rfl⟩ | ⟨rfl,rfl,rfl⟩ | ⟨rfl,rfl,rfl⟩ | ⟨rfl,rfl,rfl⟩ | ⟨rfl,rfl,rfl⟩ | ⟨rfl,rfl,rfl⟩ | ⟨rfl,rfl,rfl⟩ | ⟨rfl,rfl,rfl⟩ | ⟨rfl,rfl,rfl⟩ | ⟨rfl,rfl,rfl⟩ | ⟨rfl,rfl,rfl⟩ | ⟨rfl,rfl,rfl⟩ | ⟨rfl,rfl,rfl⟩ | ⟨rfl,rfl,rfl⟩
  ·rw [w0] at k
   refine if_yes (evt_is (K:=K) (ev_var rfl h1) ev_str rfl) sg fun G1 H1 q1=>?_
   have g1:=q1
   have h2' := h2.same g1.gg
   exact ret_ev (K:=K) (G:=G1) ev_str q1.gh fun v G' H' g hv=>k v G' H' (g1.trans g) hv
  ·obtain ⟨v,rfl,t1⟩:=go1 hty;obtain ⟨z,hz,rfl⟩:=t1.field;rw [w1] at k
   refine if_no (evt_isnt (K:=K) (ev_var rfl h1) ev_str (by decide +kernel)) sg fun G1 H1 q1=>?_
   have g1:=q1
   refine if_yes (evt_is (K:=K) (ev_var rfl (h1.same g1.gg)) ev_str rfl) q1.gh fun G2 H2 q2=>?_
   have g2:=g1.trans q2
   have h2' := h2.same g2.gg
   exact ret_ev (K:=K) (G:=G2) (ev_callF (R:=RBF book E) rfl (eva_cons ev_str (eva_cons (ev_ixL (ev_var rfl h2') ev_int rfl rfl) eva_nil)) rfl ⟨z,hz,.inl ⟨rfl,rfl⟩⟩) q2.gh fun v G' H' g hv=>k v G' H' (g2.trans g) hv
  ·obtain ⟨v,rfl,t1⟩:=go1 hty;obtain ⟨z,hz,rfl⟩:=t1.field;rw [w2] at k
   refine if_no (evt_isnt (K:=K) (ev_var rfl h1) ev_str (by decide +kernel)) sg fun G1 H1 q1=>?_
   have g1:=q1
   refine if_no (evt_isnt (K:=K) (ev_var rfl (h1.same g1.gg)) ev_str (by decide +kernel)) q1.gh fun G2 H2 q2=>?_
   have g2:=g1.trans q2
   refine if_yes (evt_is (K:=K) (ev_var rfl (h1.same g2.gg)) ev_str rfl) q2.gh fun G3 H3 q3=>?_
   have g3:=g2.trans q3
   have h2' := h2.same g3.gg
   exact ret_ev (K:=K) (G:=G3) (ev_call (E:=E0) (R:=RTurn) (eva_cons (ev_callF (R:=RBF book E) rfl (eva_cons ev_str (eva_cons (ev_ixL (ev_var rfl h2') ev_int rfl rfl) eva_nil)) rfl ⟨z,hz,.inl ⟨rfl,rfl⟩⟩) eva_nil) ⟨_,rfl,rfl⟩) q3.gh fun v G' H' g hv=>k v G' H' (g3.trans g) hv
  ·obtain ⟨v,u,rfl,t1,t2⟩:=go2 hty;obtain ⟨a,rfl⟩:=t1.order;obtain ⟨b,rfl⟩:=t2.order;rw [w3] at k
   refine if_no (evt_isnt (K:=K) (ev_var rfl h1) ev_str (by decide +kernel)) sg fun G1 H1 q1=>?_
   have g1:=q1
   refine if_no (evt_isnt (K:=K) (ev_var rfl (h1.same g1.gg)) ev_str (by decide +kernel)) q1.gh fun G2 H2 q2=>?_
   have g2:=g1.trans q2
   refine if_no (evt_isnt (K:=K) (ev_var rfl (h1.same g2.gg)) ev_str (by decide +kernel)) q2.gh fun G3 H3 q3=>?_
   have g3:=g2.trans q3
   refine if_no (evt_isnt (K:=K) (ev_var rfl (h1.same g3.gg)) ev_str (by decide +kernel)) q3.gh fun G4 H4 q4=>?_
   have g4:=g3.trans q4
   refine if_no (evt_isnt (K:=K) (ev_var rfl (h1.same g4.gg)) ev_str (by decide +kernel)) q4.gh fun G5 H5 q5=>?_
   have g5:=g4.trans q5
   refine if_no (evt_isnt (K:=K) (ev_var rfl (h1.same g5.gg)) ev_str (by decide +kernel)) q5.gh fun G6 H6 q6=>?_
   have g6:=g5.trans q6
   refine if_no (evt_isnt (K:=K) (ev_var rfl (h1.same g6.gg)) ev_str (by decide +kernel)) q6.gh fun G7 H7 q7=>?_
   have g7:=g6.trans q7
   refine if_no (evt_isnt (K:=K) (ev_var rfl (h1.same g7.gg)) ev_str (by decide +kernel)) q7.gh fun G8 H8 q8=>?_
   have g8:=g7.trans q8
   have h2' := h2.same g8.gg
   exact ret_ev (K:=K) (G:=G8) (ev_call (E:=E0) (R:=RPut) (eva_cons (ev_var rfl (h1.same g8.gg)) (eva_cons (ev_var rfl h2') eva_nil)) ⟨_,3,_,rfl,rfl,.inl ⟨rfl,rfl,a,b,rfl⟩⟩) q8.gh fun v G' H' g hv=>k v G' H' (g8.trans g) hv
  ·obtain ⟨v,rfl,t1⟩:=go1 hty;obtain ⟨a,rfl⟩:=t1.order;rw [w4] at k
   refine if_no (evt_isnt (K:=K) (ev_var rfl h1) ev_str (by decide +kernel)) sg fun G1 H1 q1=>?_
   have g1:=q1
   refine if_no (evt_isnt (K:=K) (ev_var rfl (h1.same g1.gg)) ev_str (by decide +kernel)) q1.gh fun G2 H2 q2=>?_
   have g2:=g1.trans q2
   refine if_no (evt_isnt (K:=K) (ev_var rfl (h1.same g2.gg)) ev_str (by decide +kernel)) q2.gh fun G3 H3 q3=>?_
   have g3:=g2.trans q3
   refine if_no (evt_isnt (K:=K) (ev_var rfl (h1.same g3.gg)) ev_str (by decide +kernel)) q3.gh fun G4 H4 q4=>?_
   have g4:=g3.trans q4
   refine if_no (evt_isnt (K:=K) (ev_var rfl (h1.same g4.gg)) ev_str (by decide +kernel)) q4.gh fun G5 H5 q5=>?_
   have g5:=g4.trans q5
   refine if_no (evt_isnt (K:=K) (ev_var rfl (h1.same g5.gg)) ev_str (by decide +kernel)) q5.gh fun G6 H6 q6=>?_
   have g6:=g5.trans q6
   refine if_no (evt_isnt (K:=K) (ev_var rfl (h1.same g6.gg)) ev_str (by decide +kernel)) q6.gh fun G7 H7 q7=>?_
   have g7:=g6.trans q7
   refine if_no (evt_isnt (K:=K) (ev_var rfl (h1.same g7.gg)) ev_str (by decide +kernel)) q7.gh fun G8 H8 q8=>?_
   have g8:=g7.trans q8
   have h2' := h2.same g8.gg
   exact ret_ev (K:=K) (G:=G8) (ev_call (E:=E0) (R:=RPut) (eva_cons (ev_var rfl (h1.same g8.gg)) (eva_cons (ev_var rfl h2') eva_nil)) ⟨_,4,_,rfl,rfl,.inr (.inl ⟨rfl,rfl,a,rfl⟩)⟩) q8.gh fun v G' H' g hv=>k v G' H' (g8.trans g) hv
  ·obtain ⟨v,u,t,rfl,t1,t2,t3⟩:=go3 hty;obtain ⟨c,rfl⟩:=t1.case;obtain ⟨a,rfl⟩:=t2.order;obtain ⟨b,rfl⟩:=t3.order;rw [w5] at k
   refine if_no (evt_isnt (K:=K) (ev_var rfl h1) ev_str (by decide +kernel)) sg fun G1 H1 q1=>?_
   have g1:=q1
   refine if_no (evt_isnt (K:=K) (ev_var rfl (h1.same g1.gg)) ev_str (by decide +kernel)) q1.gh fun G2 H2 q2=>?_
   have g2:=g1.trans q2
   refine if_no (evt_isnt (K:=K) (ev_var rfl (h1.same g2.gg)) ev_str (by decide +kernel)) q2.gh fun G3 H3 q3=>?_
   have g3:=g2.trans q3
   refine if_no (evt_isnt (K:=K) (ev_var rfl (h1.same g3.gg)) ev_str (by decide +kernel)) q3.gh fun G4 H4 q4=>?_
   have g4:=g3.trans q4
   refine if_no (evt_isnt (K:=K) (ev_var rfl (h1.same g4.gg)) ev_str (by decide +kernel)) q4.gh fun G5 H5 q5=>?_
   have g5:=g4.trans q5
   refine if_no (evt_isnt (K:=K) (ev_var rfl (h1.same g5.gg)) ev_str (by decide +kernel)) q5.gh fun G6 H6 q6=>?_
   have g6:=g5.trans q6
   refine if_no (evt_isnt (K:=K) (ev_var rfl (h1.same g6.gg)) ev_str (by decide +kernel)) q6.gh fun G7 H7 q7=>?_
   have g7:=g6.trans q7
   refine if_no (evt_isnt (K:=K) (ev_var rfl (h1.same g7.gg)) ev_str (by decide +kernel)) q7.gh fun G8 H8 q8=>?_
   have g8:=g7.trans q8
   have h2' := h2.same g8.gg
   exact ret_ev (K:=K) (G:=G8) (ev_call (E:=E0) (R:=RPut) (eva_cons (ev_var rfl (h1.same g8.gg)) (eva_cons (ev_var rfl h2') eva_nil)) ⟨_,5,_,rfl,rfl,.inr (.inr (.inl ⟨rfl,rfl,c,a,b,rfl⟩))⟩) q8.gh fun v G' H' g hv=>k v G' H' (g8.trans g) hv
  ·obtain ⟨v,rfl,t1⟩:=go1 hty;obtain ⟨z,hz,rfl⟩:=t1.field;rw [w6] at k
   refine if_no (evt_isnt (K:=K) (ev_var rfl h1) ev_str (by decide +kernel)) sg fun G1 H1 q1=>?_
   have g1:=q1
   refine if_no (evt_isnt (K:=K) (ev_var rfl (h1.same g1.gg)) ev_str (by decide +kernel)) q1.gh fun G2 H2 q2=>?_
   have g2:=g1.trans q2
   refine if_no (evt_isnt (K:=K) (ev_var rfl (h1.same g2.gg)) ev_str (by decide +kernel)) q2.gh fun G3 H3 q3=>?_
   have g3:=g2.trans q3
   refine if_yes (evt_is (K:=K) (ev_var rfl (h1.same g3.gg)) ev_str rfl) q3.gh fun G4 H4 q4=>?_
   have g4:=g3.trans q4
   have h2' := h2.same g4.gg
   exact ret_ev (K:=K) (G:=G4) (ev_callF (R:=RBF book E) rfl (eva_cons ev_str (eva_cons (ev_ixL (ev_var rfl h2') ev_int rfl rfl) eva_nil)) rfl ⟨z,hz,.inr ⟨rfl,rfl⟩⟩) q4.gh fun v G' H' g hv=>k v G' H' (g4.trans g) hv
  ·obtain ⟨v,rfl,t1⟩:=go1 hty;obtain ⟨a,b,rfl⟩:=t1.mark;rw [w7] at k
   refine if_no (evt_isnt (K:=K) (ev_var rfl h1) ev_str (by decide +kernel)) sg fun G1 H1 q1=>?_
   have g1:=q1
   refine if_no (evt_isnt (K:=K) (ev_var rfl (h1.same g1.gg)) ev_str (by decide +kernel)) q1.gh fun G2 H2 q2=>?_
   have g2:=g1.trans q2
   refine if_no (evt_isnt (K:=K) (ev_var rfl (h1.same g2.gg)) ev_str (by decide +kernel)) q2.gh fun G3 H3 q3=>?_
   have g3:=g2.trans q3
   refine if_no (evt_isnt (K:=K) (ev_var rfl (h1.same g3.gg)) ev_str (by decide +kernel)) q3.gh fun G4 H4 q4=>?_
   have g4:=g3.trans q4
   refine if_no (evt_isnt (K:=K) (ev_var rfl (h1.same g4.gg)) ev_str (by decide +kernel)) q4.gh fun G5 H5 q5=>?_
   have g5:=g4.trans q5
   refine if_no (evt_isnt (K:=K) (ev_var rfl (h1.same g5.gg)) ev_str (by decide +kernel)) q5.gh fun G6 H6 q6=>?_
   have g6:=g5.trans q6
   refine if_yes (evt_is (K:=K) (ev_var rfl (h1.same g6.gg)) ev_str rfl) q6.gh fun G7 H7 q7=>?_
   have g7:=g6.trans q7
   have h2' := h2.same g7.gg
   exact ret_ev (K:=K) (G:=G7) (ev_call (E:=E0) (R:=RSet) (eva_cons ev_bl (eva_cons ev_str (eva_cons (ev_ixL (ev_var rfl h2') ev_int rfl rfl) eva_nil))) ⟨false,_,a,b,rfl,rfl⟩) q7.gh fun v G' H' g hv=>k v G' H' (g7.trans g) hv
  ·obtain ⟨v,rfl,t1⟩:=go1 hty;obtain ⟨a,b,rfl⟩:=t1.mark;rw [w8] at k
   refine if_no (evt_isnt (K:=K) (ev_var rfl h1) ev_str (by decide +kernel)) sg fun G1 H1 q1=>?_
   have g1:=q1
   refine if_no (evt_isnt (K:=K) (ev_var rfl (h1.same g1.gg)) ev_str (by decide +kernel)) q1.gh fun G2 H2 q2=>?_
   have g2:=g1.trans q2
   refine if_no (evt_isnt (K:=K) (ev_var rfl (h1.same g2.gg)) ev_str (by decide +kernel)) q2.gh fun G3 H3 q3=>?_
   have g3:=g2.trans q3
   refine if_no (evt_isnt (K:=K) (ev_var rfl (h1.same g3.gg)) ev_str (by decide +kernel)) q3.gh fun G4 H4 q4=>?_
   have g4:=g3.trans q4
   refine if_no (evt_isnt (K:=K) (ev_var rfl (h1.same g4.gg)) ev_str (by decide +kernel)) q4.gh fun G5 H5 q5=>?_
   have g5:=g4.trans q5
   refine if_no (evt_isnt (K:=K) (ev_var rfl (h1.same g5.gg)) ev_str (by decide +kernel)) q5.gh fun G6 H6 q6=>?_
   have g6:=g5.trans q6
   refine if_no (evt_isnt (K:=K) (ev_var rfl (h1.same g6.gg)) ev_str (by decide +kernel)) q6.gh fun G7 H7 q7=>?_
   have g7:=g6.trans q7
   refine if_yes (evt_is (K:=K) (ev_var rfl (h1.same g7.gg)) ev_str rfl) q7.gh fun G8 H8 q8=>?_
   have g8:=g7.trans q8
   have h2' := h2.same g8.gg
   exact ret_ev (K:=K) (G:=G8) (ev_call (E:=E0) (R:=RSet) (eva_cons ev_bl (eva_cons ev_str (eva_cons (ev_ixL (ev_var rfl h2') ev_int rfl rfl) eva_nil))) ⟨true,_,a,b,rfl,rfl⟩) q8.gh fun v G' H' g hv=>k v G' H' (g8.trans g) hv
  ·obtain ⟨v,rfl,t1⟩:=go1 hty;obtain ⟨a,rfl⟩:=t1.case;rw [w9] at k
   refine if_no (evt_isnt (K:=K) (ev_var rfl h1) ev_str (by decide +kernel)) sg fun G1 H1 q1=>?_
   have g1:=q1
   refine if_no (evt_isnt (K:=K) (ev_var rfl (h1.same g1.gg)) ev_str (by decide +kernel)) q1.gh fun G2 H2 q2=>?_
   have g2:=g1.trans q2
   refine if_no (evt_isnt (K:=K) (ev_var rfl (h1.same g2.gg)) ev_str (by decide +kernel)) q2.gh fun G3 H3 q3=>?_
   have g3:=g2.trans q3
   refine if_no (evt_isnt (K:=K) (ev_var rfl (h1.same g3.gg)) ev_str (by decide +kernel)) q3.gh fun G4 H4 q4=>?_
   have g4:=g3.trans q4
   refine if_no (evt_isnt (K:=K) (ev_var rfl (h1.same g4.gg)) ev_str (by decide +kernel)) q4.gh fun G5 H5 q5=>?_
   have g5:=g4.trans q5
   refine if_no (evt_isnt (K:=K) (ev_var rfl (h1.same g5.gg)) ev_str (by decide +kernel)) q5.gh fun G6 H6 q6=>?_
   have g6:=g5.trans q6
   refine if_no (evt_isnt (K:=K) (ev_var rfl (h1.same g6.gg)) ev_str (by decide +kernel)) q6.gh fun G7 H7 q7=>?_
   have g7:=g6.trans q7
   refine if_no (evt_isnt (K:=K) (ev_var rfl (h1.same g7.gg)) ev_str (by decide +kernel)) q7.gh fun G8 H8 q8=>?_
   have g8:=g7.trans q8
   have h2' := h2.same g8.gg
   exact ret_ev (K:=K) (G:=G8) (ev_call (E:=E0) (R:=RPut) (eva_cons (ev_var rfl (h1.same g8.gg)) (eva_cons (ev_var rfl h2') eva_nil)) ⟨_,9,_,rfl,rfl,.inr (.inr (.inr (.inl ⟨rfl,rfl,a,rfl⟩)))⟩) q8.gh fun v G' H' g hv=>k v G' H' (g8.trans g) hv
  ·obtain ⟨v,u,rfl,t1,t2⟩:=go2 hty;obtain ⟨a,rfl⟩:=t1.case;obtain ⟨b,rfl⟩:=t2.case;rw [w10] at k
   refine if_no (evt_isnt (K:=K) (ev_var rfl h1) ev_str (by decide +kernel)) sg fun G1 H1 q1=>?_
   have g1:=q1
   refine if_no (evt_isnt (K:=K) (ev_var rfl (h1.same g1.gg)) ev_str (by decide +kernel)) q1.gh fun G2 H2 q2=>?_
   have g2:=g1.trans q2
   refine if_no (evt_isnt (K:=K) (ev_var rfl (h1.same g2.gg)) ev_str (by decide +kernel)) q2.gh fun G3 H3 q3=>?_
   have g3:=g2.trans q3
   refine if_no (evt_isnt (K:=K) (ev_var rfl (h1.same g3.gg)) ev_str (by decide +kernel)) q3.gh fun G4 H4 q4=>?_
   have g4:=g3.trans q4
   refine if_no (evt_isnt (K:=K) (ev_var rfl (h1.same g4.gg)) ev_str (by decide +kernel)) q4.gh fun G5 H5 q5=>?_
   have g5:=g4.trans q5
   refine if_no (evt_isnt (K:=K) (ev_var rfl (h1.same g5.gg)) ev_str (by decide +kernel)) q5.gh fun G6 H6 q6=>?_
   have g6:=g5.trans q6
   refine if_no (evt_isnt (K:=K) (ev_var rfl (h1.same g6.gg)) ev_str (by decide +kernel)) q6.gh fun G7 H7 q7=>?_
   have g7:=g6.trans q7
   refine if_no (evt_isnt (K:=K) (ev_var rfl (h1.same g7.gg)) ev_str (by decide +kernel)) q7.gh fun G8 H8 q8=>?_
   have g8:=g7.trans q8
   have h2' := h2.same g8.gg
   exact ret_ev (K:=K) (G:=G8) (ev_call (E:=E0) (R:=RPut) (eva_cons (ev_var rfl (h1.same g8.gg)) (eva_cons (ev_var rfl h2') eva_nil)) ⟨_,10,_,rfl,rfl,.inr (.inr (.inr (.inr (.inl ⟨rfl,rfl,a,b,rfl⟩))))⟩) q8.gh fun v G' H' g hv=>k v G' H' (g8.trans g) hv
  ·obtain ⟨v,u,rfl,t1,t2⟩:=go2 hty;obtain ⟨a,rfl⟩:=t1.case;obtain ⟨b,rfl⟩:=t2.case;rw [w11] at k
   refine if_no (evt_isnt (K:=K) (ev_var rfl h1) ev_str (by decide +kernel)) sg fun G1 H1 q1=>?_
   have g1:=q1
   refine if_no (evt_isnt (K:=K) (ev_var rfl (h1.same g1.gg)) ev_str (by decide +kernel)) q1.gh fun G2 H2 q2=>?_
   have g2:=g1.trans q2
   refine if_no (evt_isnt (K:=K) (ev_var rfl (h1.same g2.gg)) ev_str (by decide +kernel)) q2.gh fun G3 H3 q3=>?_
   have g3:=g2.trans q3
   refine if_no (evt_isnt (K:=K) (ev_var rfl (h1.same g3.gg)) ev_str (by decide +kernel)) q3.gh fun G4 H4 q4=>?_
   have g4:=g3.trans q4
   refine if_no (evt_isnt (K:=K) (ev_var rfl (h1.same g4.gg)) ev_str (by decide +kernel)) q4.gh fun G5 H5 q5=>?_
   have g5:=g4.trans q5
   refine if_no (evt_isnt (K:=K) (ev_var rfl (h1.same g5.gg)) ev_str (by decide +kernel)) q5.gh fun G6 H6 q6=>?_
   have g6:=g5.trans q6
   refine if_no (evt_isnt (K:=K) (ev_var rfl (h1.same g6.gg)) ev_str (by decide +kernel)) q6.gh fun G7 H7 q7=>?_
   have g7:=g6.trans q7
   refine if_no (evt_isnt (K:=K) (ev_var rfl (h1.same g7.gg)) ev_str (by decide +kernel)) q7.gh fun G8 H8 q8=>?_
   have g8:=g7.trans q8
   have h2' := h2.same g8.gg
   exact ret_ev (K:=K) (G:=G8) (ev_call (E:=E0) (R:=RPut) (eva_cons (ev_var rfl (h1.same g8.gg)) (eva_cons (ev_var rfl h2') eva_nil)) ⟨_,11,_,rfl,rfl,.inr (.inr (.inr (.inr (.inr ⟨rfl,rfl,a,b,rfl⟩))))⟩) q8.gh fun v G' H' g hv=>k v G' H' (g8.trans g) hv
  ·obtain ⟨v,u,rfl,t1,t2⟩:=go2 hty;obtain ⟨z,hz,rfl⟩:=t1.field;obtain ⟨a,b,hab,rfl⟩:=t2.number;rw [w12] at k
   refine if_no (evt_isnt (K:=K) (ev_var rfl h1) ev_str (by decide +kernel)) sg fun G1 H1 q1=>?_
   have g1:=q1
   refine if_no (evt_isnt (K:=K) (ev_var rfl (h1.same g1.gg)) ev_str (by decide +kernel)) q1.gh fun G2 H2 q2=>?_
   have g2:=g1.trans q2
   refine if_no (evt_isnt (K:=K) (ev_var rfl (h1.same g2.gg)) ev_str (by decide +kernel)) q2.gh fun G3 H3 q3=>?_
   have g3:=g2.trans q3
   refine if_no (evt_isnt (K:=K) (ev_var rfl (h1.same g3.gg)) ev_str (by decide +kernel)) q3.gh fun G4 H4 q4=>?_
   have g4:=g3.trans q4
   refine if_yes (evt_is (K:=K) (ev_var rfl (h1.same g4.gg)) ev_str rfl) q4.gh fun G5 H5 q5=>?_
   have g5:=g4.trans q5
   have h2' := h2.same g5.gg
   exact ret_ev (K:=K) (G:=G5) (ev_callF (R:=RBM book num E) rfl (eva_cons ev_str (eva_cons (ev_ixL (ev_var rfl h2') ev_int rfl rfl) (eva_cons (ev_ixL (ev_var rfl h2') ev_int rfl rfl) eva_nil))) rfl ⟨z,hz,a,b,hab,.inl ⟨rfl,rfl⟩⟩) q5.gh fun v G' H' g hv=>k v G' H' (g5.trans g) hv
  ·obtain ⟨v,u,rfl,t1,t2⟩:=go2 hty;obtain ⟨z,hz,rfl⟩:=t1.field;obtain ⟨a,b,hab,rfl⟩:=t2.number;rw [w13] at k
   refine if_no (evt_isnt (K:=K) (ev_var rfl h1) ev_str (by decide +kernel)) sg fun G1 H1 q1=>?_
   have g1:=q1
   refine if_no (evt_isnt (K:=K) (ev_var rfl (h1.same g1.gg)) ev_str (by decide +kernel)) q1.gh fun G2 H2 q2=>?_
   have g2:=g1.trans q2
   refine if_no (evt_isnt (K:=K) (ev_var rfl (h1.same g2.gg)) ev_str (by decide +kernel)) q2.gh fun G3 H3 q3=>?_
   have g3:=g2.trans q3
   refine if_no (evt_isnt (K:=K) (ev_var rfl (h1.same g3.gg)) ev_str (by decide +kernel)) q3.gh fun G4 H4 q4=>?_
   have g4:=g3.trans q4
   refine if_no (evt_isnt (K:=K) (ev_var rfl (h1.same g4.gg)) ev_str (by decide +kernel)) q4.gh fun G5 H5 q5=>?_
   have g5:=g4.trans q5
   refine if_yes (evt_is (K:=K) (ev_var rfl (h1.same g5.gg)) ev_str rfl) q5.gh fun G6 H6 q6=>?_
   have g6:=g5.trans q6
   have h2' := h2.same g6.gg
   exact ret_ev (K:=K) (G:=G6) (ev_callF (R:=RBM book num E) rfl (eva_cons ev_str (eva_cons (ev_ixL (ev_var rfl h2') ev_int rfl rfl) (eva_cons (ev_ixL (ev_var rfl h2') ev_int rfl rfl) eva_nil))) rfl ⟨z,hz,a,b,hab,.inr ⟨rfl,rfl⟩⟩) q6.gh fun v G' H' g hv=>k v G' H' (g6.trans g) hv
end
end K28
namespace K28
open PySem L2 Frac Lw Dig PySem.NumText Nm
open Ord Num Look Rdo
theorem for_rev {K:PySem.W.Frag}{a:Addr}{xs:List V}{g:TG}{tb:TS}{D:Ends}{σ:St}{H:Hp}(Pv:Nat→St→Hp→Prop) (h0:Pv 0 σ H) (hl:∀ i σ H,i≤xs.length→Pv i σ H→SqT K H a xs)
  (hs:∀ i x σ H,xs.reverse[i]? = some x→Pv i σ H→g x σ H fun σ2 H2=>tb { D with nx:=Pv (i + 1),ct:=Pv (i + 1),bk:=D.nx } σ2 H2) (hd:∀ σ H,Pv xs.length σ H→D.nx σ H):
  ∃ W:Nat→Nat→St→Hp→Prop,(∃ m,W 0 m σ H)∧∀ i m σ H,W i m σ H→
   ((Itv K a xs.length).stop i H∧D.nx σ H)∨((Itv K a xs.length).go i H∧∃ N:St→Hp→Prop,(∀ σ' H',N σ' H' → ∃ m',m' < m∧W (i + 1) m' σ' H')∧∀ x H',(Itv K a xs.length).yld i H x H' → g x σ H' fun σ2 H2=>tb { D with nx:=N,ct:=N,bk:=D.nx } σ2 H2):=by
 refine ⟨fun i m σ H=>m = xs.length - i∧i≤xs.length∧Pv i σ H,⟨xs.length,by simp,Nat.zero_le _,h0⟩,?_⟩
 rintro i m σ H ⟨rfl,hi,p⟩
 have q:=hl i σ H hi p
 by_cases hlt:i < xs.length
 ·refine .inr ⟨⟨hlt,xs,q,rfl⟩,Pv (i + 1),fun σ' H' p' => ⟨xs.length - (i + 1),by omega,rfl,hlt,p'⟩,fun x H' y=>?_⟩
  obtain ⟨e,y⟩:=y
  subst e
  exact hs i x σ _ (y xs q) p
 ·have e:i = xs.length:=by omega
  subst e
  exact .inl ⟨⟨rfl,xs,q⟩,hd σ H p⟩
theorem run_drop {fld:Str→Prop}{num:Int→Int→Prop}:∀ {ws:List Wd}{st st' : List Str},Run fld num st ws st' → Kinds st→∀ j,∃ st2,Kinds st2∧Run fld num st2 (ws.drop j) st'
 | ws,st,_,h,hk,0=>⟨st,hk,h⟩
 | [],st,_,h,hk,j + 1=>⟨st,hk,h⟩
 | w :: ws,st,_,h,hk,j + 1=>by
  cases h with
  | cons a b=>exact run_drop b (step_kinds a hk) j
def RTell (book:List Str) (num:Int→Int→Prop) (E:En):List PyData→PyData→Prop:=fun as d=>∃ (ws:List Wd) (a:An),as = [.tuple (ws.map Wd.d)]∧IsOrd (· ∈ book) num ws∧(∀ R,ev E ws R = .an a :: R)∧ws.length≤900∧d = .str a.t
theorem stk_len {fld:Str→Prop}{num:Int→Int→Prop}{E:En}:∀ (ws:List Wd),(ev E ws []).length≤ws.length
 | []=>Nat.le_refl _
 | w :: ws=>by
  have ih:=stk_len (fld:=fld) (num:=num) (E:=E) ws
  show (push E w (ev E ws [])).length≤ws.length + 1
  unfold push
  split
  ·rw [List.length_cons];omega
  ·split
   ·rw [List.length_cons,List.length_drop];omega
   ·rw [List.length_cons];omega
section
variable {P:Program}{w:World}{K:PySem.W.Frag}{mg:Str→Option Value}{base:Heap}
theorem ev_wds {σ:St}{G:Hp}{tb:TE}{x:Str}{r:Str × Str × List Str}(W:Wds K w.params mg) (hb:Ev K tb σ G (.str x)) (h:wordT x = some r):
  Ev K (tOp (fun x y H Q=>∃ z a g v u,x = .ref a∧y = .str z∧DictK K w.params a g∧g z = some (v,u)∧Q v H) (tC (.ref W.a)) tb) σ G (.tuple [.str r.2.1,.tuple (r.2.2.map PyData.str)]):=
 fun G1 H s1 s2 Q k=>hb G1 H s1 s2 _ fun u G2 H2 g2 hu=>by
  obtain ⟨v,u',hg,hd⟩:=W.yes x r h
  rw [hu.str]
  exact ⟨x,W.a,W.g,v,u',rfl,rfl,W.D,hg,k _ G2 H2 g2 (hd G2)⟩
theorem ok_telling (T:Top K mg) (W:Wds K w.params mg) (W2:Txs K w.params mg "OTHER_WAY" otherT) (book:List Str) (num:Int→Int→Prop) (E:En) (hf:∀ z∈book,wordT z = none) (f1 f2:Addr):
  FnOkS P w K mg base 5 T.f_telling T.fd_telling ["order", "by_field", "by_mark"] (fun s vs H Q=>cls2 P w K mg base book num E f1 f2 s H∧spC K f1 f2 (RTell book num E) vs H Q E0):=by
 have G_word_told:FnOkS P w K mg base 4 T.f_word_told T.fd_word_told ["word", "parts", "by_field", "by_mark"] (fun s vs H Q=>cls2 P w K mg base book num E f1 f2 s H∧spC K f1 f2 (RWT book num E) vs H Q E0):=ok_wt T W2 book num E f1 f2
 have G_taken:FnOk P w K mg base CX0 4 T.f_taken T.fd_taken ["told", "many"] spTaken:=(ok_taken T).mono (by decide)
 have hst:=cls2_un (P:=P) (w:=w) (K:=K) (mg:=mg) (base:=base) (book:=book) (num:=num) (E:=E) (f1:=f1) (f2:=f2)
 refine T.F_telling.okS sc_telling (fun s vs H Q h=>?_) (fun cdv A outer s H vs Q hr h=>?_)
 ·obtain ⟨_,G,as,d,xs,rfl,sg,hv,⟨ws,a,rfl,_⟩,_⟩:=h
  rw [List.length_append,hv.length];rfl
 ·obtain ⟨hC,G,as,d,xs,rfl,sg,hv,⟨ws,a,rfl,ho,hev,hlen,rfl⟩,k⟩:=h
  have hu:=hr.units
  have zl:(2000:Nat)≤sizeLine:=by decide
  obtain ⟨v1,r1,rfl,h1,hv⟩:=hv.cons
  cases hv.nil
  obtain ⟨po,os,rfl,hpo,hos⟩:=h1.tup
  have hol:os.length = ws.length:=by rw [hos.length,List.length_map]
  refine ⟨_,(pss_cons (ps_set (i:=3) sc_telling.nd rfl (Or.inl rfl) (pe_lst pa_nil))
   (pss_cons (ps_for PassesOwn.never rfl (pi_rev (by rfl) T.reversed_ (pv 0)) (pg_name (i:=4) sc_telling.nd rfl (Or.inl rfl)) (pss_one (ps_if (pt_cmpR (op_inKW hu) (pv 4) (pe_glob (v:=.ref W.a) (by rfl) W.m rfl) (by rfl)) (pss_one (ps_expr (pe_bm PySem.F.plainAttrs_list PySem.F.slot_list_append PySem.F.type_list_append mt_append (pv 3) (pa_cons (pe_callH G_word_told hC hst rfl hr (by rfl) T.m_word_told T.F_word_told.kp T.b_word_told (pa_cons (pv 4) (pa_cons (pe_call G_taken hr (by rfl) T.m_taken T.F_taken.kp T.b_taken .nil pass0 (pa_cons (pv 3) (pa_cons (pe_callB (call_lenK (K:=K) rfl) (by rfl) T.len_ PySem.boot_len (pa_cons (pe_ix (ix_tupK (K:=K) rfl) (pe_ix ix_dictK (pe_glob (v:=.ref W.a) (by rfl) W.m rfl) (pv 4) (fun _ _=>rfl)) pe_int (fun _ _=>rfl)) pa_nil st_Subscript)) pa_nil st_Call) st_Name)) (pa_cons (pv 1) (pa_cons (pv 2) pa_nil st_Name) st_Name) st_Call) st_Name)) pa_nil st_Call)))) (pss_one (ps_expr (pe_bm PySem.F.plainAttrs_list PySem.F.slot_list_append PySem.F.type_list_append mt_append (pv 3) (pa_cons (pv 4) pa_nil st_Name)))))))
   (pss_one (ps_ret (pe_ix (ix_listK (K:=K) rfl) (pv 3) pe_int (fun _ _=>rfl)))))) ,?_⟩
  refine ⟨(by show 0≤sizeLine;decide),fun pt hpt=>?_⟩
  refine ⟨_,rfl,po,os,rfl,(same_new hpt).tup (sg.tup hpo),for_rev (fun i σ H' => ∃ (v:Option V) (xs:List V) (G' : Hp),σ = [some (.ref po),some (.ref f1),some (.ref f2),some (.ref pt),v]∧H' pt = some (.lst xs)∧Dats K G' xs ((ev E (ws.drop (ws.length - i)) []).map Tv.d).reverse∧Same G G' ∧ Same G' H' ∧ G' pt = none∧Same H H')
   ⟨_,[],G,rfl,upd_same,by rw [Nat.sub_zero,List.drop_length];exact dats_nil,Same.refl _,sg.trans (same_new hpt),sg.free hpt,same_new hpt⟩ ?_ ?_ ?_⟩
  ·rintro i σ H' _ ⟨v,xs,G',rfl,_,_,g1,g2,_,_⟩
   exact (g1.trans g2).tup hpo
  ·rintro i x σ H' hx ⟨v,xs,G',rfl,hp,hxs,g1,g2,g3,g4⟩
   have hi:i < ws.length:=by
    have:=(List.getElem?_eq_some_iff.mp hx).1
    rw [List.length_reverse,hol] at this;exact this
   have hdr:ws.drop (ws.length - (i + 1)) = ws[ws.length - (i + 1)] :: ws.drop (ws.length - i):=by
    rw [List.drop_eq_getElem_cons (by omega:ws.length - (i + 1) < ws.length)]
    congr 2;omega
   obtain ⟨st,hks,hrun⟩:=run_drop ho kinds_o (ws.length - (i + 1))
   rw [hdr] at hrun
   have hxd:Dat K G x (ws[ws.length - (i + 1)]).d:=by
    obtain ⟨d,e1,e2⟩:=(dats_rev hos).get' hx
    rw [List.getElem?_reverse (by rw [List.length_map];exact hi),List.length_map,List.getElem?_map,List.getElem?_eq_getElem (by omega)] at e1
    have e1:some (ws[ws.length - 1 - i]).d = some d:=e1
    injection e1 with e1
    have e3:ws[ws.length - (i + 1)] = ws[ws.length - 1 - i]:=by congr 1;omega
    rw [e3,e1];exact e2
   have hevs:ev E (ws.drop (ws.length - (i + 1))) [] = push E ws[ws.length - (i + 1)] (ev E (ws.drop (ws.length - i)) []):=by rw [hdr];rfl
   have hsl:=stk_len (fld:=(· ∈ book)) (num:=num) (E:=E) (ws.drop (ws.length - i))
   rw [List.length_drop] at hsl
   rw [hevs]
   generalize ws[ws.length - (i + 1)] = wd at hrun hxd
   generalize ws.drop (ws.length - i) = wr at hrun hxs hsl
   cases hrun with
   | @cons _ st1 _ _ _ sa sb=>
    obtain ⟨hty,_⟩:=ev_ty (E:=E) hf sb (step_kinds sa hks) (vs:=[]) .nil
    generalize ev E wr [] = stk at hty hxs hsl
    have hxl:xs.length = stk.length:=by rw [hxs.length,List.length_reverse,List.length_map]
    have hxd' := hxd.same g1
    rcases step_word sa hks with ⟨z,st0,rfl,rfl,hz,rfl⟩ | ⟨b,c,st0,rfl,rfl,hbc,rfl⟩ | ⟨want,z,ps,st0,rfl,rfl,n1,n2,hw,hl3,rfl⟩
    ·have e:push E (.t z) stk = .wd (.t z) :: stk:=by unfold push;dsimp only;rw [hf z hz]
     rw [e]
     have ez:x = V.str z:=hxd'.str
     subst ez
     refine ⟨_,rfl,W.a,W.g,rfl,W.D,.inl ⟨z,rfl,?_⟩⟩
     rw [W.no z (hf z hz)]
     refine ⟨_,rfl,iteF ?_⟩
     refine ⟨_,rfl,.inl ⟨rfl,_,SqL.of hp⟩,_,rfl,pt,_,_,rfl,rfl,hp,by omega,?_⟩
     refine ⟨_,_,G',rfl,upd_same,?_,g1,same_upd g2 g3,g3,same_upd g4 hpt⟩
     rw [List.map_cons,List.reverse_cons]
     exact dats_snoc hxs (dat_str z)
    ·obtain ⟨pn,ns,rfl,hpn,hns⟩:=hxd'.tup
     obtain ⟨y1,s1,rfl,d1,hns⟩:=hns.cons
     obtain ⟨y2,s2,rfl,d2,hns⟩:=hns.cons
     cases hns.nil
     rw [d1.int,d2.int] at hpn
     refine ⟨_,rfl,W.a,W.g,rfl,W.D,.inr ⟨pn,b,c,rfl,g2.tup hpn,?_⟩⟩
     refine ⟨_,rfl,iteF ?_⟩
     refine ⟨_,rfl,.inl ⟨rfl,_,SqL.of hp⟩,_,rfl,pt,_,_,rfl,rfl,hp,by omega,?_⟩
     refine ⟨_,_,G',rfl,upd_same,?_,g1,same_upd g2 g3,g3,same_upd g4 hpt⟩
     show Dats K G' _ ((Tv.wd (.n b c) :: stk).map Tv.d).reverse
     rw [List.map_cons,List.reverse_cons]
     exact dats_snoc hxs hxd'
    ·have e:push E (.t z) stk = appN E (wix z) (stk.take ps.length) :: stk.drop ps.length:=by unfold push;dsimp only;rw [hw]
     rw [e]
     have ez:x = V.str z:=hxd'.str
     subst ez
     obtain ⟨u,v',hg,_⟩:=W.yes z _ hw
     refine ⟨_,rfl,W.a,W.g,rfl,W.D,.inl ⟨z,rfl,?_⟩⟩
     rw [hg]
     refine ⟨_,rfl,iteT ?_⟩
     have hpl:ps.length≤stk.length:=by have:=hty.length;rw [List.length_append] at this;omega
     have hLn:stk.length - (stk.length - ps.length) = ps.length:=by omega
     refine ⟨_,rfl,.inl ⟨rfl,_,SqL.of hp⟩,_,rfl,_,rfl,?_⟩
     refine (ev_lenT (K:=K) (G:=G') (eva_cons (ev_ixT (ev_wds W (ev_var rfl (dat_str z)) hw) ev_int rfl rfl) eva_nil)).use g2 fun v6 G6 H6 g6 h6=>?_
     rw [h6.int,List.length_map]
     have hp6:=g6.hh _ _ hp
     have g6pt:G6 pt = none:=by
      cases e:G6 pt with
      | none=>rfl
      | some o=>
       rcases g6.fr pt o e with q | q
       ·rw [g3] at q;cases q
       ·rw [hp] at q;cases q
     refine ⟨pt,ps.length,xs,rfl,hp6,by rw [hxl];exact hpl,by omega,fun l H7 hl nlp h7l h7p h7o=>?_⟩
     have g6l:G6 l = none:=g6.gh.free hl
     have s67:Same (L2.upd G6 l (.lst (xs.drop (xs.length - ps.length)).reverse)) H7:=fun b o q=>by
      by_cases hb:b = l
      ·subst hb;rw [upd_same] at q;rw [← q];exact h7l
      ·rw [upd_ne hb] at q
       have hbp:b≠pt:=fun z=>by subst z;rw [g6pt] at q;cases q
       rw [h7o b hb hbp];exact g6.gh _ _ q
     have hxs6:=hxs.same g6.gg
     have hys:Dats K G6 (xs.drop (xs.length - ps.length)).reverse ((stk.take ps.length).map Tv.d):=by
      have q:=dats_rev (dats_drop (xs.length - ps.length) hxs6)
      rw [List.drop_reverse,List.reverse_reverse,List.length_map,hxl,hLn,← List.map_take] at q
      rw [hxl];exact q
     refine ⟨_,rfl,_,rfl,L2.upd G6 l (.lst (xs.drop (xs.length - ps.length)).reverse),[.str z,.list ((stk.take ps.length).map Tv.d)],_,[.str z,.ref l],rfl,s67,dats_cons (dat_str z) (dats_cons (dat_lst upd_same (hys.same (same_new g6l))) dats_nil),⟨z,want,ps,_,rfl,hw,(tys_split hty).1,rfl⟩,fun v8 G8 H8 g8 h8=>?_⟩
     have g8pt:G8 pt = none:=by
      cases e:G8 pt with
      | none=>rfl
      | some o=>
       rcases g8.fr pt o e with q | q
       ·rw [upd_ne (Ne.symm nlp),g6pt] at q;cases q
       ·rw [h7p] at q;cases q
     have s68:Same G6 G8:=(same_new g6l).trans g8.gg
     refine ⟨pt,_,_,rfl,rfl,g8.hh _ _ h7p,by rw [List.length_take];omega,?_⟩
     refine ⟨_,_,G8,rfl,upd_same,?_,(g1.trans g6.gg).trans s68,same_upd g8.gh g8pt,g8pt,fun b o q=>?_⟩
     ·rw [List.map_cons,List.reverse_cons]
      refine dats_snoc ?_ h8
      have q:=dats_take (xs.length - ps.length) (hxs6.same s68)
      rw [List.take_reverse,List.length_map,hxl,hLn,← List.map_drop] at q
      rw [hxl];exact q
     ·have hbp:b≠pt:=ne_of_none q hpt
      have q6:=g6.hh _ _ (g4 _ _ q)
      have hbl:b≠l:=ne_of_none q6 hl
      rw [upd_ne hbp]
      exact g8.hh _ _ (by rw [h7o b hbl hbp];exact q6)
  ·rintro σ H' ⟨v,xs,G',rfl,hp,hxs,g1,g2,g3,g4⟩
   rw [hol,Nat.sub_self,List.drop_zero,hev] at hxs
   obtain ⟨y,ys,rfl,hy,hr'⟩:=hxs.cons
   cases hr'.nil
   rw [show y = V.str a.t from hy.str] at hp
   exact ⟨_,rfl,pt,_,0,_,rfl,rfl,SqL.of hp,rfl,k _ G H' ⟨Same.refl _,g1.trans g2,g4,fun _ _ h=>.inl h⟩ (dat_str _)⟩
end
end K28
namespace L2
open PySem PySem.Spec PyProof.Rows
section
variable {X:Cx}{o e:Expr}{es:List Expr}{to:TE}{t:TA}{name:Str}{apos cpos:Pos}{id:String}{r:V→List V→Hp→VK→Prop}
def tTM (r:V→List V→Hp→VK→Prop) (to:TE) (t:TA):TE:=fun σ H Q=>to σ H fun x H1=>(∃ p xs,x = .ref p∧H1 p = some (.tup xs))∧t σ H1 fun vs H2=>r x vs H2 Q
theorem pe_tm (slot:Slot "tuple" name id) (hty:typeOf (.builtin id) = pure (.type "method_descriptor")) (hm:MtR X id r) (ho:PE X o to) (ha:PA X (e :: es) t)
  (hbase:attributeBase o name X.env (eval o X.env) = eval o X.env:=by rfl)
  (hfew:((backTo cpos (starEach (e :: es) X.env)).all (fun x=>!x.1) && (backToKw cpos (keywordEach [] X.env)).all (fun x=>x.1.isSome)
   && decide ((e :: es).length + ([]:List Keyword).length + (if ([]:List Keyword).isEmpty then 0 else 1) < 30)) = true:=by rfl)
  (hline:(apos.endLine == cpos.line) = true:=by rfl) (hs:starEach (e :: es) X.env = (false,eval e X.env) :: starEach es X.env:=by rfl) (hplain:(backTo cpos (starEach es X.env)).any (·.1) = false:=by rfl):
  PE X (.Call (.Attribute o name apos) (e :: es) [] cpos) (tTM r to t):=by
 intro pins s σ H Q I h
 refine wpAny_Call_method_late hbase hfew hline rfl (thn (ho pins s σ H _ I h) fun v s1 ⟨x,H1,I1,r1,⟨p,xs,ex,hp⟩,q1⟩=>?_)
 subst ex
 cases (show v = Value.ref p from r1)
 obtain ⟨_,its,_,pt,nd⟩:=I1.hok p _ hp
 refine ⟨"tuple",id,PySem.F.plainAttrs_tuple,slot,hty,pt.typeIs,fun a ea=>?_,?_⟩
 ·cases ea;exact nd
 have hA:=ha cpos pins s1 σ H1 _ I1 q1
 rw [hs] at hA ⊢
 refine Calls.callWith_builtin (by show (false || (backTo cpos (starEach es X.env)).any (·.1)) = false;rw [hplain] <;> rfl) (Calls.evalArgs_plain ?_)
 exact thn hA fun us s2 ⟨vs,H2,I2,r2,q2⟩=>hm pins s2 σ H2 (.ref p) vs (.ref p) us Q I2 (show RelV (.ref p) (.ref p) from rfl) r2 q2
end
end L2
namespace K28
open PySem L2 Frac Lw Dig PySem.NumText Nm
open Ord Num Look Rdo
section
variable {P:Program}{w:World}{K:PySem.W.Frag}{mg:Str→Option Value}{base:Heap}
theorem getD_dF {f:List (Int × Int)}{n:Nat}(h:n < f.length):(f.map dF)[n]? = some (dF (f.getD n (0,1))):=by
 rw [List.getElem?_map,List.getD_eq_getElem?_getD,List.getElem?_eq_getElem h];rfl
theorem getD_mem {f:List (Int × Int)}{n:Nat}(h:n < f.length):f.getD n (0,1)∈f:=by
 rw [List.getD_eq_getElem?_getD,List.getElem?_eq_getElem h];exact List.getElem_mem h
theorem ev_tix {σ:St}{G:Hp}{i:Nat}{tb:TE}{ws:List Str}{z:Str}{p:Addr}(hi:σ[i]? = some (some (.ref p))) (hp:G p = some (.tup (ws.map V.str))) (hb:Ev K tb σ G (.str z)) (hz:z∈ws):Ev K (tTM (rTIndex K) (tVar i) (tCons tb tNil)) σ G (.int (ws.idxOf z:Nat)):=
 fun G1 H s1 s2 Q k=>⟨_,hi,⟨p,_,rfl,s2 _ _ (s1 _ _ hp)⟩,hb G1 H s1 s2 _ fun u G3 H3 g3 hu=>by
  rw [hu.str]
  exact ⟨p,ws,z,rfl,rfl,SqT.of (g3.hh _ _ (s2 _ _ (s1 _ _ hp))),hz,k _ G3 H3 g3 (dat_int _)⟩⟩
theorem noL_dFs (ws:List (Int × Int)):noL (.tuple (ws.map dF)) = true:=by
 unfold noL
 induction ws with
 | nil=>rfl
 | cons x r ih=>rw [List.map_cons];unfold noLs;rw [ih];rfl
theorem body_field (T:Top K mg) (W1:Txs K w.params mg "AHEAD" aheadT) {book:List Str}{f g:List (Int × Int)}(hfl:f.length = book.length) (hgl:g.length = book.length) (hf:∀ p∈f,Sz p) (hg:∀ p∈g,Sz p)
  {H0:Hp}{pb:Addr}{vf vg:V}(hb:H0 pb = some (.tup (book.map V.str))) (hvf:Dat K H0 vf (.tuple (f.map dF))) (hvg:Dat K H0 vg (.tuple (g.map dF)))
  {A:Around}{outer:List Env}{s' : Shared} {H' : Hp} {vs:List V}{Q:VK}{fa c' : Addr} {cl:List (Str × Addr)}(hr:Room 2 (A.deeper (envB lq_by_field (defScope s_by_field) s'.heap.objs.size fa (.ref c') cl))) (kp:Kp H0 H') (h:spP K (RBF book (enOf book f g)) vs H' Q E0):
  ∃ t,PSs (cloCx P w K mg base ((["word", "field"]:List Str) ++ (["place"]:List Str) ++ (["book", "first", "second"]:List Str)) lq_by_field (defScope s_by_field) fa c' cl A outer s' H') (defBody s_by_field) t∧t { nx:=fun _ H' => Q .non H',rt:=Q } (vs.map some ++ List.replicate (["place"]:List Str).length none ++ [some (.ref pb),some vf,some vg]) H' := by
 have G_answer:FnOk P w K mg base CX0 2 T.f_answer T.fd_answer ["word", "how"] (spP K RAns):=(ok_answer T W1).mono (by decide)
 have G_how_stands:FnOk P w K mg base CX0 2 T.f_how_stands T.fd_how_stands ["one", "other"] (spP K RHow):=ok_how T
 have hu:=hr.units
 obtain ⟨G,as,d,sg,hv,⟨z,hz,hx⟩,k⟩:=h
 have hi:book.idxOf z < book.length:=List.idxOf_lt_length_of_mem hz
 have hb' := kp.1 _ _ hb
 have hf' := kp.dat _ _ (noL_dFs _) hvf
 have hg' := kp.dat _ _ (noL_dFs _) hvg
 have key:∀ {x:Str}{e:PyData}{v1 v2:V},Dat K H' v1 (.str x)→Dat K H' v2 (.str z)→RAns [.str x,.str (hsA (f.getD (book.idxOf z) (0,1)) (g.getD (book.idxOf z) (0,1))).how] e→(∀ v G' H'',Grow H' H' G' H'' → Dat K G' v e→Q v H'')→
   ∃ t,PSs (cloCx P w K mg base ((["word", "field"]:List Str) ++ (["place"]:List Str) ++ (["book", "first", "second"]:List Str)) lq_by_field (defScope s_by_field) fa c' cl A outer s' H') (defBody s_by_field) t∧t { nx:=fun _ H' => Q .non H',rt:=Q } [some v1,some v2,none,some (.ref pb),some vf,some vg] H' := fun {x e v1 v2} h1 h2 hR hk=>by
  refine ⟨_,(pss_cons (ps_set (i:=2) sc_by_field.nd rfl (Or.inl rfl) (pe_tm PySem.F.slot_tuple_index PySem.F.type_tuple_index (mt_tindex (K:=K) rfl) (pv 3) (pa_cons (pv 1) pa_nil st_Name)))
   (pss_one (ps_ret (pe_call G_answer hr (by rfl) T.m_answer T.F_answer.kp T.b_answer .nil pass0 (pa_cons (pv 0) (pa_cons (pe_call G_how_stands hr (by rfl) T.m_how_stands T.F_how_stands.kp T.b_how_stands .nil pass0 (pa_cons (pe_ix (ix_tupK (K:=K) rfl) (pv 4) (pv 2) (fun _ _=>rfl)) (pa_cons (pe_ix (ix_tupK (K:=K) rfl) (pv 5) (pv 2) (fun _ _=>rfl)) pa_nil st_Subscript) st_Subscript)) pa_nil st_Call) st_Name))))) ,?_⟩
  refine asg_ev (K:=K) (G:=H') (ev_tix rfl hb' (ev_var rfl h2) hz) (Same.refl _) fun v3 G1 H1 g1 h3=>?_
  refine ret_ev (K:=K) (G:=G1) (ev_call (E:=E0) (R:=RAns) (eva_cons (ev_var rfl (h1.same g1.gg)) (eva_cons (ev_call (E:=E0) (R:=RHow) (eva_cons (ev_ixT (ev_var rfl (hf'.same g1.gg)) (ev_var rfl h3) (ixN_nat (by rw [List.length_map];omega)) (getD_dF (by omega))) (eva_cons (ev_ixT (ev_var rfl (hg'.same g1.gg)) (ev_var rfl h3) (ixN_nat (by rw [List.length_map];omega)) (getD_dF (by omega))) eva_nil)) ⟨_,_,rfl,hf _ (getD_mem (by omega)),hg _ (getD_mem (by omega)),rfl⟩) eva_nil)) hR) g1.gh fun v G' H'' g hv=>hk v G' H'' (g1.trans g) hv
 rcases hx with ⟨rfl,rfl⟩ | ⟨rfl,rfl⟩
 ·obtain ⟨v1,r1,rfl,h1,hv⟩:=hv.cons
  obtain ⟨v2,r2,rfl,h2,hv⟩:=hv.cons
  cases hv.nil
  exact key (h1.same sg) (h2.same sg) ⟨_,.inl ⟨rfl,rfl⟩⟩ fun v G' H'' g hv=>by
   rw [hv.str]
   exact k _ G H'' ⟨Same.refl _,sg.trans g.hh,g.hh,fun _ _ h=>.inl h⟩ (dat_str _)
 ·obtain ⟨v1,r1,rfl,h1,hv⟩:=hv.cons
  obtain ⟨v2,r2,rfl,h2,hv⟩:=hv.cons
  cases hv.nil
  refine key (e:=.bool (isA (hsA (f.getD (book.idxOf z) (0,1)) (g.getD (book.idxOf z) (0,1))) .like)) (h1.same sg) (h2.same sg) ⟨_,.inr ⟨_,by decide +kernel,rfl,?_⟩⟩ fun v G' H'' g hv=>by
   rw [hv.bl]
   exact k _ G H'' ⟨Same.refl _,sg.trans g.hh,g.hh,fun _ _ h=>.inl h⟩ (dat_bl _)
  congr 1
  generalize hsA _ _ = a
  cases a <;> decide +kernel
end
end K28
namespace K28
open PySem L2 Frac Lw Dig PySem.NumText Nm
open Ord Num Look Rdo
def wid (G H:Hp):Hp:=fun b=>match G b with
 | some o=>some o
 | none=>match H b with
  | some (.lst _)=>none
  | o=>o
theorem wid_G {G H:Hp}:Same G (wid G H):=fun b o e=>by unfold wid;rw [e]
theorem wid_H {G H:Hp}(s:Same G H):Same (wid G H) H:=fun b o e=>by
 unfold wid at e
 cases hg:G b with
 | some o' => rw [hg] at e;dsimp only at e;rw [← e];exact s _ _ hg
 | none=>
  rw [hg] at e
  dsimp only at e
  split at e
  ·cases e
  ·exact e
theorem wid_kp {G H:Hp}(s:Same G H):Kp H (wid G H):=by
 refine ⟨fun b xs e=>?_,fun b o u e=>?_⟩
 ·unfold wid
  cases hg:G b with
  | some o' => rw [s _ _ hg] at e;exact e
  | none=>dsimp only;rw [e]
 ·unfold wid
  cases hg:G b with
  | some o' => rw [s _ _ hg] at e;exact e
  | none=>dsimp only;rw [e]
theorem wid_back {K:PySem.W.Frag}{G H G' H' : Hp} {v:V}{ds:List PyData}(s:Same G H) (g:Grow (wid G H) H G' H') (hv:Dat K G' v (.list ds)) (hf:∀ {G1 G2:Hp}{xs:List V},Dats K G1 xs ds→Dats K G2 xs ds):∃ G'',Grow G H G'' H' ∧ Dat K G'' v (.list ds):=by
 obtain ⟨p,xs,rfl,hp,hx⟩:=hv.lst
 cases hg:G p with
 | some o=>
  have e:=g.gg _ _ (wid_G (H:=H) _ _ hg)
  rw [hp] at e
  injection e with e
  refine ⟨G,⟨Same.refl _,s.trans g.hh,g.hh,fun _ _ h=>.inl h⟩,dat_lst (xs:=xs) (by rw [hg,← e]) (hf hx)⟩
 | none=>
  have hn:H p = none:=by
   rcases g.fr p _ hp with q | q
   ·have hH:=wid_H s _ _ q
    unfold wid at q
    rw [hg] at q
    dsimp only at q
    rw [hH] at q
    cases q
   ·exact q
  have sG:Same G (L2.upd G p (.lst xs)):=same_new hg
  refine ⟨L2.upd G p (.lst xs),⟨sG,fun b o e=>?_,g.hh,fun b o e=>?_⟩,dat_lst upd_same (hf hx)⟩
  ·by_cases hb:b = p
   ·subst hb;rw [upd_same] at e;rw [← e];exact g.gh _ _ hp
   ·rw [upd_ne hb] at e;exact g.hh _ _ (s _ _ e)
  ·by_cases hb:b = p
   ·subst hb;exact .inr hn
   ·rw [upd_ne hb] at e;exact .inl e
theorem how_is {a:An}{x:Str}{b:An}(h:b.how = x):decide (a.how = x) = isA a b:=by
 subst h
 cases a <;> cases b <;> decide +kernel
section
variable {P:Program}{w:World}{K:PySem.W.Frag}{mg:Str→Option Value}{base:Heap}
theorem body_mark (T:Top K mg) (W1:Txs K w.params mg "AHEAD" aheadT) {book:List Str}{f g:List (Int × Int)}{num:Int→Int→Prop}(hnum:∀ a b,num a b→Sz (a,b)) (hfl:f.length = book.length) (hgl:g.length = book.length) (hf:∀ p∈f,Sz p) (hg:∀ p∈g,Sz p)
  {H0:Hp}{pb:Addr}{vf vg:V}(hb:H0 pb = some (.tup (book.map V.str))) (hvf:Dat K H0 vf (.tuple (f.map dF))) (hvg:Dat K H0 vg (.tuple (g.map dF)))
  {A:Around}{outer:List Env}{s' : Shared} {H' : Hp} {vs:List V}{Q:VK}{fa c' : Addr} {cl:List (Str × Addr)}(hr:Room 2 (A.deeper (envB lq_by_mark (defScope s_by_mark) s'.heap.objs.size fa (.ref c') cl))) (kp:Kp H0 H') (h:spP K (RBM book num (enOf book f g)) vs H' Q E0):
  ∃ t,PSs (cloCx P w K mg base ((["word", "field", "number"]:List Str) ++ (["place"]:List Str) ++ (["book", "first", "second"]:List Str)) lq_by_mark (defScope s_by_mark) fa c' cl A outer s' H') (defBody s_by_mark) t∧t { nx:=fun _ H' => Q .non H',rt:=Q } (vs.map some ++ List.replicate (["place"]:List Str).length none ++ [some (.ref pb),some vf,some vg]) H' := by
 have G_answer:FnOk P w K mg base CX0 2 T.f_answer T.fd_answer ["word", "how"] (spP K RAns):=(ok_answer T W1).mono (by decide)
 have G_how_stands:FnOk P w K mg base CX0 2 T.f_how_stands T.fd_how_stands ["one", "other"] (spP K RHow):=ok_how T
 have hu:=hr.units
 obtain ⟨G,as,d,sg,hv,⟨z,hz,a,b,hab,hx⟩,k⟩:=h
 have hi:book.idxOf z < book.length:=List.idxOf_lt_length_of_mem hz
 have kw:=kp.trans (wid_kp sg)
 have hb' := kw.1 _ _ hb
 have hf' := kw.dat _ _ (noL_dFs _) hvf
 have hg' := kw.dat _ _ (noL_dFs _) hvg
 have key:∀ {x:Str}{c:An}{v1 v2 v3:V},x≠S "look" → c.how = x→Dat K G v1 (.str x)→Dat K G v2 (.str z)→Dat K G v3 (dF (a,b))→
   (∀ v G' H'',Grow G H' G' H'' → Dat K G' v (.list [.bool (isA (hsA (f.getD (book.idxOf z) (0,1)) (a,b)) c),.bool (isA (hsA (g.getD (book.idxOf z) (0,1)) (a,b)) c)])→Q v H'')→
   ∃ t,PSs (cloCx P w K mg base ((["word", "field", "number"]:List Str) ++ (["place"]:List Str) ++ (["book", "first", "second"]:List Str)) lq_by_mark (defScope s_by_mark) fa c' cl A outer s' H') (defBody s_by_mark) t∧t { nx:=fun _ H' => Q .non H',rt:=Q } [some v1,some v2,some v3,none,some (.ref pb),some vf,some vg] H' := fun {x c v1 v2 v3} hxl hc h1 h2 h3 hk=>by
  have h1' := h1.same (wid_G (H:=H'))
  have h2' := h2.same (wid_G (H:=H'))
  have h3' := h3.same (wid_G (H:=H'))
  refine ⟨_,(pss_cons (ps_set (i:=3) sc_by_mark.nd rfl (Or.inr rfl) (pe_tm PySem.F.slot_tuple_index PySem.F.type_tuple_index (mt_tindex (K:=K) rfl) (pv 4) (pa_cons (pv 1) pa_nil st_Name)))
   (pss_one (ps_ret (pe_lc (x:= "thing") (cap:=["word", "place", "number"]) (js:=[0,3,2]) ⟨rfl,by decide +kernel,by decide +kernel,rfl,(by show ∀ p∈(_:List (Str × NameKind)),p.2 = NameKind.free→List.lookup p.1 (defScope s_by_mark).names = some NameKind.cell;decide +kernel),by decide +kernel,by decide +kernel,by decide +kernel⟩ rfl rfl (fun _ _ h=>h) (pi_tup (pe_tup (pa_cons (pv 5) (pa_cons (pv 6) pa_nil st_Name) st_Name))) (fun _ _ _ _=>⟨pif_nil,(pe_call G_answer hr (by rfl) T.m_answer T.F_answer.kp T.b_answer .nil pass0 (pa_cons (pv 1) (pa_cons (pe_call G_how_stands hr (by rfl) T.m_how_stands T.F_how_stands.kp T.b_how_stands .nil pass0 (pa_cons (pe_ix (ix_tupK (K:=K) rfl) (pv 0) (pv 2) (fun _ _=>rfl)) (pa_cons (pv 3) pa_nil st_Name) st_Subscript)) pa_nil st_Call) st_Name))⟩))))) ,?_⟩
  refine asg_ev (K:=K) (G:=wid G H') (ev_tix rfl hb' (ev_var rfl h2') hz) (wid_H sg) fun v4 G1 H1 g1 h4=>?_
  refine ret_ev (K:=K) (G:=G1) (d:=.list [.bool (isA (hsA (f.getD (book.idxOf z) (0,1)) (a,b)) c),.bool (isA (hsA (g.getD (book.idxOf z) (0,1)) (a,b)) c)])
   (ev_lcT (K:=K) [f,g] (fun l=>.tuple (l.map dF)) (fun l=>some (.bool (isA (hsA (l.getD (book.idxOf z) (0,1)) (a,b)) c))) (ev_tup (eva_cons (ev_var rfl (hf'.same g1.gg)) (eva_cons (ev_var rfl (hg'.same g1.gg)) eva_nil)) (by show 2≤sizeLine;decide)) (by show 2 < sizeLine;decide) (fun G2 i l y sG hl hy=>?_)) g1.gh fun v G' H'' g2 hv=>?_
  ·have hll:l.length = book.length∧∀ p∈l,Sz p:=by
    match i,hl with
    | 0,hl=>cases hl;exact ⟨hfl,hf⟩
    | 1,hl=>cases hl;exact ⟨hgl,hg⟩
   refine .inl ⟨_,rfl,evt_noif,ev_call (E:=E0) (R:=RAns) (eva_cons (ev_var rfl ((h1'.same g1.gg).same sG)) (eva_cons (ev_call (E:=E0) (R:=RHow) (eva_cons (ev_ixT (ev_var rfl hy) (ev_var rfl (h4.same sG)) (ixN_nat (by rw [List.length_map];omega)) (getD_dF (by omega))) (eva_cons (ev_var rfl ((h3'.same g1.gg).same sG)) eva_nil)) ⟨_,(a,b),rfl,hll.2 _ (getD_mem (by omega)),hnum a b hab,rfl⟩) eva_nil)) ⟨_,.inr ⟨x,hxl,rfl,?_⟩⟩⟩
   rw [how_is hc]
  ·obtain ⟨G'',g3,hv'⟩:=wid_back sg (g1.trans g2) hv (fun {G1 G2 xs} hd=>by
    obtain ⟨y1,r1,rfl,d1,hd⟩:=hd.cons
    obtain ⟨y2,r2,rfl,d2,hd⟩:=hd.cons
    cases hd.nil
    rw [d1.bl,d2.bl]
    exact dats_cons (dat_bl _) (dats_cons (dat_bl _) dats_nil))
   exact hk v G'' H'' g3 hv'
 rcases hx with ⟨rfl,rfl⟩ | ⟨rfl,rfl⟩
 ·obtain ⟨v1,r1,rfl,h1,hv⟩:=hv.cons
  obtain ⟨v2,r2,rfl,h2,hv⟩:=hv.cons
  obtain ⟨v3,r3,rfl,h3,hv⟩:=hv.cons
  cases hv.nil
  exact key (c:=.ahead) (by decide +kernel) rfl h1 h2 h3 k
 ·obtain ⟨v1,r1,rfl,h1,hv⟩:=hv.cons
  obtain ⟨v2,r2,rfl,h2,hv⟩:=hv.cons
  obtain ⟨v3,r3,rfl,h3,hv⟩:=hv.cons
  cases hv.nil
  exact key (c:=.like) (by decide +kernel) rfl h1 h2 h3 k
end
end K28
namespace K28
open PySem L2 Frac Lw Dig PySem.NumText Nm
open Ord Num Look Rdo
def spLook (K:PySem.W.Frag) (Pt:Addr) (cr:Nat→Nat→Option Str):Sp:=fun vs H Q _=>∃ (G:Hp) (ws:List Wd) (book:List Str) (f g:List (Int × Int)) (num:Int→Int→Prop) (a:An) (vo vf vg:V) (pb:Addr),vs = [vo,.ref pb,vf,vg]∧G Pt = some (.tbl cr)∧Same G H∧G pb = some (.tup (book.map V.str))∧
 (Dat K G vo (.tuple (ws.map Wd.d))∧Dat K G vf (.tuple (f.map dF))∧Dat K G vg (.tuple (g.map dF)))∧IsOrd (· ∈ book) num ws∧(∀ a b,num a b→Sz (a,b))∧(f.length = book.length∧g.length = book.length∧(∀ p∈f,Sz p)∧∀ p∈g,Sz p)∧(∀ z∈book,wordT z = none)∧ws.length≤900∧
 (∀ R,ev (enOf book f g) ws R = .an a :: R)∧∀ G' H',Grow G H G' H' → Q (.str a.t) H'
section
variable {P:Program}{w:World}{K:PySem.W.Frag}{mg:Str→Option Value}{base:Heap}
theorem ok_looked (T:Top K mg) (M:Bs K mg base) (W:Wds K w.params mg) (W1:Txs K w.params mg "AHEAD" aheadT) (W2:Txs K w.params mg "OTHER_WAY" otherT):FnOk P w K mg base CX0 6 T.f_looked T.fd_looked ["order", "book", "first", "second"] (spLook K T.P_looked cr_looked):=by
 refine T.F_looked.okC sc_looked (fun vs H Q E h=>?_) (fun cdv A outer s H vs Q E hcd hr h=>?_)
 ·obtain ⟨G,ws,book,f,g,num,a,vo,vf,vg,pb,rfl,_⟩:=h
  rfl
 ·obtain ⟨G,ws,book,f,g,num,a,vo,vf,vg,pb,rfl,hP,sg,hpb,⟨ho,hvf,hvg⟩,hord,hnum,⟨hfl,hgl,hf,hg⟩,hwd,hlen,hev,k⟩:=h
  have hu:=hr.units
  have G_telling:=fun f1 f2=>ok_telling (P:=P) (w:=w) (base:=base) T W W2 book num (enOf book f g) hwd f1 f2
  let RH:Addr→Addr→St→Hp→Prop:=fun f1 f2 σ H1=>(IsDef H1 f1 "by_field" lq_by_field (defArgs s_by_field) (defBody s_by_field) (defScope s_by_field) (clOf (PyProof.Rows.envOfC "looked" (defScope s_looked) s.heap.objs.size T.f_looked cdv) (defScope s_by_field).names [])∧
   IsDef H1 f2 "by_mark" lq_by_mark (defArgs s_by_mark) (defBody s_by_mark) (defScope s_by_mark) (clOf (PyProof.Rows.envOfC "looked" (defScope s_looked) s.heap.objs.size T.f_looked cdv) (defScope s_by_mark).names []))∧
   σ = [some vo,some (.ref pb),some vf,some vg,some (.ref f1),some (.ref f2)]∧H1 pb = some (.tup (book.map V.str))∧Dat K H1 vf (.tuple (f.map dF))∧Dat K H1 vg (.tuple (g.map dF))
  have hC:∀ (pins:List (Addr × Obj)) (σ:St) (H1:Hp) (s1:Shared) (f1 f2:Addr),Inv (cxOf CX0 P w K mg base ["order", "book", "first", "second", "by_field", "by_mark"] "looked" (defScope s_looked) T.f_looked cdv A outer s H E).nox pins σ H1 s1→RH f1 f2 σ H1→cls2 P w K mg base book num (enOf book f g) f1 f2 s1 H1:=by
   rintro pins σ H1 s1 f1 f2 I ⟨⟨L1,L2⟩,rfl,hb1,hf1,hg1⟩
   refine ⟨cl_of (js:=[1,2,3]) I sc_by_field rfl L1 (fun cl us hl doc pm ctv c' => ?_) (fun A outer s' H' vs Q fa c' cl hr' kp hl h=>body_field T W1 hfl hgl hf hg hb1 hf1 hg1 hr' kp h),cl_of (js:=[1,2,3]) I sc_by_mark rfl L2 (fun cl us hl doc pm ctv c' => ?_) (fun A outer s' H' vs Q fa c' cl hr' kp hl h=>body_mark T W1 hnum hfl hgl hf hg hb1 hf1 hg1 hr' kp h)⟩
   ·match us,hl with
    | [_,_],_=>rfl
   ·match us,hl with
    | [_,_,_],_=>rfl
  refine ⟨_,(pss_cons (ps_def (i:=4) (P:=T.P_looked) (cr:=cr_looked) (q:=lq_by_field) sc_by_field (hcd.trans T.cd_looked) (PySem.W.codeHd_of_K M.kin T.ch_looked) M.bm rfl rfl sc_looked.nd rfl rfl)
   (pss_cons (ps_def (i:=5) (P:=T.P_looked) (cr:=cr_looked) (q:=lq_by_mark) sc_by_mark (hcd.trans T.cd_looked) (PySem.W.codeHd_of_K M.kin T.ch_looked) M.bm rfl rfl sc_looked.nd rfl rfl)
   (pss_one (ps_ret (pe_hand (C:=cls2 P w K mg base book num (enOf book f g)) (sp2:=fun f1 f2 _=>spC K f1 f2 (RTell book num (enOf book f g))) (RH:=RH) (fun f1 f2 _=>G_telling f1 f2) hC hr (by rfl) T.m_telling T.F_telling.kp T.b_telling (pa_cons (pv 0) (pa_cons (pv 4) (pa_cons (pv 5) pa_nil st_Name) st_Name) st_Name)))))) ,?_⟩
  refine ⟨sg _ _ hP,fun f1 H1 hf1 s1 L1=>⟨s1 _ _ (sg _ _ hP),fun f2 H2 hf2 s2 L2=>?_⟩⟩
  have sH:=s1.trans s2
  have sG:=sg.trans sH
  refine ⟨_,rfl,_,rfl,_,rfl,f1,f2,⟨⟨L1.same fun b o u e=>s2 _ _ e,L2⟩,rfl,sG _ _ hpb,hvf.same sG,hvg.same sG⟩,?_⟩
  refine ⟨G,[.tuple (ws.map Wd.d)],.str a.t,[vo],rfl,sG,dats_cons ho dats_nil,⟨ws,a,rfl,hord,hev,hlen,rfl⟩,fun v G' H' g' hv=>?_⟩
  rw [hv.str]
  exact k G H' ⟨Same.refl _,sG.trans g'.hh,sH.trans g'.hh,fun _ _ h=>.inl h⟩
end
end K28
namespace K28
open PySem L2 Frac Lw Dig PySem.NumText Nm
open Ord Num Look Rdo
abbrev dOs (ws:List Wd):PyData:=.tuple (ws.map Wd.d)
section
variable {P:Program}{w:World}{K:PySem.W.Frag}{mg:Str→Option Value}{base:Heap}
theorem ev_neS {σ:St}{G:Hp}{ta tb:TE}{x y:Str}(ha:Ev K ta σ G (.str x)) (hb:Ev K tb σ G (.str y)):Ev K (tOp rNe ta tb) σ G (.bool (!decide (x = y))):=
 ev_op ha hb fun G1 H u v Q s1 s2 hu hv k=>by
  rw [hu.str,hv.str]
  refine ⟨rfl,?_⟩
  have e:decide (V.str x = V.str y) = decide (x = y):=decide_eq_decide.mpr ⟨fun z=>by injection z,fun z=>by rw [z]⟩
  rw [e]
  exact k _ G1 H (Grow.refl s2) (dat_bl _)
theorem ev_look {σ:St}{G:Hp}{ta tf tg:TE}{i:Nat}{ws:List Wd}{book:List Str}{f g:List (Int × Int)}{num:Int→Int→Prop}{a:An}{pb Pt:Addr}{cr:Nat→Nat→Option Str}(hT:G Pt = some (.tbl cr)) (hpb:G pb = some (.tup (book.map V.str)))
  (hz:(f.length = book.length∧g.length = book.length∧(∀ p∈f,Sz p)∧∀ p∈g,Sz p)∧(∀ a b,num a b→Sz (a,b))∧∀ z∈book,wordT z = none) (hi:σ[i]? = some (some (.ref pb))) (ha:Ev K ta σ G (dOs ws)) (hf:Ev K tf σ G (.tuple (f.map dF))) (hg:Ev K tg σ G (.tuple (g.map dF)))
  (hord:IsOrd (· ∈ book) num ws) (hlen:ws.length≤900) (hev:∀ R,ev (enOf book f g) ws R = .an a :: R):Ev K (tCall (spLook K Pt cr) [] E0 (tCons ta (tCons (tVar i) (tCons tf (tCons tg tNil))))) σ G (.str a.t):=
 fun G1 H s1 s2 Q k=>ha G1 H s1 s2 _ fun v1 G2 H2 g2 h1=>⟨_,hi,hf G2 H2 (s1.trans g2.gg) g2.gh _ fun v2 G3 H3 g3 h2=>hg G3 H3 ((s1.trans g2.gg).trans g3.gg) g3.gh _ fun v3 G4 H4 g4 h3=>by
  have g24:=(g2.trans g3).trans g4
  have sG:=s1.trans g24.gg
  exact ⟨G4,ws,book,f,g,num,a,v1,v2,v3,pb,rfl,sG _ _ hT,g4.gh,sG _ _ hpb,⟨(h1.same g3.gg).same g4.gg,h2.same g4.gg,h3⟩,hord,hz.2.1,hz.1,hz.2.2,hlen,hev,fun G' H' g' => k _ G' H' (g24.trans g') (dat_str _)⟩⟩
end
end K28
namespace L2
open PySem PySem.Spec PyProof.Rows Lw Nm Frac
structure DkA (n:Nat) (H:Hp) (d c:Addr):Prop where
 ex:∃ (k:Int) (ns:List Int),H d = some (.lst [.ref c,.int k])∧H c = some (.lst (ns.map V.int))∧ns.length≤63∧0≤k∧k + n≤10 ^ 9
section
variable {d c:Addr}{G H G' H' : Hp} {m n:Nat}
theorem DkA.mono (D:DkA n H d c) (h:m≤n):DkA m H d c:=by
 obtain ⟨k,ns,h1,h2,h3,h4,h5⟩:=D.ex
 exact ⟨k,ns,h1,h2,h3,h4,by omega⟩
theorem DkA.same (D:DkA n H d c) (s:Same H H'):DkA n H' d c:=by
 obtain ⟨k,ns,h1,h2,r⟩:=D.ex
 exact ⟨k,ns,s _ _ h1,s _ _ h2,r⟩
theorem DkA.ne (D:DkA n H d c):c≠d:=by
 obtain ⟨k,ns,h1,h2,_⟩:=D.ex
 rintro rfl
 rw [h1] at h2
 injection h2 with h2
 injection h2 with h2
 cases ns with
 | nil=>cases h2
 | cons x r=>simp at h2
theorem DkA.some (D:DkA n H d c):(∃ o,H d = some o)∧∃ o,H c = some o:=by
 obtain ⟨k,ns,h1,h2,_⟩:=D.ex
 exact ⟨⟨_,h1⟩,_,h2⟩
theorem keptFree (k:KeptBut d c H H') (D:DkA n H' d c) {p:Addr}(h:H' p = none):H p = none:=by
 obtain ⟨⟨o1,h1⟩,⟨o2,h2⟩⟩:=D.some
 cases e:H p with
 | none=>rfl
 | some o=>
  have nd:p≠d:=fun q=>by rw [q,h1] at h;cases h
  have nc:p≠c:=fun q=>by rw [q,h2] at h;cases h
  rw [k p o e nd nc] at h;cases h
structure Dk (n:Nat) (d c:Addr) (G H G' H' : Hp):Prop where
 gg:Same G G'
 gh:Same G' H'
 fr:∀ b o,G' b = some o→G b = some o∨H b = none
 kp:KeptBut d c H H'
 D0:DkA 0 H' d c
 cn:∀ N,DkA (N + n) H d c→DkA N H' d c
theorem Dk.out (k:Dk n d c G H G' H') {p:Addr}{o:HO}(hp:H p = some o) (hg:G p = none):G' p = none:=by
 cases e:G' p with
 | none=>rfl
 | some u=>
  rcases k.fr p u e with h | h
  ·rw [hg] at h;cases h
  ·rw [hp] at h;cases h
theorem Dk.gd (k:Dk n d c G H G' H') (D:DkA m H d c) (hg:G d = none):G' d = none:=by
 obtain ⟨⟨o,h⟩,_⟩:=D.some
 exact k.out h hg
theorem Dk.gc (k:Dk n d c G H G' H') (D:DkA m H d c) (hg:G c = none):G' c = none:=by
 obtain ⟨_,⟨o,h⟩⟩:=D.some
 exact k.out h hg
theorem Grow.dk (g:Grow G H G' H') (D:DkA m H d c):Dk 0 d c G H G' H' := ⟨g.gg,g.gh,g.fr,Same.but g.hh,(D.mono (Nat.zero_le _)).same g.hh,fun N h=>h.same g.hh⟩
theorem Dk.refl (s:Same G H) (D:DkA m H d c):Dk 0 d c G H G H:=(Grow.refl s).dk D
theorem Dk.trans {G1 H1:Hp}(a:Dk m d c G H G1 H1) (b:Dk n d c G1 H1 G' H'):Dk (m + n) d c G H G' H' := by
 refine ⟨a.gg.trans b.gg,b.gh,fun x o e=>?_,a.kp.trans b.kp,b.D0,fun N h=>b.cn N (a.cn (N + n) (by rw [Nat.add_assoc,Nat.add_comm n m];exact h))⟩
 rcases b.fr x o e with h | h
 ·exact a.fr x o h
 ·exact .inr (keptFree a.kp a.D0 h)
theorem Dk.up (k:Dk m d c G H G' H') (h:m≤n):Dk n d c G H G' H' := ⟨k.gg,k.gh,k.fr,k.kp,k.D0,fun N D=>k.cn N (D.mono (by omega))⟩
theorem Dk.then_ (k:Dk m d c G H G' H') (D:DkA (m + n) H d c):DkA n H' d c:=k.cn n (by rw [Nat.add_comm];exact D)
theorem dk_kept (s:Same G H) (hd:G d = none) (hc:G c = none) (D:DkA 0 H' d c) (cn:∀ N,DkA (N + n) H d c→DkA N H' d c) (k:KeptBut d c H H'):Dk n d c G H G H' :=
 ⟨Same.refl _,fun b o e=>k b o (s b o e) (ne_of_none e hd) (ne_of_none e hc),fun _ _ e=>.inl e,k,D,cn⟩
variable {K:PySem.W.Frag}{σ:St}
def Dv (K:PySem.W.Frag) (d c:Addr) (n:Nat) (t:TE) (σ:St) (G:Hp) (R:PyData→Prop):Prop:=
 ∀ G1 H,Same G G1→Same G1 H→G1 d = none→G1 c = none→DkA n H d c→∀ Q:VK,(∀ v x G' H',R x→Dk n d c G1 H G' H' → Dat K G' v x→Q v H')→t σ H Q
def DvA (K:PySem.W.Frag) (d c:Addr) (n:Nat) (t:TA) (σ:St) (G:Hp) (R:List PyData→Prop):Prop:=
 ∀ G1 H,Same G G1→Same G1 H→G1 d = none→G1 c = none→DkA n H d c→∀ Q:List V→Hp→Prop,(∀ vs xs G' H',R xs→Dk n d c G1 H G' H' → Dats K G' vs xs→Q vs H')→t σ H Q
theorem Dv.imp {t:TE}{R R' : PyData→Prop} (h:Dv K d c n t σ G R) (hi:∀ x,R x→R' x):Dv K d c n t σ G R' := fun G1 H s1 s2 a b D Q k=>h G1 H s1 s2 a b D Q fun v x G' H' r=>k v x G' H' (hi x r)
theorem dv_of {t:TE}{x:PyData}{R:PyData→Prop}(h:Ev K t σ G x) (hR:R x):Dv K d c 0 t σ G R:=fun G1 H s1 s2 a b D Q k=>h G1 H s1 s2 _ fun v G' H' g hv=>k v x G' H' hR (g.dk D) hv
theorem dv_ev {t:TE}{x:PyData}(h:Ev K t σ G x):Dv K d c 0 t σ G (· = x):=dv_of h rfl
theorem dva_nil:DvA K d c 0 tNil σ G (· = []):=fun G1 H s1 s2 a b D Q k=>k [] [] G1 H rfl (Dk.refl s2 D) dats_nil
theorem dva_cons {ta:TE}{t:TA}{R:PyData→Prop}{Rs:List PyData→Prop}(h:Dv K d c m ta σ G R) (h' : DvA K d c n t σ G Rs):DvA K d c (m + n) (tCons ta t) σ G (fun xs=>∃ x r,xs = x :: r∧R x∧Rs r):=fun G1 H s1 s2 a b D Q k=>
 h G1 H s1 s2 a b (D.mono (by omega)) _ fun v x G2 H2 hx k2 hv=>h' G2 H2 (s1.trans k2.gg) k2.gh (k2.gd D a) (k2.gc D b) (k2.then_ D) _ fun vs xs G3 H3 hxs k3 hvs=>k _ _ G3 H3 ⟨x,xs,rfl,hx,hxs⟩ (k2.trans k3) (dats_cons (hv.same k3.gg) hvs)
theorem dv_op {ta tb:TE}{r:R2}{Ra Rb R:PyData→Prop}(ha:Dv K d c m ta σ G Ra) (hb:Dv K d c n tb σ G Rb)
  (hr:∀ a b va vb G',Ra a→Rb b→Same G G' → Dat K G' va a→Dat K G' vb b→∃ x,R x∧Ev K (tOp r (tC va) (tC vb)) σ G' x):Dv K d c (m + n) (tOp r ta tb) σ G R:=fun G1 H s1 s2 a b D Q k=>
 ha G1 H s1 s2 a b (D.mono (by omega)) _ fun va x G2 H2 hx k2 hva=>hb G2 H2 (s1.trans k2.gg) k2.gh (k2.gd D a) (k2.gc D b) (k2.then_ D) _ fun vb y G3 H3 hy k3 hvb=>by
  have k23:=k2.trans k3
  obtain ⟨z,hz,he⟩:=hr x y va vb G3 hx hy (s1.trans k23.gg) (hva.same k3.gg) hvb
  exact he G3 H3 (Same.refl _) k3.gh Q fun v G4 H4 g4 hv=>k v z G4 H4 hz (k23.trans (g4.dk k3.D0)) hv
theorem dv_pickL {ta tb:TE}{q:Int}{R:PyData→Prop}(ha:Dv K d c m ta σ G fun x=>∃ ds:List PyData,x = .list ds∧(ds.length:Int) = q∧∀ e∈ds,R e) (hb:Dv K d c n tb σ G fun x=>∃ r:Int,x = .int r∧0≤r∧r < q):Dv K d c (m + n) (tOp (rIxL K) ta tb) σ G R:=
 dv_op ha hb fun a b va vb G' h1 h2 s hva hvb=>by
  obtain ⟨ds,rfl,hl,hR⟩:=h1
  obtain ⟨r,rfl,r0,r1⟩:=h2
  obtain ⟨j,rfl⟩:=Int.eq_ofNat_of_zero_le r0
  have hj:j < ds.length:=by omega
  exact ⟨ds[j],hR _ (List.getElem_mem hj),ev_ixL (n:=j) (ev_c hva) (ev_c hvb) (ixN_nat hj) (List.getElem?_eq_getElem hj)⟩
theorem Dv.use {t:TE}{R:PyData→Prop}{Q:VK}(h:Dv K d c n t σ G R) (s:Same G H) (gd:G d = none) (gc:G c = none) (D:DkA n H d c) (k:∀ v x G' H',R x→Dk n d c G H G' H' → Dat K G' v x→Q v H'):t σ H Q:=h G H (Same.refl _) s gd gc D Q k
theorem asg_dv {te:TE}{Ed:Ends}{i:Nat}{R:PyData→Prop}(h:Dv K d c n te σ G R) (s:Same G H) (gd:G d = none) (gc:G c = none) (D:DkA n H d c) (k:∀ v x G' H',R x→Dk n d c G H G' H' → Dat K G' v x→Ed.nx (σ.set i (some v)) H'):tAsg te (gName i) Ed σ H:=h.use s gd gc D k
theorem ret_dv {te:TE}{Ed:Ends}{R:PyData→Prop}(h:Dv K d c n te σ G R) (s:Same G H) (gd:G d = none) (gc:G c = none) (D:DkA n H d c) (k:∀ v x G' H',R x→Dk n d c G H G' H' → Dat K G' v x→Ed.rt v H'):tRet te Ed σ H:=h.use s gd gc D k
def spDv (K:PySem.W.Frag) (n:Nat) (R:List PyData→PyData→Prop):Sp:=fun vs H Q _=>∃ (d c:Addr) (G:Hp) (us:List V) (ds:List PyData),vs = .ref d :: us∧Same G H∧G d = none∧G c = none∧DkA n H d c∧Dats K G us ds∧(∃ x,R ds x)∧∀ v x G' H',R ds x→Dk n d c G H G' H' → Dat K G' v x→Q v H'
theorem dv_call {E:XK}{i:Nat}{t:TA}{ds:List PyData}{R:List PyData→PyData→Prop}(hi:σ[i]? = some (some (.ref d))) (h:EvA K t σ G ds) (hR:∃ x,R ds x):Dv K d c n (tCall (spDv K n R) [] E (tCons (tVar i) t)) σ G (R ds):=
 fun G1 H s1 s2 a b D Q k=>⟨_,hi,h G1 H s1 s2 _ fun vs G2 H2 g2 hv=>by
  have k2:=g2.dk D
  show spDv K n R ((.ref d :: vs) ++ []) H2 Q E
  rw [List.append_nil]
  exact ⟨d,c,G2,vs,ds,rfl,k2.gh,k2.gd D a,k2.gc D b,D.same g2.hh,hv,hR,fun v x G' H' r k3 hx=>k v x G' H' r ((k2.trans k3).up (by omega)) hx⟩⟩
structure WalkG (J:It) (q:Nat) (G:Hp) (items:Nat→V→Prop):Prop where
 go:∀ i H',Same G H' → i < q→J.go i H'
 stop:∀ i H',Same G H' → q≤i→J.stop i H'
 yld:∀ i H' x H'',Same G H' → J.yld i H' x H'' → H'' = H' ∧ items i x
theorem lc_dv {wi:TI}{js:List Nat}{te:TE}{H:Hp}{Q:VK}{q p B:Nat}{R:PyData→Prop}(items:Hp→Nat→V→Prop) {G1:Hp}(D:DkA (p + B * n) H d c) (s2:Same G1 H) (gd:G1 d = none) (gc:G1 c = none)
  (hw:∀ Rw:It→Hp→Prop,(∀ J q G2 H2,q≤B→q < sizeLine→Dk p d c G1 H G2 H2→WalkG J q G2 (items G2)→(∀ v ds G' H',ds.length = q→(∀ e∈ds,R e)→Dk (p + B * n) d c G1 H G' H' → Dat K G' v (.list ds)→Q v H')→Rw J H2)→wi σ H Rw)
  (hc:∀ G2 i x,Same G1 G2→i < B→items G2 i x→Dv K d c n te (some x :: capV σ js) G2 R):tLC wi js tNoIf te σ H Q:=by
 refine hw _ fun J q G2 H2 hq hz k2 W k=>?_
 have D2:DkA (B * n) H2 d c:=k2.then_ D
 refine ⟨fun i m ys H' => m = q - i∧i≤q∧∃ (G' : Hp) (ds:List PyData),Dk (i * n) d c G2 H2 G' H' ∧ ds.length = i∧Dats K G' ys ds∧∀ e∈ds,R e,⟨q,by omega,by omega,G2,[],by rw [Nat.zero_mul];exact Dk.refl k2.gh k2.D0,rfl,dats_nil,fun e he=>by cases he⟩,?_⟩
 rintro i m ys H' ⟨rfl,hi,G',ds,k3,hl,hys,hall⟩
 have hyl:=hys.length
 have k23:=k2.trans k3
 refine ⟨by omega,?_⟩
 by_cases h:i = q
 ·subst h
  refine .inl ⟨W.stop i H' (k3.gg.trans k3.gh) (Nat.le_refl _),fun x hp=>?_⟩
  have g:=grow_new (o:=.lst ys) k3.gh hp
  exact k _ ds _ _ hl hall ((k23.trans (g.dk k3.D0)).up (Nat.add_le_add_left (Nat.mul_le_mul_right n hq) p)) (dat_lst upd_same (hys.same g.gg))
 ·refine .inr ⟨W.go i H' (k3.gg.trans k3.gh) (by omega),fun x H'' hy=>?_⟩
  obtain ⟨rfl,hit⟩:=W.yld i H' x H'' (k3.gg.trans k3.gh) hy
  refine tNoIf_of ?_
  have hb:i < B:=by omega
  have eB:B * n = n + ((B - i - 1) * n + i * n):=by
   have:B = 1 + ((B - i - 1) + i):=by omega
   conv=>lhs;rw [this]
   rw [Nat.add_mul,Nat.add_mul,Nat.one_mul]
  have D3:DkA n H'' d c:=(k3.cn (n + (B - i - 1) * n) (by rw [Nat.add_assoc,← eB];exact D2)).mono (by omega)
  refine hc G2 i x k2.gg hb hit G' H'' k3.gg k3.gh (k23.gd D gd) (k23.gc D gc) D3 _ fun v e G4 H4 re k4 hv=>?_
  refine ⟨q - (i + 1),by omega,rfl,by omega,G4,ds ++ [e],by rw [Nat.add_mul,Nat.one_mul];exact k3.trans k4,by simp [hl],dats_append (hys.same k4.gg) (dats_cons hv dats_nil),fun z hz=>?_⟩
  rcases List.mem_append.mp hz with hz | hz
  ·exact hall z hz
  ·rw [List.mem_singleton.mp hz];exact re
theorem dv_lcR {t:TA}{js:List Nat}{te:TE}{p B:Nat}{R:PyData→Prop}{Rn:Nat→Prop}(hj:DvA K d c p t σ G fun xs=>∃ q:Nat,xs = [.int (q:Nat)]∧Rn q∧q≤B) (hB:B < sizeLine) (he:∀ G2 (i:Nat),Same G G2→i < B→Dv K d c n te (some (.int (0 + (i:Int))) :: capV σ js) G2 R):
  Dv K d c (p + B * n) (tLC (iRng1 t) js tNoIf te) σ G fun x=>∃ ds:List PyData,x = .list ds∧Rn ds.length∧ds.length≤B∧∀ e∈ds,R e:=fun G1 H s1 s2 a b D Q k=>
 lc_dv (q:=B) (R:=R) (fun _ i x=>x = .int (0 + (i:Int))) D s2 a b (fun Rw hR=>hj G1 H s1 s2 a b (D.mono (by omega)) _ fun vs xs G2 H2 hx k2 hv=>by
  obtain ⟨q,rfl,hq,hqB⟩:=hx
  obtain ⟨y,ys,rfl,hy,r⟩:=hv.cons
  rw [r.nil,hy.int]
  have z:sizeLine < 2 ^ 62:=by decide
  refine ⟨(q:Int),rfl,by omega,by omega,hR _ q G2 H2 hqB (by omega) k2 ⟨fun i H' _ h=>?_,fun i H' _ h=>?_,fun i H' x H'' _ y=>y⟩ fun v ds G' H' hl hall kk hv=>k v _ G' H' ⟨ds,rfl,by rw [hl];exact hq,by omega,hall⟩ kk hv⟩
  ·show i < (q:Int).toNat;omega
  ·show (q:Int).toNat≤i;omega) fun G2 i x s3 hi hx=>by subst hx;exact he G2 i (s1.trans s3) hi
theorem dv_lcT {tl:TE}{js:List Nat}{te:TE}{α:Type}{R:PyData→Prop}(as:List α) (enc:α→PyData) (h:Ev K tl σ G (.tuple (as.map enc))) (hB:as.length < sizeLine) (he:∀ G2 (i:Nat) x,Same G G2→i < as.length→Dv K d c n te (some x :: capV σ js) G2 R):
  Dv K d c (as.length * n) (tLC (iTup K tl) js tNoIf te) σ G fun x=>∃ ds:List PyData,x = .list ds∧ds.length = as.length∧∀ e∈ds,R e:=fun G1 H s1 s2 a b D Q k=>
 lc_dv (q:=as.length) (p:=0) (B:=as.length) (R:=R) (fun _ i x=>True) (by rw [Nat.zero_add];exact D) s2 a b (fun Rw hR=>h G1 H s1 s2 _ fun v G2 H2 g2 hv=>by
  obtain ⟨p,xs,rfl,hp,hxs⟩:=hv.tup
  have hl:xs.length = as.length:=by rw [hxs.length,List.length_map]
  refine ⟨p,rfl,⟨xs,g2.gh.tup hp⟩,hR _ as.length G2 H2 (Nat.le_refl _) hB (g2.dk D) ⟨fun i H' s hi=>⟨xs,_,s.tup hp,List.getElem?_eq_getElem (by omega)⟩,fun i H' s hi=>⟨xs,s.tup hp,by omega⟩,fun i H' x H'' s y=>⟨y.1,True.intro⟩⟩ fun v ds G' H' hl' hall kk hv=>k v _ G' H' ⟨ds,rfl,hl',hall⟩ (by rw [Nat.zero_add] at kk;exact kk) hv⟩) fun G2 i x s3 hi _=>he G2 i x (s1.trans s3) hi
end
end L2
namespace Look
open PySem Ord Rdo
abbrev vl (book:List Str) (z:Str) (f:Fs):Int × Int:=f.getD (book.idxOf z) (0,1)
theorem wk_on {L M:Fs→Fs→An}{D:Fs→Prop}(w:Wk L D) (e:∀ f g,D f→D g→M f g = L f g):Wk M D:=by
 refine ⟨fun f g hf hg=>by rw [e f g hf hg,e g f hg hf];exact w.anti f g hf hg,fun f g h hf hg hh a b=>?_⟩
 rw [e f g hf hg] at a
 rw [e g h hg hh] at b
 rw [e f h hf hh]
 exact w.trans f g h hf hg hh a b
theorem Wk.thenC {L M N:Fs→Fs→An}{D:Fs→Prop}(w:Wk L D) (m:Wk M D) (n:Wk N D) (c:Fs→Bool) (hc:∀ f g,D f→D g→L f g = .like→c f = c g):
  Wk (fun f g=>if L f g = .like then (if c f = true then M f g else N f g) else L f g) D:=by
 refine ⟨fun f g hf hg=>?_,fun f g h hf hg hh a b=>?_⟩
 ·show (if L g f = .like then (if c g = true then M g f else N g f) else L g f) = (if L f g = .like then (if c f = true then M f g else N f g) else L f g).turn
  cases e:L f g with
  | like=>
   have e2:L g f = .like:=by rw [w.anti f g hf hg,e];rfl
   rw [e2,if_pos rfl,if_pos rfl,hc f g hf hg e,m.anti f g hf hg,n.anti f g hf hg]
   cases c g <;> rfl
  | ahead=>rw [w.anti f g hf hg,e];rfl
  | behind=>rw [w.anti f g hf hg,e];rfl
 ·have a1:L f g≠.behind:=fun z=>a (by rw [z];rfl)
  have b1:L g h≠.behind:=fun z=>b (by rw [z];rfl)
  cases e1:L f g with
  | behind=>exact absurd e1 a1
  | ahead=>rw [w.lt_le hf hg hh e1 b1];exact fun z=>by cases z
  | like=>
   cases e2:L g h with
   | behind=>exact absurd e2 b1
   | ahead=>rw [w.le_lt hf hg hh a1 e2];exact fun z=>by cases z
   | like=>
    have n1:L f h≠.behind:=w.trans f g h hf hg hh a1 b1
    have n2:L h f≠.behind:=w.trans h g f hh hg hf (by rw [w.anti g h hg hh,e2];decide) (by rw [w.anti f g hf hg,e1];decide)
    have e3:L f h = .like:=by
     cases e:L f h with
     | like=>rfl
     | behind=>exact absurd e n1
     | ahead=>exact absurd (by rw [w.anti f h hf hh,e];rfl) n2
    rw [e3,if_pos rfl]
    rw [if_pos e1] at a
    rw [if_pos e2] at b
    have cg:=hc f g hf hg e1
    rw [← cg] at b
    cases ec:c f with
    | true=>
     rw [ec,if_pos rfl] at a b
     rw [if_pos rfl]
     exact m.trans f g h hf hg hh a b
    | false=>
     rw [ec,if_neg Bool.false_ne_true] at a b
     rw [if_neg Bool.false_ne_true]
     exact n.trans f g h hf hg hh a b
def cmpB:Bool→Bool→An
 | true,false=>.ahead
 | false,true=>.behind
 | _,_=>.like
theorem wk_B {D:Fs→Prop}(u:Fs→Bool):Wk (fun f g=>cmpB (u f) (u g)) D:=by
 refine ⟨fun f g _ _=>?_,fun f g h _ _ _ a b=>?_⟩
 ·show cmpB (u g) (u f) = (cmpB (u f) (u g)).turn
  cases u f <;> cases u g <;> rfl
 ·revert a b
  cases u f <;> cases u g <;> cases u h <;> decide
theorem hs_like {a b:Int × Int}:hsA a b = .like↔a.1 * b.2 = b.1 * a.2:=by
 unfold hsA
 by_cases h1:a.1 * b.2 < b.1 * a.2
 ·rw [if_pos h1];exact ⟨fun z=>(by cases z),fun z=>(by omega)⟩
 ·rw [if_neg h1]
  by_cases h2:a.1 * b.2 > b.1 * a.2
  ·rw [if_pos h2];exact ⟨fun z=>(by cases z),fun z=>(by omega)⟩
  ·rw [if_neg h2];exact ⟨fun _=>by omega,fun _=>rfl⟩
theorem hs_ahead {a b:Int × Int}:hsA a b = .ahead↔a.1 * b.2 < b.1 * a.2:=by
 unfold hsA
 by_cases h1:a.1 * b.2 < b.1 * a.2
 ·rw [if_pos h1];exact ⟨fun _=>h1,fun _=>rfl⟩
 ·rw [if_neg h1]
  by_cases h2:a.1 * b.2 > b.1 * a.2
  ·rw [if_pos h2];exact ⟨fun z=>(by cases z),fun z=>absurd z h1⟩
  ·rw [if_neg h2];exact ⟨fun z=>(by cases z),fun z=>absurd z h1⟩
theorem hs_same {a b p:Int × Int}(ha:1≤a.2) (hb:1≤b.2) (h:a.1 * b.2 = b.1 * a.2):hsA a p = hsA b p:=by
 have key:(a.1 * p.2 - p.1 * a.2) * b.2 = (b.1 * p.2 - p.1 * b.2) * a.2:=by
  rw [Int.sub_mul,Int.sub_mul]
  have e1:a.1 * p.2 * b.2 = a.1 * b.2 * p.2:=by rw [Int.mul_assoc,Int.mul_comm p.2,← Int.mul_assoc]
  have e2:b.1 * p.2 * a.2 = b.1 * a.2 * p.2:=by rw [Int.mul_assoc,Int.mul_comm p.2,← Int.mul_assoc]
  have e3:p.1 * a.2 * b.2 = p.1 * b.2 * a.2:=by rw [Int.mul_assoc,Int.mul_comm a.2,← Int.mul_assoc]
  rw [e1,e2,e3,h]
 have s:∀ {x y m n:Int},1≤m→1≤n→x * m = y * n→(x < 0↔y < 0)∧(0 < x↔0 < y):=fun {x y m n} hm hn e=>by
  refine ⟨⟨fun hx=>?_,fun hy=>?_⟩,⟨fun hx=>?_,fun hy=>?_⟩⟩
  ·have:=Int.mul_neg_of_neg_of_pos hx (show 0 < m by omega)
   rcases Int.lt_or_le y 0 with z | z
   ·exact z
   ·have:=Int.mul_nonneg z (show 0≤n by omega);omega
  ·have:=Int.mul_neg_of_neg_of_pos hy (show 0 < n by omega)
   rcases Int.lt_or_le x 0 with z | z
   ·exact z
   ·have:=Int.mul_nonneg z (show 0≤m by omega);omega
  ·have:=Int.mul_pos hx (show 0 < m by omega)
   rcases Int.lt_or_le 0 y with z | z
   ·exact z
   ·have:=Int.mul_nonneg (show 0≤-y by omega) (show 0≤n by omega)
    rw [Int.neg_mul] at this;omega
  ·have:=Int.mul_pos hy (show 0 < n by omega)
   rcases Int.lt_or_le 0 x with z | z
   ·exact z
   ·have:=Int.mul_nonneg (show 0≤-x by omega) (show 0≤m by omega)
    rw [Int.neg_mul] at this;omega
 obtain ⟨s1,s2⟩:=s hb ha key
 unfold hsA
 have q1:(a.1 * p.2 < p.1 * a.2)↔(b.1 * p.2 < p.1 * b.2):=by omega
 have q2:(a.1 * p.2 > p.1 * a.2)↔(b.1 * p.2 > p.1 * b.2):=by omega
 simp only [q1,q2]
theorem hs_part {a b p:Int × Int}(ha:1≤a.2) (hb:1≤b.2) (hp:1≤p.2) (h1:hsA a p = .ahead) (h2:hsA b p≠.ahead):hsA a b = .ahead:=by
 have h1' := hs_ahead.mp h1
 have h2' : ¬ b.1 * p.2 < p.1 * b.2:=fun z=>h2 (hs_ahead.mpr z)
 refine hs_ahead.mpr ?_
 rcases Int.lt_or_le (a.1 * b.2) (b.1 * a.2) with z | z
 ·exact z
 ·have:=cross_trans hp hb ha (by omega) z
  omega
def Gw (book:List Str) (nums:List (Int × Int)) (n:Nat) (ws:List Wd):Prop:=IsOrd (· ∈ book) (fun a b=>(a,b)∈nums) ws∧ws.length≤n∧Wk (lookA book ws) (FPos book.length)
def CaseZ (book:List Str) (nums:List (Int × Int)) (z:Str) (n:Nat) (cs:List Wd):Prop:=IsCase (· ∈ book) (fun a b=>(a,b)∈nums) cs∧cs.length≤n∧
 ∃ c:Int × Int→Bool,(∀ a b:Int × Int,1≤a.2→1≤b.2→a.1 * b.2 = b.1 * a.2→c a = c b)∧∀ f g,FPos book.length f→FPos book.length g→hsA (vl book z f) (vl book z g) = .like→∀ R,ev (enOf book f g) cs R = .tr (c (vl book z f)) :: R
def Leaf (book:List Str) (z:Str) (ws:List Wd):Prop:=ws = [.t (S "up"),.t z]∨ws = [.t (S "down"),.t z]
theorem wordT7:wordT (S "same") = some (S "same",S "case",[S "field"])∧wordT (S "both") = some (S "both",S "case",[S "mark"])∧wordT (S "either") = some (S "either",S "case",[S "mark"])∧wordT (S "and") = some (S "and",S "case",[S "case",S "case"])∧wordT (S "or") = some (S "or",S "case",[S "case",S "case"])∧
  wordT (S "under") = some (S "under",S "mark",[S "field",S "number"])∧wordT (S "is") = some (S "is",S "mark",[S "field",S "number"]):=by decide +kernel
section
variable {E:En}{cs ds:List Wd}{b c:Bool}
theorem ev_samez {x:Str}(hx:wordT x = none) (R:List Tv):ev E [.t (S "same"),.t x] R = .tr (isA (E.look x) .like) :: R:=by
 show push E (.t (S "same")) (push E (.t x) R) = _
 have e:push E (.t x) R = .wd (.t x) :: R:=by unfold push;dsimp only;rw [hx]
 rw [e,push_w wordT7.1,wix14.2.2.2.2.2.2.1];rfl
theorem ev_under {x:Str}(hx:wordT x = none) (p q:Int) (R:List Tv):ev E [.t (S "under"),.t x,.n p q] R = .mk (isA (E.one x p q) .ahead) (isA (E.two x p q) .ahead) :: R:=by
 show push E (.t (S "under")) (push E (.t x) (push E (.n p q) R)) = _
 have e:∀ R,push E (.t x) R = .wd (.t x) :: R:=fun R=>by unfold push;dsimp only;rw [hx]
 have e2:push E (.n p q) R = .wd (.n p q) :: R:=rfl
 rw [e2,e,push_w wordT7.2.2.2.2.2.1,wix14.2.2.2.2.2.2.2.2.2.2.2.2.1];rfl
theorem ev_is {x:Str}(hx:wordT x = none) (p q:Int) (R:List Tv):ev E [.t (S "is"),.t x,.n p q] R = .mk (isA (E.one x p q) .like) (isA (E.two x p q) .like) :: R:=by
 show push E (.t (S "is")) (push E (.t x) (push E (.n p q) R)) = _
 have e:∀ R,push E (.t x) R = .wd (.t x) :: R:=fun R=>by unfold push;dsimp only;rw [hx]
 have e2:push E (.n p q) R = .wd (.n p q) :: R:=rfl
 rw [e2,e,push_w wordT7.2.2.2.2.2.2,wix14.2.2.2.2.2.2.2.2.2.2.2.2.2];rfl
theorem ev_both (h:∀ R,ev E cs R = .mk b c :: R) (R:List Tv):ev E (.t (S "both") :: cs) R = .tr (b && c) :: R:=by
 show push E (.t (S "both")) (ev E cs R) = _
 rw [h,push_w wordT7.2.1,wix14.2.2.2.2.2.2.2.1];rfl
theorem ev_either (h:∀ R,ev E cs R = .mk b c :: R) (R:List Tv):ev E (.t (S "either") :: cs) R = .tr (b || c) :: R:=by
 show push E (.t (S "either")) (ev E cs R) = _
 rw [h,push_w wordT7.2.2.1,wix14.2.2.2.2.2.2.2.2.1];rfl
theorem ev_and' (h:∀ R,ev E cs R = .tr b :: R) (h' : ∀ R,ev E ds R = .tr c :: R) (R:List Tv):ev E (.t (S "and") :: (cs ++ ds)) R = .tr (b && c) :: R:=by
 show push E (.t (S "and")) (ev E (cs ++ ds) R) = _
 rw [ev_app,h',h,push_w wordT7.2.2.2.1,wix14.2.2.2.2.2.2.2.2.2.2.1];rfl
theorem ev_or' (h:∀ R,ev E cs R = .tr b :: R) (h' : ∀ R,ev E ds R = .tr c :: R) (R:List Tv):ev E (.t (S "or") :: (cs ++ ds)) R = .tr (b || c) :: R:=by
 show push E (.t (S "or")) (ev E (cs ++ ds) R) = _
 rw [ev_app,h',h,push_w wordT7.2.2.2.2.1,wix14.2.2.2.2.2.2.2.2.2.2.2.1];rfl
end
section
variable {book:List Str}{nums:List (Int × Int)}(hb:∀ z∈book,wordT z = none)
include hb
theorem cz_mark {z:Str}{p q:Int}{bo un:Str}(hz:z∈book) (hp:(p,q)∈nums) (hbo:bo = S "both" ∨ bo = S "either") (hun:un = S "under" ∨ un = S "is"):CaseZ book nums z 4 [.t bo,.t un,.t z,.n p q]:=by
 have hm:IsMark (· ∈ book) (fun a b=>(a,b)∈nums) [.t un,.t z,.n p q]:=m_two hun hz hp
 have hu:∃ k:An,∀ (f g:Fs) R,ev (enOf book f g) [.t un,.t z,.n p q] R = .mk (isA (hsA (vl book z f) (p,q)) k) (isA (hsA (vl book z g) (p,q)) k) :: R:=by
  rcases hun with rfl | rfl
  ·exact ⟨.ahead,fun f g R=>ev_under (hb z hz) p q R⟩
  ·exact ⟨.like,fun f g R=>ev_is (hb z hz) p q R⟩
 obtain ⟨k,hk⟩:=hu
 refine ⟨?_,Nat.le_refl _,fun v=>isA (hsA v (p,q)) k,fun a b ha hb' h=>by show isA _ k = isA _ k;rw [hs_same ha hb' h],fun f g hf hg hl R=>?_⟩
 ·rcases hbo with rfl | rfl
  ·exact c_both hm
  ·exact c_either hm
 ·have e:hsA (vl book z g) (p,q) = hsA (vl book z f) (p,q):=(hs_same (hf.get _) (hg.get _) (hs_like.mp hl)).symm
  have hk' := hk f g
  rw [e] at hk'
  rcases hbo with rfl | rfl
  ·rw [ev_both hk',Bool.and_self]
  ·rw [ev_either hk',Bool.or_self]
theorem cz_not {z:Str}{n:Nat}{cs:List Wd}(h:CaseZ book nums z n cs):CaseZ book nums z (n + 1) (.t (S "not") :: cs):=by
 obtain ⟨h1,h2,c,h3,h4⟩:=h
 exact ⟨c_not h1,by rw [List.length_cons];omega,fun v=>!c v,fun a b ha hb' h=>by show (!c a) = !c b;rw [h3 a b ha hb' h],fun f g hf hg hl R=>ev_not (h4 f g hf hg hl) R⟩
theorem cz_two {z:Str}{n m k:Nat}{cs ds:List Wd}{w:Str}(hw:w = S "and" ∨ w = S "or") (h:CaseZ book nums z n cs) (h' : CaseZ book nums z m ds) (hk:n + m + 1≤k):CaseZ book nums z k (.t w :: (cs ++ ds)):=by
 obtain ⟨h1,h2,c,h3,h4⟩:=h
 obtain ⟨g1,g2,e,g3,g4⟩:=h'
 rcases hw with rfl | rfl
 ·exact ⟨c_and h1 g1,by rw [List.length_cons,List.length_append];omega,fun v=>c v && e v,fun a b ha hb' h=>by show (c a && e a) = (c b && e b);rw [h3 a b ha hb' h,g3 a b ha hb' h],fun f g hf hg hl R=>ev_and' (h4 f g hf hg hl) (g4 f g hf hg hl) R⟩
 ·exact ⟨c_or h1 g1,by rw [List.length_cons,List.length_append];omega,fun v=>c v || e v,fun a b ha hb' h=>by show (c a || e a) = (c b || e b);rw [h3 a b ha hb' h,g3 a b ha hb' h],fun f g hf hg hl R=>ev_or' (h4 f g hf hg hl) (g4 f g hf hg hl) R⟩
theorem gw_like {n:Nat}(hn:1≤n):Gw book nums n [.t (S "like")]:=⟨o_like,hn,wk_on wk_like fun f g _ _=>lookA_of ev_like⟩
theorem gw_turn {n m:Nat}{ws:List Wd}(h:Gw book nums n ws) (hm:n + 1≤m):Gw book nums m (.t (S "turn") :: ws):=⟨o_turn h.1,by rw [List.length_cons];have:=h.2.1;omega,wk_on h.2.2.turn fun f g _ _=>lookA_of (ev_turn (lookA_ev f g hb h.1))⟩
theorem gw_then {n m k:Nat}{a b:List Wd}(ha:Gw book nums n a) (hb' : Gw book nums m b) (hk:n + m + 1≤k):Gw book nums k (.t (S "then") :: (a ++ b)):=
 ⟨o_then ha.1 hb'.1,by rw [List.length_cons,List.length_append];have:=ha.2.1;have:=hb'.2.1;omega,wk_on (ha.2.2.then_ hb'.2.2) fun f g _ _=>lookA_of (ev_then (lookA_ev f g hb ha.1) (lookA_ev f g hb hb'.1))⟩
theorem leaf_ev {z:Str}{ws:List Wd}(hz:z∈book) (h:Leaf book z ws):(IsOrd (· ∈ book) (fun a b=>(a,b)∈nums) ws∧ws.length = 2)∧∃ t:An→An,(t = id∨t = An.turn)∧∀ f g R,ev (enOf book f g) ws R = .an (t (hsA (vl book z f) (vl book z g))) :: R:=by
 rcases h with rfl | rfl
 ·exact ⟨⟨o_up hz,rfl⟩,id,.inl rfl,fun f g R=>ev_up (hb z hz) R⟩
 ·exact ⟨⟨o_down hz,rfl⟩,An.turn,.inr rfl,fun f g R=>ev_down (hb z hz) R⟩
theorem wk_t {z:Str}{t:An→An}(ht:t = id∨t = An.turn):Wk (fun f g=>t (hsA (vl book z f) (vl book z g))) (FPos book.length):=by
 rcases ht with rfl | rfl
 ·exact wk_field (book.idxOf z) book.length
 ·exact (wk_field (book.idxOf z) book.length).turn
theorem gw_leaf {z:Str}{n:Nat}{ws:List Wd}(hz:z∈book) (h:Leaf book z ws) (hn:2≤n):Gw book nums n ws:=by
 obtain ⟨⟨h1,h2⟩,t,ht,he⟩:=leaf_ev hb (nums:=nums) hz h
 exact ⟨h1,by omega,wk_on (wk_t hb ht) fun f g _ _=>lookA_of (he f g)⟩
theorem gw_same {z:Str}{n m:Nat}{one leaf:List Wd}(hz:z∈book) (h:Gw book nums n one) (hl:Leaf book z leaf) (hm:n + 5≤m):Gw book nums m (.t (S "pick") :: ([.t (S "same"),.t z] ++ (one ++ leaf))):=by
 obtain ⟨⟨h1,h2⟩,t,ht,he⟩:=leaf_ev hb (nums:=nums) hz hl
 refine ⟨o_pickC (c_same hz) h.1 h1,by simp only [List.length_cons,List.length_append,List.length_nil];have:=h.2.1;omega,wk_on ((wk_t hb (z:=z) ht).then_ h.2.2) fun f g hf hg=>?_⟩
 have e:=lookA_of (ev_pick (ev_samez (E:=enOf book f g) (hb z hz)) (lookA_ev f g hb h.1) (he f g))
 rw [e]
 show (if isA (hsA (vl book z f) (vl book z g)) .like = true then _ else _) = _
 generalize hsA (vl book z f) (vl book z g) = a
 rcases ht with rfl | rfl <;> cases a <;> rfl
theorem gw_case {z:Str}{n m k j:Nat}{one other leaf cs:List Wd}(hz:z∈book) (hl:Leaf book z leaf) (hc:CaseZ book nums z n cs) (h:Gw book nums m one) (h' : Gw book nums k other) (hj:n + m + k + 4≤j):
  Gw book nums j (.t (S "then") :: (leaf ++ (.t (S "pick") :: (cs ++ (one ++ other))))):=by
 obtain ⟨⟨h1,h2⟩,t,ht,he⟩:=leaf_ev hb (nums:=nums) hz hl
 obtain ⟨c1,c2,c,c3,c4⟩:=hc
 have op:=o_pickC c1 h.1 h'.1
 have lk:∀ f g,FPos book.length f→FPos book.length g→(t (hsA (vl book z f) (vl book z g)) = .like↔hsA (vl book z f) (vl book z g) = .like):=fun f g _ _=>by
  generalize hsA (vl book z f) (vl book z g) = a
  rcases ht with rfl | rfl <;> cases a <;> decide
 refine ⟨o_then h1 op,by simp only [List.length_cons,List.length_append];have:=h.2.1;have:=h'.2.1;omega,
  wk_on ((wk_t hb (z:=z) ht).thenC h.2.2 h'.2.2 (fun f=>c (vl book z f)) fun f g hf hg e=>c3 _ _ (hf.get _) (hg.get _) (hs_like.mp ((lk f g hf hg).mp e))) fun f g hf hg=>?_⟩
 by_cases hlk:t (hsA (vl book z f) (vl book z g)) = .like
 ·have e:=lookA_of (ev_then (he f g) (ev_pick (c4 f g hf hg ((lk f g hf hg).mp hlk)) (lookA_ev f g hb h.1) (lookA_ev f g hb h'.1)))
  rw [e]
 ·have e:=lookA_of (ev_then (he f g) (lookA_ev f g hb op))
  rw [e,if_neg hlk,if_neg hlk]
theorem gw_mark {z:Str}{n m:Nat}{p q:Int}{one leaf:List Wd}(hz:z∈book) (hp:(p,q)∈nums) (hq:1≤q) (h:Gw book nums n one) (hl:Leaf book z leaf) (hm:n + 13≤m):
  Gw book nums m (.t (S "pick") :: ((.t (S "or") :: ([.t (S "both"),.t (S "under"),.t z,.n p q] ++ [.t (S "not"),.t (S "either"),.t (S "under"),.t z,.n p q])) ++ (one ++ leaf))):=by
 obtain ⟨⟨h1,h2⟩,t,ht,he⟩:=leaf_ev hb (nums:=nums) hz hl
 have hmk:IsMark (· ∈ book) (fun a b=>(a,b)∈nums) [.t (S "under"),.t z,.n p q]:=m_two (.inl rfl) hz hp
 have hc:=c_or (c_both hmk) (c_not (c_either hmk))
 have wu:Wk (fun f g=>t (cmpB (isA (hsA (vl book z f) (p,q)) .ahead) (isA (hsA (vl book z g) (p,q)) .ahead))) (FPos book.length):=by
  rcases ht with rfl | rfl
  ·exact wk_B _
  ·exact (wk_B _).turn
 refine ⟨o_pickC hc h.1 h1,by simp only [List.length_cons,List.length_append,List.length_nil];have:=h.2.1;omega,wk_on (wu.then_ h.2.2) fun f g hf hg=>?_⟩
 have hmv:∀ R,ev (enOf book f g) [.t (S "under"),.t z,.n p q] R = .mk (isA (hsA (vl book z f) (p,q)) .ahead) (isA (hsA (vl book z g) (p,q)) .ahead) :: R:=fun R=>ev_under (hb z hz) p q R
 have e:=lookA_of (ev_pick (ev_or' (ev_both hmv) (ev_not (ev_either hmv))) (lookA_ev f g hb h.1) (he f g))
 rw [e]
 have k1:=hs_part (a:=vl book z f) (b:=vl book z g) (p:=(p,q)) (hf.get _) (hg.get _) hq
 have k2:=hs_part (a:=vl book z g) (b:=vl book z f) (p:=(p,q)) (hg.get _) (hf.get _) hq
 rw [hsA_turn (vl book z f) (vl book z g)] at k2
 generalize hsA (vl book z f) (vl book z g) = a at k1 k2
 by_cases u1:hsA (vl book z f) (p,q) = .ahead
 ·by_cases u2:hsA (vl book z g) (p,q) = .ahead
  ·rw [u1,u2];rcases ht with rfl | rfl <;> rfl
  ·have ea:=k1 u1 u2
   have i2:isA (hsA (vl book z g) (p,q)) .ahead = false:=decide_eq_false u2
   rw [u1,i2,ea];rcases ht with rfl | rfl <;> rfl
 ·have i1:isA (hsA (vl book z f) (p,q)) .ahead = false:=decide_eq_false u1
  by_cases u2:hsA (vl book z g) (p,q) = .ahead
  ·have ea:a = .behind:=turn_ahead (k2 u2 u1)
   rw [u2,i1,ea];rcases ht with rfl | rfl <;> rfl
  ·have i2:isA (hsA (vl book z g) (p,q)) .ahead = false:=decide_eq_false u2
   rw [i1,i2];rcases ht with rfl | rfl <;> rfl
end
end Look
namespace L2
open PySem PySem.Spec PyProof.Rows
def rMulS:R2:=fun x y H Q=>∃ (c:Nat) (n:Int),x = .str ⟨#[c]⟩∧y = .int n∧0≤n∧n≤1000∧Q (.str ⟨(List.replicate n.toNat c).toArray⟩) H
theorem txt_mul (c:Nat) (n:Int) (h:0≤n):Txt.mul ⟨#[c]⟩ n = ⟨(List.replicate n.toNat c).toArray⟩:=by
 unfold Txt.mul
 have f0:∀ (m:Nat) (acc:List Nat),List.foldl (fun x1 x2=>x1 ++ x2) acc.toArray (List.replicate m #[c]) = (acc ++ List.replicate m c).toArray:=fun m=>by
  induction m with
  | zero=>intro acc;simp
  | succ m ih=>
   intro acc
   rw [List.replicate_succ,List.foldl_cons]
   have e:acc.toArray ++ #[c] = (acc ++ [c]).toArray:=by simp
   rw [e,ih,List.replicate_succ,List.append_assoc];rfl
 by_cases h1:n < 1
 ·rw [if_pos h1]
  have:n.toNat = 0:=by omega
  rw [this];rfl
 ·rw [if_neg h1]
  have:=f0 n.toNat []
  rw [List.nil_append] at this
  split
  ·rename_i z
   have z1:n = 1:=by
    rcases (Bool.or_eq_true _ _).mp z with h | h
    ·simpa using h
    ·cases h
   subst z1;rfl
  ·exact congrArg Str.mk this
theorem op_mulS {X:Cx}:OpR X (binaryOp .Mult) rMulS:=by
 intro pins s σ H x y v u Q I rx ry h
 obtain ⟨c,n,rfl,rfl,h0,h1,q⟩:=h
 obtain ⟨t,rfl⟩:=rx
 obtain ⟨t',rfl⟩:=ry
 refine SB.mul ⟨?_,fun hn _=>?_,fun hn _=>?_⟩ fun t' k=>⟨.str ⟨(List.replicate n.toNat c).toArray⟩,H,I.tok _,⟨t',by rw [txt_mul c n h0]⟩,q⟩
 ·rw [decide_eq_false (by omega),decide_eq_false (by omega)];rfl
 ·show ¬ (1:Int) > _
  have:(1:Int)≤(2 ^ 63 - 1) / n:=(Int.le_ediv_iff_mul_le (by omega)).mpr (by omega)
  omega
 ·show Builtin.Str.tooLong (1 * n.toNat) = false
  have:(1000:Nat)≤sizeLine:=by decide
  unfold Builtin.Str.tooLong
  first
   | exact decide_eq_false (by omega)
   | simp;omega
theorem ev_mulS {K:PySem.W.Frag}{σ:St}{G:Hp}{ta tb:TE}{c:Nat}{n:Int}(ha:Ev K ta σ G (.str ⟨#[c]⟩)) (hb:Ev K tb σ G (.int n)) (h0:0≤n) (h1:n≤1000):Ev K (tOp rMulS ta tb) σ G (.str ⟨(List.replicate n.toNat c).toArray⟩):=
 ev_op ha hb fun G1 H x y Q s1 s2 hx hy k=>by
  rw [hx.str,hy.int]
  exact ⟨c,n,rfl,rfl,h0,h1,k _ G1 H (Grow.refl s2) (dat_str _)⟩
theorem ev_ixS {K:PySem.W.Frag}{σ:St}{G:Hp}{ta tb:TE}{z:Str}{i:Int}{c:Nat}(ha:Ev K ta σ G (.str z)) (hb:Ev K tb σ G (.int i)) (hz:z.length≤sizeLine) (hc:atI z.cps.toList i = some c):Ev K (tOp rIxS ta tb) σ G (.str ⟨#[c]⟩):=
 ev_op ha hb fun G1 H x y Q s1 s2 hx hy k=>by
  rw [hx.str,hy.int]
  exact ⟨z,i,c,rfl,rfl,hz,hc,k _ G1 H (Grow.refl s2) (dat_str _)⟩
end L2
namespace L2
open PySem PySem.Spec PyProof.Rows Lw Nm Frac
section
variable {K:PySem.W.Frag}{d c l:Addr}{G H G' H' : Hp} {m n:Nat}{σ:St}
theorem DkA.upd {o:HO}(D:DkA n H d c) (hd:l≠d) (hc:l≠c):DkA n (L2.upd H l o) d c:=by
 obtain ⟨k,ns,h1,h2,r⟩:=D.ex
 exact ⟨k,ns,by rw [upd_ne (Ne.symm hd)];exact h1,by rw [upd_ne (Ne.symm hc)];exact h2,r⟩
theorem Dk.wr (k:Dk n d c G H G' H') (h0:H l = none) (hg:G' l = none) (hd:l≠d) (hc:l≠c) (o:HO):Dk n d c G H G' (L2.upd H' l o):=
 ⟨k.gg,same_upd k.gh hg,k.fr,fun b u e h1 h2=>by rw [upd_ne (ne_of_none e h0)];exact k.kp b u e h1 h2,k.D0.upd hd hc,fun N D=>(k.cn N D).upd hd hc⟩
theorem Dk.put {o:HO}(k:Dk n d c G H G' H') (h0:H l = none) (hl:H' l = some o) (hg:G l = none) (hg' : G' l = none):Dk n d c G H (L2.upd G' l o) H' := by
 refine ⟨fun b u e=>?_,fun b u e=>?_,fun b u e=>?_,k.kp,k.D0,k.cn⟩
 ·rw [upd_ne (ne_of_none e hg)];exact k.gg b u e
 ·by_cases h:b = l
  ·subst h;rw [upd_same] at e;rw [hl,e]
  ·rw [upd_ne h] at e;exact k.gh b u e
 ·by_cases h:b = l
  ·subst h;exact .inr h0
  ·rw [upd_ne h] at e;exact k.fr b u e
theorem Dk.ned (D:DkA n H d c) (h:H l = none):l≠d∧l≠c:=by
 obtain ⟨⟨o,h1⟩,⟨u,h2⟩⟩:=D.some
 exact ⟨fun z=>(by subst z;rw [h1] at h;cases h),fun z=>(by subst z;rw [h2] at h;cases h)⟩
theorem dv_callA {E:XK}{i:Nat}{t:TA}{Rs:List PyData→Prop}{R:List PyData→PyData→Prop}(hi:σ[i]? = some (some (.ref d))) (h:DvA K d c m t σ G Rs) (hR:∀ ds,Rs ds→∃ x,R ds x):Dv K d c (m + n) (tCall (spDv K n R) [] E (tCons (tVar i) t)) σ G (fun x=>∃ ds,Rs ds∧R ds x):=
 fun G1 H s1 s2 a b D Q k=>⟨_,hi,h G1 H s1 s2 a b (D.mono (by omega)) _ fun vs ds G2 H2 hds k2 hv=>by
  show spDv K n R ((.ref d :: vs) ++ []) H2 Q E
  rw [List.append_nil]
  exact ⟨d,c,G2,vs,ds,rfl,k2.gh,k2.gd D a,k2.gc D b,k2.then_ D,hv,hR ds hds,fun v x G' H' r k3 hx=>k v x G' H' ⟨ds,hds,r⟩ (k2.trans k3) hx⟩⟩
theorem DvA.imp {t:TA}{R R' : List PyData→Prop} (h:DvA K d c n t σ G R) (hi:∀ x,R x→R' x):DvA K d c n t σ G R' := fun G1 H s1 s2 a b D Q k=>h G1 H s1 s2 a b D Q fun v x G' H' r=>k v x G' H' (hi x r)
theorem dv_cb {r:List V→Hp→VK→Prop}{t:TA}{Rs:List PyData→Prop}{R:PyData→Prop}(h:DvA K d c n t σ G Rs) (hr:∀ ds vs G',Rs ds→Same G G' → Dats K G' vs ds→∃ x,R x∧∀ G1 H (Q:VK),Same G' G1→Same G1 H→(∀ v G2 H2,Grow G1 H G2 H2→Dat K G2 v x→Q v H2)→r vs H Q):Dv K d c n (tCB r t) σ G R:=
 fun G1 H s1 s2 a b D Q k=>h G1 H s1 s2 a b D _ fun vs ds G2 H2 hds k2 hv=>by
  obtain ⟨x,hx,hq⟩:=hr ds vs G2 hds (s1.trans k2.gg) hv
  exact hq G2 H2 Q (Same.refl _) k2.gh fun v G3 H3 g3 hv3=>k v x G3 H3 hx ((k2.trans (g3.dk k2.D0)).up (by omega)) hv3
theorem dv_intB {t:TE}(h:Dv K d c n t σ G fun x=>∃ b,x = .bool b):Dv K d c n (tCB (fun xs H Q=>(∃ i,xs = [.int i]∧Q (.int i) H)∨∃ k,xs = [.bl k]∧Q (.int (if k then 1 else 0)) H) (tCons t tNil)) σ G fun x=>∃ r:Int,x = .int r∧0≤r∧r < 2:=
 dv_cb (dva_cons h dva_nil) fun ds vs G' hds s hv=>by
  obtain ⟨x,r,rfl,⟨b,rfl⟩,rfl⟩:=hds
  obtain ⟨y,ys,rfl,hy,hr⟩:=hv.cons
  cases hr.nil
  cases hy.bl
  refine ⟨_,⟨if b then 1 else 0,rfl,by cases b <;> decide,by cases b <;> decide⟩,fun G1 H Q s1 s2 q=>.inr ⟨b,rfl,q _ G1 H (Grow.refl s2) (dat_int _)⟩⟩
theorem dv_and {ta tb:TE}{cb:Bool}(h:Ev K ta σ G (.bool cb)) (h' : Dv K d c n tb σ G fun x=>∃ b,x = .bool b):Dv K d c n (tAndV ta tb) σ G fun x=>∃ b,x = .bool b:=
 fun G1 H s1 s2 a b D Q k=>h G1 H s1 s2 _ fun v G2 H2 g2 hv=>⟨cb,hv.bl,by
  have k2:=g2.dk D
  cases cb with
  | false=>rw [if_neg Bool.false_ne_true];exact k _ _ G2 H2 ⟨false,rfl⟩ (k2.up (Nat.zero_le _)) (dat_bl _)
  | true=>rw [if_pos rfl];exact h' G2 H2 (s1.trans g2.gg) g2.gh (k2.gd D a) (k2.gc D b) (D.same g2.hh) _ fun w x G3 H3 hx k3 hw=>k w x G3 H3 hx ((k2.trans k3).up (by omega)) hw⟩
theorem dv_int2 {ta tb:TE}{g:Int→Int→V}{C:Int→Int→Prop}{Ra Rb:Int→Prop}{R:PyData→Prop}(ha:Dv K d c m ta σ G fun x=>∃ i:Int,x = .int i∧Ra i) (hb:Dv K d c n tb σ G fun x=>∃ i:Int,x = .int i∧Rb i) (hr:∀ i j,Ra i→Rb j→C i j∧∃ x,R x∧∀ G',Dat K G' (g i j) x):Dv K d c (m + n) (tOp (rI C g) ta tb) σ G R:=
 dv_op ha hb fun a b va vb G' h1 h2 s hva hvb=>by
  obtain ⟨i,rfl,hi⟩:=h1
  obtain ⟨j,rfl,hj⟩:=h2
  obtain ⟨hc,x,hx,hd⟩:=hr i j hi hj
  exact ⟨x,hx,ev_iC (ev_c hva) (ev_c hvb) hc (hd G')⟩
theorem dv_int0 {ta tb:TE}{g:Int→Int→V}{Ra Rb:Int→Prop}{R:PyData→Prop}(ha:Dv K d c m ta σ G fun x=>∃ i:Int,x = .int i∧Ra i) (hb:Dv K d c n tb σ G fun x=>∃ i:Int,x = .int i∧Rb i) (hr:∀ i j,Ra i→Rb j→∃ x,R x∧∀ G',Dat K G' (g i j) x):Dv K d c (m + n) (tOp (rI0 g) ta tb) σ G R:=
 dv_op ha hb fun a b va vb G' h1 h2 s hva hvb=>by
  obtain ⟨i,rfl,hi⟩:=h1
  obtain ⟨j,rfl,hj⟩:=h2
  obtain ⟨x,hx,hd⟩:=hr i j hi hj
  exact ⟨x,hx,ev_i0 (ev_c hva) (ev_c hvb) (hd G')⟩
theorem dv_eqI {ta:TE}{j:Int}(ha:Dv K d c n ta σ G fun x=>∃ i:Int,x = .int i∧True):Dv K d c (n + 0) (tOp rEq ta (tC (.int j))) σ G fun x=>∃ b,x = .bool b:=
 dv_op ha (dv_ev ev_int) fun a b va vb G' h1 h2 s hva hvb=>by
  obtain ⟨i,rfl,_⟩:=h1
  subst h2
  exact ⟨_,⟨_,rfl⟩,ev_eqI (ev_c hva) (ev_c hvb)⟩
end
section
variable {K:PySem.W.Frag}{d c:Addr}{G H:Hp}{n:Nat}{σ:St}{te:TE}{x:PyData}{D:Ends}{rest:TS}{i:Nat}
theorem asgs_ev (h:Ev K te σ G x) (s:Same G H) (k:∀ v G' H',Grow G H G' H' → Dat K G' v x→rest D (σ.set i (some v)) H'):tSeq (tAsg te (gName i)) rest D σ H:=asg_ev h s k
theorem asgs_dv {R:PyData→Prop}(h:Dv K d c n te σ G R) (s:Same G H) (gd:G d = none) (gc:G c = none) (D0:DkA n H d c) (k:∀ v x G' H',R x→Dk n d c G H G' H' → Dat K G' v x→rest D (σ.set i (some v)) H'):tSeq (tAsg te (gName i)) rest D σ H:=asg_dv h s gd gc D0 k
theorem ifs_ev {tc:TT}{t u:TS}{b:Bool}(h:EvT tc σ G b) (s:Same G H) (k1:b = true→∀ G' H',Grow G H G' H' → t { D with nx:=rest D } σ H') (k2:b = false→∀ G' H',Grow G H G' H' → u { D with nx:=rest D } σ H'):tSeq (tIfS tc t u) rest D σ H:=if_ev h s k1 k2
theorem Dk.back {G' H' : Hp} (k:Dk n d c G H G' H'):Dk n d c G H G H' := ⟨Same.refl _,k.gg.trans k.gh,fun _ _ e=>.inl e,k.kp,k.D0,k.cn⟩
theorem DvA.up {t:TA}{m:Nat}{R:List PyData→Prop}(h:DvA K d c m t σ G R) (e:m≤n):DvA K d c n t σ G R:=fun G1 H s1 s2 a b D Q k=>h G1 H s1 s2 a b (D.mono e) Q fun v x G' H' r q=>k v x G' H' r (q.up e)
end
end L2
namespace K28
open PySem L2 Frac Lw Dig PySem.NumText Nm
open Ord Num Look Rdo
def SzP (p:Int × Int):Prop:=Sz p∧1≤p.2
def RNx:List PyData→PyData→Prop:=fun ds x=>ds = []∧∃ r:Int,x = .int r
def RFr:List PyData→PyData→Prop:=fun ds x=>ds = []∧∃ p,x = dF p∧SzP p
def RPool:List PyData→PyData→Prop:=fun ds x=>ds = []∧∃ ps:List (Int × Int),x = .list (ps.map dF)∧2≤ps.length∧ps.length≤13∧∀ p∈ps,SzP p
theorem DkA.step {N:Nat}{H:Hp}{d c:Addr}{k0:Int}(D:DkA (N + 1) H d c) (h:H d = some (.lst [.ref c,.int k0])):DkA N (upd H d (.lst [.ref c,.int (k0 + 1)])) d c:=by
 have ne:=D.ne
 obtain ⟨k,ns,h1,h2,h3,h4,h5⟩:=D.ex
 rw [h1] at h
 injection h with h
 injection h with h
 simp at h
 subst h
 refine ⟨k + 1,ns,upd_same,by rw [upd_ne ne];exact h2,h3,by omega,?_⟩
 push_cast at h5 ⊢
 omega
theorem m2 (i j:Int) (h:0 < j):0≤i % j∧i % j < j:=⟨Int.emod_nonneg _ (by omega),Int.emod_lt_of_pos _ h⟩
section
variable {P:Program}{w:World}{K:PySem.W.Frag}{mg:Str→Option Value}{base:Heap}
theorem ok_next (T:Top K mg):FnOk P w K mg base CX0 1 T.f__law_next T.fd__law_next ["deck"] (spDv K 1 RNx):=by
 refine T.F__law_next.ok sc__law_next (fun vs H Q E h=>?_) (fun cdv A outer s H vs Q E hr h=>?_)
 ·obtain ⟨d,c,G,us,ds,rfl,_,_,_,_,hd,⟨x,rfl,_⟩,_⟩:=h
  rw [List.length_cons,hd.length];rfl
 ·obtain ⟨d,c,G,us,ds,rfl,sg,gd,gc,D,hd,⟨x,rfl,_⟩,kk⟩:=h
  cases hd.nil
  have nedc:=D.ne
  obtain ⟨k,ns,hdk,hck,few,h0,hk⟩:=id D.ex
  have fin:∀ r:Int,Q (.int r) (upd H d (.lst [.ref c,.int (k + 1)])):=fun r=>by
   refine kk _ _ G _ ⟨rfl,r,rfl⟩ (dk_kept sg gd gc (DkA.step (N:=0) D hdk) (fun N D' => DkA.step D' hdk) fun b o e h1 h2=>by rw [upd_ne h1];exact e) (dat_int _)
  have hk9:k < 10 ^ 9:=by omega
  have hc:SqL K (upd H d (.lst [.ref c,.int (k + 1)])) c (ns.map V.int):=SqL.of (by rw [upd_ne nedc];exact hck)
  refine ⟨_,(pss_cons (ps_set (i:=1) sc__law_next.nd rfl (Or.inl rfl) (pe_ix (ix_listK (K:=K) rfl) (pv 0) pe_int (fun _ _=>rfl)))
   (pss_cons (ps_set (i:=2) sc__law_next.nd rfl (Or.inl rfl) (pe_ix (ix_listK (K:=K) rfl) (pv 0) pe_int (fun _ _=>rfl)))
   (pss_cons (ps_asg (pe_op op_add (pv 2) pe_int) (pg_sub (pv 0) pe_int set_list))
   (pss_cons (ps_if (pt_cmpR op_lt (pv 2) (pe_callB (call_lenK (K:=K) rfl) (by rfl) T.len_ PySem.boot_len (pa_cons (pv 1) pa_nil st_Name)) (nomark _)) (pss_one (ps_ret (pe_ix (ix_listK (K:=K) rfl) (pv 1) (pv 2) (fun _ _=>rfl)))) pss_nil)
   (pss_cons (ps_if (pt_cmpR op_eq (pe_callB (call_lenK (K:=K) rfl) (by rfl) T.len_ PySem.boot_len (pa_cons (pv 1) pa_nil st_Name)) pe_int (nomark _)) (pss_one (ps_ret (pe_op op_add (pe_op op_mulW (pe_op op_mulW (pv 2) (pv 2)) pe_int) (pv 2)))) pss_nil)
   (pss_cons (ps_set (i:=3) sc__law_next.nd rfl (Or.inl rfl) (pe_op op_mod (pe_op op_mulW (pe_op op_add (pe_op op_add (pe_op op_mod (pe_ix (ix_listK (K:=K) rfl) (pv 1) (pe_op op_mod (pv 2) (pe_callB (call_lenK (K:=K) rfl) (by rfl) T.len_ PySem.boot_len (pa_cons (pv 1) pa_nil st_Name))) (fun _ _=>rfl)) pe_int) (pe_op op_mulW (pv 2) pe_int)) pe_int) pe_int) pe_int))
   (pss_one (ps_ret (pe_op op_mod (pe_op op_mulW (pv 3) (pv 3)) pe_int))))))))) ,?_⟩
  refine ⟨_,rfl,d,_,0,_,rfl,rfl,SqL.of hdk,rfl,?_⟩
  refine ⟨_,rfl,d,_,1,_,rfl,rfl,SqL.of hdk,rfl,?_⟩
  refine ⟨_,rfl,_,_,rfl,rfl,_,rfl,d,_,1,1,rfl,rfl,hdk,rfl,?_⟩
  refine ⟨_,rfl,_,rfl,c,_,rfl,.inl hc,_,_,rfl,rfl,_,rfl,?_⟩
  refine ite2 (fun h=>?_) (fun h=>?_)
  ·have h' : k < ns.length:=by
    have:=of_decide_eq_true h
    rw [List.length_map] at this;exact this
   obtain ⟨z,j,hat,_,_⟩:=atI_ints (ns:=ns) h0 h'
   exact ⟨_,rfl,_,rfl,c,_,_,_,rfl,rfl,hc,hat,fin z⟩
  ·refine ⟨_,rfl,c,_,rfl,.inl hc,rfl,_,rfl,?_⟩
   refine ite2 (fun _=>?_) (fun h2=>?_)
   ·have m1:(k * k).natAbs≤10 ^ 9 * 10 ^ 9:=mulb (by omega) (by omega)
    exact ⟨_,rfl,_,rfl,_,_,rfl,rfl,mw (by omega) (by omega),_,_,rfl,rfl,mw (by omega) (by decide),_,rfl,_,_,rfl,rfl,fin _⟩
   ·have hp:0 < ns.length:=by
     have h3:¬ (V.int ((ns.map V.int).length:Nat) = V.int 0):=fun z=>h2 (decide_eq_true z)
     rw [List.length_map] at h3
     have:ns.length≠0:=fun z=>h3 (by rw [z];rfl)
     omega
    have hi0:0≤k % ((ns.map V.int).length:Int):=Int.emod_nonneg _ (by rw [List.length_map];omega)
    have hi1:k % ((ns.map V.int).length:Int) < ns.length:=by
     have:=Int.emod_lt_of_pos k (show (0:Int) < ((ns.map V.int).length:Int) by rw [List.length_map];omega)
     rw [List.length_map] at this ⊢;exact this
    obtain ⟨z,j,hat,_,_⟩:=atI_ints hi0 hi1
    have hb1:(0:Int)≤z % 2147483629∧z % 2147483629 < 2147483629:=⟨Int.emod_nonneg _ (by decide),Int.emod_lt_of_pos _ (by decide)⟩
    refine ⟨_,rfl,_,rfl,_,rfl,c,_,rfl,.inl hc,_,_,rfl,rfl,(by rw [List.length_map];omega),c,_,_,_,rfl,rfl,hc,hat,_,_,rfl,rfl,(by show (0:Int) < 2147483629;decide),?_⟩
    refine ⟨_,rfl,_,_,rfl,rfl,mw (by omega) (by decide),_,_,rfl,rfl,_,_,rfl,rfl,_,_,rfl,rfl,mw (by omega) (by decide),_,_,rfl,rfl,(by show (0:Int) < 2147483587;decide),?_⟩
    (try dsimp only)
    generalize hM:(z % 2147483629 + k * 7919 + 5) * 50021 % 2147483587 = m
    have hm:0≤m∧m < 2147483587:=by rw [← hM];exact ⟨Int.emod_nonneg _ (by decide),Int.emod_lt_of_pos _ (by decide)⟩
    exact ⟨_,rfl,_,rfl,_,_,rfl,rfl,mw (by omega) (by omega),_,_,rfl,rfl,(by show (0:Int) < 2147483563;decide),fin _⟩
theorem ev_pickL {σ:St}{G:Hp}{ta tb:TE}{ds:List PyData}{i:Int}(ha:Ev K ta σ G (.list ds)) (hb:Ev K tb σ G (.int i)) (h0:0≤i) (h1:i < ds.length):∃ e,ds[i.toNat]? = some e∧Ev K (tOp (rIxL K) ta tb) σ G e:=by
 obtain ⟨j,rfl⟩:=Int.eq_ofNat_of_zero_le h0
 have hj:j < ds.length:=by omega
 exact ⟨ds[j],by rw [Int.toNat_natCast];exact List.getElem?_eq_getElem hj,ev_ixL (n:=j) ha hb (ixN_nat hj) (List.getElem?_eq_getElem hj)⟩
theorem ev_pow {σ:St}{G:Hp}{i j:Int}{r:Int}(h:CPow i j) (e:i ^ j.toNat = r):Ev K (tOp (rI CPow fun i j=>.int (i ^ j.toNat)) (tC (.int i)) (tC (.int j))) σ G (.int r):=ev_d (ev_iC ev_int ev_int h (dat_int _)) (by rw [e])
theorem ev_neg {σ:St}{G:Hp}{ta:TE}{i:Int}(h:Ev K ta σ G (.int i)):Ev K (tUn (rU fun i=>.int (-i)) ta) σ G (.int (-i)):=
 fun G1 H s1 s2 Q k=>h G1 H s1 s2 _ fun v G2 H2 g2 hv=>⟨i,hv.int,k _ G2 H2 g2 (dat_int _)⟩
theorem ev_mod {σ:St}{G:Hp}{ta tb:TE}{i j:Int}(ha:Ev K ta σ G (.int i)) (hb:Ev K tb σ G (.int j)) (h:0 < j):Ev K (tOp (rI (fun _ j=>0 < j) fun i j=>.int (i % j)) ta tb) σ G (.int (i % j)):=ev_iC ha hb h (dat_int _)
theorem ev_div {σ:St}{G:Hp}{ta tb:TE}{i j:Int}(ha:Ev K ta σ G (.int i)) (hb:Ev K tb σ G (.int j)) (h:0 < j) (h' : j.natAbs < 10 ^ 100):Ev K (tOp (rI CDivP fun i j=>.int (i / j)) ta tb) σ G (.int (i / j)):=ev_iC ha hb ⟨h,w0 h'⟩ (dat_int _)
theorem ev_mul {σ:St}{G:Hp}{ta tb:TE}{i j:Int}(ha:Ev K ta σ G (.int i)) (hb:Ev K tb σ G (.int j)) (h:i.natAbs < 10 ^ 100) (h' : j.natAbs < 10 ^ 100):Ev K (tOp (rI CMulW fun i j=>.int (i * j)) ta tb) σ G (.int (i * j)):=ev_iC ha hb (mw h h') (dat_int _)
theorem ev_add {σ:St}{G:Hp}{ta tb:TE}{i j:Int}(ha:Ev K ta σ G (.int i)) (hb:Ev K tb σ G (.int j)):Ev K (tOp (rI0 fun i j=>.int (i + j)) ta tb) σ G (.int (i + j)):=ev_i0 ha hb (dat_int _)
theorem ev_sub {σ:St}{G:Hp}{ta tb:TE}{i j:Int}(ha:Ev K ta σ G (.int i)) (hb:Ev K tb σ G (.int j)):Ev K (tOp (rI0 fun i j=>.int (i - j)) ta tb) σ G (.int (i - j)):=ev_i0 ha hb (dat_int _)
theorem ev_two {σ:St}{G:Hp}{ta tb:TE}{a b:Int}(ha:Ev K ta σ G (.int a)) (hb:Ev K tb σ G (.int b)):Ev K (tTup (tCons ta (tCons tb tNil))) σ G (dF (a,b)):=ev_tup (eva_cons ha (eva_cons hb eva_nil)) (by show 2≤sizeLine;decide)
theorem ev_lstS {σ:St}{G:Hp}{m:Int}(hm:σ[2]? = some (some (.int m))):Ev K (tLst (tCons (tTup (tCons (tOp (rI0 fun i j=>.int (i - j)) (tOp (rI (fun _ j=>0 < j) fun i j=>.int (i % j)) (tVar 2) (tC (.int 9))) (tC (.int 4))) (tCons (tC (.int 1)) tNil))) (tCons (tTup (tCons (tOp (rI0 fun i j=>.int (i - j)) (tOp (rI CMulW fun i j=>.int (i * j)) (tC (.int 2)) (tOp (rI (fun _ j=>0 < j) fun i j=>.int (i % j)) (tVar 2) (tC (.int 5)))) (tC (.int 5))) (tCons (tC (.int 2)) tNil))) (tCons (tTup (tCons (tOp (rI0 fun i j=>.int (i - j)) (tOp (rI CMulW fun i j=>.int (i * j)) (tC (.int 3)) (tOp (rI (fun _ j=>0 < j) fun i j=>.int (i % j)) (tVar 2) (tC (.int 5)))) (tC (.int 5))) (tCons (tC (.int 3)) tNil))) (tCons (tTup (tCons (tOp (rI0 fun i j=>.int (i - j)) (tOp (rI CMulW fun i j=>.int (i * j)) (tC (.int 4)) (tOp (rI (fun _ j=>0 < j) fun i j=>.int (i % j)) (tVar 2) (tC (.int 6)))) (tC (.int 11))) (tCons (tC (.int 4)) tNil))) tNil))))) σ G (.list ([(m % 9 - 4,1),(2 * (m % 5) - 5,2),(3 * (m % 5) - 5,3),(4 * (m % 6) - 11,4)].map dF)):=by
 have b9:=m2 m 9 (by decide)
 have b5:=m2 m 5 (by decide)
 have b6:=m2 m 6 (by decide)
 have b900:=m2 m 900 (by decide)
 have b19:=m2 m 10000000000000000000 (by decide)
 have b17:=m2 m 100000000000000000 (by decide)
 have b3:=m2 m 1000 (by decide)
 exact ev_lst (eva_cons (ev_two (ev_sub (ev_mod (ev_var hm (dat_int m)) ev_int (by decide)) ev_int) ev_int)
   (eva_cons (ev_two (ev_sub (ev_mul ev_int (ev_mod (ev_var hm (dat_int m)) ev_int (by decide)) (by decide) (by omega)) ev_int) ev_int)
   (eva_cons (ev_two (ev_sub (ev_mul ev_int (ev_mod (ev_var hm (dat_int m)) ev_int (by decide)) (by decide) (by omega)) ev_int) ev_int)
   (eva_cons (ev_two (ev_sub (ev_mul ev_int (ev_mod (ev_var hm (dat_int m)) ev_int (by decide)) (by decide) (by omega)) ev_int) ev_int) eva_nil)))) (by show 4≤sizeLine;decide)
theorem ev_lstO {σ:St}{G:Hp}{m:Int}(hm:σ[2]? = some (some (.int m))):Ev K (tLst (tCons (tTup (tCons (tOp (rI0 fun i j=>.int (i - j)) (tOp (rI CMulW fun i j=>.int (i * j)) (tC (.int 7)) (tOp (rI (fun _ j=>0 < j) fun i j=>.int (i % j)) (tVar 2) (tC (.int 9)))) (tC (.int 31))) (tCons (tC (.int 7)) tNil))) (tCons (tTup (tCons (tOp (rI0 fun i j=>.int (i - j)) (tOp (rI CMulW fun i j=>.int (i * j)) (tC (.int 100)) (tOp (rI (fun _ j=>0 < j) fun i j=>.int (i % j)) (tVar 2) (tC (.int 900)))) (tC (.int 40007))) (tCons (tC (.int 100)) tNil))) (tCons (tTup (tCons (tOp (rI (fun _ j=>0 < j) fun i j=>.int (i % j)) (tVar 2) (tOp (rI CPow fun i j=>.int (i ^ j.toNat)) (tC (.int 10)) (tC (.int 19)))) (tCons (tC (.int 1)) tNil))) tNil)))) σ G (.list ([(7 * (m % 9) - 31,7),(100 * (m % 900) - 40007,100),(m % 10000000000000000000,1)].map dF)):=by
 have b9:=m2 m 9 (by decide)
 have b5:=m2 m 5 (by decide)
 have b6:=m2 m 6 (by decide)
 have b900:=m2 m 900 (by decide)
 have b19:=m2 m 10000000000000000000 (by decide)
 have b17:=m2 m 100000000000000000 (by decide)
 have b3:=m2 m 1000 (by decide)
 exact ev_lst (eva_cons (ev_two (ev_sub (ev_mul ev_int (ev_mod (ev_var hm (dat_int m)) ev_int (by decide)) (by decide) (by omega)) ev_int) ev_int)
   (eva_cons (ev_two (ev_sub (ev_mul ev_int (ev_mod (ev_var hm (dat_int m)) ev_int (by decide)) (by decide) (by omega)) ev_int) ev_int)
   (eva_cons (ev_two (ev_mod (ev_var hm (dat_int m)) (ev_pow ⟨by decide,by decide,by decide⟩ (by decide +kernel)) (by decide)) ev_int) eva_nil))) (by show 3≤sizeLine;decide)
theorem ev_lstG {σ:St}{G:Hp}{m:Int}(hm:σ[2]? = some (some (.int m))):Ev K (tLst (tCons (tTup (tCons (tOp (rI0 fun i j=>.int (i - j)) (tUn (rU fun i=>.int (-i)) (tC (.int 5))) (tOp (rI (fun _ j=>0 < j) fun i j=>.int (i % j)) (tVar 2) (tOp (rI CPow fun i j=>.int (i ^ j.toNat)) (tC (.int 10)) (tC (.int 19))))) (tCons (tC (.int 1)) tNil))) (tCons (tTup (tCons (tOp (rI0 fun i j=>.int (i + j)) (tOp (rI CMulW fun i j=>.int (i * j)) (tC (.int 10)) (tOp (rI (fun _ j=>0 < j) fun i j=>.int (i % j)) (tVar 2) (tOp (rI CPow fun i j=>.int (i ^ j.toNat)) (tC (.int 10)) (tC (.int 17))))) (tC (.int 1))) (tCons (tOp (rI CPow fun i j=>.int (i ^ j.toNat)) (tC (.int 10)) (tC (.int 15))) tNil))) (tCons (tTup (tCons (tOp (rI0 fun i j=>.int (i - j)) (tOp (rI CMulW fun i j=>.int (i * j)) (tUn (rU fun i=>.int (-i)) (tC (.int 10))) (tOp (rI (fun _ j=>0 < j) fun i j=>.int (i % j)) (tVar 2) (tOp (rI CPow fun i j=>.int (i ^ j.toNat)) (tC (.int 10)) (tC (.int 3))))) (tC (.int 1))) (tCons (tOp (rI CPow fun i j=>.int (i ^ j.toNat)) (tC (.int 10)) (tC (.int 15))) tNil))) tNil)))) σ G (.list ([(-5 - m % 10000000000000000000,1),(10 * (m % 100000000000000000) + 1,1000000000000000),(-10 * (m % 1000) - 1,1000000000000000)].map dF)):=by
 have b9:=m2 m 9 (by decide)
 have b5:=m2 m 5 (by decide)
 have b6:=m2 m 6 (by decide)
 have b900:=m2 m 900 (by decide)
 have b19:=m2 m 10000000000000000000 (by decide)
 have b17:=m2 m 100000000000000000 (by decide)
 have b3:=m2 m 1000 (by decide)
 exact ev_lst (eva_cons (ev_two (ev_sub (ev_neg ev_int) (ev_mod (ev_var hm (dat_int m)) (ev_pow ⟨by decide,by decide,by decide⟩ (by decide +kernel)) (by decide))) ev_int)
   (eva_cons (ev_two (ev_add (ev_mul ev_int (ev_mod (ev_var hm (dat_int m)) (ev_pow ⟨by decide,by decide,by decide⟩ (by decide +kernel)) (by decide)) (by decide) (by omega)) ev_int) (ev_pow ⟨by decide,by decide,by decide⟩ (by decide +kernel)))
   (eva_cons (ev_two (ev_sub (ev_mul (ev_neg ev_int) (ev_mod (ev_var hm (dat_int m)) (ev_pow ⟨by decide,by decide,by decide⟩ (by decide +kernel)) (by decide)) (by decide) (by omega)) ev_int) (ev_pow ⟨by decide,by decide,by decide⟩ (by decide +kernel))) eva_nil))) (by show 3≤sizeLine;decide)
theorem ok_fraction (T:Top K mg):FnOk P w K mg base CX0 2 T.f__law_fraction T.fd__law_fraction ["deck"] (spDv K 1 RFr):=by
 have G__law_next:FnOk P w K mg base CX0 1 T.f__law_next T.fd__law_next ["deck"] (spDv K 1 RNx):=ok_next T
 refine T.F__law_fraction.ok sc__law_fraction (fun vs H Q E h=>?_) (fun cdv A outer s H vs Q E hr h=>?_)
 ·obtain ⟨d,c,G,us,ds,rfl,_,_,_,_,hd,⟨x,rfl,_⟩,_⟩:=h
  rw [List.length_cons,hd.length];rfl
 ·obtain ⟨d,c,G,us,ds,rfl,sg,gd,gc,D,hd,⟨x,rfl,_⟩,kk⟩:=h
  cases hd.nil
  refine ⟨_,(pss_cons (ps_set (i:=1) sc__law_fraction.nd rfl (Or.inl rfl) (pe_call G__law_next hr (by rfl) T.m__law_next T.F__law_next.kp T.b__law_next .nil pass0 (pa_cons (pv 0) pa_nil st_Name)))
   (pss_cons (ps_set (i:=2) sc__law_fraction.nd rfl (Or.inl rfl) (pe_op op_fdivP (pv 1) pe_int))
   (pss_cons (ps_set (i:=3) sc__law_fraction.nd rfl (Or.inl rfl) (pe_lst (pa_cons (pe_tup (pa_cons (pe_op op_sub (pe_op op_mod (pv 2) pe_int) pe_int) (pa_cons pe_int pa_nil st_Constant) st_BinOp)) (pa_cons (pe_tup (pa_cons (pe_op op_sub (pe_op op_mulW pe_int (pe_op op_mod (pv 2) pe_int)) pe_int) (pa_cons pe_int pa_nil st_Constant) st_BinOp)) (pa_cons (pe_tup (pa_cons (pe_op op_sub (pe_op op_mulW pe_int (pe_op op_mod (pv 2) pe_int)) pe_int) (pa_cons pe_int pa_nil st_Constant) st_BinOp)) (pa_cons (pe_tup (pa_cons (pe_op op_sub (pe_op op_mulW pe_int (pe_op op_mod (pv 2) pe_int)) pe_int) (pa_cons pe_int pa_nil st_Constant) st_BinOp)) pa_nil st_Tuple) st_Tuple) st_Tuple) st_Tuple)))
   (pss_cons (ps_set (i:=4) sc__law_fraction.nd rfl (Or.inl rfl) (pe_lst (pa_cons (pe_tup (pa_cons (pe_op op_sub (pe_op op_mulW pe_int (pe_op op_mod (pv 2) pe_int)) pe_int) (pa_cons pe_int pa_nil st_Constant) st_BinOp)) (pa_cons (pe_tup (pa_cons (pe_op op_sub (pe_op op_mulW pe_int (pe_op op_mod (pv 2) pe_int)) pe_int) (pa_cons pe_int pa_nil st_Constant) st_BinOp)) (pa_cons (pe_tup (pa_cons (pe_op op_mod (pv 2) (pe_op op_pow pe_int pe_int)) (pa_cons pe_int pa_nil st_Constant) st_BinOp)) pa_nil st_Tuple) st_Tuple) st_Tuple)))
   (pss_cons (ps_set (i:=5) sc__law_fraction.nd rfl (Or.inl rfl) (pe_lst (pa_cons (pe_tup (pa_cons (pe_op op_sub (pe_un un_neg pe_int) (pe_op op_mod (pv 2) (pe_op op_pow pe_int pe_int))) (pa_cons pe_int pa_nil st_Constant) st_BinOp)) (pa_cons (pe_tup (pa_cons (pe_op op_add (pe_op op_mulW pe_int (pe_op op_mod (pv 2) (pe_op op_pow pe_int pe_int))) pe_int) (pa_cons (pe_op op_pow pe_int pe_int) pa_nil st_BinOp) st_BinOp)) (pa_cons (pe_tup (pa_cons (pe_op op_sub (pe_op op_mulW (pe_un un_neg pe_int) (pe_op op_mod (pv 2) (pe_op op_pow pe_int pe_int))) pe_int) (pa_cons (pe_op op_pow pe_int pe_int) pa_nil st_BinOp) st_BinOp)) pa_nil st_Tuple) st_Tuple) st_Tuple)))
   (pss_one (ps_ret (pe_ix (ix_listK (K:=K) rfl) (pe_op op_cat (pe_op op_cat (pv 3) (pv 4)) (pv 5)) (pe_op op_mod (pv 1) pe_int) (fun _ _=>rfl))))))))) ,?_⟩
  refine asgs_dv (K:=K) (d:=d) (c:=c) (dv_call (R:=RNx) rfl eva_nil ⟨.int 0,rfl,0,rfl⟩) sg gd gc D fun v1 x G1 H1 hx k1 hv1=>?_
  obtain ⟨_,cell,rfl⟩:=hx
  rw [hv1.int]
  refine asgs_ev (K:=K) (ev_div (ev_var rfl (dat_int cell)) ev_int (by decide) (by decide)) k1.gh fun v2 G2 H2 g2 hv2=>?_
  rw [hv2.int]
  generalize cell / 10 = m
  have b9:0≤m % 9∧m % 9 < 9:=⟨Int.emod_nonneg _ (by decide),Int.emod_lt_of_pos _ (by decide)⟩
  have b5:0≤m % 5∧m % 5 < 5:=⟨Int.emod_nonneg _ (by decide),Int.emod_lt_of_pos _ (by decide)⟩
  have b6:0≤m % 6∧m % 6 < 6:=⟨Int.emod_nonneg _ (by decide),Int.emod_lt_of_pos _ (by decide)⟩
  have b900:0≤m % 900∧m % 900 < 900:=⟨Int.emod_nonneg _ (by decide),Int.emod_lt_of_pos _ (by decide)⟩
  have b19:0≤m % 10000000000000000000∧m % 10000000000000000000 < 10000000000000000000:=⟨Int.emod_nonneg _ (by decide),Int.emod_lt_of_pos _ (by decide)⟩
  have b17:0≤m % 100000000000000000∧m % 100000000000000000 < 100000000000000000:=⟨Int.emod_nonneg _ (by decide),Int.emod_lt_of_pos _ (by decide)⟩
  have b3:0≤m % 1000∧m % 1000 < 1000:=⟨Int.emod_nonneg _ (by decide),Int.emod_lt_of_pos _ (by decide)⟩
  refine asgs_ev (K:=K) (ev_lstS (m:=m) rfl) g2.gh fun v3 G3 H3 g3 hv3=>?_
  refine asgs_ev (K:=K) (ev_lstO (m:=m) rfl) g3.gh fun v4 G4 H4 g4 hv4=>?_
  refine asgs_ev (K:=K) (ev_lstG (m:=m) rfl) g4.gh fun v5 G5 H5 g5 hv5=>?_
  have bc:0≤cell % 10∧cell % 10 < 10:=⟨Int.emod_nonneg _ (by decide),Int.emod_lt_of_pos _ (by decide)⟩
  obtain ⟨e,he,hev⟩:=ev_pickL (K:=K) (G:=G5) (i:=cell % 10) (ev_cat (ev_cat (ev_var (i:=3) (σ:=[some (V.ref d),some (V.int cell),some (V.int m),some v3,some v4,some v5]) rfl (hv3.same (g4.gg.trans g5.gg))) (ev_var (i:=4) rfl (hv4.same g5.gg)) (by show 7≤sizeLine;decide)) (ev_var (i:=5) rfl hv5) (by show 10≤sizeLine;decide)) (ev_mod (ev_var (i:=1) rfl (dat_int cell)) ev_int (by decide)) bc.1 bc.2
  have hR:∃ p,e = dF p∧SzP p:=by
   have hm:=List.mem_of_getElem? he
   rw [← List.map_append,← List.map_append] at hm
   obtain ⟨p,hp,rfl⟩:=List.mem_map.mp hm
   refine ⟨p,rfl,?_⟩
   simp only [List.cons_append,List.nil_append,List.mem_cons,List.not_mem_nil,or_false] at hp
   have e40:(10:Nat) ^ 40 = 10000000000000000000000000000000000000000:=by decide +kernel
   unfold SzP Sz
   rw [e40]
   rcases hp with rfl | rfl | rfl | rfl | rfl | rfl | rfl | rfl | rfl | rfl <;> refine ⟨⟨?_,?_⟩,?_⟩ <;> dsimp only <;> omega
  refine ret_ev (K:=K) hev g5.gh fun v G' H' g' hv=>?_
  exact kk v e G' H' ⟨rfl,hR⟩ ((((((k1.trans (g2.dk k1.D0)).trans (g3.dk (k1.D0.same g2.hh))).trans (g4.dk ((k1.D0.same g2.hh).same g3.hh))).trans (g5.dk (((k1.D0.same g2.hh).same g3.hh).same g4.hh))).trans (g'.dk ((((k1.D0.same g2.hh).same g3.hh).same g4.hh).same g5.hh))).up (by decide)) hv
end
end K28
namespace K28
open PySem L2 Frac Lw Dig PySem.NumText Nm
open Ord Num Look Rdo
def spBk (K:PySem.W.Frag):Sp:=fun vs H Q _=>∃ (d c:Addr) (G:Hp),vs = [.ref d]∧Same G H∧G d = none∧G c = none∧DkA 1 H d c∧
 ∀ (book:List Str) (pb:Addr) (G' H' : Hp),1≤book.length→book.length≤4→(∀ z∈book,wordT z = none)→Dk 1 d c G H G' H' → G' pb = some (.tup (book.map V.str))→Q (.ref pb) H'
abbrev nms:List Str:=[S "s",S "size",S "sizes",S "x",S "sizesize",S "si",S "xs",S "upp"]
abbrev wds13:List Str:=[S "like",S "up",S "down",S "then",S "turn",S "pick",S "same",S "both",S "not",S "and",S "or",S "under",S "is"]
theorem nms_ok:∀ z∈nms,wordT z = none:=by decide +kernel
theorem words_x:∀ z∈["like", "up", "down", "then", "turn", "pick", "same", "both", "either", "not", "and", "or", "under", "is"].map Str.ofString,z.cps.toList.getLast?≠some 120:=by decide +kernel
theorem x_ok (z:Str):wordT (z ++ S "x") = none:=wordT_none fun h=>words_x _ h (by
 have e:(z ++ S "x").cps.toList = z.cps.toList ++ [120]:=by
  show (z.cps ++ (S "x").cps).toList = _
  rw [Array.toList_append];rfl
 rw [e];simp)
def padS (p n:Nat):Str:=⟨(List.replicate n p).toArray⟩
theorem either_no (p q:Nat):∀ a b:Nat,List.replicate a p ++ q :: List.replicate b p≠[101,105,116,104,101,114]
 | 0,0=>by simp
 | 0,1=>by simp
 | 0,b + 2=>by
  rw [List.replicate_succ,List.replicate_succ]
  intro h
  simp at h
  omega
 | 1,0=>by simp [List.replicate_succ]
 | 1,b + 1=>by
  rw [List.replicate_succ,List.replicate_succ]
  intro h
  simp at h
  omega
 | a + 2,b=>by
  rw [List.replicate_succ,List.replicate_succ]
  intro h
  simp at h
  omega
theorem name_codes (p q a b:Nat):(padS p a ++ (⟨#[q]⟩:Str) ++ padS p b).cps.toList = List.replicate a p ++ q :: List.replicate b p:=by
 show ((List.replicate a p).toArray ++ #[q] ++ (List.replicate b p).toArray).toList = _
 simp
theorem name_ok (p q a b:Nat) (h:(padS p a ++ (⟨#[q]⟩:Str) ++ padS p b) ∉ wds13):wordT (padS p a ++ (⟨#[q]⟩:Str) ++ padS p b) = none:=by
 refine wordT_none fun m=>?_
 have ne:(padS p a ++ (⟨#[q]⟩:Str) ++ padS p b)≠S "either" := fun e=>by
  have:=congrArg (fun z:Str=>z.cps.toList) e
  have this:(padS p a ++ (⟨#[q]⟩:Str) ++ padS p b).cps.toList = (S "either").cps.toList:=this
  rw [name_codes] at this
  exact either_no p q a b this
 generalize (padS p a ++ (⟨#[q]⟩:Str) ++ padS p b) = z at h m ne
 apply h
 simp only [List.map_cons,List.map_nil,List.mem_cons,List.not_mem_nil,or_false] at m ⊢
 rcases m with m | m | m | m | m | m | m | m | m | m | m | m | m | m
 ·exact .inl m
 ·exact .inr (.inl m)
 ·exact .inr (.inr (.inl m))
 ·exact .inr (.inr (.inr (.inl m)))
 ·exact .inr (.inr (.inr (.inr (.inl m))))
 ·exact .inr (.inr (.inr (.inr (.inr (.inl m)))))
 ·exact .inr (.inr (.inr (.inr (.inr (.inr (.inl m))))))
 ·exact .inr (.inr (.inr (.inr (.inr (.inr (.inr (.inl m)))))))
 ·exact absurd m ne
 ·exact .inr (.inr (.inr (.inr (.inr (.inr (.inr (.inr (.inl m))))))))
 ·exact .inr (.inr (.inr (.inr (.inr (.inr (.inr (.inr (.inr (.inl m)))))))))
 ·exact .inr (.inr (.inr (.inr (.inr (.inr (.inr (.inr (.inr (.inr (.inl m))))))))))
 ·exact .inr (.inr (.inr (.inr (.inr (.inr (.inr (.inr (.inr (.inr (.inr (.inl m)))))))))))
 ·exact .inr (.inr (.inr (.inr (.inr (.inr (.inr (.inr (.inr (.inr (.inr (.inr m)))))))))))
theorem pad_len (p n:Nat):(padS p n).length = n:=by rw [len_codes];show (List.replicate n p).length = n;exact List.length_replicate
theorem app_len (x y:Str):(x ++ y).length = x.length + y.length:=by
 rw [len_codes,len_codes,len_codes]
 show (x.cps ++ y.cps).toList.length = _
 simp
theorem sl_from {α:Type}(D:List α) (a:Nat) (ha:a≤D.length):(D.drop (HT.sIx D.length 0 (some (a:Int)))).take (HT.sIx D.length D.length none - HT.sIx D.length 0 (some (a:Int))) = D.drop a:=by
 rw [HT.sIx_nat,HT.sIx_none,Nat.min_eq_left ha,List.take_of_length_le (by rw [List.length_drop];omega)]
theorem sl_to {α:Type}(D:List α) (m:Nat):(D.drop (HT.sIx D.length 0 none)).take (HT.sIx D.length D.length (some (m:Int)) - HT.sIx D.length 0 none) = D.take m:=by
 rw [HT.sIx_none,HT.sIx_nat,List.drop_zero,Nat.sub_zero]
 rcases Nat.le_total m D.length with h | h
 ·rw [Nat.min_eq_left h]
 ·rw [Nat.min_eq_right h,List.take_of_length_le h,List.take_of_length_le (Nat.le_refl _)]
section
variable {P:Program}{w:World}{K:PySem.W.Frag}{mg:Str→Option Value}{base:Heap}
theorem ev_inLS {σ:St}{G:Hp}{ta tb:TE}{x:Str}{ys:List Str}(ha:Ev K ta σ G (.str x)) (hb:Ev K tb σ G (.list (ys.map PyData.str))):Ev K (tOp (rIn K false) ta tb) σ G (.bool (decide (x∈ys))):=
 ev_op ha hb fun G1 H u v Q s1 s2 hu hv k=>by
  obtain ⟨p,xs,rfl,hp,hxs⟩:=hv.lst
  have e:=datStrs hxs
  subst e
  have fl:(ys.map V.str).all flatV = true:=by
   rw [List.all_eq_true];intro v m;obtain ⟨s,_,rfl⟩:=List.mem_map.mp m;rfl
  have iv:inV (.str x) (ys.map V.str) = decide (x∈ys):=inV_strs x ys
  rw [hu.str]
  refine ⟨p,_,rfl,.inl (SqL.of (s2 _ _ hp)),rfl,fl,?_⟩
  rw [if_neg Bool.false_ne_true,iv]
  exact k _ G1 H (Grow.refl s2) (dat_bl _)
theorem ok_book (T:Top K mg):FnOk P w K mg base CX0 2 T.f__law_book T.fd__law_book ["deck"] (spBk K):=by
 have G__law_next:FnOk P w K mg base CX0 1 T.f__law_next T.fd__law_next ["deck"] (spDv K 1 RNx):=ok_next T
 refine T.F__law_book.ok sc__law_book (fun vs H Q E h=>?_) (fun cdv A outer s H vs Q E hr h=>?_)
 ·obtain ⟨d,c,G,rfl,_⟩:=h
  rfl
 ·obtain ⟨d,c,G,rfl,sg,gd,gc,D,kk⟩:=h
  have zl:(2000:Nat)≤sizeLine:=by decide
  refine ⟨_,(pss_cons (ps_set (i:=1) sc__law_book.nd rfl (Or.inl rfl) pe_str)
   (pss_cons (ps_set (i:=2) sc__law_book.nd rfl (Or.inl rfl) (pe_call G__law_next hr (by rfl) T.m__law_next T.F__law_next.kp T.b__law_next .nil pass0 (pa_cons (pv 0) pa_nil st_Name)))
   (pss_cons (ps_set (i:=3) sc__law_book.nd rfl (Or.inl rfl) (pe_op op_add pe_int (pe_op op_mod (pe_op op_fdivP (pv 2) pe_int) pe_int)))
   (pss_cons (ps_if (pt_cmpR op_eq (pe_op op_mod (pe_op op_fdivP (pv 2) pe_int) pe_int) pe_int (nomark _)) (pss_cons (ps_set (i:=4) sc__law_book.nd rfl (Or.inl rfl) (pe_lit (d:=(.list [(.str (Str.ofString "s")),(.str (Str.ofString "size")),(.str (Str.ofString "sizes")),(.str (Str.ofString "x")),(.str (Str.ofString "sizesize")),(.str (Str.ofString "si")),(.str (Str.ofString "xs")),(.str (Str.ofString "upp"))])) (by kernel_rfl)))
   (pss_one (ps_ret (pe_callTy (call_tupleK (K:=K) rfl) (by rfl) T.tuple_ bTup (pa_cons (pe_slice (sl_listK (K:=K) rfl) (pe_slice (sl_listK (K:=K) rfl) (pe_op op_cat (pv 4) (pv 4)) (po_some (pe_op op_mod (pe_op op_fdivP (pv 2) pe_int) pe_int)) po_none) po_none (po_some (pv 3))) pa_nil st_Subscript))))) pss_nil)
   (pss_cons (ps_set (i:=5) sc__law_book.nd rfl (Or.inl rfl) (pe_op op_mod (pe_op op_fdivP (pv 2) pe_int) pe_int))
   (pss_cons (ps_set (i:=6) sc__law_book.nd rfl (Or.inl rfl) (pe_op op_mod (pe_op op_fdivP (pv 2) pe_int) (pe_op op_sub pe_int (pv 5))))
   (pss_cons (ps_set (i:=7) sc__law_book.nd rfl (Or.inl rfl) (pe_lst pa_nil))
   (pss_cons (ps_for PassesOwn.never rfl (pi_range1 (by rfl) T.range_ (pa_cons (pv 3) pa_nil st_Name)) (pg_name (i:=8) sc__law_book.nd rfl (Or.inl rfl)) (pss_cons (ps_set (i:=9) sc__law_book.nd rfl (Or.inl rfl) (pe_ix ix_str (pv 1) (pe_op op_mod (pv 2) pe_int) (fun _ _=>rfl)))
   (pss_cons (ps_set (i:=10) sc__law_book.nd rfl (Or.inl rfl) (pe_op op_add_str (pe_op op_add_str (pe_op op_mulS (pv 9) (pv 5)) (pe_ix ix_str (pv 1) (pe_op op_mod (pe_op op_add (pe_op op_fdivP (pv 2) pe_int) (pe_op op_mulW pe_int (pv 8))) pe_int) (fun _ _=>rfl))) (pe_op op_mulS (pv 9) (pv 6))))
   (pss_cons (ps_if (pt_cmpR op_in_seq (pv 10) (pe_lit (d:=(.list [(.str (Str.ofString "like")),(.str (Str.ofString "up")),(.str (Str.ofString "down")),(.str (Str.ofString "then")),(.str (Str.ofString "turn")),(.str (Str.ofString "pick")),(.str (Str.ofString "same")),(.str (Str.ofString "both")),(.str (Str.ofString "not")),(.str (Str.ofString "and")),(.str (Str.ofString "or")),(.str (Str.ofString "under")),(.str (Str.ofString "is"))])) (by kernel_rfl)) (by rfl)) (pss_one (ps_set (i:=10) sc__law_book.nd rfl (Or.inl rfl) (pe_op op_add_str (pv 10) pe_str))) pss_nil)
   (pss_one (ps_expr (pe_bm PySem.F.plainAttrs_list PySem.F.slot_list_append PySem.F.type_list_append mt_append (pv 7) (pa_cons (pv 10) pa_nil st_Name))))))))
   (pss_one (ps_ret (pe_callTy (call_tupleK (K:=K) rfl) (by rfl) T.tuple_ bTup (pa_cons (pv 7) pa_nil st_Name)))))))))))) ,?_⟩
  refine asgs_ev (K:=K) ev_str sg fun v0 G0 H0 g0 hv0=>?_
  rw [hv0.str]
  have k0:=g0.dk D
  refine asgs_dv (K:=K) (d:=d) (c:=c) (dv_call (R:=RNx) rfl eva_nil ⟨.int 0,rfl,0,rfl⟩) g0.gh (k0.gd D gd) (k0.gc D gc) (D.same g0.hh) fun v1 x G1 H1 hx k1 hv1=>?_
  obtain ⟨_,cell,rfl⟩:=hx
  rw [hv1.int]
  have k1:=k0.trans k1
  have b4:=m2 (cell / 26) 4 (by decide)
  refine asgs_ev (K:=K) (ev_add ev_int (ev_mod (ev_div (ev_var rfl (dat_int cell)) ev_int (by decide) (by decide)) ev_int (by decide))) k1.gh fun v3 G2 H2 g2 hv3=>?_
  rw [hv3.int]
  obtain ⟨many,hmany⟩:∃ m:Nat,1 + cell / 26 % 4 = m:=⟨(1 + cell / 26 % 4).toNat,by omega⟩
  rw [hmany]
  have bm:1≤many∧many≤4:=by omega
  clear hmany b4
  have k2:=k1.trans (g2.dk k1.D0)
  refine ifs_ev (evt_test (K:=K) (ev_eqI (ev_mod (ev_div (ev_var rfl (dat_int cell)) ev_int (by decide) (by decide)) ev_int (by decide)) ev_int)) g2.gh (fun _ G3 H3 g3=>?_) (fun _ G3 H3 g3=>?_)
  ·have k3:=k2.trans (g3.dk k2.D0)
   refine asgs_ev (K:=K) (x:=.list (nms.map PyData.str)) ev_lit g3.gh fun v4 G4 H4 g4 hv4=>?_
   have k4:=k3.trans (g4.dk k3.D0)
   have b8:=m2 (cell / 208) 8 (by decide)
   obtain ⟨at_,hat⟩:∃ m:Nat,cell / 208 % 8 = m:=⟨(cell / 208 % 8).toNat,by omega⟩
   have b8' : at_ < 8:=by omega
   have ev1:Ev K (tSl (rSlL K) (tSl (rSlL K) (tOp rCat (tVar 4) (tVar 4)) (tPart (tOp (rI (fun _ j=>0 < j) fun i j=>.int (i % j)) (tOp (rI CDivP fun i j=>.int (i / j)) (tVar 2) (tC (.int 208))) (tC (.int 8)))) tNoPart) tNoPart (tPart (tVar 3))) [some (V.ref d),some (V.str (Str.ofString "abcdefghijklmnopqrstuvwxyz")),some (V.int cell),some (V.int many),some v4,none,none,none,none,none,none] G4 (.list ((((nms ++ nms).drop at_).take many).map PyData.str)):=by
    refine ev_d (ev_slL (lo:=none) (hi:=some (many:Int)) (ev_slL (lo:=some (at_:Int)) (hi:=none) (ev_cat (ev_var rfl hv4) (ev_var rfl hv4) (by show 16≤sizeLine;decide)) (fun H Q q=>⟨_,rfl,_,_,rfl,rfl,⟨by decide,w0 (by decide)⟩,_,_,rfl,rfl,(by show (0:Int) < 8;decide),_,rfl,by rw [hat];exact q⟩) (fun H Q q=>q)) (fun H Q q=>q) (fun H Q q=>⟨_,rfl,_,rfl,q⟩)) ?_
    rw [← List.map_append,sl_from _ at_ (by show at_≤16;omega),sl_to,List.map_take,List.map_drop]
   refine Ev.use ev1 g4.gh fun v5 G5 H5 g5 hv5=>?_
   obtain ⟨p,ys,rfl,hp,hys⟩:=hv5.lst
   have ey:=datStrs hys
   subst ey
   refine ⟨p,_,rfl,.inl ⟨SqL.of (g5.gh _ _ hp),fun t ht=>?_⟩⟩
   have g6:=grow_new (o:=.tup ((((nms ++ nms).drop at_).take many).map V.str)) g5.gh ht
   refine kk _ t _ _ ?_ ?_ ?_ ((k4.trans ((g5.trans g6).dk k4.D0)).up (by decide)) upd_same
   ·rw [List.length_take,List.length_drop]
    show 1≤min many (16 - at_)
    omega
   ·rw [List.length_take];omega
   ·intro z hz
    have:=List.mem_of_mem_drop (List.mem_of_mem_take hz)
    rcases List.mem_append.mp this with h | h <;> exact nms_ok z h
  ·have k3:=k2.trans (g3.dk k2.D0)
   have b8:=m2 (cell / 208) 8 (by decide)
   obtain ⟨place,hpl⟩:∃ m:Nat,cell / 208 % 8 = m:=⟨(cell / 208 % 8).toNat,by omega⟩
   have bp:place < 8:=by omega
   refine asgs_ev (K:=K) (x:=.int (place:Nat)) (ev_d (ev_mod (ev_div (ev_var rfl (dat_int cell)) ev_int (by decide) (by decide)) ev_int (by decide)) (by rw [hpl])) g3.gh fun v5 G4 H4 g4 hv5=>?_
   rw [hv5.int]
   have k4:=k3.trans (g4.dk k3.D0)
   have b9:=m2 (cell / 1664) (8 - place) (by omega)
   obtain ⟨tail,htl⟩:∃ m:Nat,cell / 1664 % (8 - (place:Int)) = m:=⟨(cell / 1664 % (8 - (place:Int))).toNat,by omega⟩
   have bt:tail < 9:=by omega
   refine asgs_ev (K:=K) (x:=.int (tail:Nat)) (ev_d (ev_mod (ev_div (ev_var rfl (dat_int cell)) ev_int (by decide) (by decide)) (ev_sub ev_int (ev_var rfl (dat_int (place:Nat)))) (by omega)) (by rw [htl])) g4.gh fun v6 G5 H5 g5 hv6=>?_
   rw [hv6.int]
   have k5:=k4.trans (g5.dk k4.D0)
   clear htl b9 hpl b8
   refine ⟨(by show 0≤sizeLine;decide),fun l hl=>?_⟩
   obtain ⟨nd,nc⟩:=Dk.ned k5.D0 hl
   have gl:G5 l = none:=g5.gh.free hl
   have k6:Dk 0 d c G5 H5 G5 (upd H5 l (.lst [])):=(Dk.refl g5.gh k5.D0).wr hl gl nd nc _
   refine ⟨_,rfl,(many:Int),rfl,by omega,by omega,for_range (n:=many) (fun i σ H' => ∃ (v8 v9 v10:Option V) (xs:List Str),σ = [some (V.ref d),some (V.str (Str.ofString "abcdefghijklmnopqrstuvwxyz")),some (V.int cell),some (V.int many),none,some (V.int place),some (V.int tail),some (V.ref l),v8,v9,v10]∧Dk 0 d c G5 H5 G5 H' ∧ H' l = some (.lst (xs.map V.str))∧xs.length = i∧∀ z∈xs,wordT z = none) ⟨_,_,_,[],rfl,k6,upd_same,rfl,fun z hz=>by cases hz⟩ ?_ ?_⟩
   ·rintro i σ H' hi ⟨v8,v9,v10,xs,rfl,k7,hk,hxl,hws⟩
    have b26:=m2 cell 26 (by decide)
    have cp:=let_at b26.1 b26.2
    refine asgs_ev (K:=K) (ev_ixS (ev_var rfl (dat_str letters)) (ev_mod (ev_var rfl (dat_int cell)) ev_int (by decide)) (by rw [let_len];omega) cp) k7.gh fun v9' G6 H6 g6 hv9=>?_
    rw [hv9.str]
    generalize 97 + (cell % 26).toNat = p
    have b27:=m2 (cell / 13312 + 5 * (0 + (i:Int))) 26 (by decide)
    have cq:=let_at b27.1 b27.2
    generalize hq:97 + ((cell / 13312 + 5 * (0 + (i:Int))) % 26).toNat = q at cq
    have e1:(⟨#[q]⟩:Str).length = 1:=rfl
    refine asgs_ev (K:=K) (x:=.str (padS p place ++ (⟨#[q]⟩:Str) ++ padS p tail)) (ev_addS (ev_addS (ev_mulS (n:=(place:Int)) (ev_var rfl (dat_str _)) (ev_var rfl (dat_int _)) (by omega) (by omega)) (ev_ixS (ev_var rfl (dat_str letters)) (ev_mod (ev_add (ev_div (ev_var rfl (dat_int cell)) ev_int (by decide) (by decide)) (ev_mul ev_int (ev_var rfl (dat_int _)) (by decide) (by omega))) ev_int (by decide)) (by rw [let_len];omega) cq) (by have:=pad_len p place;show (padS p place).length + 1≤sizeLine;omega)) (ev_mulS (n:=(tail:Int)) (ev_var rfl (dat_str _)) (ev_var rfl (dat_int _)) (by omega) (by omega)) (by
     have h1:=pad_len p place
     have h2:=pad_len p tail
     have h3:=app_len (padS p place) (⟨#[q]⟩:Str)
     show (padS p place ++ (⟨#[q]⟩:Str)).length + (padS p tail).length≤sizeLine
     omega)) g6.gh fun v10' G7 H7 g7 hv10=>?_
    have e10:=hv10.str
    subst e10
    have g67:=g6.trans g7
    have hnl:(padS p place ++ (⟨#[q]⟩:Str) ++ padS p tail).length≤20:=by
     have h1:=pad_len p place
     have h2:=pad_len p tail
     have h3:=app_len (padS p place) (⟨#[q]⟩:Str)
     have h4:=app_len (padS p place ++ (⟨#[q]⟩:Str)) (padS p tail)
     omega
    refine ifs_ev (evt_test (K:=K) (ev_inLS (ys:=wds13) (ev_var rfl (dat_str _)) ev_lit)) g7.gh (fun _ G8 H8 g8=>?_) (fun hni G8 H8 g8=>?_)
    ·refine asg_ev (K:=K) (ev_addS (ev_var rfl (dat_str _)) (ev_str (x:=S "x")) (by have:(S "x").length = 1:=(by decide +kernel);omega)) g8.gh fun v11 G9 H9 g9 hv11=>?_
     rw [hv11.str]
     have g69:=(g67.trans g8).trans g9
     have hkN:=g69.hh _ _ hk
     refine ⟨_,rfl,.inl ⟨rfl,_,SqL.of hkN⟩,_,rfl,l,_,_,rfl,rfl,hkN,(by rw [List.length_map];omega),?_⟩
     refine ⟨_,_,_,xs ++ [(padS p place ++ (⟨#[q]⟩:Str) ++ padS p tail) ++ S "x"],rfl,((k7.trans (g69.dk k7.D0)).wr hl (g69.out hk gl) nd nc _).back,by rw [upd_same,List.map_append];rfl,by rw [List.length_append,hxl];rfl,fun z hz=>?_⟩
     rcases List.mem_append.mp hz with hz | hz
     ·exact hws z hz
     ·rw [List.mem_singleton.mp hz];exact x_ok _
    ·have g69:=g67.trans g8
     have hkN:=g69.hh _ _ hk
     refine ⟨_,rfl,.inl ⟨rfl,_,SqL.of hkN⟩,_,rfl,l,_,_,rfl,rfl,hkN,(by rw [List.length_map];omega),?_⟩
     refine ⟨_,_,_,xs ++ [padS p place ++ (⟨#[q]⟩:Str) ++ padS p tail],rfl,((k7.trans (g69.dk k7.D0)).wr hl (g69.out hk gl) nd nc _).back,by rw [upd_same,List.map_append];rfl,by rw [List.length_append,hxl];rfl,fun z hz=>?_⟩
     rcases List.mem_append.mp hz with hz | hz
     ·exact hws z hz
     ·rw [List.mem_singleton.mp hz];exact name_ok p q place tail (of_decide_eq_false hni)
   ·rintro σ H' ⟨v8,v9,v10,xs,rfl,k7,hk,hxl,hws⟩
    refine ⟨_,rfl,l,_,rfl,.inl ⟨SqL.of hk,fun t ht=>?_⟩⟩
    have g8:=grow_new (o:=.tup (xs.map V.str)) k7.gh ht
    exact kk xs t _ _ (by omega) (by omega) hws (((k5.trans k7).trans (g8.dk k7.D0)).up (by decide)) upd_same
end
end K28
namespace L2
open PySem PySem.Spec PyProof.Rows
def RawD (h:Heap) (d:Addr) (es:Array DictEntry) (ep:Nat):Prop:=∃ o,h.get? d = some o∧o.ExactDict∧o.data = .dict es ep
theorem RawD.keep {h h' : Heap} {d:Addr}{es:Array DictEntry}{ep:Nat}(x:RawD h d es ep) (k:∀ o,h.get? d = some o→h'.get? d = some o):RawD h' d es ep:=let ⟨o,e,r⟩:=x;⟨o,k o e,r⟩
section
variable {prog:Program}{w:World}{A:Around}{E:Value→Shared→Prop}{s:Shared}
theorem RawD.ty {d:Addr}{es:Array DictEntry}{ep:Nat}(x:RawD s.heap d es ep):s.TypeIs (.ref d) "dict" := let ⟨o,e,c,_⟩:=x;⟨o,e,c.1⟩
abbrev kIt (d:Addr) (n ep:Nat):Obj:={ cls:=.type "dict_keyiterator",data:=.fields #[.ref d,.int 0 0,.int n 0,.int ep 0] }
theorem rd_iter {d:Addr}{es:Array DictEntry}{ep:Nat}{Q:Value→Shared→Prop}(hd:(d == sysModules) = false) (x:RawD s.heap d es ep) (q:Q (.ref s.heap.objs.size) { s with heap:=s.heap.push (kIt d es.size ep) }):wpAny (model prog w) A (pyIter (.ref d)) Q E s:=by
 have hT:=x.ty
 obtain ⟨o,e,_,hdat⟩:=x
 refine wpAny_pyIter_slot hT F.slot_dict_iter (wpAny_call_entry F.slot_dict_iter hT F.entry_dict_iter ?_ (F.args_dict_iter_1 _))
 unfold Builtin.«dict.__iter__»;refine wpAny_bind ?_;unfold Builtin.Dict.dictSlotNone
 refine wpAny_bind (wpAny_notOrdered_dict hT (wpAny_pure (a:=Value.ref d) ?_))
 refine wpAny_bind (m:=Builtin.Dict.showsAll d) ?_
 unfold Builtin.Dict.showsAll;rw [if_neg (by rw [hd];exact Bool.false_ne_true)]
 exact wpAny_pure (wpAny_bind (wpAny_dictEntries e hdat (wpAny_bind (wpAny_dictEpoch e hdat (wpAny_bind (wpAny_newObj_type (wpAny_pure ⟨_,rfl, "dict_keyiterator",_,⟨_,Heap.get?_push_size _ rfl,rfl⟩,F.slot_dict_keyiterator_next.lookup,q⟩)))))))
theorem rd_item {it d:Addr}{i ep:Nat}{es:Array DictEntry}{en:DictEntry}{Q:Option Value→Shared→Prop}(hit:s.heap.IsKeyIter it d i es.size ep) (x:RawD s.heap d es ep) (hx:es[i]? = some en)
  (q:∀ h',h'.IsKeyIter it d (i + 1) es.size ep→Heap.SameBut it s.heap h' → Q (some en.key) { s with heap:=h' }):wpAny (model prog w) A (pyNext (.ref it)) Q E s:=by
 obtain ⟨o,ho,hc,hd⟩:=id hit
 obtain ⟨od,hod,_,hdd⟩:=x
 have ty:=hit.typeIs
 unfold pyNext
 refine wpAny_bind (wpAny_attempt (wpAny_callSpecial?_slot (name:=Str.ofString "__next__") ty F.slot_dict_keyiterator_next (wpAny_call_entry F.slot_dict_keyiterator_next ty F.entry_dict_keyiterator_next (wpAny_bind (wpAny_pure (wpAny_bind (wpAny_bind ?_)))) (F.args_dict_keyiterator_next_1 _))))
 first | refine wpAny_bind (wpAny_typeNameOfWhole_keyiter ty (wpAny_pure (wpAny_bind (wpAny_fieldsOf ho hd ?_)))) | refine wpAny_bind (wpAny_typeNameOf_keyiter ty (wpAny_pure (wpAny_bind (wpAny_fieldsOf ho hd ?_))))
 have own:Builtin.Dict_items.ownsTuple "dict_keyiterator" = false:=by decide
 simp only [own,if_false,Bool.false_eq_true]
 show wpAny _ _ (if (Value.ref d == Value.none) = true then _ else _) _ _ s
 rw [if_neg (fun z:(Value.ref d == Value.none) = true=>Bool.false_ne_true z)]
 refine wpAny_bind (wpAny_pure (wpAny_bind (wpAny_dictEntries hod hdd ?_)));rw [if_neg (by simp)]
 refine wpAny_bind (wpAny_pure (wpAny_bind (wpAny_dictEpoch hod hdd ?_)));rw [if_neg (by simp)];refine wpAny_pure ?_
 have lt:i < es.size:=by
  rcases Nat.lt_or_ge i es.size with h | h
  ·exact h
  ·rw [Array.getElem?_eq_none h] at hx;cases hx
 have ee:es[i] = en:=by rw [Array.getElem?_eq_getElem lt] at hx;exact Option.some.inj hx
 simp only [show ¬ ((i:Int) < 0) by omega,if_false,Int.toNat_natCast,Array.getElem?_eq_getElem lt];refine wpAny_bind ?_
 first | refine wpAny_bind (wpAny_typeNameOfWhole_keyiter ty (wpAny_pure (wpAny_bind (wpAny_isOneOf_keyiter ty ?_)))) | refine wpAny_bind (wpAny_typeNameOf_keyiter ty (wpAny_pure (wpAny_bind (wpAny_isOneOf_keyiter ty ?_))))
 refine wpAny_bind (m:=setField (.ref it) 1 (rawInt ((i:Int) + 1))) (wpAny_setField ho hd (by simp) ?_)
 have hit' : (s.heap.update it (Obj.mapFields (·.setIfInBounds 1 (rawInt ((i:Int) + 1))))).IsKeyIter it d (i + 1) es.size ep:=⟨_,Heap.get?_update_self _ ho (Obj.isFreed_of_fields (Obj.data_mapFields hd _)),(Obj.cls_mapFields ..).trans hc,by rw [Obj.data_mapFields hd];simp [rawInt]⟩
 refine wpAny_bind (wpAny_holding (wpAny_bind (wpAny_isOneOf_keyiter (s:={ s with heap:=s.heap.update it (Obj.mapFields (·.setIfInBounds 1 (rawInt ((i:Int) + 1)))) }) hit'.typeIs ?_)))
 show wpAny _ _ (pure es[i].key) _ _ _
 rw [ee]
 exact wpAny_pure (wpAny_pure ⟨_,rfl,wpAny_pure (q _ hit' (Heap.SameBut.update ..))⟩)
theorem rd_end {it d:Addr}{i ep:Nat}{es:Array DictEntry}{Q:Option Value→Shared→Prop}(hh:A.handled = none) (hit:s.heap.IsKeyIter it d i es.size ep) (x:RawD s.heap d es ep) (hx:es.size≤i)
  (q:∀ h',Heap.ExtBut it s.heap h' → Q none { s with heap:=h' }):wpAny (model prog w) A (pyNext (.ref it)) Q E s:=by
 obtain ⟨o,ho,hc,hd⟩:=id hit
 obtain ⟨od,hod,_,hdd⟩:=x
 have ty:=hit.typeIs
 unfold pyNext
 refine wpAny_bind (wpAny_attempt (wpAny_callSpecial?_slot (name:=Str.ofString "__next__") ty F.slot_dict_keyiterator_next (wpAny_call_entry F.slot_dict_keyiterator_next ty F.entry_dict_keyiterator_next (wpAny_bind (wpAny_pure (wpAny_bind (wpAny_bind ?_)))) (F.args_dict_keyiterator_next_1 _))))
 first | refine wpAny_bind (wpAny_typeNameOfWhole_keyiter ty (wpAny_pure (wpAny_bind (wpAny_fieldsOf ho hd ?_)))) | refine wpAny_bind (wpAny_typeNameOf_keyiter ty (wpAny_pure (wpAny_bind (wpAny_fieldsOf ho hd ?_))))
 have own:Builtin.Dict_items.ownsTuple "dict_keyiterator" = false:=by decide
 simp only [own,if_false,Bool.false_eq_true]
 show wpAny _ _ (if (Value.ref d == Value.none) = true then _ else _) _ _ s
 rw [if_neg (fun z:(Value.ref d == Value.none) = true=>Bool.false_ne_true z)]
 refine wpAny_bind (wpAny_pure (wpAny_bind (wpAny_dictEntries hod hdd ?_)));rw [if_neg (by simp)]
 refine wpAny_bind (wpAny_pure (wpAny_bind (wpAny_dictEpoch hod hdd ?_)));rw [if_neg (by simp)];refine wpAny_pure ?_
 simp only [show ¬ ((i:Int) < 0) by omega,if_false,Int.toNat_natCast,Array.getElem?_eq_none hx];refine wpAny_bind ?_
 first | refine wpAny_bind (wpAny_typeNameOfWhole_keyiter ty (wpAny_pure ?_)) | refine wpAny_bind (wpAny_typeNameOf_keyiter ty (wpAny_pure ?_))
 refine wpAny_bind (m:=setField (.ref it) 0 .none) (wpAny_setField ho hd (by simp) (wpAny_bind (m:=newExc (.type "StopIteration") []) ?_))
 simp only [newTuple,newExc];refine wpAny_bind (wpAny_newObj_type (wpAny_bind (m:=firstArgMember _ _) (wpAny_of_eq (a:=Value.none) (by first | rfl | (simp only [firstArgMember];rfl)) (wpAny_newObj_type ?_ (by size_fits)))) (by size_fits))
 simp only [raiseNew];refine wpAny_bind (wpAny_handled ?_);rw [show A.in1.handled = none from hh]
 refine wpAny_bind (wpAny_pure (wpAny_throw ?_))
 exact wpAny_bind (wpAny_isInstance (T:= "StopIteration") (b:=true) ⟨_,Heap.get?_push_size _ rfl,rfl⟩ isSubtype_stop (wpAny_pure (q _ (((Heap.SameBut.update ..).extBut.push _).push _))))
theorem rd_walk (hh:A.handled = none) (I d:Addr) (hne:d≠I) (es:Array DictEntry) (ep:Nat):Walks prog w A I [I,d] [I] es.size (fun i v=>∃ en,es[i]? = some en∧v = en.key) (fun i h=>h.IsKeyIter I d i es.size ep∧RawD h d es ep) where
 sub:=fun b hb=>by simp at hb;simp [hb]
 frame:=fun _ _ _ st hk=>⟨st.1.at fun o e=>hk I (by simp) o e,st.2.keep fun o e=>hk d (by simp) o e⟩
 item:=fun i s Q E hi st hQ=>rd_item st.1 st.2 (Array.getElem?_eq_getElem hi) fun h' hit' hs' => hQ _ h' s.toks ⟨_,Array.getElem?_eq_getElem hi,rfl⟩ ⟨hit',st.2.keep fun o e=>hs'.extBut d o hne e⟩ fun b o hb e=>hs'.extBut b o (fun h=>hb (by simp [h])) e
 done:=fun s Q E st hQ=>rd_end hh st.1 st.2 (Nat.le_refl _) fun h' he' => hQ h' s.toks fun b o hb e=>he' b o (fun h=>hb (by simp [h])) e
 self:=fun _ _ _ _ st hQ=>wpAny_pyIter_keyiter st.1 hQ
theorem len_slot_dict:typeLookup (.type "dict") "__len__" = pure (some (.builtin "dict.__len__")):=by rw [typeLookup_type,builtinLookup_eq_fast];kernel_rfl
theorem extend_dict {R:Result→Shared→Prop}(hh:A.handled = none) (S d:Addr) (res:Value) (c0:Nat) {es:Array DictEntry}{ep:Nat}(hd:(d == sysModules) = false) (x:RawD s.heap d es ep) (hSd:S≠d)
  (hS:s.heap.get? S = some { cls:=.type "list",data:=.seq #[] c0 }) (hn:es.size≤sizeLine)
  (hR:∀ s' acc' c',Moved [S,s.heap.objs.size] (fun a b=>b = a) { s with heap:=s.heap.push (kIt d es.size ep) } s' → s'.heap.get? S = some { cls:=.type "list",dict:=none,data:=.seq acc' c',slots:=#[] }→ItemsOf (fun i v=>∃ en,es[i]? = some en∧v = en.key) acc' es.size→R (.ok (.ret res)) s'):
  wpAny (model prog w) A.in1 (Builtin.List.listExtendWith (.ref S) (.ref d) res)
   (fun fin s' => match fin with | .done f=>R (.ok f) s' | .again c' => c'.quiet = true∧codeAny (model prog w) A c' R s') (fun e s' => R (.error e) s') s:=by
 have hT:=x.ty
 have ltS:=Heap.lt_size hS
 have ltd:d < s.heap.objs.size:=by obtain ⟨o,e,_⟩:=id x;exact Heap.lt_size e
 unfold Builtin.List.listExtendWith
 refine wpAny_bind (wpAny_typeOf hT ?_)
 have z1:Builtin.List.listSameRef (.ref S) (.ref d) = false:=by simp [Builtin.List.listSameRef,hSd]
 rw [if_neg (by rw [z1];decide)]
 refine wpAny_bind (rd_iter hd x (wpAny_bind (wpAny_holding ?_)))
 have hT1:Shared.TypeIs { s with heap:=s.heap.push (kIt d es.size ep) } (.ref d) "dict" := by
  obtain ⟨o,e,c,_⟩:=id x
  exact ⟨o,Heap.get?_push_of_some _ e,c.1⟩
 unfold Builtin.List.listLengthHint
 refine wpAny_bind (wpAny_specialOf hT1 len_slot_dict ?_)
 generalize hid:("dict.__len__" : String) = id0
 wp_delta
 rw [show splitId id0 = some ("dict", "__len__") from by subst hid;decide +kernel]
 subst hid
 refine wpAny_bind (wpAny_isInstance (b:=true) hT1 (by rw [isSubtype_type];kernel_rfl) ?_)
 rw [if_neg (show ¬ ((!true) = true) by decide)]
 dsimp only
 rw [if_pos (by decide +kernel)]
 refine wpAny_bind (wpAny_typeOf hT1 (wpAny_pure ?_))
 rw [if_pos (by decide +kernel)]
 refine wpAny_bind (wpAny_rule (wpAny_bind ?_))
 have hSp:(s.heap.push (kIt d es.size ep)).get? S = some { cls:=.type "list",data:=.seq #[] c0 }:=Heap.get?_push_of_some _ hS
 show wpAny _ A.in1 (updateSeq S (·.push .none) >>= fun _=>updateSeq S (·.pop)) _ _ _
 refine wpAny_bind (wpAny_updateSeq (s:={ s with heap:=s.heap.push (kIt d es.size ep) }) hSp rfl ?_)
 have q2:=Heap.get?_update_self (Obj.mapSeq (·.push Value.none)) hSp rfl
 refine wpAny_updateSeq (hz:=by seq_fits) q2 rfl ?_
 have q3:=Heap.get?_update_self (Obj.mapSeq (·.pop)) q2 rfl
 have oth:∀ b o,b≠S→(s.heap.push (kIt d es.size ep)).get? b = some o→(((s.heap.push (kIt d es.size ep)).update S (Obj.mapSeq (·.push Value.none))).update S (Obj.mapSeq (·.pop))).get? b = some o:=
  fun b o hb e=>(Heap.get?_update_other _ _ (Ne.symm hb)).trans ((Heap.get?_update_other _ _ (Ne.symm hb)).trans e)
 have ndI:d≠s.heap.objs.size:=Nat.ne_of_lt ltd
 have nSI:S≠s.heap.objs.size:=Nat.ne_of_lt ltS
 have W:=(rd_walk (prog:=prog) (w:=w) (A:=A.in1) (show A.in1.handled = none from hh) s.heap.objs.size d ndI es ep).toS
 have hSf:S ∉ [s.heap.objs.size,d]:=fun hm=>by
  rcases List.mem_cons.mp hm with z | z
  ·exact nSI z
  ·exact hSd (List.mem_singleton.mp z)
 refine wpAny_pure ⟨plainId_quiet F.plain_extend_loop _,codeAny_extend_loopS W hn S hSf _ es.size 0 _ _ _ rfl (Nat.zero_le _) ⟨?_,?_⟩ q3 (ItemsOf.nil _) fun s' acc' c' hm hS' hacc=>?_⟩
 ·exact ⟨_,oth _ _ (Ne.symm nSI) (Heap.get?_push_size _ rfl),rfl,rfl⟩
 ·exact x.keep fun o e=>oth d o (Ne.symm hSd) (Heap.get?_push_of_some _ e)
 ·exact hR s' acc' c' ⟨fun b o hb e=>hm.heap b o hb (oth b o (fun h=>hb (by simp [h])) e),hm.gens,hm.drawn,hm.os,hm.toks⟩ hS' hacc
theorem call_list_dict {Q:Value→Shared→Prop}(hh:A.handled = none) {d:Addr}{es:Array DictEntry}{ep:Nat}(hd:(d == sysModules) = false) (x:RawD s.heap d es ep) (hn:es.size≤sizeLine)
  (q:∀ s' acc' c',(∀ b o,s.heap.get? b = some o→s'.heap.get? b = some o)→s' = { s with heap:=s'.heap,toks:=s'.toks }→s'.heap.get? s.heap.objs.size = some { cls:=.type "list",dict:=none,data:=.seq acc' c',slots:=#[] }→ItemsOf (fun i v=>∃ en,es[i]? = some en∧v = en.key) acc' es.size→Q (.ref s.heap.objs.size) s'):
  wpAny (model prog w) A (call (.type "list") [.ref d]) Q E s:=by
 have ltd:d < s.heap.objs.size:=by obtain ⟨o,e,_⟩:=id x;exact Heap.lt_size e
 refine callType_codes (Q₁:=fun obj s₁=>obj = .ref s.heap.objs.size∧s₁ = { s with heap:=s.heap.push { cls:=.type "list",data:=.seq #[] } }) F.called_list (F.typeCall_list_1 _) F.entry_list_init (code_list_new _ ⟨rfl,rfl⟩) fun obj s1 h1=>?_
 obtain ⟨rfl,rfl⟩:=h1
 have hS:(s.heap.push { cls:=.type "list",data:=.seq #[] }).get? s.heap.objs.size = some { cls:=.type "list",data:=.seq #[] }:=Heap.get?_push_size _ rfl
 refine ⟨⟨_,hS,rfl⟩,F.args_list_init_2 _ _,?_⟩
 refine wpAny_bind (m:=Builtin.List.listItems (.ref s.heap.objs.size)) ?_
 unfold Builtin.List.listItems
 refine wpAny_bind (wpAny_seqItems hS rfl (wpAny_pure ?_))
 refine wpAny_bind (m:=updateSeq s.heap.objs.size (fun _=>#[])) (wpAny_updateSeq hS rfl ?_)
 have hS2:=Heap.get?_update_self (Obj.mapSeq (fun _=>(#[]:Array Value))) hS rfl
 have oth:∀ b o,b≠s.heap.objs.size→(s.heap.push { cls:=.type "list",data:=.seq #[] }).get? b = some o→((s.heap.push { cls:=.type "list",data:=.seq #[] }).update s.heap.objs.size (Obj.mapSeq (fun _=>(#[]:Array Value)))).get? b = some o:=fun b o hb e=>(Heap.get?_update_other _ _ (Ne.symm hb)).trans e
 have old:∀ b o,s.heap.get? b = some o→((s.heap.push { cls:=.type "list",data:=.seq #[] }).update s.heap.objs.size (Obj.mapSeq (fun _=>(#[]:Array Value)))).get? b = some o:=fun b o e=>oth b o (Nat.ne_of_lt (Heap.lt_size e)) (Heap.get?_push_of_some _ e)
 refine wpAny_bind (wpAny_letGo ?_)
 refine extend_dict (A:=A.in1) (prog:=prog) (w:=w) (s:={ s with heap:=(s.heap.push { cls:=.type "list",data:=.seq #[] }).update s.heap.objs.size (Obj.mapSeq (fun _=>(#[]:Array Value))) }) (show A.in1.handled = none from hh) s.heap.objs.size d .none _ hd (x.keep fun o e=>old d o e) (Nat.ne_of_gt ltd) hS2 hn fun s' acc' c' hm hS' hacc=>?_
 refine ⟨rfl,q s' acc' c' (fun b o e=>?_) ?_ hS' hacc⟩
 ·have hb:=Heap.lt_size e
  refine hm.heap b o (fun hmem=>?_) (Heap.get?_push_of_some _ (old b o e))
  have hsz:((s.heap.push { cls:=.type "list",data:=.seq #[] }).update s.heap.objs.size (Obj.mapSeq (fun _=>(#[]:Array Value)))).objs.size = s.heap.objs.size + 1:=by rw [Heap.size_update,Heap.size_push]
  rcases List.mem_cons.mp hmem with z | z
  ·exact neLt hb z
  ·have z' := List.mem_singleton.mp z
   rw [show (Shared.heap { s with heap:=(s.heap.push { cls:=.type "list",data:=.seq #[] }).update s.heap.objs.size (Obj.mapSeq (fun _=>(#[]:Array Value))) }).objs.size = s.heap.objs.size + 1 from hsz] at z'
   exact neLt (Nat.lt_succ_of_lt hb) z'
 ·obtain ⟨h1,h2,h3,h4,h5⟩:=s'
  have e1:h2 = s.gens:=hm.gens
  have e2:h3 = s.drawn:=hm.drawn
  have e3:h5 = s.os:=hm.os
  subst e1 e2 e3
  rfl
end
end L2
namespace L2
open PySem PySem.Spec PyProof.Rows
section
variable {prog:Program}{w:World}{K:Type}[DecidableEq K] (knd:KeyKind prog w K)
def It2 (h:Heap):List (List K)→List Value→Prop:=Paired fun k v=>∃ b,v = .ref b∧IsTupleKey knd h k b
def IsTup2 (h:Heap) (ks:List (List K)) (a:Addr):Prop:=∃ o items n,h.get? a = some o∧o.cls = .type "tuple" ∧ o.data = .seq items n∧It2 knd h ks items.toList
variable {knd}
theorem It2.inj {h:Heap}:∀ {x y:List (List K)}{vs:List Value},It2 knd h x vs→It2 knd h y vs→x = y
 | _,_,_,.nil,.nil=>rfl
 | _,_,_,.cons ⟨b,e,i⟩ r,.cons ⟨b',e',i'⟩ r' => by
  have z:Value.ref b = Value.ref b' := e.symm.trans e'
  cases z
  rw [i.inj i',It2.inj r r']
theorem IsTup2.ty {s:Shared}{ks:List (List K)}{a:Addr}(x:IsTup2 knd s.heap ks a):s.TypeIs (.ref a) "tuple" := let ⟨o,_,_,ho,hc,_⟩:=x;⟨o,ho,hc⟩
theorem IsTup2.inj {h:Heap}{a:Addr}{x y:List (List K)}(hx:IsTup2 knd h x a) (hy:IsTup2 knd h y a):x = y:=by
 obtain ⟨o,its,n,ho,_,hd,hi⟩:=hx
 obtain ⟨o',its',n',ho',_,hd',hi'⟩:=hy
 rw [ho] at ho'
 cases ho'
 rw [hd] at hd'
 cases hd'
 exact hi.inj hi'
theorem It2.map {h h' : Heap} (f:∀ k b,IsTupleKey knd h k b→IsTupleKey knd h' k b):∀ {ks:List (List K)}{vs:List Value},It2 knd h ks vs→It2 knd h' ks vs
 | _,_,.nil=>.nil
 | _,_,.cons ⟨b,e,i⟩ r=>.cons ⟨b,e,f _ _ i⟩ (It2.map f r)
theorem IsTup2.keeps {h h' : Heap} {ks:List (List K)}{a d:Addr}{o:Obj}{es ep} (x:IsTup2 knd h ks a) (ho:h.get? d = some o) (hd:o.data = .dict es ep) (hs:Heap.SameBut d h h'):IsTup2 knd h' ks a:=by
 obtain ⟨o',its,n,ho',hc,hd',hi⟩:=x
 have ne:a≠d:=by
  rintro rfl
  rw [ho] at ho';cases ho'
  rw [hd] at hd';cases hd'
 exact ⟨o',its,n,(hs.2 a ne).trans ho',hc,hd',hi.map fun k b i=>i.keeps ho hd hs⟩
def hash2 (knd:KeyKind prog w K) (ks:List (List K)):Int:=reduceHash (Builtin.Tuple.tupleHashOf (ks.map (tupleKeyHash knd)))
def draws2 (ks:List (List K)):Nat:=(ks.map fun k=>k.length + 1).sum
variable {A:Around}{E:Value→Shared→Prop}{s:Shared}
theorem hash_tup2 {ks:List (List K)}{a:Addr}{Q:Int→Shared→Prop}(hu:A.units + 1 < cLine) (hk:IsTup2 knd s.heap ks a) (h:Q (hash2 knd ks) { s with toks:=s.toks + (draws2 ks + 1) }):wpAny (model prog w) A (pyHash (.ref a)) Q E s:=by
 have hT:=hk.ty
 obtain ⟨o,items,n,ho,_,hd,hi⟩:=hk
 unfold pyHash
 first | unfold pyHashByItsType | skip
 first | refine wpAny_bind (wpAny_cRoomFor_or (.inr (by omega)) ?_) | skip
 refine wpAny_bind (wpAny_specialOf hT F.slot_tuple_hash.lookup ?_)
 rw [if_neg (by rw [beq_builtin_none];exact Bool.false_ne_true)]
 refine wpAny_bind (wpAny_specialOf hT F.slot_tuple_hash.lookup ?_)
 refine wpAny_bind (m:=callSpecialIfBoundUnlessNone? (.ref a) "__hash__" _) (wpAny_callSpecialIfBoundUnlessNone?_slot hT F.slot_tuple_hash (wpAny_call_entry F.slot_tuple_hash hT F.entry_tuple_hash (wpAny_bind (m:=Builtin.Tuple.tupleItemsOf (.ref a)) (wpAny_tupleItemsOf ho hd (wpAny_bind ?_))) (F.args_tuple_hash_1 _)))
 rw [← Array.forIn_toList]
 refine wpAny_forIn_list _ (fun rest (b:Array Int) s' => ∃ done left,ks = done ++ left∧It2 knd s.heap left rest∧b.toList = done.map (tupleKeyHash knd)∧s' = { s with toks:=s.toks + draws2 done }) _ ?_ ?_ _ _ ⟨[],ks,rfl,hi,rfl,rfl⟩
 ·rintro x rest b s' ⟨done,left,rfl,hl,hb,rfl⟩
  cases hl with
  | @cons k _ ks' _ h1 hl' =>
   obtain ⟨c,rfl,hc⟩:=h1
   have hdr:draws2 (done ++ [k]) = draws2 done + (k.length + 1):=by simp [draws2]
   refine wpAny_bind (wpAny_pyHash_tuple (s:={ s with toks:=s.toks + draws2 done }) (by show A.units + 1 < cLine;exact hu) hc ?_)
   have fin:({ s with toks:=s.toks + draws2 done + (k.length + 1) }:Shared) = { s with toks:=s.toks + draws2 (done ++ [k]) }:=by rw [hdr,Nat.add_assoc]
   first
    | exact wpAny_pure ⟨done ++ [k],ks',by simp,hl',by simp [hb],fin⟩
    | exact wpAny_bind (wpAny_pure (wpAny_pure ⟨done ++ [k],ks',by simp,hl',by simp [hb],fin⟩))
 ·rintro b s' ⟨done,left,rfl,hl,hb,rfl⟩
  cases hl
  rw [List.append_nil] at h
  show wpAny _ _ (retInt (Builtin.Tuple.tupleHashOf b.toList)) _ _ _
  rw [hb]
  refine wpAny_ret_mkInt ?_
  unfold hash2 at h
  generalize Builtin.Tuple.tupleHashOf (done.map (tupleKeyHash knd)) = x at h
  show wpAny _ _ (if (decide (-(2:Int) ^ 63≤x) && decide (x < 2 ^ 63)) = true then _ else _) Q E _
  unfold reduceHash at h
  by_cases hr:(decide (-(2:Int) ^ 63≤x) && decide (x < 2 ^ 63)) = true
  ·rw [if_pos hr];rw [if_pos hr] at h;exact wpAny_pure (by simpa [Nat.add_assoc] using h)
  ·rw [if_neg hr];rw [if_neg hr] at h;exact wpAny_bind (wpAny_rule (wpAny_pure (by simpa [Nat.add_assoc] using h)))
theorem eq_tree2 {x y:List (List K)}{a b:Addr}{P:Fin→Shared→Prop}(hu:A.units < cLine) (hx:IsTup2 knd s.heap x a) (hy:IsTup2 knd s.heap y b) (h:P (.done (.ret (.bool (decide (x = y))))) s):wpAny (model prog w) A (Builtin.«tuple.__eq__» ⟨[.ref a,.ref b],[]⟩) P E s:=by
 have hTb:=hy.ty
 obtain ⟨oa,xs,na,hoa,_,hda,hia⟩:=hx
 obtain ⟨ob,ys,nb,hob,_,hdb,hib⟩:=hy
 refine wpAny_bind (m:=isInstance (.ref b) (.type "tuple")) (wpAny_isInstance hTb isSubtype_tuple_tuple ?_)
 simp only [Bool.not_true,if_false,Bool.false_eq_true]
 refine wpAny_bind (wpAny_tupleItemsOf hoa hda (wpAny_bind (wpAny_tupleItemsOf hob hdb (wpAny_bind ?_))))
 refine wpAny_forIn_list _ (fun rest r s' => r.1 = none∧s' = s∧∃ x' y' xs' ys',rest = List.zip xs' ys' ∧ It2 knd s.heap x' xs' ∧ It2 knd s.heap y' ys' ∧ decide (x' = y') = decide (x = y)∧(xs'.length == ys'.length) = (xs.size == ys.size)) _ ?_ ?_ _ _ ⟨rfl,rfl,x,y,xs.toList,ys.toList,rfl,hia,hib,rfl,by simp⟩
 ·rintro ⟨u,v⟩ rest r s' ⟨hr,rfl,x',y',xs',ys',hz,hx',hy',hdec,hlen⟩
  cases hx' with
  | nil=>simp at hz
  | @cons k1 u' x'' xs'' h1 hx'' =>
   cases hy' with
   | nil=>simp at hz
   | @cons k2 v' y'' ys'' h2 hy'' =>
    simp only [List.cons.injEq,List.zip_cons_cons,Prod.mk.injEq] at hz
    obtain ⟨⟨rfl,rfl⟩,rfl⟩:=hz
    obtain ⟨c1,rfl,i1⟩:=h1
    obtain ⟨c2,rfl,i2⟩:=h2
    refine wpAny_bind (wpAny_eqBool_tuple hu i1 i2 ?_)
    by_cases hk:k1 = k2
    ·subst hk
     rw [decide_eq_true rfl]
     simp only [Bool.not_true,if_false,Bool.false_eq_true]
     refine wpAny_pure ⟨rfl,rfl,x'',y'',xs'',ys'',rfl,hx'',hy'',?_,by simpa using hlen⟩
     rw [← hdec]
     by_cases hxy:x'' = y'' <;> simp [hxy]
    ·rw [decide_eq_false hk]
     simp only [Bool.not_false,if_true]
     have hf:decide (x = y) = false:=by rw [← hdec];simp [hk]
     rw [hf] at h
     exact wpAny_bind (wpAny_pure (wpAny_pure (wpAny_pure h)))
 ·rintro ⟨r1,r2⟩ s' ⟨hr,rfl,x',y',xs',ys',hz,hx',hy',hdec,hlen⟩
  simp only at hr
  subst hr
  refine wpAny_pure ?_
  have e:(xs.size == ys.size) = decide (x = y):=by
   rw [← hdec,← hlen]
   cases hx' with
   | nil=>cases hy' with
    | nil=>simp
    | cons _ _=>simp
   | cons _ _=>cases hy' with
    | nil=>simp
    | cons _ _=>simp at hz
  show P (.done (.ret (.bool (xs.size == ys.size)))) s'
  rw [e];exact h
theorem eq_tup2 {x y:List (List K)}{a b:Addr}{Q:Bool→Shared→Prop}(hu:A.units + 1 < cLine) (hx:IsTup2 knd s.heap x a) (hy:IsTup2 knd s.heap y b) (h:Q (decide (x = y)) s):wpAny (model prog w) A (eqBool (.ref a) (.ref b)) Q E s:=by
 unfold eqBool
 try with_reducible refine wpAny_holding ?_
 by_cases hab:(Value.ref a == Value.ref b) = true
 ·rw [if_pos hab]
  have e:a = b:=by have:=eq_of_beq hab;injection this
  subst e
  obtain rfl:=hx.inj hy
  exact wpAny_bind (wpAny_rule (wpAny_pure (by simpa using h)))
 ·rw [if_neg hab]
  exact wpAny_bind (wpAny_richCompare_same_room (op:=.Eq) hx.ty hy.ty F.slot_tuple_eq (wpAny_call_entry F.slot_tuple_eq hx.ty F.entry_tuple_eq (eq_tree2 (by show A.units + 1 < cLine;exact hu) hx hy ⟨_,rfl,(fun e=>nomatch e),wpAny_truthy_bool h⟩) (F.args_tuple_eq_2 _ _)) (by omega))
theorem quiet1 {ks:List K}{a:Addr}{m:Nat}{Q:Bool→Shared→Prop}(hk:IsTupleKey knd s.heap ks a) (h:Q true s):wpAny (model prog w) A (eqIsQuiet (m + 1) (.ref a)) Q E s:=by
 have hT:=hk.typeIs
 obtain ⟨o,items,n,ho,_,hd,hi⟩:=hk
 unfold eqIsQuiet
 refine wpAny_bind (wpAny_specialOf hT F.slot_tuple_eq.lookup (wpAny_bind (m:=isInstance (.ref a) (.type "tuple")) (wpAny_isInstance hT isSubtype_tuple_tuple ?_)))
 simp only [Bool.not_true,if_false,Bool.false_eq_true]
 refine wpAny_bind (wpAny_seqItems ho hd (wpAny_bind (m:=forIn items _ _) ?_));rw [← Array.forIn_toList]
 refine wpAny_forIn_list _ (fun rest r s' => r.1 = none∧s' = s∧∀ v∈rest,carriedByValue v = true) _ ?_ ?_ _ _ ⟨rfl,rfl,hi.byValue⟩
 ·rintro v rest r s' ⟨hr,rfl,hall⟩
  rw [eqIsQuiet_byValue _ (hall v List.mem_cons_self)];refine wpAny_bind (wpAny_pure ?_)
  simp only [Bool.not_true,if_false,Bool.false_eq_true]
  exact wpAny_pure ⟨rfl,rfl,fun u hu' => hall u (List.mem_cons_of_mem _ hu')⟩
 ·rintro ⟨r1,r2⟩ s' ⟨hr,rfl,_⟩
  simp only at hr
  subst hr
  exact wpAny_pure h
theorem quiet2 {ks:List (List K)}{a:Addr}{Q:Bool→Shared→Prop}(hk:IsTup2 knd s.heap ks a) (h:Q true s):wpAny (model prog w) A (eqIsQuiet 8 (.ref a)) Q E s:=by
 have hT:=hk.ty
 obtain ⟨o,items,n,ho,_,hd,hi⟩:=hk
 unfold eqIsQuiet
 refine wpAny_bind (wpAny_specialOf hT F.slot_tuple_eq.lookup (wpAny_bind (m:=isInstance (.ref a) (.type "tuple")) (wpAny_isInstance hT isSubtype_tuple_tuple ?_)))
 simp only [Bool.not_true,if_false,Bool.false_eq_true]
 refine wpAny_bind (wpAny_seqItems ho hd (wpAny_bind (m:=forIn items _ _) ?_));rw [← Array.forIn_toList]
 refine wpAny_forIn_list _ (fun rest r s' => r.1 = none∧s' = s∧∃ left,It2 knd s.heap left rest) _ ?_ ?_ _ _ ⟨rfl,rfl,ks,hi⟩
 ·rintro v rest r s' ⟨hr,rfl,left,hl⟩
  cases hl with
  | @cons k _ ks' _ h1 hl' =>
   obtain ⟨c,rfl,hc⟩:=h1
   refine wpAny_bind (quiet1 (m:=6) hc ?_)
   simp only [Bool.not_true,if_false,Bool.false_eq_true]
   exact wpAny_pure ⟨rfl,rfl,ks',hl'⟩
 ·rintro ⟨r1,r2⟩ s' ⟨hr,rfl,_⟩
  simp only at hr
  subst hr
  exact wpAny_pure h
end
def kind2 {prog:Program}{w:World}{K:Type}[DecidableEq K] (knd:KeyKind prog w K):HeapKind prog w (List (List K)) where
 is:=IsTup2 knd
 hash:=hash2 knd
 draws:=fun ks=>draws2 ks + 1
 room:=fun A=>A.units + 1 < cLine
 inj:=fun hx hy=>hx.inj hy
 keeps:=fun x ho hd hs=>x.keeps ho hd hs
 pyHash:=fun hu hk h=>hash_tup2 hu hk h
 eqBool:=fun hu hx hy h=>eq_tup2 hu hx hy h
 quiet:=fun hk h=>quiet2 hk h
end L2
namespace L2
open PySem PySem.Spec PyProof.Rows
section
variable {X:Cx}
end
section
variable {K:PySem.W.Frag}{σ:St}{G:Hp}{ta tb:TE}{a b d:PyData}
def kD:Key→PyData
 | .inl i=>.int i
 | .inr x=>.str x
theorem datK {v:V}{k:Key}(h:Dat K G v (kD k)):v = kV k:=by
 cases k with
 | inl i=>exact h.int
 | inr x=>exact h.str
end
end L2
namespace L2
open PySem PySem.Spec PyProof.Rows
abbrev KX:=List (List Key)
def kdat (k:KX):PyData:=.tuple (k.map fun l=>.tuple (l.map kD))
def dxOk (P:Program) (w:World) (a:Addr) (xs:List (KX × Addr)) (h:Heap):Prop:=(a == sysModules) = false∧xs.length≤sizeLine∧∃ o es ep,h.get? a = some o∧o.ExactDict∧o.data = .dict es ep∧es.toList = xs.map (fun x=>entryOfKey (kind2 (mixKind P w)) (x.1,x.2,.bool true))∧(xs.map (·.1)).Nodup
def dX (P:Program) (w:World) (a:Addr) (xs:List (KX × Addr)):HO:=.ext (dxOk P w a xs)
def hasX (xs:List (KX × Addr)) (k:KX):Bool:=xs.any fun x=>decide (x.1 = k)
theorem hasX_iff {xs:List (KX × Addr)}{k:KX}:hasX xs k = true↔k∈xs.map (·.1):=by
 unfold hasX
 rw [List.any_eq_true]
 constructor
 ·rintro ⟨x,hx,e⟩
  exact List.mem_map.mpr ⟨x,hx,of_decide_eq_true e⟩
 ·intro h
  obtain ⟨x,hx,e⟩:=List.mem_map.mp h
  exact ⟨x,hx,decide_eq_true e⟩
def putX (xs:List (KX × Addr)) (k:KX) (b:Addr):List (KX × Addr):=if hasX xs k = true then xs else xs ++ [(k,b)]
theorem dx_obj {P:Program}{w:World}{H:Hp}{h:Heap}{a:Addr}{xs:List (KX × Addr)}(x:dxOk P w a xs h):ObjOk P w H h a (dX P w a xs):=by
 refine ⟨x,?_,fun h1 h2 y k=>?_⟩
 ·obtain ⟨_,_,o,_,_,e,_⟩:=x
  exact ⟨o,e⟩
 ·obtain ⟨z1,z2,o,es,ep,e,r⟩:=y
  exact ⟨z1,z2,o,es,ep,k o e,r⟩
section
variable {X:Cx}{pins:List (Addr × Obj)}{σ:St}{H G:Hp}{s:Shared}
theorem it2_of (I:Inv X pins σ H s) (sg:Same G H):∀ {k:KX}{xs:List V}{its:List Value},Vals xs its→Dats X.K G xs (k.map fun l=>.tuple (l.map kD))→It2 (mixKind X.prog X.w) s.heap k its
 | [],_,_,r,h=>by
  have e:=h.nil
  subst e
  cases r
  exact .nil
 | l :: k,_,_,r,h=>by
  obtain ⟨y,ys,rfl,hy,hr⟩:=h.cons
  cases r with
  | cons r1 r2=>
   obtain ⟨p,zs,rfl,hp,hz⟩:=Dat.tup hy
   cases r1
   obtain ⟨jts,rj,⟨o,h1,h2,n,h3⟩,zz⟩:=I.tuple (sg.tup hp)
   clear zz
   have e:zs = l.map kV:=by
    clear rj hp hr r2 hy h
    induction l generalizing zs with
    | nil=>exact hz.nil
    | cons q l ih=>
     obtain ⟨u,us,rfl,hu,hus⟩:=hz.cons
     rw [datK hu,ih us hus];rfl
   subst e
   exact .cons ⟨p,rfl,o,jts.toArray,n,h1,h2,h3,by simpa using items_are rj⟩ (it2_of I sg r2 hr)
theorem is2_of (I:Inv X pins σ H s) (sg:Same G H) {k:KX}{b:Addr}(h:Dat X.K G (.ref b) (kdat k)):IsTup2 (mixKind X.prog X.w) s.heap k b:=by
 obtain ⟨p,xs,e,hp,hx⟩:=Dat.tup h
 cases e
 obtain ⟨its,r,⟨o,h1,h2,n,h3⟩,_⟩:=I.tuple (sg.tup hp)
 exact ⟨o,its.toArray,n,h1,h2,h3,by simpa using it2_of I sg r hx⟩
def tDNewX (P:Program) (w:World):TE:=fun _ H Q=>∀ p,H p = none→Q (.ref p) (upd H p (dX P w p []))
theorem pe_dnewX {P:Program}{w:World}(eP:X.prog = P) (ew:X.w = w) {pos:Pos}:PE X (.Dict [] [] pos) (tDNewX P w):=by
 subst eP ew
 exact fun pins s σ H Q I h=>
 wpAny_Dict_empty ⟨.ref s.heap.objs.size,_,I.laid (a:=s.heap.objs.size) (o:=dX X.prog X.w s.heap.objs.size []) (t' := s.toks) (fun _ _ q=>Heap.get?_push_of_some _ q) (Nat.le_refl _)
  (dx_obj ⟨beq_eq_false_iff_ne.mpr (Ne.symm (Nat.ne_of_lt I.big)),Nat.zero_le _,_,#[],0,Heap.get?_push_size _ rfl,⟨rfl,rfl,rfl⟩,rfl,rfl,List.nodup_nil⟩),rfl,h _ (I.hok.fresh (Nat.le_refl _))⟩
def sDPutX (P:Program) (w:World) (K:PySem.W.Frag) (td ty tv:TE):TS:=fun D σ H=>tv σ H fun v H1=>td σ H1 fun x H2=>ty σ H2 fun y H3=>∃ (a b:Addr) (k:KX) (xs:List (KX × Addr)) (G:Hp),v = .bl true∧x = .ref a∧y = .ref b∧H3 a = some (dX P w a xs)∧Same G H3∧Dat K G (.ref b) (kdat k)∧(∀ z∈xs,Dat K G (.ref z.2) (kdat z.1))∧xs.length < sizeLine∧D.nx σ (upd H3 a (dX P w a (putX xs k b)))
theorem atKey_map {P:Program}{w:World}:∀ (xs:List (KX × Addr)) (k:KX),(atKey (xs.map fun x=>(x.1,x.2,Value.bool true)) k = none↔k ∉ xs.map (·.1))
 | [],k=>by simp [atKey]
 | x :: r,k=>by
  have ih:=atKey_map (P:=P) (w:=w) r k
  unfold atKey at ih ⊢
  by_cases h:x.1 = k
  ·simp [List.find?_cons,h]
  ·have h' : ¬ k = x.1:=fun e=>h e.symm
   simp only [List.map_cons,List.find?_cons,h,decide_false,List.mem_cons,h',false_or]
   exact ih
theorem stored_put {P:Program}{w:World}(xs:List (KX × Addr)) (k:KX) (b:Addr):storedH (xs.map fun x=>(x.1,x.2,Value.bool true)) k b (.bool true) = (putX xs k b).map fun x=>(x.1,x.2,Value.bool true):=by
 by_cases h:k∈xs.map (·.1)
 ·have hn:atKey (xs.map fun x=>(x.1,x.2,Value.bool true)) k≠none:=fun e=>((atKey_map (P:=P) (w:=w) xs k).mp e) h
  obtain ⟨p,hp⟩:=Option.ne_none_iff_exists'.mp hn
  rw [storedH_old hp,putX,if_pos (hasX_iff.mpr h),List.map_map]
  refine List.map_congr_left fun x _=>?_
  show putAt k (.bool true) (x.1,x.2,.bool true) = _
  unfold putAt
  split <;> rfl
 ·rw [storedH_new ((atKey_map (P:=P) (w:=w) xs k).mpr h),putX,if_neg (fun z=>h (hasX_iff.mp z)),List.map_append];rfl
theorem ps_dputX {P:Program}{w:World}{K:PySem.W.Frag}(eP:X.prog = P) (ew:X.w = w) (eK:X.K = K) {o i value:Expr}{pos pos' : Pos} {td ty tv:TE}(hu:X.A.units + 64 < cLine) (ho:PE X o td) (hi:PE X i ty) (hv:PE X value tv) (hs:swapsWith value (some (.Subscript o i pos')) pos.line X.env = pure false):
  PS X (.Assign [.Subscript o i pos'] value pos) (sDPutX P w K td ty tv):=by
 subst eP ew eK
 intro pins s σ H D I h
 refine wpAny_Assign_Subscript (thn (hv pins s σ H _ I h) fun r s1 ⟨v,H1,I1,rv,q1⟩=>thn (ho pins s1 σ H1 _ I1 q1) fun u s2 ⟨x,H2,I2,rx,q2⟩=>thn (hi pins s2 σ H2 _ I2 q2) fun iv s3 ⟨y,H3,I3,ry,a,b,k,xs,G,ev,ex,ey,ha,sg,hb,hxs,hl,q3⟩=>?_) hs
 subst ev ex ey
 obtain rfl:r = Value.bool true:=rv
 obtain rfl:u = Value.ref a:=rx
 obtain rfl:iv = Value.ref b:=ry
 obtain ⟨⟨hsm,_,o',es,ep,h1,h2,h3,h4,h5⟩,_⟩:=(show ObjOk X.prog X.w H3 s3.heap a (dX X.prog X.w a xs) from I3.hok a _ ha)
 have dd:s3.heap.DictOfH (kind2 (mixKind X.prog X.w)) a (xs.map fun x=>(x.1,x.2,Value.bool true)):=⟨o',es,ep,h1,h2,h3,by rw [h4,List.map_map];rfl,fun z hz=>by
  obtain ⟨x,hx,rfl⟩:=List.mem_map.mp hz
  exact is2_of I3 sg (hxs x hx),by rw [List.map_map];exact h5⟩
 refine wpAny_setItem_heap (hsz:=by rw [List.length_map];omega) (show X.A.units + 1 + 1 < cLine by omega) (is2_of I3 sg hb) dd fun h' dd' hs=>?_
 rw [stored_put (P:=X.prog) (w:=X.w)] at dd'
 obtain ⟨q,es',ep',hq,g2,g3,g4,_,g5⟩:=dd'
 have hlen:(putX xs k b).length≤sizeLine:=by
  unfold putX
  split
  ·omega
  ·rw [List.length_append];show xs.length + 1≤sizeLine;omega
 exact ⟨σ,_,d_write I3 (by rw [ha];exact True.intro) hs ⟨q,hq⟩ (dx_obj ⟨hsm,hlen,q,es',ep',hq,g2,g3,by rw [g4,List.map_map];rfl,by rw [List.map_map] at g5;exact g5⟩),q3⟩
def rLstX (P:Program) (w:World):List V→Hp→VK→Prop:=fun vs H Q=>∃ (a:Addr) (xs:List (KX × Addr)),vs = [.ref a]∧H a = some (dX P w a xs)∧∀ l,H l = none→Q (.ref l) (upd H l (.lst (xs.map fun x=>V.ref x.2)))
theorem call_listX {P:Program}{w:World}(eP:X.prog = P) (ew:X.w = w) (hc:X.calm = true):CallR X (.type "list") (rLstX P w):=by
 subst eP ew
 intro pins s σ H xs us Q I r h
 obtain ⟨a,ks,rfl,ha,q⟩:=h
 obtain ⟨u,rfl,rx⟩:=vals1 r
 cases rx
 obtain ⟨⟨hsm,hl,o',es,ep,h1,h2,h3,h4,h5⟩,_⟩:=(show ObjOk X.prog X.w H s.heap a (dX X.prog X.w a ks) from I.hok a _ ha)
 have hsz:es.size = ks.length:=by rw [← Array.length_toList,h4,List.length_map]
 refine call_list_dict (I.ok.hd hc) hsm ⟨o',h1,h2,h3⟩ (by omega) fun s' acc c' hk hs' hS hacc=>?_
 have hv:Vals (ks.map fun x=>V.ref x.2) acc.toList:=by
  have e:acc.toList = ks.map fun x=>Value.ref x.2:=by
   refine List.ext_getElem? fun j=>?_
   rw [List.getElem?_map,Array.getElem?_toList]
   cases ev:acc[j]? with
   | none=>
    have hj:acc.size≤j:=by simpa using ev
    rw [List.getElem?_eq_none (by rw [← hsz,← hacc.1];exact hj)];rfl
   | some v=>
    obtain ⟨en,he,rfl⟩:=hacc.2 j v ev
    rw [← Array.getElem?_toList,h4,List.getElem?_map] at he
    cases ek:ks[j]? with
    | none=>rw [ek] at he;cases he
    | some x=>rw [ek] at he;cases he;rfl
  rw [e]
  have key:∀ l:List (KX × Addr),Vals (l.map fun x=>V.ref x.2) (l.map fun x=>Value.ref x.2):=fun l=>by
   induction l with
   | nil=>exact .nil
   | cons x r ih=>exact .cons rfl ih
  exact key ks
 rw [hs']
 exact ⟨.ref s.heap.objs.size,_,I.laid (t' := s'.toks) hk (Nat.le_refl _) (show ObjOk X.prog X.w _ s'.heap _ (.lst (ks.map fun x=>V.ref x.2)) from ⟨by rw [List.length_map];exact hl,acc.toList,c',hv,by rw [hS]⟩),rfl,q _ (I.hok.fresh (Nat.le_refl _))⟩
end
end L2
namespace L2
open PySem PySem.Spec PyProof.Rows
theorem countIn_strs (z:Str):∀ ss:List Str,countIn (.str z) (ss.map PyData.str) = ((ss.countP fun s=>decide (s = z):Nat):Int)
 | []=>rfl
 | s :: r=>by
  have ih:=countIn_strs z r
  rw [List.map_cons,countIn,List.countP_cons,ih]
  by_cases h:s = z
  ·subst h;simp [same];omega
  ·have h' : ¬ z = s:=fun e=>h e.symm
   simp [same,h,h']
section
variable {X:Cx}
def rCount (K:PySem.W.Frag):V→List V→Hp→VK→Prop:=fun x vs H Q=>∃ (p:Addr) (ss:List Str) (z:Str),x = .ref p∧vs = [.str z]∧SqL K H p (ss.map V.str)∧Q (.int ((ss.countP fun s=>decide (s = z):Nat):Int)) H
theorem mt_count {K:PySem.W.Frag}(eK:X.K = K):MtM X "list.count" (rCount K):=by
 subst eK
 intro pins s σ H x vs v us Q I rx rv h
 obtain ⟨p,ss,z,rfl,rfl,hp,q⟩:=h
 cases rx
 obtain ⟨u,rfl,ru⟩:=vals1 rv
 obtain ⟨t,rfl⟩:=ru
 obtain ⟨its,r,pl,hl⟩:=I.list hp
 exact count_list_strs pl.isList (strsAre_of r) ⟨.int _,H,I.tok _,⟨_,by rw [countIn_strs]⟩,q⟩
theorem pe_bmK {K:PySem.W.Frag}(eK:X.K = K) {o e:Expr}{es:List Expr}{to:TE}{t:TA}{name:Str}{apos cpos:Pos}{T id:String}{r:V→List V→Hp→VK→Prop}(pa:PlainAttrs T) (slot:Slot T name id) (hty:typeOf (.builtin id) = pure (.type "method_descriptor")) (hm:MtR X id r) (ho:PE X o to) (ha:PA X (e :: es) t) (h1:attributeBase o name X.env (eval o X.env) = eval o X.env:=by rfl) (h2:((backTo cpos (starEach (e :: es) X.env)).all (fun x=>!x.1) && (backToKw cpos (keywordEach [] X.env)).all (fun x=>x.1.isSome) && decide ((e :: es).length + ([]:List Keyword).length + (if ([]:List Keyword).isEmpty then 0 else 1) < 30)) = true:=by rfl) (h3:(apos.endLine == cpos.line) = true:=by rfl) (h4:starEach (e :: es) X.env = (false,eval e X.env) :: starEach es X.env:=by rfl) (h5:(backTo cpos (starEach es X.env)).any (·.1) = false:=by rfl):PE X (.Call (.Attribute o name apos) (e :: es) [] cpos) (tBM K T r to t):=by
 subst eK
 exact pe_bm pa slot hty hm ho ha h1 h2 h3 h4 h5
theorem for_enumL {K:PySem.W.Frag}{a:Addr}{xs:List V}{g:TG}{tb:TS}{D:Ends}{σ:St}{H:Hp}(Pv:Nat→St→Hp→Prop) (h0:Pv 0 σ H) (hl:∀ i σ H,i≤xs.length→Pv i σ H→SqL K H a xs)
  (hs:∀ i x σ H p,xs[i]? = some x→Pv i σ H→H p = none→g (.ref p) σ (upd H p (.tup [.int i,x])) fun σ2 H2=>tb { D with nx:=Pv (i + 1),ct:=Pv (i + 1),bk:=D.nx } σ2 H2) (hd:∀ σ H,Pv xs.length σ H→D.nx σ H):
  ∃ W:Nat→Nat→St→Hp→Prop,(∃ m,W 0 m σ H)∧∀ i m σ H,W i m σ H→
   ((IteL K a).stop i H∧D.nx σ H)∨((IteL K a).go i H∧∃ N:St→Hp→Prop,(∀ σ' H',N σ' H' → ∃ m',m' < m∧W (i + 1) m' σ' H')∧∀ x H',(IteL K a).yld i H x H' → g x σ H' fun σ2 H2=>tb { D with nx:=N,ct:=N,bk:=D.nx } σ2 H2):=by
 refine ⟨fun i m σ H=>m = xs.length - i∧i≤xs.length∧Pv i σ H,⟨xs.length,by simp,Nat.zero_le _,h0⟩,?_⟩
 rintro i m σ H ⟨rfl,hi,p⟩
 have q:=hl i σ H hi p
 by_cases hlt:i < xs.length
 ·refine .inr ⟨⟨xs,_,q,List.getElem?_eq_getElem hlt⟩,Pv (i + 1),fun σ' H' p' => ⟨xs.length - (i + 1),by omega,rfl,hlt,p'⟩,fun x H' y=>?_⟩
  obtain ⟨p',x',hp',rfl,rfl,hx⟩:=y
  exact hs i x' σ H p' (hx xs q) p hp'
 ·have e:i = xs.length:=by omega
  subst e
  exact .inl ⟨⟨xs,q,Nat.le_refl _⟩,hd σ H p⟩
end
end L2
namespace K28
open PySem L2 Frac Lw Dig PySem.NumText Nm
open Ord Num Look Rdo
abbrev dT (f:Fs):PyData:=.tuple (f.map dF)
def OC (book:List Str) (num:Int→Int→Prop) (ws:List Wd):Prop:=IsOrd (· ∈ book) num ws∧(∀ a b,num a b→Sz (a,b))∧(∀ z∈book,wordT z = none)∧ws.length≤900
def FZ (n:Nat) (f:Fs):Prop:=f.length = n∧∀ p∈f,Sz p
def spB (K:PySem.W.Frag) (Pt:Addr) (cr:Nat→Nat→Option Str) (R:List Str→List PyData→PyData→Prop):Sp:=fun vs H Q _=>∃ (G:Hp) (book:List Str) (vo:V) (pb:Addr) (us:List V) (ds:List PyData) (d:PyData),vs = vo :: .ref pb :: us∧G Pt = some (.tbl cr)∧Same G H∧G pb = some (.tup (book.map V.str))∧Dats K G (vo :: us) ds∧R book ds d∧
 ∀ v G' H',Grow G H G' H' → Dat K G' v d→Q v H'
def RLooks (book:List Str):List PyData→PyData→Prop:=fun ds d=>∃ (ws:List Wd) (num:Int→Int→Prop) (f:Fs) (gs:List Fs),ds = [dOs ws,dT f,.list (gs.map dT)]∧OC book num ws∧FZ book.length f∧(∀ g∈gs,FZ book.length g)∧gs.length≤1000∧d = .list (gs.map fun g=>.str (lookA book ws f g).t)
def dTab (L:Fs→Fs→An) (gs:List Fs):PyData:=.list (gs.map fun f=>.list (gs.map fun g=>.str (L f g).t))
def RTab (book:List Str):List PyData→PyData→Prop:=fun ds d=>∃ (ws:List Wd) (num:Int→Int→Prop) (gs:List Fs),ds = [dOs ws,.list (gs.map dT)]∧OC book num ws∧(∀ g∈gs,FZ book.length g)∧gs.length≤1000∧d = dTab (lookA book ws) gs
def REach:List PyData→PyData→Prop:=fun ds d=>∃ gs:List Fs,ds = [.tuple (gs.map dT)]∧gs.length≤1000∧d = .list ((uniq gs).map dT)
def RRanks:List PyData→PyData→Prop:=fun ds d=>∃ (L:Fs→Fs→An) (gs:List Fs),ds = [dTab L gs]∧gs.length≤1000∧d = .list (gs.map fun f=>.int (rk L gs f:Nat))
def RSize:List PyData→PyData→Prop:=fun ds d=>∃ i j:Nat,ds = [.int (i:Nat),.int (j:Nat)]∧d = .str (cmpN i j).t
def RAgree:List PyData→PyData→Prop:=fun ds d=>∃ (L:Fs→Fs→An) (gs:List Fs),ds = [dTab L gs]∧gs.length≤1000∧d = .bool (agree L gs)
def spAgainst (K:PySem.W.Frag):Sp:=fun vs H Q _=>∃ (G:Hp) (v1:V) (L:Fs→Fs→An) (gs:List Fs),vs = [v1]∧Same G H∧Dat K G v1 (dTab L gs)∧gs.length≤1000∧(∀ G' H',Grow G H G' H' → agree L gs = true→Q .non H')∧∀ p G' H',Grow G H G' H' → agree L gs = false→Q (.ref p) H'
def keyF (f:Fs):KX:=f.map fun p=>[.inl p.1,.inl p.2]
theorem kdat_key (f:Fs):kdat (keyF f) = dT f:=by
 unfold kdat keyF
 rw [List.map_map];rfl
theorem keyF_inj {f g:Fs}(h:keyF f = keyF g):f = g:=by
 unfold keyF at h
 refine (List.map_inj_right fun p q z=>?_).mp h
 injection z with z1 z2
 injection z1 with z1
 injection z2 with z2 _
 injection z2 with z2
 exact Prod.ext z1 z2
theorem uniq_len (gs:List Fs):(uniq gs).length≤gs.length:=by
 have key:∀ (l acc:List Fs),(l.foldl (fun acc f=>if (acc.any fun g=>decide (g = f)) = true then acc else acc ++ [f]) acc).length≤acc.length + l.length:=by
  intro l
  induction l with
  | nil=>intro acc;simp
  | cons x r ih=>
   intro acc
   rw [List.foldl_cons]
   refine Nat.le_trans (ih _) ?_
   split
   ·rw [List.length_cons];omega
   ·simp only [List.length_append,List.length_cons,List.length_nil];omega
 have:=key gs []
 unfold uniq
 simpa using this
theorem uniq_snoc (gs:List Fs) (f:Fs):uniq (gs ++ [f]) = if ((uniq gs).any fun g=>decide (g = f)) = true then uniq gs else uniq gs ++ [f]:=by
 unfold uniq
 rw [List.foldl_append];rfl
section
variable {P:Program}{w:World}{K:PySem.W.Frag}{mg:Str→Option Value}{base:Heap}
theorem ev_callB {σ:St}{G:Hp}{ta:TE}{t:TA}{i:Nat}{pb Pt:Addr}{cr:Nat→Nat→Option Str}{book:List Str}{d0 d:PyData}{ds:List PyData}{R:List Str→List PyData→PyData→Prop}(hT:G Pt = some (.tbl cr)) (hpb:G pb = some (.tup (book.map V.str))) (hi:σ[i]? = some (some (.ref pb))) (ha:Ev K ta σ G d0) (h:EvA K t σ G ds) (hR:R book (d0 :: ds) d):
  Ev K (tCall (spB K Pt cr R) [] E0 (tCons ta (tCons (tVar i) t))) σ G d:=fun G1 H s1 s2 Q k=>ha G1 H s1 s2 _ fun v1 G2 H2 g2 h1=>⟨_,hi,h G2 H2 (s1.trans g2.gg) g2.gh _ fun vs G3 H3 g3 h3=>by
  have g23:=g2.trans g3
  have sG:=s1.trans g23.gg
  refine ⟨G3,book,v1,pb,vs,d0 :: ds,d,by simp,sG _ _ hT,g3.gh,sG _ _ hpb,dats_cons (h1.same g3.gg) h3,hR,fun v G' H' g' hv=>k v G' H' (g23.trans g') hv⟩⟩
theorem ok_looksof (T:Top K mg) (M:Bs K mg base) (W:Wds K w.params mg) (W1:Txs K w.params mg "AHEAD" aheadT) (W2:Txs K w.params mg "OTHER_WAY" otherT):FnOk P w K mg base CX0 7 T.f_looks_of T.fd_looks_of ["order", "book", "one", "things"] (spB K T.P_looked cr_looked RLooks):=by
 have G_looked:FnOk P w K mg base CX0 6 T.f_looked T.fd_looked ["order", "book", "first", "second"] (spLook K T.P_looked cr_looked):=ok_looked T M W W1 W2
 refine T.F_looks_of.ok sc_looks_of (fun vs H Q E h=>?_) (fun cdv A outer s H vs Q E hr h=>?_)
 ·obtain ⟨G,book,vo,pb,us,ds,d,rfl,_,_,_,hd,⟨ws,num,f,gs,rfl,_⟩,_⟩:=h
  have:=hd.length
  simp only [List.length_cons,List.length_nil] at this ⊢
  omega
 ·obtain ⟨G,book,vo,pb,us,ds,d,rfl,hT,sg,hpb,hd,⟨ws,num,f,gs,rfl,⟨o1,o2,o3,o4⟩,hf,hgs,hl,rfl⟩,k⟩:=h
  obtain ⟨v0,r0,e0,h0,hd⟩:=hd.cons
  cases e0
  rename Dats K G us _=>hd
  obtain ⟨v1,r1,rfl,h1,hd⟩:=hd.cons
  obtain ⟨v2,r2,rfl,h2,hd⟩:=hd.cons
  cases hd.nil
  have zl:(2000:Nat)≤sizeLine:=by decide
  refine ⟨_,(pss_one (ps_ret (pe_lc (x:= "other") (cap:=["order", "book", "one"]) (js:=[0,1,2]) ⟨rfl,by decide +kernel,by decide +kernel,rfl,(by show ∀ p∈(_:List (Str × NameKind)),p.2 = NameKind.free→List.lookup p.1 (defScope s_looks_of).names = some NameKind.cell;decide +kernel),by decide +kernel,by decide +kernel,by decide +kernel⟩ rfl rfl (fun _ _ h=>h) (pi_list (pv 3)) (fun _ _ _ _=>⟨pif_nil,(pe_call G_looked hr (by rfl) T.m_looked T.F_looked.kp T.b_looked .nil pass0 (pa_cons (pv 1) (pa_cons (pv 2) (pa_cons (pv 3) (pa_cons (pv 0) pa_nil st_Name) st_Name) st_Name) st_Name))⟩)))) ,?_⟩
  refine ret_ev (K:=K) (ev_lcL (js:=[0,1,2]) gs dT (fun g=>some (.str (lookA book ws f g).t)) (ev_var rfl h2) (by omega) fun G2 i g x s3 hg hx=>lc1 evt_noif (ev_look (s3 _ _ hT) (s3 _ _ hpb) ⟨⟨hf.1,(hgs g (List.mem_of_getElem? hg)).1,hf.2,(hgs g (List.mem_of_getElem? hg)).2⟩,o2,o3⟩ rfl (ev_var rfl (h0.same s3)) (ev_var rfl (h1.same s3)) (ev_var rfl hx) o1 o4 (lookA_ev f g o3 o1))) sg fun v G' H' g' hv=>k v G' H' g' ?_
  rw [fm_some] at hv;exact hv
theorem ok_table (T:Top K mg) (M:Bs K mg base) (W:Wds K w.params mg) (W1:Txs K w.params mg "AHEAD" aheadT) (W2:Txs K w.params mg "OTHER_WAY" otherT):FnOk P w K mg base CX0 8 T.f_table_of T.fd_table_of ["order", "book", "things"] (spB K T.P_looked cr_looked RTab):=by
 have G_looks_of:FnOk P w K mg base CX0 7 T.f_looks_of T.fd_looks_of ["order", "book", "one", "things"] (spB K T.P_looked cr_looked RLooks):=ok_looksof T M W W1 W2
 refine T.F_table_of.ok sc_table_of (fun vs H Q E h=>?_) (fun cdv A outer s H vs Q E hr h=>?_)
 ·obtain ⟨G,book,vo,pb,us,ds,d,rfl,_,_,_,hd,⟨ws,num,gs,rfl,_⟩,_⟩:=h
  have:=hd.length
  simp only [List.length_cons,List.length_nil] at this ⊢
  omega
 ·obtain ⟨G,book,vo,pb,us,ds,d,rfl,hT,sg,hpb,hd,⟨ws,num,gs,rfl,oc,hgs,hl,rfl⟩,k⟩:=h
  obtain ⟨v0,r0,e0,h0,hd⟩:=hd.cons
  cases e0
  rename Dats K G us _=>hd
  obtain ⟨v2,r2,rfl,h2,hd⟩:=hd.cons
  cases hd.nil
  have zl:(2000:Nat)≤sizeLine:=by decide
  refine ⟨_,(pss_one (ps_ret (pe_lc (x:= "one") (cap:=["order", "book", "things"]) (js:=[0,1,2]) ⟨rfl,by decide +kernel,by decide +kernel,rfl,(by show ∀ p∈(_:List (Str × NameKind)),p.2 = NameKind.free→List.lookup p.1 (defScope s_table_of).names = some NameKind.cell;decide +kernel),by decide +kernel,by decide +kernel,by decide +kernel⟩ rfl rfl (fun _ _ h=>h) (pi_list (pv 2)) (fun _ _ _ _=>⟨pif_nil,(pe_call G_looks_of hr (by rfl) T.m_looks_of T.F_looks_of.kp T.b_looks_of .nil pass0 (pa_cons (pv 1) (pa_cons (pv 2) (pa_cons (pv 0) (pa_cons (pv 3) pa_nil st_Name) st_Name) st_Name) st_Name))⟩)))) ,?_⟩
  refine ret_ev (K:=K) (ev_lcL (js:=[0,1,2]) gs dT (fun f=>some (.list (gs.map fun g=>.str (lookA book ws f g).t))) (ev_var rfl h2) (by omega) fun G2 i f x s3 hf hx=>lc1 evt_noif (ev_callB (s3 _ _ hT) (s3 _ _ hpb) rfl (ev_var rfl (h0.same s3)) (eva_cons (ev_var rfl hx) (eva_cons (ev_var rfl (h2.same s3)) eva_nil)) ⟨ws,num,f,gs,rfl,oc,hgs f (List.mem_of_getElem? hf),hgs,hl,rfl⟩)) sg fun v G' H' g' hv=>k v G' H' g' ?_
  rw [fm_some] at hv;exact hv
theorem ok_each (T:Top K mg):FnOk P w K mg base CX0 2 T.f_each_once T.fd_each_once ["things"] (spP K REach):=by
 refine T.F_each_once.ok sc_each_once (fun vs H Q E h=>?_) (fun cdv A outer s H vs Q E hr h=>?_)
 ·obtain ⟨G,as,d,sg,hv,⟨gs,rfl,_⟩,_⟩:=h
  rw [hv.length];rfl
 ·obtain ⟨G,as,d,sg,hv,⟨gs,rfl,hl,rfl⟩,k⟩:=h
  obtain ⟨v1,r1,rfl,h1,hv⟩:=hv.cons
  cases hv.nil
  have hu:=hr.units
  have zl:(2000:Nat)≤sizeLine:=by decide
  obtain ⟨pt,vs,rfl,hpt,hvs⟩:=h1.tup
  have hvl:vs.length = gs.length:=by rw [hvs.length,List.length_map]
  refine ⟨_,(pss_cons (ps_set (i:=1) sc_each_once.nd rfl (Or.inl rfl) (pe_dnewX (P:=P) (w:=w) rfl rfl))
   (pss_cons (ps_for PassesOwn.never rfl (pi_tup (pv 0)) (pg_name (i:=2) sc_each_once.nd rfl (Or.inl rfl)) (pss_one (ps_dputX (P:=P) (w:=w) (K:=K) rfl rfl rfl hu (pv 1) (pv 2) pe_bl (by rfl))))
   (pss_one (ps_ret (pe_callTy (call_listX (P:=P) (w:=w) rfl rfl rfl) (by rfl) T.list_ boot_lst (pa_cons (pv 1) pa_nil st_Name)))))) ,?_⟩
  refine fun pk hpk=>?_
  have gpk:G pk = none:=sg.free hpk
  refine ⟨_,rfl,pt,rfl,⟨vs,(sg.trans (same_new hpk)).tup hpt⟩,for_tup (xs:=vs) (fun i σ H' => ∃ (v:Option V) (xs:List (KX × Addr)),σ = [some (.ref pt),some (.ref pk),v]∧(∀ b o,b≠pk→H b = some o→H' b = some o)∧H' pk = some (dX P w pk xs)∧xs.map (·.1) = (uniq (gs.take i)).map keyF∧(∀ z∈xs,Dat K G (.ref z.2) (kdat z.1))∧∀ b,H b = none→b≠pk→H' b = none)
   ⟨_,[],rfl,fun b o n e=>by rw [upd_ne n];exact e,upd_same,rfl,(fun z hz=>(by cases hz)),fun b e n=>by rw [upd_ne n];exact e⟩ ?_ ?_ ?_⟩
  ·rintro i σ H' _ ⟨v,xs,rfl,kp,_⟩
   have sG' : Same G H' := fun b o e=>kp b o (ne_of_none e gpk) (sg b o e)
   exact sG'.tup hpt
  ·rintro i x σ H' hx ⟨v,xs,rfl,kp,hk,hkeys,hdat,hfr⟩
   have hi:i < gs.length:=by have:=(List.getElem?_eq_some_iff.mp hx).1;omega
   obtain ⟨dd,hdd,hxd⟩:=hvs.get' hx
   rw [List.getElem?_map,List.getElem?_eq_getElem hi] at hdd
   have hdd:some (dT gs[i]) = some dd:=hdd
   injection hdd with hdd
   subst hdd
   obtain ⟨px,ys,rfl,hpx,hys⟩:=hxd.tup
   have sG' : Same G H' := fun b o e=>kp b o (ne_of_none e gpk) (sg b o e)
   have hlx:xs.length≤gs.length:=by
    have e1:xs.length = (uniq (gs.take i)).length:=by have:=congrArg List.length hkeys;simpa using this
    have:=uniq_len (gs.take i)
    rw [List.length_take] at this
    omega
   have hxk:Dat K G (.ref px) (kdat (keyF gs[i])):=by rw [kdat_key];exact hxd
   refine ⟨_,rfl,_,rfl,pk,px,keyF gs[i],xs,G,rfl,rfl,rfl,hk,sG',hxk,hdat,by omega,?_⟩
   refine ⟨_,putX xs (keyF gs[i]) px,rfl,fun b o n e=>by rw [upd_ne n];exact kp b o n e,upd_same,?_,fun z hz=>?_,fun b e n=>by rw [upd_ne n];exact hfr b e n⟩
   ·have ht:gs.take (i + 1) = gs.take i ++ [gs[i]]:=by rw [List.take_succ,List.getElem?_eq_getElem hi];rfl
    rw [ht,uniq_snoc]
    have hiff:hasX xs (keyF gs[i]) = true↔((uniq (gs.take i)).any fun g=>decide (g = gs[i])) = true:=by
     rw [hasX_iff,hkeys,List.any_eq_true]
     constructor
     ·intro h
      obtain ⟨g,hg,e⟩:=List.mem_map.mp h
      exact ⟨g,hg,decide_eq_true (keyF_inj e)⟩
     ·rintro ⟨g,hg,e⟩
      exact List.mem_map.mpr ⟨g,hg,by rw [of_decide_eq_true e]⟩
    unfold putX
    by_cases h:hasX xs (keyF gs[i]) = true
    ·rw [if_pos h,if_pos (hiff.mp h)];exact hkeys
    ·rw [if_neg h,if_neg (fun z=>h (hiff.mpr z)),List.map_append,List.map_append,hkeys];rfl
   ·unfold putX at hz
    split at hz
    ·exact hdat z hz
    ·rcases List.mem_append.mp hz with hz | hz
     ·exact hdat z hz
     ·rw [List.mem_singleton.mp hz];exact hxk
  ·rintro σ H' ⟨v,xs,rfl,kp,hk,hkeys,hdat,hfr⟩
   refine ⟨_,rfl,pk,xs,rfl,hk,fun l hlf=>?_⟩
   have sG' : Same G H' := fun b o e=>kp b o (ne_of_none e gpk) (sg b o e)
   have sH' : Same H H' := fun b o e=>kp b o (ne_of_none e hpk) e
   have g1:=grow_new (o:=.lst (xs.map fun x=>V.ref x.2)) sG' hlf
   refine k _ _ _ ((grow_h sg sH').trans g1) (dat_lst upd_same ?_)
   have ht:gs.take vs.length = gs:=by rw [hvl];exact List.take_length
   rw [ht] at hkeys
   have key:∀ (xs:List (KX × Addr)) (us:List Fs),xs.map (·.1) = us.map keyF→(∀ z∈xs,Dat K G (.ref z.2) (kdat z.1))→Dats K G (xs.map fun x=>V.ref x.2) (us.map dT):=by
    intro xs
    induction xs with
    | nil=>
     intro us e _
     cases us with
     | nil=>exact dats_nil
     | cons u r=>cases e
    | cons x r ih=>
     intro us e hd
     cases us with
     | nil=>cases e
     | cons u q=>
      simp only [List.map_cons,List.cons.injEq] at e
      have:=hd x List.mem_cons_self
      rw [e.1,kdat_key] at this
      exact dats_cons this (ih q e.2 fun z hz=>hd z (List.mem_cons_of_mem _ hz))
   exact (key xs _ hkeys hdat).same g1.gg
theorem ok_ranks (T:Top K mg):FnOk P w K mg base CX0 1 T.f_ranks_in T.fd_ranks_in ["table"] (spP K RRanks):=by
 refine T.F_ranks_in.ok sc_ranks_in (fun vs H Q E h=>?_) (fun cdv A outer s H vs Q E hr h=>?_)
 ·obtain ⟨G,as,d,sg,hv,⟨L,gs,rfl,_⟩,_⟩:=h
  rw [hv.length];rfl
 ·obtain ⟨G,as,d,sg,hv,⟨L,gs,rfl,hl,rfl⟩,k⟩:=h
  obtain ⟨v1,r1,rfl,h1,hv⟩:=hv.cons
  cases hv.nil
  have zl:(2000:Nat)≤sizeLine:=by decide
  refine ⟨_,(pss_one (ps_ret (pe_lc (x:= "row") (cap:=[]) (js:=[]) ⟨rfl,by decide +kernel,by decide +kernel,rfl,(by show ∀ p∈(_:List (Str × NameKind)),p.2 = NameKind.free→List.lookup p.1 (defScope s_ranks_in).names = some NameKind.cell;decide +kernel),by decide +kernel,by decide +kernel,by decide +kernel⟩ rfl rfl (fun _ _ h=>h) (pi_list (pv 0)) (fun _ _ _ _=>⟨pif_nil,(pe_bmK (K:=K) rfl PySem.F.plainAttrs_list PySem.F.slot_list_count PySem.F.type_list_count (mt_count (K:=K) rfl) (pv 0) (pa_cons pe_str pa_nil st_Constant))⟩)))) ,?_⟩
  refine ret_ev (K:=K) (ev_lcL (js:=[]) gs (fun f=>.list (gs.map fun g=>.str (L f g).t)) (fun f=>some (.int (rk L gs f:Nat))) (ev_var rfl h1) (by omega) fun G2 i f x s3 hf hx=>lc1 evt_noif ?_) sg fun v G' H' g' hv=>k v G' H' g' (by rw [fm_some] at hv;exact hv)
  refine fun G1 H1 s1 s2 Q' k' => ?_
  have hx' := hx.same s1
  obtain ⟨p,ys,rfl,hp,hys⟩:=hx'.lst
  have e:ys = (gs.map fun g=>(L f g).t).map V.str:=datStrs (ws:=gs.map fun g=>(L f g).t) (by rw [List.map_map];exact hys)
  subst e
  have hp' := s2 _ _ hp
  refine ⟨_,rfl,.inl ⟨rfl,_,SqL.of hp'⟩,p,gs.map fun g=>(L f g).t,S "behind",rfl,rfl,SqL.of hp',k' _ G1 H1 (Grow.refl s2) ?_⟩
  have ec:(gs.map fun g=>(L f g).t).countP (fun s=>decide (s = S "behind")) = rk L gs f:=by
   rw [List.countP_map]
   unfold rk
   congr 1
   funext g
   show decide ((L f g).t = An.behind.t) = decide (L f g = .behind)
   exact decide_eq_decide.mpr t_inj
  rw [ec]
  exact dat_int _
theorem ok_size (T:Top K mg):FnOk P w K mg base CX0 1 T.f_by_size T.fd_by_size ["one", "other"] (spP K RSize):=by
 refine T.F_by_size.ok sc_by_size (fun vs H Q E h=>?_) (fun cdv A outer s H vs Q E hr h=>?_)
 ·obtain ⟨G,as,d,sg,hv,⟨i,j,rfl,_⟩,_⟩:=h
  rw [hv.length];rfl
 ·obtain ⟨G,as,d,sg,hv,⟨i,j,rfl,rfl⟩,k⟩:=h
  obtain ⟨v1,r1,rfl,h1,hv⟩:=hv.cons
  obtain ⟨v2,r2,rfl,h2,hv⟩:=hv.cons
  cases hv.nil
  refine ⟨_,(pss_cons (ps_if (pt_cmpR op_lt (pv 0) (pv 1) (nomark _)) (pss_one (ps_ret pe_str)) pss_nil)
   (pss_one (ps_ret (pe_ifExp (pt_cmpR op_gt (pv 0) (pv 1) (nomark _)) pe_str pe_str)))) ,?_⟩
  refine if_ev (evt_test (K:=K) (ev_i0 (ev_var rfl h1) (ev_var rfl h2) (dat_bl _))) sg (fun e G1 H1 g1=>?_) (fun e G1 H1 g1=>?_)
  ·have e' : (i:Int) < j:=of_decide_eq_true e
   have:cmpN i j = .ahead:=by unfold cmpN;rw [if_pos (by omega)]
   exact k _ G1 H1 g1 (by rw [this];exact dat_str _)
  ·have e' : ¬ (i:Int) < j:=of_decide_eq_false e
   refine ret_ev (K:=K) (d:=.str (cmpN i j).t) (ev_ite (evt_test (K:=K) (ev_i0 (ev_var rfl (h1.same g1.gg)) (ev_var rfl (h2.same g1.gg)) (dat_bl _))) (fun z=>?_) (fun z=>?_)) g1.gh fun v G2 H2 g2 hv=>k v G2 H2 (g1.trans g2) hv
   ·have z' : (i:Int) > j:=of_decide_eq_true z
    have:cmpN i j = .behind:=by unfold cmpN;rw [if_neg (by omega),if_pos (by omega)]
    rw [this];exact ev_str
   ·have z' : ¬ (i:Int) > j:=of_decide_eq_false z
    have:cmpN i j = .like:=by unfold cmpN;rw [if_neg (by omega),if_neg (by omega)]
    rw [this];exact ev_str
end
end K28
namespace K28
open PySem L2 Frac Lw Dig PySem.NumText Nm
open Ord Num Look Rdo
abbrev tNx (K:PySem.W.Frag) (i:Nat):TE:=tCall (spDv K 1 RNx) [] E0 (tCons (tVar i) tNil)
abbrev tMod (a b:TE):TE:=tOp (rI (fun _ j=>0 < j) fun i j=>.int (i % j)) a b
abbrev tLn (K:PySem.W.Frag) (i:Nat):TE:=tCB (fun xs H Q=>∃ p ys,xs = [.ref p]∧(SqL K H p ys∨SqT K H p ys)∧Q (.int ys.length) H) (tCons (tVar i) tNil)
def FOk (n:Nat) (f:Fs):Prop:=f.length = n∧∀ p∈f,SzP p
theorem FOk.fz {n:Nat}{f:Fs}(h:FOk n f):FZ n f:=⟨h.1,fun p hp=>(h.2 p hp).1⟩
theorem FOk.pos {n:Nat}{f:Fs}(h:FOk n f):FPos n f:=⟨h.1,fun p hp=>(h.2 p hp).2⟩
def RRw:List PyData→PyData→Prop:=fun ds x=>∃ (book:List Str) (pool:List (Int × Int)) (most:Nat) (fs:List Fs),ds = [.tuple (book.map PyData.str),.list (pool.map dF),.int (most:Nat)]∧(book.length≤4∧1≤pool.length∧pool.length≤13∧most≤60)∧(∀ p∈pool,SzP p)∧x = .tuple (fs.map dT)∧fs.length≤most∧∀ f∈fs,FOk book.length f
theorem ps_of:∀ ds:List PyData,(∀ e∈ds,∃ p,e = dF p∧SzP p)→∃ ps:List (Int × Int),ds = ps.map dF∧∀ p∈ps,SzP p
 | [],_=>⟨[],rfl,fun f hf=>by cases hf⟩
 | x :: r,h=>by
  obtain ⟨fs,e,h'⟩:=ps_of r fun e he=>h e (List.mem_cons_of_mem _ he)
  obtain ⟨f,ef,hf⟩:=h x List.mem_cons_self
  exact ⟨f :: fs,by rw [e,ef];rfl,fun g hg=>by
   rcases List.mem_cons.mp hg with rfl | hg
   ·exact hf
   ·exact h' g hg⟩
theorem strs_inj {x y:List Str}(h:x.map PyData.str = y.map PyData.str):x = y:=(List.map_inj_right (fun _ _ z=>by injection z)).mp h
theorem dF_inj {p q:Int × Int}(h:dF p = dF q):p = q:=by
 injection h with z;injection z with z1 z2;injection z2 with z2 _;injection z1 with z1;injection z2 with z2;exact Prod.ext z1 z2
theorem dFs_inj {x y:List (Int × Int)}(h:x.map dF = y.map dF):x = y:=(List.map_inj_right fun _ _ z=>dF_inj z).mp h
section
variable {P:Program}{w:World}{K:PySem.W.Frag}{mg:Str→Option Value}{base:Heap}{d c:Addr}{G:Hp}{σ:St}
theorem dv_nx {i:Nat}(hi:σ[i]? = some (some (.ref d))):Dv K d c 1 (tNx K i) σ G fun x=>∃ r:Int,x = .int r∧True:=
 (dv_call (R:=RNx) hi eva_nil ⟨.int 0,rfl,0,rfl⟩).imp fun x h=>by obtain ⟨_,r,rfl⟩:=h;exact ⟨r,rfl,trivial⟩
theorem dv_mod {m n:Nat}{ta tb:TE}{B:Int}(ha:Dv K d c m ta σ G fun x=>∃ i:Int,x = .int i∧True) (hb:Dv K d c n tb σ G fun x=>∃ i:Int,x = .int i∧(0 < i∧i≤B)):Dv K d c (m + n) (tMod ta tb) σ G fun x=>∃ r:Int,x = .int r∧0≤r∧r < B:=
 dv_int2 ha hb fun i j _ hj=>⟨hj.1,_,⟨i % j,rfl,by have:=m2 i j hj.1;omega,by have:=m2 i j hj.1;omega⟩,fun _=>dat_int _⟩
theorem dv_c {i:Int}{R:Int→Prop}(h:R i):Dv K d c 0 (tC (.int i)) σ G fun x=>∃ j:Int,x = .int j∧R j:=dv_of ev_int ⟨i,rfl,h⟩
theorem dv_two {a b:Int}{R:PyData→Prop}(h1:R (.int a)) (h2:R (.int b)):Dv K d c 0 (tLst (tCons (tC (.int a)) (tCons (tC (.int b)) tNil))) σ G fun x=>∃ ds:List PyData,x = .list ds∧(ds.length:Int) = 2∧∀ e∈ds,R e:=
 dv_of (ev_lst (eva_cons ev_int (eva_cons ev_int eva_nil)) (by show 2≤sizeLine;decide)) ⟨_,rfl,rfl,fun e he=>by
  rcases List.mem_cons.mp he with rfl | he
  ·exact h1
  ·rw [List.mem_singleton.mp he];exact h2⟩
theorem ok_pool (T:Top K mg):FnOk P w K mg base CX0 3 T.f__law_pool T.fd__law_pool ["deck"] (spDv K 15 RPool):=by
 have G__law_next:FnOk P w K mg base CX0 2 T.f__law_next T.fd__law_next ["deck"] (spDv K 1 RNx):=(ok_next T).mono (by decide)
 have G__law_fraction:FnOk P w K mg base CX0 2 T.f__law_fraction T.fd__law_fraction ["deck"] (spDv K 1 RFr):=ok_fraction T
 refine T.F__law_pool.ok sc__law_pool (fun vs H Q E h=>?_) (fun cdv A outer s H vs Q E hr h=>?_)
 ·obtain ⟨d,c,G,us,ds,rfl,_,_,_,_,hd,⟨x,rfl,_⟩,_⟩:=h
  rw [List.length_cons,hd.length];rfl
 ·obtain ⟨d,c,G,us,ds,rfl,sg,gd,gc,D,hd,⟨x,rfl,_⟩,kk⟩:=h
  cases hd.nil
  refine ⟨_,(pss_one (ps_ret (pe_lc (x:= "k") (cap:=["deck"]) (js:=[0]) ⟨rfl,by decide +kernel,by decide +kernel,rfl,(by show ∀ p∈(_:List (Str × NameKind)),p.2 = NameKind.free→List.lookup p.1 (defScope s__law_pool).names = some NameKind.cell;decide +kernel),by decide +kernel,by decide +kernel,by decide +kernel⟩ rfl rfl (fun _ _ h=>h) (pi_range1 (by rfl) T.range_ (pa_cons (pe_op op_add pe_int (pe_op op_mod (pe_call G__law_next hr (by rfl) T.m__law_next T.F__law_next.kp T.b__law_next .nil pass0 (pa_cons (pv 0) pa_nil st_Name)) (pe_ix (ix_listK (K:=K) rfl) (pe_lst (pa_cons pe_int (pa_cons pe_int pa_nil st_Constant) st_Constant)) (pe_op op_mod (pe_call G__law_next hr (by rfl) T.m__law_next T.F__law_next.kp T.b__law_next .nil pass0 (pa_cons (pv 0) pa_nil st_Name)) pe_int) (fun _ _=>rfl)))) pa_nil st_BinOp)) (fun _ _ _ _=>⟨pif_nil,(pe_call G__law_fraction hr (by rfl) T.m__law_fraction T.F__law_fraction.kp T.b__law_fraction .nil pass0 (pa_cons (pv 1) pa_nil st_Name))⟩)))) ,?_⟩
  have hj:DvA K d c 2 (tCons (tOp (rI0 fun i j=>.int (i + j)) (tC (.int 2)) (tMod (tNx K 0) (tOp (rIxL K) (tLst (tCons (tC (.int 4)) (tCons (tC (.int 12)) tNil))) (tMod (tNx K 0) (tC (.int 2)))))) tNil) [some (V.ref d)] G fun xs=>∃ q:Nat,xs = [.int (q:Nat)]∧2≤q∧q≤13:=
   ((dva_cons (dv_int0 (Ra:=fun i=>i = 2) (Rb:=fun i=>0≤i∧i < 12) (R:=fun x=>∃ q:Nat,x = .int (q:Nat)∧2≤q∧q≤13) (dv_c rfl) (dv_mod (B:=12) (dv_nx rfl) (dv_pickL (q:=2) (R:=fun x=>∃ i:Int,x = .int i∧(0 < i∧i≤12)) (dv_two ⟨4,rfl,by decide⟩ ⟨12,rfl,by decide⟩) (dv_mod (B:=2) (dv_nx rfl) (dv_c (by decide))))) fun i j hi hj=>⟨.int (2 + j),⟨(2 + j).toNat,by rw [Int.toNat_of_nonneg (by omega)],by omega,by omega⟩,fun _=>by rw [hi];exact dat_int _⟩) dva_nil).up (by decide)).imp fun xs hx=>by
    obtain ⟨x,r,rfl,⟨q,rfl,h1,h2⟩,rfl⟩:=hx
    exact ⟨q,rfl,h1,h2⟩
  refine ret_dv (K:=K) (d:=d) (c:=c) (n:=15) (dv_lcR (p:=2) (B:=13) (n:=1) (R:=fun x=>∃ p,x = dF p∧SzP p) (Rn:=fun q=>2≤q) hj (by decide) fun G2 i s2 hi=>(dv_call (R:=RFr) rfl eva_nil ⟨dF (0,1),rfl,(0,1),rfl,⟨by decide,by decide⟩,by decide⟩).imp fun x h=>h.2) sg gd gc D fun v x G' H' hx k1 hv=>?_
  obtain ⟨ds,rfl,h2,h13,hall⟩:=hx
  obtain ⟨ps,rfl,hps⟩:=ps_of ds hall
  rw [List.length_map] at h2 h13
  exact kk v _ G' H' ⟨rfl,ps,rfl,h2,h13,hps⟩ k1 hv
theorem ok_row (T:Top K mg):FnOk P w K mg base CX0 2 T.f__law_row T.fd__law_row ["deck", "book", "pool", "most"] (spDv K 241 RRw):=by
 have G__law_next:FnOk P w K mg base CX0 1 T.f__law_next T.fd__law_next ["deck"] (spDv K 1 RNx):=ok_next T
 refine T.F__law_row.ok sc__law_row (fun vs H Q E h=>?_) (fun cdv A outer s H vs Q E hr h=>?_)
 ·obtain ⟨d,c,G,us,ds,rfl,_,_,_,_,hd,⟨x,book,pool,most,fs,rfl,_⟩,_⟩:=h
  rw [List.length_cons,hd.length];rfl
 ·obtain ⟨d,c,G,us,ds,rfl,sg,gd,gc,D,hd,⟨x,book,pool,most,fs0,rfl,⟨b1,b2,b3,b4⟩,hpl,_⟩,kk⟩:=h
  obtain ⟨v1,r1,rfl,h1,hd⟩:=hd.cons
  obtain ⟨v2,r2,rfl,h2,hd⟩:=hd.cons
  obtain ⟨v3,r3,rfl,h3,hd⟩:=hd.cons
  cases hd.nil
  rw [h3.int]
  have zl:(2000:Nat)≤sizeLine:=by decide
  refine ⟨_,(pss_cons (ps_set (i:=4) sc__law_row.nd rfl (Or.inl rfl) (pe_lst pa_nil))
   (pss_cons (ps_for PassesOwn.never rfl (pi_range1 (by rfl) T.range_ (pa_cons (pe_op op_mod (pe_call G__law_next hr (by rfl) T.m__law_next T.F__law_next.kp T.b__law_next .nil pass0 (pa_cons (pv 0) pa_nil st_Name)) (pe_op op_add (pv 3) pe_int)) pa_nil st_BinOp)) (pg_name (i:=5) sc__law_row.nd rfl (Or.inl rfl)) (pss_one (ps_expr (pe_bm PySem.F.plainAttrs_list PySem.F.slot_list_append PySem.F.type_list_append mt_append (pv 4) (pa_cons (pe_callTy (call_tupleK (K:=K) rfl) (by rfl) T.tuple_ bTup (pa_cons (pe_lc (x:= "name") (cap:=["pool", "deck"]) (js:=[2,0]) ⟨rfl,by decide +kernel,by decide +kernel,rfl,(by show ∀ p∈(_:List (Str × NameKind)),p.2 = NameKind.free→List.lookup p.1 (defScope s__law_row).names = some NameKind.cell;decide +kernel),by decide +kernel,by decide +kernel,by decide +kernel⟩ rfl rfl (fun _ _ h=>h) (pi_tup (pv 1)) (fun _ _ _ _=>⟨pif_nil,(pe_ix (ix_listK (K:=K) rfl) (pv 1) (pe_op op_mod (pe_call G__law_next hr (by rfl) T.m__law_next T.F__law_next.kp T.b__law_next .nil pass0 (pa_cons (pv 2) pa_nil st_Name)) (pe_callB (call_lenK (K:=K) rfl) (by rfl) T.len_ PySem.boot_len (pa_cons (pv 1) pa_nil st_Name))) (fun _ _=>rfl))⟩)) pa_nil st_ListComp)) pa_nil st_Call)))))
   (pss_one (ps_ret (pe_callTy (call_tupleK (K:=K) rfl) (by rfl) T.tuple_ bTup (pa_cons (pv 4) pa_nil st_Name)))))) ,?_⟩
  refine ⟨(by show 0≤sizeLine;decide),fun l hl=>?_⟩
  obtain ⟨nd,nc⟩:=Dk.ned D hl
  have gl:G l = none:=sg.free hl
  have k0:Dk 0 d c G H G (upd H l (.lst [])):=(Dk.refl sg D).wr hl gl nd nc _
  have dv1:Dv K d c 1 (tMod (tNx K 0) (tOp (rI0 fun i j=>.int (i + j)) (tVar 3) (tC (.int 1)))) [some (V.ref d),some v1,some v2,some (V.int most),some (V.ref l),none] G (fun x=>∃ r:Int,x = .int r∧0≤r∧r < most + 1):=
   dv_mod (m:=1) (n:=0) (dv_nx rfl) (dv_of (ev_add (ev_var rfl (dat_int _)) ev_int) ⟨_,rfl,by omega,by omega⟩)
  refine Dv.use dv1 k0.gh gd gc (k0.cn 1 (D.mono (by decide))) fun v5 x5 G1 H1 hx5 k1 hv5=>?_
  obtain ⟨r,rfl,r0,r1⟩:=hx5
  obtain ⟨many,rfl⟩:=Int.eq_ofNat_of_zero_le r0
  rw [hv5.int]
  have gl1:G1 l = none:=k1.out upd_same gl
  have hk1:H1 l = some (.lst []):=k1.kp _ _ upd_same nd nc
  have k1:=k0.trans k1
  refine ⟨(many:Int),rfl,by omega,by omega,for_range (n:=many) (fun i σ H' => ∃ (v5:Option V) (G' : Hp) (xs:List V) (fs:List Fs),σ = [some (V.ref d),some v1,some v2,some (V.int most),some (V.ref l),v5]∧Dk (1 + i * 4) d c G H G' H' ∧ G' l = none∧H' l = some (.lst xs)∧Dats K G' xs (fs.map dT)∧fs.length = i∧∀ f∈fs,FOk book.length f) ⟨_,G1,[],[],rfl,k1,gl1,hk1,dats_nil,rfl,fun f hf=>by cases hf⟩ ?_ ?_⟩
  ·rintro i σ H' hi ⟨v5,G',xs,fs,rfl,k2,gl2,hk2,hxs,hfl,hfs⟩
   have D2:DkA 4 H' d c:=k2.cn 4 (D.mono (by omega))
   have hp2:=h2.same k2.gg
   refine ⟨_,rfl,.inl ⟨rfl,_,SqL.of hk2⟩,?_⟩
   have dv2:Dv K d c (book.length * 1) (tLC (iTup K (tVar 1)) [2,0] tNoIf (tOp (rIxL K) (tVar 1) (tMod (tNx K 2) (tLn K 1)))) [some (V.ref d),some v1,some v2,some (V.int most),some (V.ref l),some (V.int (0 + (i:Int)))] G' (fun x=>∃ ds:List PyData,x = .list ds∧ds.length = book.length∧∀ e∈ds,∃ p,e = dF p∧SzP p):=
    dv_lcT (n:=1) book PyData.str (ev_var rfl (h1.same k2.gg)) (by omega) fun G3 j x s3 hj=>dv_pickL (m:=0) (n:=1) (q:=(pool.length:Nat)) (dv_of (ev_var rfl (hp2.same s3)) ⟨_,rfl,by rw [List.length_map],fun e he=>by
     obtain ⟨p,hp,rfl⟩:=List.mem_map.mp he
     exact ⟨p,rfl,hpl p hp⟩⟩) (dv_mod (m:=1) (n:=0) (dv_nx rfl) (dv_of (ev_lenL (eva_cons (ev_var rfl (hp2.same s3)) eva_nil)) ⟨_,rfl,by rw [List.length_map];omega,by rw [List.length_map];omega⟩))
   refine Dv.use dv2 k2.gh (k2.gd D gd) (k2.gc D gc) (D2.mono (by omega)) fun v6 x6 G3 H3 hx6 k3 hv6=>?_
   obtain ⟨ds,rfl,hdl,hds⟩:=hx6
   obtain ⟨f,rfl,hf⟩:=ps_of ds hds
   obtain ⟨p,ys,rfl,hp,hys⟩:=hv6.lst
   refine ⟨p,ys,rfl,.inl ⟨SqL.of (k3.gh _ _ hp),fun t ht=>?_⟩⟩
   have g4:=grow_new (o:=.tup ys) k3.gh ht
   have hk3:H3 l = some (.lst xs):=k3.kp _ _ hk2 nd nc
   have gl3:G3 l = none:=k3.out hk2 gl2
   have ntl:t≠l:=fun z=>by subst z;rw [hk3] at ht;cases ht
   have hk4:upd H3 t (.tup ys) l = some (.lst xs):=by rw [upd_ne (Ne.symm ntl)];exact hk3
   refine ⟨l,_,_,rfl,rfl,hk4,(by have:=hxs.length;rw [List.length_map] at this;omega),?_⟩
   have k34:=k2.trans (k3.trans (g4.dk k3.D0))
   refine ⟨_,upd G3 t (.tup ys),xs ++ [V.ref t],fs ++ [f],rfl,(k34.wr hl (by rw [upd_ne (Ne.symm ntl)];exact gl3) nd nc _).up (by omega),by rw [upd_ne (Ne.symm ntl)];exact gl3,upd_same,?_,by rw [List.length_append,hfl];rfl,fun g hg=>?_⟩
   ·rw [List.map_append]
    exact dats_append (hxs.same (k3.gg.trans g4.gg)) (dats_cons (dat_tup (SqT.of upd_same) (hys.same g4.gg)) dats_nil)
   ·rcases List.mem_append.mp hg with hg | hg
    ·exact hfs g hg
    ·rw [List.mem_singleton.mp hg];exact ⟨by rw [List.length_map] at hdl;exact hdl,hf⟩
  ·rintro σ H' ⟨v5,G',xs,fs,rfl,k2,gl2,hk2,hxs,hfl,hfs⟩
   refine ⟨_,rfl,l,_,rfl,.inl ⟨SqL.of hk2,fun t ht=>?_⟩⟩
   have g8:=grow_new (o:=.tup xs) k2.gh ht
   exact kk (.ref t) _ _ _ ⟨book,pool,most,fs,rfl,⟨b1,b2,b3,b4⟩,hpl,rfl,by omega,hfs⟩ ((k2.trans (g8.dk k2.D0)).up (by omega)) (dat_tup (SqT.of upd_same) (hxs.same g8.gg))
end
end K28
namespace K28
open PySem L2 Frac Lw Dig PySem.NumText Nm
open Ord Num Look Rdo
def Mk (z:Str) (pool:List (Int × Int)) (m:List Wd):Prop:=∃ (bo un:Str) (p q:Int),(bo = S "both" ∨ bo = S "either")∧(un = S "under" ∨ un = S "is")∧(p,q)∈pool∧m = [.t bo,.t un,.t z,.n p q]
def Cs (z:Str) (pool:List (Int × Int)) (cs:List Wd):Prop:=Mk z pool cs∨(∃ m,Mk z pool m∧cs = .t (S "not") :: m)∨∃ (x:Str) (m m' : List Wd),(x = S "and" ∨ x = S "or")∧Mk z pool m∧Mk z pool m' ∧ cs = .t x :: (m ++ m')
theorem mk_cz {book:List Str}{z:Str}{pool:List (Int × Int)}{m:List Wd}(hb:∀ z∈book,wordT z = none) (hz:z∈book) (h:Mk z pool m):CaseZ book pool z 4 m:=by
 obtain ⟨bo,un,p,q,h1,h2,h3,rfl⟩:=h
 exact cz_mark hb hz h3 h1 h2
theorem cs_cz {book:List Str}{z:Str}{pool:List (Int × Int)}{cs:List Wd}(hb:∀ z∈book,wordT z = none) (hz:z∈book) (h:Cs z pool cs):CaseZ book pool z 9 cs:=by
 rcases h with h | ⟨m,h,rfl⟩ | ⟨x,m,m',hx,h,h',rfl⟩
 ·obtain ⟨a,b,r⟩:=mk_cz hb hz h
  exact ⟨a,by omega,r⟩
 ·obtain ⟨a,b,r⟩:=cz_not hb (mk_cz hb hz h)
  exact ⟨a,by omega,r⟩
 ·exact cz_two hb hx (mk_cz hb hz h) (mk_cz hb hz h') (by decide)
def RCs:List PyData→PyData→Prop:=fun ds x=>∃ (z:Str) (pool:List (Int × Int)) (cs:List Wd),ds = [.str z,.list (pool.map dF)]∧(1≤pool.length∧pool.length≤13)∧x = dOs cs∧Cs z pool cs
theorem mk_len {z:Str}{pool:List (Int × Int)}{m:List Wd}(h:Mk z pool m):m.length = 4:=by obtain ⟨_,_,_,_,_,_,_,rfl⟩:=h;rfl
section
variable {P:Program}{w:World}{K:PySem.W.Frag}{mg:Str→Option Value}{base:Heap}{d c:Addr}{G:Hp}{σ:St}
theorem ev_catO {ta tb:TE}{x y:List Wd}(ha:Ev K ta σ G (dOs x)) (hb:Ev K tb σ G (dOs y)) (hne:x≠[]) (hl:x.length + y.length≤900):Ev K (tOp (rCatT K) ta tb) σ G (dOs (x ++ y)):=
 ev_d (ev_catT ha hb (by simpa using hne) (by rw [List.length_map,List.length_map];have:(2000:Nat)≤sizeLine:=(by decide);omega)) (by show PyData.tuple _ = PyData.tuple _;rw [List.map_append])
theorem ev_pickS {tb:TE}{x y:Str}{i:Int}(hb:Ev K tb σ G (.int i)) (h0:0≤i) (h1:i < 2):∃ z,(z = x∨z = y)∧Ev K (tOp (rIxL K) (tLst (tCons (tC (.str x)) (tCons (tC (.str y)) tNil))) tb) σ G (.str z):=by
 obtain ⟨e,he,hev⟩:=ev_pickL (K:=K) (ev_lst (eva_cons (ev_str (x:=x)) (eva_cons (ev_str (x:=y)) eva_nil)) (by show 2≤sizeLine;decide)) hb h0 h1
 have:i = 0∨i = 1:=by omega
 rcases this with rfl | rfl
 ·have e1:e = .str x:=(Option.some.inj he).symm
  subst e1;exact ⟨x,.inl rfl,hev⟩
 ·have e1:e = .str y:=(Option.some.inj he).symm
  subst e1;exact ⟨y,.inr rfl,hev⟩
theorem ev_pickP {ta tb:TE}{pool:List (Int × Int)}{i:Int}(ha:Ev K ta σ G (.list (pool.map dF))) (hb:Ev K tb σ G (.int i)) (h0:0≤i) (h1:i < pool.length):∃ p,p∈pool∧Ev K (tOp (rIxL K) ta tb) σ G (dF p):=by
 obtain ⟨e,he,hev⟩:=ev_pickL (K:=K) ha hb h0 (by rw [List.length_map];exact h1)
 obtain ⟨p,hp,rfl⟩:=List.mem_map.mp (List.mem_of_getElem? he)
 exact ⟨p,hp,hev⟩
theorem ok_case (T:Top K mg):FnOk P w K mg base CX0 2 T.f__law_case T.fd__law_case ["deck", "field", "pool"] (spDv K 1 RCs):=by
 have G__law_next:FnOk P w K mg base CX0 1 T.f__law_next T.fd__law_next ["deck"] (spDv K 1 RNx):=ok_next T
 refine T.F__law_case.ok sc__law_case (fun vs H Q E h=>?_) (fun cdv A outer s H vs Q E hr h=>?_)
 ·obtain ⟨d,c,G,us,ds,rfl,_,_,_,_,hd,⟨x,z,pool,cs,rfl,_⟩,_⟩:=h
  rw [List.length_cons,hd.length];rfl
 ·obtain ⟨d,c,G,us,ds,rfl,sg,gd,gc,D,hd,⟨x,z,pool,cs0,rfl,⟨p1,p2⟩,_⟩,kk⟩:=h
  obtain ⟨v1,r1,rfl,h1,hd⟩:=hd.cons
  obtain ⟨v2,r2,rfl,h2,hd⟩:=hd.cons
  cases hd.nil
  rw [h1.str]
  have zl:(2000:Nat)≤sizeLine:=by decide
  refine ⟨_,(pss_cons (ps_set (i:=3) sc__law_case.nd rfl (Or.inl rfl) (pe_call G__law_next hr (by rfl) T.m__law_next T.F__law_next.kp T.b__law_next .nil pass0 (pa_cons (pv 0) pa_nil st_Name)))
   (pss_cons (ps_set (i:=4) sc__law_case.nd rfl (Or.inl rfl) (pe_lst pa_nil))
   (pss_cons (ps_for PassesOwn.never rfl (pi_range1 (by rfl) T.range_ (pa_cons pe_int pa_nil st_Constant)) (pg_name (i:=5) sc__law_case.nd rfl (Or.inl rfl)) (pss_cons (ps_set (i:=6) sc__law_case.nd rfl (Or.inl rfl) (pe_op op_fdivP (pv 3) (pe_op op_add pe_int (pe_op op_mulW pe_int (pv 5)))))
   (pss_cons (ps_set (i:=7) sc__law_case.nd rfl (Or.inl rfl) (pe_tup (pa_cons pe_str (pa_cons (pv 1) (pa_cons (pe_ix (ix_listK (K:=K) rfl) (pv 2) (pe_op op_mod (pe_op op_fdivP (pv 6) pe_int) (pe_callB (call_lenK (K:=K) rfl) (by rfl) T.len_ PySem.boot_len (pa_cons (pv 2) pa_nil st_Name))) (fun _ _=>rfl)) pa_nil st_Subscript) st_Name) st_Constant)))
   (pss_cons (ps_if (pt_cmpR op_lt (pe_op op_mod (pv 6) pe_int) pe_int (nomark _)) (pss_one (ps_set (i:=7) sc__law_case.nd rfl (Or.inl rfl) (pe_op (op_catTK (K:=K) rfl) (pe_tup (pa_cons pe_str pa_nil st_Constant)) (pe_slice (sl_tupA (K:=K) rfl) (pv 7) (po_some pe_int) po_none)))) pss_nil)
   (pss_one (ps_expr (pe_bm PySem.F.plainAttrs_list PySem.F.slot_list_append PySem.F.type_list_append mt_append (pv 4) (pa_cons (pe_op (op_catTK (K:=K) rfl) (pe_tup (pa_cons (pe_ix (ix_listK (K:=K) rfl) (pe_lst (pa_cons pe_str (pa_cons pe_str pa_nil st_Constant) st_Constant)) (pe_op op_mod (pe_op op_fdivP (pv 6) pe_int) pe_int) (fun _ _=>rfl)) pa_nil st_Subscript)) (pv 7)) pa_nil st_BinOp))))))))
   (pss_cons (ps_if (pt_cmpR op_lt (pe_op op_mod (pv 3) pe_int) pe_int (nomark _)) (pss_one (ps_ret (pe_ix (ix_listK (K:=K) rfl) (pv 4) pe_int (fun _ _=>rfl)))) pss_nil)
   (pss_cons (ps_if (pt_cmpR op_lt (pe_op op_mod (pv 3) pe_int) pe_int (nomark _)) (pss_one (ps_ret (pe_op (op_catTK (K:=K) rfl) (pe_tup (pa_cons pe_str pa_nil st_Constant)) (pe_ix (ix_listK (K:=K) rfl) (pv 4) pe_int (fun _ _=>rfl))))) pss_nil)
   (pss_one (ps_ret (pe_op (op_catTK (K:=K) rfl) (pe_op (op_catTK (K:=K) rfl) (pe_tup (pa_cons (pe_ix (ix_listK (K:=K) rfl) (pe_lst (pa_cons pe_str (pa_cons pe_str pa_nil st_Constant) st_Constant)) (pe_op op_mod (pv 3) pe_int) (fun _ _=>rfl)) pa_nil st_Subscript)) (pe_ix (ix_listK (K:=K) rfl) (pv 4) pe_int (fun _ _=>rfl))) (pe_ix (ix_listK (K:=K) rfl) (pv 4) pe_int (fun _ _=>rfl)))))))))) ,?_⟩
  refine asgs_dv (K:=K) (d:=d) (c:=c) (dv_nx rfl) sg gd gc D fun v3 x G1 H1 hx k1 hv3=>?_
  obtain ⟨cell,rfl,_⟩:=hx
  rw [hv3.int]
  refine ⟨(by show 0≤sizeLine;decide),fun l hl=>?_⟩
  obtain ⟨nd,nc⟩:=Dk.ned k1.D0 hl
  have gl:G1 l = none:=k1.gh.free hl
  have k2:Dk 0 d c G1 H1 G1 (upd H1 l (.lst [])):=(Dk.refl k1.gh k1.D0).wr hl gl nd nc _
  refine ⟨(2:Int),rfl,by decide,by decide,for_range (n:=2) (fun i σ H' => ∃ (v5 v6 v7:Option V) (G' : Hp) (xs:List V) (ms:List (List Wd)),σ = [some (V.ref d),some (V.str z),some v2,some (V.int cell),some (V.ref l),v5,v6,v7]∧Dk 0 d c G1 H1 G' H' ∧ G' l = none∧H' l = some (.lst xs)∧Dats K G' xs (ms.map dOs)∧ms.length = i∧∀ m∈ms,Mk z pool m) ⟨_,_,_,G1,[],[],rfl,k2,gl,upd_same,dats_nil,rfl,fun m hm=>by cases hm⟩ ?_ ?_⟩
  ·rintro i σ H' hi ⟨v5,v6,v7,G',xs,ms,rfl,k3,gl3,hk3,hxs,hml,hms⟩
   refine asgs_ev (K:=K) (ev_div (ev_var rfl (dat_int cell)) (ev_add ev_int (ev_mul ev_int (ev_var rfl (dat_int (0 + (i:Int)))) (by decide) (by omega))) (by omega) (by omega)) k3.gh fun v6' G4 H4 g4 hv6=>?_
   rw [hv6.int]
   generalize cell / (64 + 2000 * (0 + (i:Int))) = more
   have hp4:Dat K G4 v2 (.list (pool.map dF)):=h2.same (k1.gg.trans (k3.gg.trans g4.gg))
   have bl:=m2 (more / 8) (pool.length:Nat) (by omega)
   obtain ⟨pq,hpq,evp⟩:=ev_pickP (K:=K) (G:=G4) (pool:=pool) (σ:=[some (V.ref d),some (V.str z),some v2,some (V.int cell),some (V.ref l),some (V.int (0 + (i:Int))),some (V.int more),v7]) (ta:=tVar 2) (tb:=tMod (tOp (rI CDivP fun i j=>.int (i / j)) (tVar 6) (tC (.int 8))) (tLn K 2)) (ev_var rfl hp4) (ev_mod (ev_div (ev_var rfl (dat_int more)) ev_int (by decide) (by decide)) (ev_d (ev_lenL (eva_cons (ev_var rfl hp4) eva_nil)) (by rw [List.length_map])) (by omega)) bl.1 bl.2
   refine asgs_ev (K:=K) (x:=dOs [.t (S "under"),.t z,.n pq.1 pq.2]) (ev_tup (eva_cons ev_str (eva_cons (ev_var rfl (dat_str z)) (eva_cons evp eva_nil))) (by show 3≤sizeLine;decide)) g4.gh fun v7' G5 H5 g5 hv7=>?_
   have g45:=g4.trans g5
   have fin:∀ (un:Str) (v:V) (G6 H6:Hp),(un = S "under" ∨ un = S "is")→Grow G' H' G6 H6→Dat K G6 v (dOs [.t un,.t z,.n pq.1 pq.2])→∃ (bo:Str),(bo = S "both" ∨ bo = S "either")∧Ev K (tOp (rCatT K) (tTup (tCons (tOp (rIxL K) (tLst (tCons (tC (.str (S "both"))) (tCons (tC (.str (S "either"))) tNil))) (tMod (tOp (rI CDivP fun i j=>.int (i / j)) (tVar 6) (tC (.int 4))) (tC (.int 2)))) tNil)) (tVar 7)) [some (V.ref d),some (V.str z),some v2,some (V.int cell),some (V.ref l),some (V.int (0 + (i:Int))),some (V.int more),some v] G6 (dOs [.t bo,.t un,.t z,.n pq.1 pq.2]):=fun un v G6 H6 hun g6 hv=>by
    have b2:=m2 (more / 4) 2 (by decide)
    obtain ⟨bo,hbo,evb⟩:=ev_pickS (K:=K) (G:=G6) (x:=S "both") (y:=S "either") (σ:=[some (V.ref d),some (V.str z),some v2,some (V.int cell),some (V.ref l),some (V.int (0 + (i:Int))),some (V.int more),some v]) (tb:=tMod (tOp (rI CDivP fun i j=>.int (i / j)) (tVar 6) (tC (.int 4))) (tC (.int 2))) (ev_mod (ev_div (ev_var rfl (dat_int more)) ev_int (by decide) (by decide)) ev_int (by decide)) b2.1 b2.2
    exact ⟨bo,hbo,ev_catO (x:=[.t bo]) (y:=[.t un,.t z,.n pq.1 pq.2]) (ev_tup (eva_cons evb eva_nil) (by show 1≤sizeLine;decide)) (ev_var rfl hv) (by simp) (by show 4≤900;decide)⟩
   refine ifs_ev (evt_test (K:=K) (ev_i0 (ev_mod (ev_var rfl (dat_int more)) ev_int (by decide)) ev_int (dat_bl _))) g5.gh (fun _ G6 H6 g6=>?_) (fun _ G6 H6 g6=>?_)
   ·have g46:=g45.trans g6
    refine asg_ev (K:=K) (d:=dOs [.t (S "is"),.t z,.n pq.1 pq.2]) (ev_catO (x:=[.t (S "is")]) (y:=[.t z,.n pq.1 pq.2]) (ev_tup (eva_cons ev_str eva_nil) (by show 1≤sizeLine;decide)) (ev_d (ev_slT (lo:=some 1) (hi:=none) (ev_var rfl (hv7.same g6.gg)) (fun H Q q=>⟨1,rfl,q⟩) (fun H Q q=>q)) (by rfl)) (by simp) (by show 3≤900;decide)) g6.gh fun v8 G7 H7 g7 hv8=>?_
    have g47:=g46.trans g7
    obtain ⟨bo,hbo,evc⟩:=fin (S "is") v8 G7 H7 (.inr rfl) g47 hv8
    refine ⟨_,rfl,.inl ⟨rfl,_,SqL.of (g47.hh _ _ hk3)⟩,?_⟩
    refine evc.use g47.gh fun v9 G9 H9 g9 hv9=>?_
    have g49:=g47.trans g9
    have hk9:=g49.hh _ _ hk3
    refine ⟨l,_,_,rfl,rfl,hk9,(by have:=hxs.length;rw [List.length_map] at this;omega),?_⟩
    refine ⟨_,_,_,G9,xs ++ [v9],ms ++ [[.t bo,.t (S "is"),.t z,.n pq.1 pq.2]],rfl,(k3.trans (g49.dk k3.D0)).wr hl (g49.out hk3 gl3) nd nc _,g49.out hk3 gl3,upd_same,?_,by rw [List.length_append,hml];rfl,fun m hm=>?_⟩
    ·rw [List.map_append]
     exact dats_append (hxs.same g49.gg) (dats_cons hv9 dats_nil)
    ·rcases List.mem_append.mp hm with hm | hm
     ·exact hms m hm
     ·rw [List.mem_singleton.mp hm];exact ⟨bo,(S "is"),pq.1,pq.2,hbo,(.inr rfl),hpq,rfl⟩
   ·have g46:=g45.trans g6
    obtain ⟨bo,hbo,evc⟩:=fin (S "under") v7' G6 H6 (.inl rfl) g46 (hv7.same g6.gg)
    refine ⟨_,rfl,.inl ⟨rfl,_,SqL.of (g46.hh _ _ hk3)⟩,?_⟩
    refine evc.use g46.gh fun v9 G9 H9 g9 hv9=>?_
    have g49:=g46.trans g9
    have hk9:=g49.hh _ _ hk3
    refine ⟨l,_,_,rfl,rfl,hk9,(by have:=hxs.length;rw [List.length_map] at this;omega),?_⟩
    refine ⟨_,_,_,G9,xs ++ [v9],ms ++ [[.t bo,.t (S "under"),.t z,.n pq.1 pq.2]],rfl,(k3.trans (g49.dk k3.D0)).wr hl (g49.out hk3 gl3) nd nc _,g49.out hk3 gl3,upd_same,?_,by rw [List.length_append,hml];rfl,fun m hm=>?_⟩
    ·rw [List.map_append]
     exact dats_append (hxs.same g49.gg) (dats_cons hv9 dats_nil)
    ·rcases List.mem_append.mp hm with hm | hm
     ·exact hms m hm
     ·rw [List.mem_singleton.mp hm];exact ⟨bo,(S "under"),pq.1,pq.2,hbo,(.inl rfl),hpq,rfl⟩
  ·rintro σ H' ⟨v5,v6,v7,G',xs,ms,rfl,k3,gl3,hk3,hxs,hml,hms⟩
   have k4:Dk 0 d c G1 H1 (upd G' l (.lst xs)) H' := k3.put hl hk3 gl gl3
   have sG:Same G' (upd G' l (.lst xs)):=fun b o e=>by rw [upd_ne (ne_of_none e gl3)];exact e
   match ms,hml,hms,hxs with
   | [m0,m1],_,hms,hxs=>
   have hm0:Mk z pool m0:=hms m0 (by simp)
   have hm1:Mk z pool m1:=hms m1 (by simp)
   have l0:=mk_len hm0
   have l1:=mk_len hm1
   have hM:Dat K (upd G' l (.lst xs)) (.ref l) (.list [dOs m0,dOs m1]):=dat_lst upd_same (hxs.same sG)
   generalize upd G' l (.lst xs) = G4 at k4 hM
   have k14:=k1.trans k4
   have M0:∀ {G5:Hp},Same G4 G5→Ev K (tOp (rIxL K) (tVar 4) (tC (.int 0))) [some (V.ref d),some (V.str z),some v2,some (V.int cell),some (V.ref l),v5,v6,v7] G5 (dOs m0):=fun s=>ev_ixL (n:=0) (ev_var rfl (hM.same s)) ev_int (ixN_nat (i:=0) (by show 0 < 2;decide)) rfl
   have M1:∀ {G5:Hp},Same G4 G5→Ev K (tOp (rIxL K) (tVar 4) (tC (.int 1))) [some (V.ref d),some (V.str z),some v2,some (V.int cell),some (V.ref l),v5,v6,v7] G5 (dOs m1):=fun s=>ev_ixL (n:=1) (ev_var rfl (hM.same s)) ev_int (ixN_nat (i:=1) (by show 1 < 2;decide)) rfl
   have FIN:∀ (v:V) (cs:List Wd) (G5 H5:Hp),Grow G4 H' G5 H5→Dat K G5 v (dOs cs)→Cs z pool cs→Q v H5:=fun v cs G5 H5 g5 hv hc=>kk v _ G5 H5 ⟨z,pool,cs,rfl,⟨p1,p2⟩,rfl,hc⟩ ((k14.trans (g5.dk k4.D0)).up (by decide)) hv
   refine ifs_ev (evt_test (K:=K) (ev_i0 (ev_mod (ev_var rfl (dat_int cell)) ev_int (by decide)) ev_int (dat_bl _))) k4.gh (fun _ G5 H5 g5=>?_) (fun _ G5 H5 g5=>?_)
   ·exact ret_ev (K:=K) (M0 g5.gg) g5.gh fun v G6 H6 g6 hv=>FIN v m0 G6 H6 (g5.trans g6) hv (.inl hm0)
   refine ifs_ev (evt_test (K:=K) (ev_i0 (ev_mod (ev_var rfl (dat_int cell)) ev_int (by decide)) ev_int (dat_bl _))) g5.gh (fun _ G6 H6 g6=>?_) (fun _ G6 H6 g6=>?_)
   ·have g56:=g5.trans g6
    exact ret_ev (K:=K) (ev_catO (x:=[.t (S "not")]) (ev_tup (eva_cons ev_str eva_nil) (by show 1≤sizeLine;decide)) (M0 g56.gg) (by simp) (by show 1 + m0.length≤900;omega)) g6.gh fun v G7 H7 g7 hv=>FIN v _ G7 H7 (g56.trans g7) hv (.inr (.inl ⟨m0,hm0,rfl⟩))
   ·have g56:=g5.trans g6
    have b2:=m2 cell 2 (by decide)
    obtain ⟨x,hx,evx⟩:=ev_pickS (K:=K) (G:=G6) (x:=S "and") (y:=S "or") (σ:=[some (V.ref d),some (V.str z),some v2,some (V.int cell),some (V.ref l),v5,v6,v7]) (tb:=tMod (tVar 3) (tC (.int 2))) (ev_mod (ev_var rfl (dat_int cell)) ev_int (by decide)) b2.1 b2.2
    refine ret_ev (K:=K) (ev_catO (x:=[.t x] ++ m0) (y:=m1) (ev_catO (x:=[.t x]) (ev_tup (eva_cons evx eva_nil) (by show 1≤sizeLine;decide)) (M0 g56.gg) (by simp) (by show 1 + m0.length≤900;omega)) (M1 g56.gg) (by simp) (by show (m0.length + 1) + m1.length≤900;omega)) g6.gh fun v G7 H7 g7 hv=>?_
    exact FIN v _ G7 H7 (g56.trans g7) hv (.inr (.inr ⟨x,m0,m1,hx,hm0,hm1,rfl⟩))
end
end K28
namespace K28
open PySem L2 Frac Lw Dig PySem.NumText Nm
open Ord Num Look Rdo
def oN:Nat→Nat
 | 0=>1
 | n + 1=>2 * oN n + 4
def lN:Nat→Nat
 | 0=>2
 | n + 1=>2 * lN n + 16
theorem oN_ge (n:Nat):1≤oN n:=by cases n with | zero=>exact Nat.le_refl _ | succ n=>show 1≤2 * oN n + 4;omega
theorem lN_ge (n:Nat):2≤lN n:=by cases n with | zero=>exact Nat.le_refl _ | succ n=>show 2≤2 * lN n + 16;omega
def ROr (n:Nat):List PyData→PyData→Prop:=fun ds x=>∃ (book:List Str) (pool:List (Int × Int)) (deep:Nat) (ws:List Wd),ds = [.tuple (book.map PyData.str),.list (pool.map dF),.int (deep:Nat)]∧deep≤n∧(1≤book.length∧book.length≤4∧1≤pool.length∧pool.length≤13)∧(∀ p∈pool,SzP p)∧(∀ z∈book,wordT z = none)∧x = dOs ws∧Gw book pool (lN n) ws
theorem ror_get {n:Nat}{book:List Str}{pool:List (Int × Int)}{i:Int}{x:PyData}(h:ROr n [.tuple (book.map PyData.str),.list (pool.map dF),.int i] x):∃ ws,x = dOs ws∧Gw book pool (lN n) ws:=by
 obtain ⟨bk,pl,dp,ws,e,_,_,_,_,rfl,g⟩:=h
 injection e with e1 e
 injection e with e2 e
 injection e1 with e1
 injection e2 with e2
 have q1:=strs_inj e1
 have q2:=dFs_inj e2
 subst q1 q2
 exact ⟨ws,rfl,g⟩
theorem ror_ex {n:Nat}{book:List Str}{pool:List (Int × Int)}{deep:Nat}(hd:deep≤n) (hb:1≤book.length∧book.length≤4∧1≤pool.length∧pool.length≤13) (hp:∀ p∈pool,SzP p) (hw:∀ z∈book,wordT z = none):∃ x,ROr n [.tuple (book.map PyData.str),.list (pool.map dF),.int (deep:Nat)] x:=
 ⟨_,book,pool,deep,[.t (S "like")],rfl,hd,hb,hp,hw,rfl,gw_like hw (by have:=lN_ge n;omega)⟩
theorem rcs_get {z:Str}{pool:List (Int × Int)}{x:PyData}(h:RCs [.str z,.list (pool.map dF)] x):∃ cs,x = dOs cs∧Cs z pool cs:=by
 obtain ⟨z',pl,cs,e,_,rfl,g⟩:=h
 injection e with e1 e
 injection e with e2 e
 injection e1 with e1
 injection e2 with e2
 have q2:=dFs_inj e2
 subst e1 q2
 exact ⟨cs,rfl,g⟩
theorem rcs_ex {z:Str}{pool:List (Int × Int)}(p1:1≤pool.length) (p2:pool.length≤13):∃ x,RCs [.str z,.list (pool.map dF)] x:=by
 cases pool with
 | nil=>cases p1
 | cons p r=>exact ⟨_,z,p :: r,[.t (S "both"),.t (S "under"),.t z,.n p.1 p.2],rfl,⟨p1,p2⟩,rfl,.inl ⟨S "both",S "under",p.1,p.2,.inl rfl,.inl rfl,List.mem_cons_self,rfl⟩⟩
def spNo0:Sp:=fun _ _ _ _=>False
section
variable {P:Program}{w:World}{K:PySem.W.Frag}{mg:Str→Option Value}{base:Heap}{d c:Addr}{G:Hp}{σ:St}
theorem ev_pickT {ta tb:TE}{book:List Str}{i:Int}(ha:Ev K ta σ G (.tuple (book.map PyData.str))) (hb:Ev K tb σ G (.int i)) (h0:0≤i) (h1:i < book.length):∃ z,z∈book∧Ev K (tOp (rIxT K) ta tb) σ G (.str z):=by
 obtain ⟨j,rfl⟩:=Int.eq_ofNat_of_zero_le h0
 have hj:j < book.length:=by omega
 exact ⟨book[j],List.getElem_mem hj,ev_ixT (n:=j) ha hb (by rw [List.length_map];exact ixN_nat hj) (by rw [List.getElem?_map,List.getElem?_eq_getElem hj];rfl)⟩
theorem dv_evO {t:TE}{ws:List Wd}(h:Ev K t σ G (dOs ws)):Dv K d c 0 t σ G fun x=>∃ w,x = dOs w∧w = ws:=dv_of h ⟨ws,rfl,rfl⟩
theorem dv_catO {m n:Nat}{ta tb:TE}{Ra Rb:List Wd→Prop}(ha:Dv K d c m ta σ G fun x=>∃ w,x = dOs w∧Ra w) (hb:Dv K d c n tb σ G fun x=>∃ w,x = dOs w∧Rb w) (h:∀ a b,Ra a→Rb b→a≠[]∧a.length + b.length≤900):Dv K d c (m + n) (tOp (rCatT K) ta tb) σ G fun x=>∃ w,x = dOs w∧∃ a b,w = a ++ b∧Ra a∧Rb b:=
 dv_op ha hb fun a b va vb G' h1 h2 s hva hvb=>by
  obtain ⟨x,rfl,hx⟩:=h1
  obtain ⟨y,rfl,hy⟩:=h2
  exact ⟨_,⟨x ++ y,rfl,x,y,rfl,hx,hy⟩,ev_catO (ev_c hva) (ev_c hvb) (h x y hx hy).1 (h x y hx hy).2⟩
theorem ok_orderG (T:Top K mg) (N:Nat) (sp:Sp) (hsp:∀ m,N = m + 1→sp = spDv K (oN m) (ROr m)) (hn:lN N≤800) (G__law_order:FnOk P w K mg base CX0 (N + 2) T.f__law_order T.fd__law_order ["deck", "book", "pool", "deep"] sp):FnOk P w K mg base CX0 (N + 3) T.f__law_order T.fd__law_order ["deck", "book", "pool", "deep"] (spDv K (oN N) (ROr N)):=by
 have on:=oN_ge N
 have G__law_next:FnOk P w K mg base CX0 (N + 2) T.f__law_next T.fd__law_next ["deck"] (spDv K 1 RNx):=(ok_next T).mono (by omega)
 have G__law_case:FnOk P w K mg base CX0 (N + 2) T.f__law_case T.fd__law_case ["deck", "field", "pool"] (spDv K 1 RCs):=(ok_case T).mono (by omega)
 refine T.F__law_order.ok sc__law_order (fun vs H Q E h=>?_) (fun cdv A outer s H vs Q E hr h=>?_)
 ·obtain ⟨d,c,G,us,ds,rfl,_,_,_,_,hd,⟨x,book,pool,deep,ws,rfl,_⟩,_⟩:=h
  rw [List.length_cons,hd.length];rfl
 ·obtain ⟨d,c,G,us,ds,rfl,sg,gd,gc,D,hd,⟨x,book,pool,deep,ws0,rfl,hdeep,⟨b1,b2,p1,p2⟩,hpl,hwd,_⟩,kk⟩:=h
  obtain ⟨v1,r1,rfl,h1,hd⟩:=hd.cons
  obtain ⟨v2,r2,rfl,h2,hd⟩:=hd.cons
  obtain ⟨v3,r3,rfl,h3,hd⟩:=hd.cons
  cases hd.nil
  rw [h3.int]
  have FIN:∀ (v:V) (ws:List Wd) (G5 H5:Hp),Dk (oN N) d c G H G5 H5→Dat K G5 v (dOs ws)→Gw book pool (lN N) ws→Q v H5:=fun v ws G5 H5 g5 hv hc=>kk v _ G5 H5 ⟨book,pool,deep,ws,rfl,hdeep,⟨b1,b2,p1,p2⟩,hpl,hwd,rfl,hc⟩ g5 hv
  refine ⟨_,(pss_cons (ps_set (i:=4) sc__law_order.nd rfl (Or.inl rfl) (pe_call G__law_next hr (by rfl) T.m__law_next T.F__law_next.kp T.b__law_next .nil pass0 (pa_cons (pv 0) pa_nil st_Name)))
   (pss_cons (ps_set (i:=5) sc__law_order.nd rfl (Or.inl rfl) (pe_ix (ix_tupK (K:=K) rfl) (pv 1) (pe_op op_mod (pe_op op_fdivP (pv 4) pe_int) (pe_callB (call_lenK (K:=K) rfl) (by rfl) T.len_ PySem.boot_len (pa_cons (pv 1) pa_nil st_Name))) (fun _ _=>rfl)))
   (pss_cons (ps_set (i:=6) sc__law_order.nd rfl (Or.inl rfl) (pe_tup (pa_cons (pe_ix (ix_listK (K:=K) rfl) (pe_lst (pa_cons pe_str (pa_cons pe_str pa_nil st_Constant) st_Constant)) (pe_op op_mod (pe_op op_fdivP (pv 4) pe_int) pe_int) (fun _ _=>rfl)) (pa_cons (pv 5) pa_nil st_Name) st_Subscript)))
   (pss_cons (ps_if ((pw_or (pt_cmpR op_eq (pv 3) pe_int (nomark _)) (pw_or1 (pt_cmpR op_lt (pe_op op_mod (pv 4) pe_int) pe_int (nomark _))))).pt (pss_one (ps_ret (pe_ix (ix_listK (K:=K) rfl) (pe_lst (pa_cons (pv 6) (pa_cons (pv 6) (pa_cons (pe_tup (pa_cons pe_str pa_nil st_Constant)) pa_nil st_Tuple) st_Name) st_Name)) (pe_op op_mod (pe_op op_fdivP (pv 4) pe_int) pe_int) (fun _ _=>rfl)))) pss_nil)
   (pss_cons (ps_set (i:=7) sc__law_order.nd rfl (Or.inl rfl) (pe_call G__law_order hr (by rfl) T.m__law_order T.F__law_order.kp T.b__law_order .nil pass0 (pa_cons (pv 0) (pa_cons (pv 1) (pa_cons (pv 2) (pa_cons (pe_op op_sub (pv 3) pe_int) pa_nil st_BinOp) st_Name) st_Name) st_Name)))
   (pss_cons (ps_if (pt_cmpR op_lt (pe_op op_mod (pv 4) pe_int) pe_int (nomark _)) (pss_one (ps_ret (pe_op (op_catTK (K:=K) rfl) (pe_op (op_catTK (K:=K) rfl) (pe_tup (pa_cons pe_str pa_nil st_Constant)) (pv 7)) (pe_call G__law_order hr (by rfl) T.m__law_order T.F__law_order.kp T.b__law_order .nil pass0 (pa_cons (pv 0) (pa_cons (pv 1) (pa_cons (pv 2) (pa_cons (pe_op op_sub (pv 3) pe_int) pa_nil st_BinOp) st_Name) st_Name) st_Name))))) pss_nil)
   (pss_cons (ps_if (pt_cmpR op_eq (pe_op op_mod (pv 4) pe_int) pe_int (nomark _)) (pss_one (ps_ret (pe_op (op_catTK (K:=K) rfl) (pe_tup (pa_cons pe_str pa_nil st_Constant)) (pv 7)))) pss_nil)
   (pss_cons (ps_if (pt_cmpR op_eq (pe_op op_mod (pv 4) pe_int) pe_int (nomark _)) (pss_one (ps_ret (pe_op (op_catTK (K:=K) rfl) (pe_op (op_catTK (K:=K) rfl) (pe_tup (pa_cons pe_str (pa_cons pe_str (pa_cons (pv 5) pa_nil st_Name) st_Constant) st_Constant)) (pv 7)) (pv 6)))) pss_nil)
   (pss_cons (ps_set (i:=8) sc__law_order.nd rfl (Or.inl rfl) (pe_call G__law_order hr (by rfl) T.m__law_order T.F__law_order.kp T.b__law_order .nil pass0 (pa_cons (pv 0) (pa_cons (pv 1) (pa_cons (pv 2) (pa_cons pe_int pa_nil st_Constant) st_Name) st_Name) st_Name)))
   (pss_cons (ps_if (pt_cmpR op_lt (pe_op op_mod (pv 4) pe_int) pe_int (nomark _)) (pss_one (ps_ret (pe_op (op_catTK (K:=K) rfl) (pe_op (op_catTK (K:=K) rfl) (pe_op (op_catTK (K:=K) rfl) (pe_op (op_catTK (K:=K) rfl) (pe_op (op_catTK (K:=K) rfl) (pe_tup (pa_cons pe_str pa_nil st_Constant)) (pv 6)) (pe_tup (pa_cons pe_str pa_nil st_Constant))) (pe_call G__law_case hr (by rfl) T.m__law_case T.F__law_case.kp T.b__law_case .nil pass0 (pa_cons (pv 0) (pa_cons (pv 5) (pa_cons (pv 2) pa_nil st_Name) st_Name) st_Name))) (pv 7)) (pv 8)))) pss_nil)
   (pss_cons (ps_set (i:=9) sc__law_order.nd rfl (Or.inl rfl) (pe_tup (pa_cons pe_str (pa_cons (pv 5) (pa_cons (pe_ix (ix_listK (K:=K) rfl) (pv 2) (pe_op op_mod (pe_op op_fdivP (pv 4) pe_int) (pe_callB (call_lenK (K:=K) rfl) (by rfl) T.len_ PySem.boot_len (pa_cons (pv 2) pa_nil st_Name))) (fun _ _=>rfl)) pa_nil st_Subscript) st_Name) st_Constant)))
   (pss_one (ps_ret (pe_op (op_catTK (K:=K) rfl) (pe_op (op_catTK (K:=K) rfl) (pe_op (op_catTK (K:=K) rfl) (pe_op (op_catTK (K:=K) rfl) (pe_op (op_catTK (K:=K) rfl) (pe_tup (pa_cons pe_str (pa_cons pe_str (pa_cons pe_str pa_nil st_Constant) st_Constant) st_Constant)) (pv 9)) (pe_tup (pa_cons pe_str (pa_cons pe_str pa_nil st_Constant) st_Constant))) (pv 9)) (pv 7)) (pv 6))))))))))))))) ,?_⟩
  refine asgs_dv (K:=K) (d:=d) (c:=c) (dv_nx rfl) sg gd gc (D.mono (by omega)) fun v4 x G1 H1 hx k1 hv4=>?_
  obtain ⟨cell,rfl,_⟩:=hx
  rw [hv4.int]
  have bl:=m2 (cell / 9) (book.length:Nat) (by omega)
  have h11:=h1.same k1.gg
  obtain ⟨z,hz,evz⟩:=ev_pickT (K:=K) (G:=G1) (book:=book) (σ:=[some (V.ref d),some v1,some v2,some (V.int deep),some (V.int cell),none,none,none,none,none]) (ta:=tVar 1) (tb:=tMod (tOp (rI CDivP fun i j=>.int (i / j)) (tVar 4) (tC (.int 9))) (tLn K 1)) (ev_var rfl h11) (ev_mod (ev_div (ev_var rfl (dat_int cell)) ev_int (by decide) (by decide)) (ev_d (ev_lenT (eva_cons (ev_var rfl h11) eva_nil)) (by rw [List.length_map])) (by omega)) bl.1 bl.2
  refine asgs_ev (K:=K) evz k1.gh fun v5 G2 H2 g2 hv5=>?_
  rw [hv5.str]
  have b2' := m2 (cell / 36) 2 (by decide)
  obtain ⟨u,hu,evu⟩:=ev_pickS (K:=K) (G:=G2) (x:=S "up") (y:=S "down") (σ:=[some (V.ref d),some v1,some v2,some (V.int deep),some (V.int cell),some (V.str z),none,none,none,none]) (tb:=tMod (tOp (rI CDivP fun i j=>.int (i / j)) (tVar 4) (tC (.int 36))) (tC (.int 2))) (ev_mod (ev_div (ev_var rfl (dat_int cell)) ev_int (by decide) (by decide)) ev_int (by decide)) b2'.1 b2'.2
  have hleaf:Leaf book z [.t u,.t z]:=by rcases hu with rfl | rfl;exact .inl rfl;exact .inr rfl
  refine asgs_ev (K:=K) (x:=dOs [.t u,.t z]) (ev_tup (eva_cons evu (eva_cons (ev_var rfl (dat_str z)) eva_nil)) (by show 2≤sizeLine;decide)) g2.gh fun v6 G3 H3 g3 hv6=>?_
  have g23:=g2.trans g3
  have k3:=k1.trans (g23.dk k1.D0)
  generalize hLf:([.t u,.t z]:List Wd) = leaf at hv6 hleaf
  have lfl:leaf.length = 2:=by rw [← hLf];rfl
  clear hLf
  have PICK:∀ (G4 H4:Hp),Grow G3 H3 G4 H4→tRet (tOp (rIxL K) (tLst (tCons (tVar 6) (tCons (tVar 6) (tCons (tTup (tCons (tC (.str (S "like"))) tNil)) tNil)))) (tMod (tOp (rI CDivP fun i j=>.int (i / j)) (tVar 4) (tC (.int 72))) (tC (.int 3)))) { nx:=fun x H' => False,rt:=Q } [some (V.ref d),some v1,some v2,some (V.int deep),some (V.int cell),some (V.str z),some v6,none,none,none] H4:=fun G4 H4 g4=>by
   have b3:=m2 (cell / 72) 3 (by decide)
   obtain ⟨e,he,hev⟩:=ev_pickL (K:=K) (G:=G4) (i:=cell / 72 % 3) (σ:=[some (V.ref d),some v1,some v2,some (V.int deep),some (V.int cell),some (V.str z),some v6,none,none,none]) (ev_lst (eva_cons (ev_var (i:=6) rfl (hv6.same g4.gg)) (eva_cons (ev_var (i:=6) rfl (hv6.same g4.gg)) (eva_cons (ev_tup (eva_cons (ev_str (x:=S "like")) eva_nil) (by show 1≤sizeLine;decide)) eva_nil))) (by show 3≤sizeLine;decide)) (ev_mod (ev_div (ev_var (i:=4) rfl (dat_int cell)) ev_int (by decide) (by decide)) ev_int (by decide)) b3.1 b3.2
   have hR:∃ ws,e = dOs ws∧Gw book pool (lN N) ws:=by
    have hm:=List.mem_of_getElem? he
    simp only [List.mem_cons,List.not_mem_nil,or_false] at hm
    rcases hm with rfl | rfl | rfl
    ·exact ⟨leaf,rfl,gw_leaf hwd hz hleaf (lN_ge N)⟩
    ·exact ⟨leaf,rfl,gw_leaf hwd hz hleaf (lN_ge N)⟩
    ·exact ⟨[.t (S "like")],rfl,gw_like hwd (by have:=lN_ge N;omega)⟩
   obtain ⟨ws,rfl,hg⟩:=hR
   exact ret_ev (K:=K) hev g4.gh fun v G5 H5 g5 hv=>FIN v ws G5 H5 ((k3.trans ((g4.trans g5).dk k3.D0)).up (by omega)) hv hg
  have b9:=m2 cell 9 (by decide)
  refine ifs_ev (evt_or (evt_test (K:=K) (ev_eqI (ev_var rfl (dat_int _)) ev_int)) fun _=>evt_test (K:=K) (ev_i0 (ev_mod (ev_var rfl (dat_int cell)) ev_int (by decide)) ev_int (dat_bl _))) g3.gh (fun _ G4 H4 g4=>PICK G4 H4 g4) (fun hne G4 H4 g4=>?_)
  have hd1:deep≠0:=by
   rintro rfl
   rw [Bool.or_eq_false_iff] at hne
   exact absurd hne.1 (by decide)
  obtain ⟨dp,rfl⟩:∃ dp,deep = dp + 1:=⟨deep - 1,by omega⟩
  clear hne PICK
  obtain ⟨n,rfl⟩:∃ n,N = n + 1:=⟨N - 1,by omega⟩
  obtain rfl:=hsp n rfl
  have on:=oN_ge n
  have hn' : 2 * lN n + 16≤800:=hn
  have k4:=k3.trans (g4.dk k3.D0)
  have D4:=k4.cn (oN n + (oN n + 1)) (D.mono (by show _≤2 * oN n + 4;omega))
  have gd4:=k4.gd D gd
  have gc4:=k4.gc D gc
  have hb4:=h1.same k4.gg
  have hp4:=h2.same k4.gg
  have hv6:=hv6.same g4.gg
  have EX:∀ dd:Nat,dd≤n→∃ x,ROr n [.tuple (book.map PyData.str),.list (pool.map dF),.int (dd:Nat)] x:=fun dd h=>ror_ex h ⟨b1,b2,p1,p2⟩ hpl hwd
  have hdn:dp≤n:=by omega
  have DM:∀ {σ' : St} {G' : Hp},σ'[3]? = some (some (.int ((dp + 1:Nat):Int)))→Ev K (tOp (rI0 fun i j=>.int (i - j)) (tVar 3) (tC (.int 1))) σ' G' (.int (dp:Nat)):=fun e=>ev_d (ev_sub (ev_var e (dat_int _)) ev_int) (by congr 1;omega)
  refine asgs_dv (K:=K) (d:=d) (c:=c) (n:=oN n) ((dv_call (R:=ROr n) rfl (eva_cons (ev_var rfl hb4) (eva_cons (ev_var rfl hp4) (eva_cons (DM rfl) eva_nil))) (EX dp hdn)).imp fun x hx=>ror_get hx) g4.gh gd4 gc4 (D4.mono (by omega)) fun v7 x7 G5 H5 hx7 k5 hv7=>?_
  obtain ⟨one,rfl,gone⟩:=hx7
  have D5:DkA (oN n + 1) H5 d c:=k5.then_ D4
  have hv6:=hv6.same k5.gg
  have k5:=k4.trans k5
  have gd5:=k5.gd D gd
  have gc5:=k5.gc D gc
  have l1:=gone.2.1
  refine ifs_ev (evt_test (K:=K) (ev_i0 (ev_mod (ev_var rfl (dat_int cell)) ev_int (by decide)) ev_int (dat_bl _))) k5.gh (fun _ G6 H6 g6=>?_) (fun _ G6 H6 g6=>?_)
  ·have k6:=k5.trans (g6.dk k5.D0)
   refine ret_dv (K:=K) (d:=d) (c:=c) (n:=0 + oN n) (dv_catO (dv_evO (ev_catO (x:=[.t (S "then")]) (y:=one) (ev_tup (eva_cons ev_str eva_nil) (by show 1≤sizeLine;decide)) (ev_var rfl (hv7.same g6.gg)) (by simp) (by show 1 + one.length≤900;omega))) ((dv_call (R:=ROr n) rfl (eva_cons (ev_var rfl (h1.same k6.gg)) (eva_cons (ev_var rfl (h2.same k6.gg)) (eva_cons (DM rfl) eva_nil))) (EX dp hdn)).imp fun x hx=>ror_get hx) fun a b ha hb=>⟨by rw [ha];simp,by rw [ha];have:=hb.2.1;show (one.length + 1) + b.length≤900;omega⟩) g6.gh (k6.gd D gd) (k6.gc D gc) ((D5.same g6.hh).mono (by omega)) fun v x G7 H7 hx k7 hv=>?_
   obtain ⟨ws,rfl,a,b,rfl,rfl,hb⟩:=hx
   exact FIN v _ G7 H7 ((k6.trans k7).up (by show _≤2 * oN n + 4;omega)) hv (gw_then hwd gone hb (by show _≤2 * lN n + 16;omega))
  have g56:=g6
  have k6:=k5.trans (g6.dk k5.D0)
  refine ifs_ev (evt_test (K:=K) (ev_eqI (ev_mod (ev_var rfl (dat_int cell)) ev_int (by decide)) ev_int)) g6.gh (fun _ G7 H7 g7=>?_) (fun _ G7 H7 g7=>?_)
  ·have k7:=k6.trans (g7.dk k6.D0)
   refine ret_ev (K:=K) (ev_catO (x:=[.t (S "turn")]) (y:=one) (ev_tup (eva_cons ev_str eva_nil) (by show 1≤sizeLine;decide)) (ev_var rfl ((hv7.same g6.gg).same g7.gg)) (by simp) (by show 1 + one.length≤900;omega)) g7.gh fun v G8 H8 g8 hv=>?_
   exact FIN v _ G8 H8 ((k7.trans (g8.dk k7.D0)).up (by show _≤2 * oN n + 4;omega)) hv (gw_turn hwd gone (by show _≤2 * lN n + 16;omega))
  have k7:=k6.trans (g7.dk k6.D0)
  have g57:=g6.trans g7
  refine ifs_ev (evt_test (K:=K) (ev_eqI (ev_mod (ev_var rfl (dat_int cell)) ev_int (by decide)) ev_int)) g7.gh (fun _ G8 H8 g8=>?_) (fun _ G8 H8 g8=>?_)
  ·have k8:=k7.trans (g8.dk k7.D0)
   have g58:=g57.trans g8
   refine ret_ev (K:=K) (ev_catO (x:=[.t (S "pick"),.t (S "same"),.t z] ++ one) (y:=leaf) (ev_catO (x:=[.t (S "pick"),.t (S "same"),.t z]) (y:=one) (ev_tup (eva_cons ev_str (eva_cons ev_str (eva_cons (ev_var rfl (dat_str z)) eva_nil))) (by show 3≤sizeLine;decide)) (ev_var rfl (hv7.same g58.gg)) (by simp) (by show 3 + one.length≤900;omega)) (ev_var rfl (hv6.same g58.gg)) (by simp) (by show (one.length + 1 + 1 + 1) + leaf.length≤900;omega)) g8.gh fun v G9 H9 g9 hv=>?_
   refine FIN v _ G9 H9 ((k8.trans (g9.dk k8.D0)).up (by show _≤2 * oN n + 4;omega)) hv ?_
   have e:[.t (S "pick"),.t (S "same"),.t z] ++ one ++ leaf = (.t (S "pick") :: ([.t (S "same"),.t z] ++ (one ++ leaf)):List Wd):=by rw [List.append_assoc];rfl
   rw [e]
   exact gw_same hwd hz gone hleaf (by show _≤2 * lN n + 16;omega)
  have k8:=k7.trans (g8.dk k7.D0)
  have g58:=g57.trans g8
  have gd8:=k8.gd D gd
  have gc8:=k8.gc D gc
  refine asgs_dv (K:=K) (d:=d) (c:=c) (n:=oN n) ((dv_call (R:=ROr n) rfl (eva_cons (ev_var rfl (h1.same k8.gg)) (eva_cons (ev_var rfl (h2.same k8.gg)) (eva_cons ev_int eva_nil))) (EX 0 (Nat.zero_le _))).imp fun x hx=>ror_get hx) g8.gh gd8 gc8 ((D5.same g58.hh).mono (by omega)) fun v8 x8 G9 H9 hx8 k9' hv8=>?_
  obtain ⟨other,rfl,goth⟩:=hx8
  have l2:=goth.2.1
  have D9:DkA 1 H9 d c:=k9'.then_ (D5.same g58.hh)
  have k9:=k8.trans k9'
  have s59:=g58.gg.trans k9'.gg
  have hv7:=hv7.same s59
  have hv6:=hv6.same s59
  refine ifs_ev (evt_test (K:=K) (ev_i0 (ev_mod (ev_var rfl (dat_int cell)) ev_int (by decide)) ev_int (dat_bl _))) k9.gh (fun _ Ga Ha ga=>?_) (fun _ Ga Ha ga=>?_)
  ·have ka:=k9.trans (ga.dk k9.D0)
   refine ret_dv (K:=K) (d:=d) (c:=c) (n:=0 + 1 + 0 + 0) (dv_catO (dv_catO (dv_catO (dv_evO (ev_catO (x:=[.t (S "then")] ++ leaf) (y:=[.t (S "pick")]) (ev_catO (x:=[.t (S "then")]) (y:=leaf) (ev_tup (eva_cons ev_str eva_nil) (by show 1≤sizeLine;decide)) (ev_var rfl (hv6.same ga.gg)) (by simp) (by show 1 + leaf.length≤900;omega)) (ev_tup (eva_cons ev_str eva_nil) (by show 1≤sizeLine;decide)) (by simp) (by show (leaf.length + 1) + 1≤900;omega)))
    ((dv_call (R:=RCs) rfl (eva_cons (ev_var rfl (dat_str z)) (eva_cons (ev_var rfl (h2.same ka.gg)) eva_nil)) (rcs_ex p1 p2)).imp fun x hx=>rcs_get hx) fun a b ha hb=>⟨by rw [ha];simp,by rw [ha];have:=(cs_cz hwd hz hb).2.1;simp only [List.length_append,List.length_cons,List.length_nil];omega⟩)
    (dv_evO (ev_var rfl (hv7.same ga.gg))) fun a b ha hb=>⟨by obtain ⟨x,y,rfl,rfl,_⟩:=ha;simp,by obtain ⟨x,y,rfl,rfl,hc⟩:=ha;have:=(cs_cz hwd hz hc).2.1;rw [hb];simp only [List.length_append,List.length_cons,List.length_nil];omega⟩)
    (dv_evO (ev_var rfl (hv8.same ga.gg))) fun a b ha hb=>⟨by obtain ⟨x,y,rfl,⟨x',y',rfl,rfl,_⟩,_⟩:=ha;simp,by obtain ⟨x,y,rfl,⟨x',y',rfl,rfl,hc⟩,rfl⟩:=ha;have:=(cs_cz hwd hz hc).2.1;rw [hb];simp only [List.length_append,List.length_cons,List.length_nil];omega⟩) ga.gh (ka.gd D gd) (ka.gc D gc) (D9.same ga.hh) fun v x Gb Hb hx kb hv=>?_
   obtain ⟨ws,rfl,a,b,rfl,⟨a',b',rfl,⟨a'',cs,rfl,rfl,hcs⟩,rfl⟩,rfl⟩:=hx
   refine FIN v _ Gb Hb ((ka.trans kb).up (by show _≤2 * oN n + 4;omega)) hv ?_
   have e:[.t (S "then")] ++ leaf ++ [.t (S "pick")] ++ cs ++ b' ++ b = (.t (S "then") :: (leaf ++ (.t (S "pick") :: (cs ++ (b' ++ b)))):List Wd):=by simp [List.append_assoc]
   rw [e]
   exact gw_case hwd hz hleaf (cs_cz hwd hz hcs) gone goth (by show _≤2 * lN n + 16;omega)
  have ka:=k9.trans (ga.dk k9.D0)
  have hpa:=h2.same ka.gg
  have bp:=m2 (cell / 288) (pool.length:Nat) (by omega)
  obtain ⟨pq,hpq,evp⟩:=ev_pickP (K:=K) (G:=Ga) (pool:=pool) (σ:=[some (V.ref d),some v1,some v2,some (V.int (dp + 1:Nat)),some (V.int cell),some (V.str z),some v6,some v7,some v8,none]) (ta:=tVar 2) (tb:=tMod (tOp (rI CDivP fun i j=>.int (i / j)) (tVar 4) (tC (.int 288))) (tLn K 2)) (ev_var rfl hpa) (ev_mod (ev_div (ev_var rfl (dat_int cell)) ev_int (by decide) (by decide)) (ev_d (ev_lenL (eva_cons (ev_var rfl hpa) eva_nil)) (by rw [List.length_map])) (by omega)) bp.1 bp.2
  refine asgs_ev (K:=K) (x:=dOs [.t (S "under"),.t z,.n pq.1 pq.2]) (ev_tup (eva_cons ev_str (eva_cons (ev_var rfl (dat_str z)) (eva_cons evp eva_nil))) (by show 3≤sizeLine;decide)) ga.gh fun v9 Gb Hb gb hv9=>?_
  have kb:=ka.trans (gb.dk ka.D0)
  have sab:=ga.gg.trans gb.gg
  generalize hmk:([.t (S "under"),.t z,.n pq.1 pq.2]:List Wd) = mark at hv9
  have ml:mark.length = 3:=by rw [← hmk];rfl
  refine ret_ev (K:=K) (ev_catO (x:=[.t (S "pick"),.t (S "or"),.t (S "both")] ++ mark ++ [.t (S "not"),.t (S "either")] ++ mark ++ one) (y:=leaf) (ev_catO (x:=[.t (S "pick"),.t (S "or"),.t (S "both")] ++ mark ++ [.t (S "not"),.t (S "either")] ++ mark) (y:=one) (ev_catO (x:=[.t (S "pick"),.t (S "or"),.t (S "both")] ++ mark ++ [.t (S "not"),.t (S "either")]) (y:=mark) (ev_catO (x:=[.t (S "pick"),.t (S "or"),.t (S "both")] ++ mark) (y:=[.t (S "not"),.t (S "either")]) (ev_catO (x:=[.t (S "pick"),.t (S "or"),.t (S "both")]) (y:=mark) (ev_tup (eva_cons ev_str (eva_cons ev_str (eva_cons ev_str eva_nil))) (by show 3≤sizeLine;decide)) (ev_var rfl hv9) (by simp) (by simp only [List.length_append,List.length_cons,List.length_nil];omega)) (ev_tup (eva_cons ev_str (eva_cons ev_str eva_nil)) (by show 2≤sizeLine;decide)) (by simp) (by simp only [List.length_append,List.length_cons,List.length_nil];omega)) (ev_var rfl hv9) (by simp) (by simp only [List.length_append,List.length_cons,List.length_nil];omega)) (ev_var rfl (hv7.same sab)) (by simp) (by simp only [List.length_append,List.length_cons,List.length_nil];omega)) (ev_var rfl (hv6.same sab)) (by simp) (by simp only [List.length_append,List.length_cons,List.length_nil];omega)) gb.gh fun v Gc Hc gc' hv=>?_
  refine FIN v _ Gc Hc ((kb.trans (gc'.dk kb.D0)).up (by show _≤2 * oN n + 4;omega)) hv ?_
  have e:[.t (S "pick"),.t (S "or"),.t (S "both")] ++ mark ++ [.t (S "not"),.t (S "either")] ++ mark ++ one ++ leaf = (.t (S "pick") :: ((.t (S "or") :: ([.t (S "both"),.t (S "under"),.t z,.n pq.1 pq.2] ++ [.t (S "not"),.t (S "either"),.t (S "under"),.t z,.n pq.1 pq.2])) ++ (one ++ leaf)):List Wd):=by rw [← hmk];simp [List.append_assoc]
  rw [e]
  exact gw_mark hwd hz hpq (hpl pq hpq).2 gone hleaf (by show _≤2 * lN n + 16;omega)
theorem ok_order0 (T:Top K mg):FnOk P w K mg base CX0 3 T.f__law_order T.fd__law_order ["deck", "book", "pool", "deep"] (spDv K (oN 0) (ROr 0)):=ok_orderG T 0 spNo0 (fun m e=>by cases e) (by decide) (T.F__law_order.ok sc__law_order (fun vs H Q E h=>h.elim) (fun cdv A outer s H vs Q E hr h=>h.elim))
theorem ok_orderS (T:Top K mg) (n:Nat) (hn:lN (n + 1)≤800) (h:FnOk P w K mg base CX0 (n + 3) T.f__law_order T.fd__law_order ["deck", "book", "pool", "deep"] (spDv K (oN n) (ROr n))):FnOk P w K mg base CX0 (n + 4) T.f__law_order T.fd__law_order ["deck", "book", "pool", "deep"] (spDv K (oN (n + 1)) (ROr (n + 1))):=ok_orderG T (n + 1) _ (fun m e=>by injection e with e;subst e;rfl) hn h
end
end K28
namespace K28
open PySem L2 Frac Lw Dig PySem.NumText Nm
open Ord Num Look Rdo
section
variable {P:Program}{w:World}{K:PySem.W.Frag}{mg:Str→Option Value}{base:Heap}
theorem take_step {α:Type}{l:List α}{i:Nat}{x:α}(h:l[i]? = some x) {p:α→Prop}(h1:∀ y∈l.take i,p y) (h2:p x):∀ y∈l.take (i + 1),p y:=fun y hy=>by
 rw [List.take_succ,h] at hy
 rcases List.mem_append.mp hy with hy | hy
 ·exact h1 y hy
 ·have:y = x:=by simpa using hy
  rw [this];exact h2
theorem ok_against (T:Top K mg):FnOk P w K mg base CX0 2 T.f_against_ranks T.fd_against_ranks ["table"] (spAgainst K):=by
 have G_ranks_in:FnOk P w K mg base CX0 1 T.f_ranks_in T.fd_ranks_in ["table"] (spP K RRanks):=ok_ranks T
 have G_by_size:FnOk P w K mg base CX0 1 T.f_by_size T.fd_by_size ["one", "other"] (spP K RSize):=ok_size T
 refine T.F_against_ranks.ok sc_against_ranks (fun vs H Q E h=>?_) (fun cdv A outer s H vs Q E hr h=>?_)
 ·obtain ⟨G,v1,L,gs,rfl,_⟩:=h
  rfl
 ·obtain ⟨G,v1,L,gs,rfl,sg,h1,hl,k1,k2⟩:=h
  have zl:(2000:Nat)≤sizeLine:=by decide
  refine ⟨_,(pss_cons (ps_set (i:=1) sc_against_ranks.nd rfl (Or.inl rfl) (pe_call G_ranks_in hr (by rfl) T.m_ranks_in T.F_ranks_in.kp T.b_ranks_in .nil pass0 (pa_cons (pv 0) pa_nil st_Name)))
   (pss_cons (ps_for PassesOwn.never rfl (pi_enumL (by rfl) T.enumerate_ (pa_cons (pv 0) pa_nil st_Name)) (pg_tup (n:=2) rfl (pgs_cons (pg_name (i:=2) sc_against_ranks.nd rfl (Or.inl rfl)) (pgs_cons (pg_name (i:=3) sc_against_ranks.nd rfl (Or.inl rfl)) pgs_nil)) (by rfl)) (pss_one (ps_for PassesOwn.never rfl (pi_enumL (by rfl) T.enumerate_ (pa_cons (pv 3) pa_nil st_Name)) (pg_tup (n:=2) rfl (pgs_cons (pg_name (i:=4) sc_against_ranks.nd rfl (Or.inl rfl)) (pgs_cons (pg_name (i:=5) sc_against_ranks.nd rfl (Or.inl rfl)) pgs_nil)) (by rfl)) (pss_one (ps_if (pt_cmpR op_ne (pv 5) (pe_call G_by_size hr (by rfl) T.m_by_size T.F_by_size.kp T.b_by_size .nil pass0 (pa_cons (pe_ix (ix_listK (K:=K) rfl) (pv 1) (pv 2) (fun _ _=>rfl)) (pa_cons (pe_ix (ix_listK (K:=K) rfl) (pv 1) (pv 4) (fun _ _=>rfl)) pa_nil st_Subscript) st_Subscript)) (nomark _)) (pss_one (ps_ret (pe_tup (pa_cons (pv 2) (pa_cons (pv 4) pa_nil st_Name) st_Name)))) pss_nil)))))
   (pss_one (ps_ret pe_non)))) ,?_⟩
  refine asg_ev (K:=K) (ev_call (E:=E0) (R:=RRanks) (eva_cons (ev_var rfl h1) eva_nil) ⟨L,gs,rfl,hl,rfl⟩) sg fun v2 G1 H1 g1 h2=>?_
  have h11:=h1.same g1.gg
  obtain ⟨pt,rows,rfl,hpt,hrows⟩:=h11.lst
  have hrl:rows.length = gs.length:=by rw [hrows.length,List.length_map]
  have RKx:∀ {σ' : St} {G' : Hp} {j i:Nat},Same G1 G' → σ'[1]? = some (some v2)→σ'[j]? = some (some (.int (i:Nat)))→∀ f,gs[i]? = some f→Ev K (tOp (rIxL K) (tVar 1) (tVar j)) σ' G' (.int (rk L gs f:Nat)):=fun {σ' G' j i} s e1 e2 f hf=>by
   have hi:i < gs.length:=(List.getElem?_eq_some_iff.mp hf).1
   exact ev_ixL (n:=i) (ev_var e1 (h2.same s)) (ev_var e2 (dat_int _)) (by rw [List.length_map];exact ixN_nat hi) (by rw [List.getElem?_map,hf];rfl)
  refine ⟨_,rfl,pt,rfl,⟨rows,SqL.of (g1.gh _ _ hpt)⟩,for_enumL (xs:=rows) (fun i σ H' => ∃ (v2' v3 v4 v5:Option V) (G' : Hp),σ = [some (.ref pt),some v2,v2',v3,v4,v5]∧Grow G1 H1 G' H' ∧ ∀ f∈gs.take i,∀ g∈gs,L f g = cmpN (rk L gs f) (rk L gs g)) ⟨_,_,_,_,G1,rfl,Grow.refl g1.gh,fun f hf=>by simp at hf⟩ ?_ ?_ ?_⟩
  ·rintro i σ H' _ ⟨v2',v3,v4,v5,G',rfl,g,_⟩
   exact SqL.of (g.hh _ _ (g1.gh _ _ hpt))
  ·rintro i x σ H' p hx ⟨v2',v3,v4,v5,G',rfl,g,hok⟩ hp
   have hi:i < gs.length:=by have:=(List.getElem?_eq_some_iff.mp hx).1;omega
   have hgi:gs[i]? = some gs[i]:=List.getElem?_eq_getElem hi
   obtain ⟨dd,hdd,hxd⟩:=hrows.get' hx
   rw [List.getElem?_map,hgi] at hdd
   have hdd:some (PyData.list (gs.map fun g=>.str (L gs[i] g).t)) = some dd:=hdd
   injection hdd with hdd
   subst hdd
   generalize gs[i] = f at hgi hxd
   have gp:=grow_new (o:=.tup [.int (i:Nat),x]) g.gh hp
   have gA:=g.trans gp
   refine ⟨p,_,rfl,SqT.of upd_same,rfl,_,_,rfl,_,_,rfl,rfl,?_⟩
   obtain ⟨px,ys,rfl,hpx,hys⟩:=hxd.lst
   have hyl:ys.length = gs.length:=by rw [hys.length,List.length_map]
   have hpx' := gA.hh _ _ (g1.gh _ _ hpx)
   refine ⟨_,rfl,px,rfl,⟨ys,SqL.of hpx'⟩,for_enumL (xs:=ys) (fun j σ H' => ∃ (v4 v5:Option V) (G' : Hp),σ = [some (.ref pt),some v2,some (.int (i:Nat)),some (.ref px),v4,v5]∧Grow G1 H1 G' H' ∧ ∀ g∈gs.take j,L f g = cmpN (rk L gs f) (rk L gs g)) ⟨_,_,_,rfl,gA,fun g hg=>by simp at hg⟩ ?_ ?_ ?_⟩
   ·rintro j σ H' _ ⟨v4,v5,G',rfl,g,_⟩
    exact SqL.of (g.hh _ _ (g1.gh _ _ hpx))
   ·rintro j y σ H2 q hy ⟨v4,v5,G2,rfl,gB,hok2⟩ hq
    have hj:j < gs.length:=by have:=(List.getElem?_eq_some_iff.mp hy).1;omega
    have hgj:gs[j]? = some gs[j]:=List.getElem?_eq_getElem hj
    obtain ⟨dd,hdd,hyd⟩:=hys.get' hy
    rw [List.getElem?_map,hgj] at hdd
    have hdd:some (PyData.str (L f gs[j]).t) = some dd:=hdd
    injection hdd with hdd
    subst hdd
    generalize gs[j] = g' at hgj hyd
    have gq:=grow_new (o:=.tup [.int (j:Nat),y]) gB.gh hq
    have gC:=gB.trans gq
    refine ⟨q,_,rfl,SqT.of upd_same,rfl,_,_,rfl,_,_,rfl,rfl,?_⟩
    refine if_ev (evt_test (K:=K) (ev_neS (ev_var rfl (hyd.same gC.gg)) (ev_call (E:=E0) (R:=RSize) (eva_cons (RKx gC.gg rfl rfl f hgi) (eva_cons (RKx gC.gg rfl rfl g' hgj) eva_nil)) ⟨_,_,rfl,rfl⟩))) gC.gh (fun e G3 H3 g3=>?_) (fun e G3 H3 g3=>?_)
    ·refine ⟨_,rfl,_,rfl,(by show 2≤sizeLine;decide),fun t ht=>?_⟩
     have gD:=gC.trans g3
     have gt:=grow_new (o:=.tup [V.int (i:Nat),V.int (j:Nat)]) gD.gh ht
     refine k2 t _ _ (g1.trans (gD.trans gt)) ?_
     cases ea:agree L gs with
     | false=>rfl
     | true=>
      unfold agree at ea
      have:=of_decide_eq_true (List.all_eq_true.mp (List.all_eq_true.mp ea f (List.mem_of_getElem? hgi)) g' (List.mem_of_getElem? hgj))
      rw [this,decide_eq_true rfl] at e
      cases e
    ·have e' : L f g' = cmpN (rk L gs f) (rk L gs g'):=by
      by_cases z:(L f g').t = (cmpN (rk L gs f) (rk L gs g')).t
      ·exact t_inj.mp z
      ·rw [decide_eq_false z] at e;cases e
     exact ⟨_,_,G3,rfl,gC.trans g3,take_step hgj hok2 e'⟩
   ·rintro σ H2 ⟨v4,v5,G2,rfl,gB,hok2⟩
    have ht:gs.take ys.length = gs:=by rw [hyl];exact List.take_length
    rw [ht] at hok2
    exact ⟨_,_,_,_,G2,rfl,gB,take_step hgi hok hok2⟩
  ·rintro σ H' ⟨v2',v3,v4,v5,G',rfl,g,hok⟩
   have ht:gs.take rows.length = gs:=by rw [hrl];exact List.take_length
   rw [ht] at hok
   refine k1 G' H' (g1.trans g) ?_
   unfold agree
   exact List.all_eq_true.mpr fun f hf=>List.all_eq_true.mpr fun g hg=>decide_eq_true (hok f hf g hg)
theorem ok_agree (T:Top K mg):FnOk P w K mg base CX0 3 T.f_looks_agree T.fd_looks_agree ["table"] (spP K RAgree):=by
 have G_against_ranks:FnOk P w K mg base CX0 2 T.f_against_ranks T.fd_against_ranks ["table"] (spAgainst K):=ok_against T
 refine T.F_looks_agree.ok sc_looks_agree (fun vs H Q E h=>?_) (fun cdv A outer s H vs Q E hr h=>?_)
 ·obtain ⟨G,as,d,sg,hv,⟨L,gs,rfl,_⟩,_⟩:=h
  rw [hv.length];rfl
 ·obtain ⟨G,as,d,sg,hv,⟨L,gs,rfl,hl,rfl⟩,k⟩:=h
  obtain ⟨v1,r1,rfl,h1,hv⟩:=hv.cons
  cases hv.nil
  refine ⟨_,(pss_one (ps_ret (pe_cmpR op_isN (pe_call G_against_ranks hr (by rfl) T.m_against_ranks T.F_against_ranks.kp T.b_against_ranks .nil pass0 (pa_cons (pv 0) pa_nil st_Name)) pe_non (nomark _)))) ,?_⟩
  refine ⟨_,rfl,G,v1,L,gs,rfl,sg,h1,hl,fun G' H' g ha=>?_,fun p G' H' g ha=>?_⟩
  ·refine ⟨rfl,?_⟩
   rw [ha] at k
   exact k _ G' H' g (dat_bl _)
  ·refine ⟨rfl,?_⟩
   rw [ha] at k
   exact k _ G' H' g (dat_bl _)
end
end K28
namespace L2
open PySem PySem.Spec PyProof.Rows
abbrev YE:=KX × Addr × Int
def yRel (x:YE) (z:KX × Addr × Value):Prop:=z.1 = x.1∧z.2.1 = x.2.1∧∃ t,z.2.2 = .int x.2.2 t
def dyOk (P:Program) (w:World) (a:Addr) (xs:List YE) (h:Heap):Prop:=(a == sysModules) = false∧xs.length≤sizeLine∧∃ (zs:List (KX × Addr × Value)) (o:Obj) (es:Array DictEntry) (ep:Nat),h.get? a = some o∧o.ExactDict∧o.data = .dict es ep∧es.toList = zs.map (entryOfKey (kind2 (mixKind P w)))∧Paired yRel xs zs∧(xs.map (·.1)).Nodup
def dY (P:Program) (w:World) (a:Addr) (xs:List YE):HO:=.ext (dyOk P w a xs)
theorem dy_obj {P:Program}{w:World}{H:Hp}{h:Heap}{a:Addr}{xs:List YE}(x:dyOk P w a xs h):ObjOk P w H h a (dY P w a xs):=by
 refine ⟨x,?_,fun h1 h2 y k=>?_⟩
 ·obtain ⟨_,_,_,o,_,_,e,_⟩:=x
  exact ⟨o,e⟩
 ·obtain ⟨z1,z2,zs,o,es,ep,e,r⟩:=y
  exact ⟨z1,z2,zs,o,es,ep,k o e,r⟩
theorem yk:∀ {xs:List YE}{zs:List (KX × Addr × Value)},Paired yRel xs zs→zs.map (·.1) = xs.map (·.1)∧∀ z∈zs,∃ x∈xs,yRel x z
 | _,_,.nil=>⟨rfl,fun _ h=>by cases h⟩
 | _,_,.cons r t=>by
  obtain ⟨h1,h2⟩:=yk t
  refine ⟨by rw [List.map_cons,List.map_cons,h1,r.1],fun z hz=>?_⟩
  rcases List.mem_cons.mp hz with rfl | hz
  ·exact ⟨_,List.mem_cons_self,r⟩
  ·obtain ⟨x,hx,e⟩:=h2 z hz
   exact ⟨x,List.mem_cons_of_mem _ hx,e⟩
theorem atKey_none {zs:List (KX × Addr × Value)}{k:KX}(h:k ∉ zs.map (·.1)):atKey zs k = none:=by
 unfold atKey
 rw [Option.map_eq_none_iff,List.find?_eq_none]
 intro z hz e
 exact h (List.mem_map.mpr ⟨z,hz,of_decide_eq_true e⟩)
theorem atKey_y:∀ {xs:List YE}{zs:List (KX × Addr × Value)},Paired yRel xs zs→∀ {k:KX}{b:Addr}{n:Int},(xs.map (·.1)).Nodup→(k,b,n)∈xs→∃ t,atKey zs k = some (b,.int n t)
 | _,_,.nil,k,b,n,_,h=>by cases h
 | _,_,.cons (a:=x) (b:=z) r t,k,b,n,hn,h=>by
  unfold atKey
  rcases List.mem_cons.mp h with e | h
  ·obtain ⟨r1,r2,u,r3⟩:=r
   subst e
   refine ⟨u,?_⟩
   rw [List.find?_cons,decide_eq_true r1]
   show some z.2 = some (b,.int n u)
   congr 1
   exact Prod.ext r2 r3
  ·have hn' : x.1 ∉ _∧_:=List.nodup_cons.mp hn
   have ne:¬ z.1 = k:=fun e=>hn'.1 (List.mem_map.mpr ⟨_,h,by rw [← e,r.1]⟩)
   rw [List.find?_cons,decide_eq_false ne]
   exact atKey_y t hn'.2 h
section
variable {X:Cx}{pins:List (Addr × Obj)}{σ:St}{H G:Hp}{s:Shared}
def tDNewY (P:Program) (w:World):TE:=fun _ H Q=>∀ p,H p = none→Q (.ref p) (upd H p (dY P w p []))
theorem pe_dnewY {P:Program}{w:World}(eP:X.prog = P) (ew:X.w = w) {pos:Pos}:PE X (.Dict [] [] pos) (tDNewY P w):=by
 subst eP ew
 exact fun pins s σ H Q I h=>
 wpAny_Dict_empty ⟨.ref s.heap.objs.size,_,I.laid (a:=s.heap.objs.size) (o:=dY X.prog X.w s.heap.objs.size []) (t' := s.toks) (fun _ _ q=>Heap.get?_push_of_some _ q) (Nat.le_refl _)
  (dy_obj ⟨beq_eq_false_iff_ne.mpr (Ne.symm (Nat.ne_of_lt I.big)),Nat.zero_le _,[],_,#[],0,Heap.get?_push_size _ rfl,⟨rfl,rfl,rfl⟩,rfl,rfl,.nil,List.nodup_nil⟩),rfl,h _ (I.hok.fresh (Nat.le_refl _))⟩
theorem dy_of (I:Inv X pins σ H s) (sg:Same G H) {a:Addr}{xs:List YE}(ha:H a = some (dY X.prog X.w a xs)) (hxs:∀ z∈xs,Dat X.K G (.ref z.2.1) (kdat z.1)):(a == sysModules) = false∧∃ zs,Paired yRel xs zs∧s.heap.DictOfH (kind2 (mixKind X.prog X.w)) a zs∧(xs.map (·.1)).Nodup:=by
 obtain ⟨⟨hsm,_,zs,o',es,ep,h1,h2,h3,h4,h5,h6⟩,_⟩:=(show ObjOk X.prog X.w H s.heap a (dY X.prog X.w a xs) from I.hok a _ ha)
 obtain ⟨q1,q2⟩:=yk h5
 refine ⟨hsm,zs,h5,⟨o',es,ep,h1,h2,h3,h4,fun z hz=>?_,by rw [q1];exact h6⟩,h6⟩
 obtain ⟨x,hx,r⟩:=q2 z hz
 have:=is2_of I sg (hxs x hx)
 rw [← r.1,← r.2.1] at this
 exact this
def sDPutY (P:Program) (w:World) (K:PySem.W.Frag) (td ty tv:TE):TS:=fun D σ H=>tv σ H fun v H1=>td σ H1 fun x H2=>ty σ H2 fun y H3=>∃ (n:Int) (a b:Addr) (k:KX) (xs:List YE) (G:Hp),v = .int n∧x = .ref a∧y = .ref b∧H3 a = some (dY P w a xs)∧Same G H3∧Dat K G (.ref b) (kdat k)∧(∀ z∈xs,Dat K G (.ref z.2.1) (kdat z.1))∧k ∉ xs.map (·.1)∧xs.length < sizeLine∧D.nx σ (upd H3 a (dY P w a (xs ++ [(k,b,n)])))
theorem ps_dputY {P:Program}{w:World}{K:PySem.W.Frag}(eP:X.prog = P) (ew:X.w = w) (eK:X.K = K) {o i value:Expr}{pos pos' : Pos} {td ty tv:TE}(hu:X.A.units + 64 < cLine) (ho:PE X o td) (hi:PE X i ty) (hv:PE X value tv) (hs:swapsWith value (some (.Subscript o i pos')) pos.line X.env = pure false):
  PS X (.Assign [.Subscript o i pos'] value pos) (sDPutY P w K td ty tv):=by
 subst eP ew eK
 intro pins s σ H D I h
 refine wpAny_Assign_Subscript (thn (hv pins s σ H _ I h) fun r s1 ⟨v,H1,I1,rv,q1⟩=>thn (ho pins s1 σ H1 _ I1 q1) fun u s2 ⟨x,H2,I2,rx,q2⟩=>thn (hi pins s2 σ H2 _ I2 q2) fun iv s3 ⟨y,H3,I3,ry,n,a,b,k,xs,G,ev,ex,ey,ha,sg,hb,hxs,hk,hl,q3⟩=>?_) hs
 subst ev ex ey
 obtain ⟨tk,rfl⟩:∃ t,r = Value.int n t:=rv
 obtain rfl:u = Value.ref a:=rx
 obtain rfl:iv = Value.ref b:=ry
 obtain ⟨hsm,zs,pr,dd,hnd⟩:=dy_of I3 sg ha hxs
 obtain ⟨q1,_⟩:=yk pr
 have hlz:zs.length = xs.length:=by have:=congrArg List.length q1;simpa using this
 refine wpAny_setItem_heap (hsz:=by omega) (show X.A.units + 1 + 1 < cLine by omega) (is2_of I3 sg hb) dd fun h' dd' hs=>?_
 rw [storedH_new (atKey_none (by rw [q1];exact hk))] at dd'
 obtain ⟨q,es',ep',hq,g2,g3,g4,_,g5⟩:=dd'
 refine ⟨σ,_,d_write I3 (by rw [ha];exact True.intro) hs ⟨q,hq⟩ (dy_obj ⟨hsm,?_,zs ++ [(k,b,.int n tk)],q,es',ep',hq,g2,g3,g4,pr.snoc ⟨rfl,rfl,tk,rfl⟩,?_⟩),q3⟩
 ·rw [List.length_append];show xs.length + 1≤sizeLine;omega
 ·rw [List.map_append] at g5 ⊢
  rw [← q1];exact g5
def rIxY (P:Program) (w:World) (K:PySem.W.Frag):R2:=fun x y H Q=>∃ (n:Int) (a b b' : Addr) (k:KX) (xs:List YE) (G:Hp),x = .ref a∧y = .ref b∧H a = some (dY P w a xs)∧Same G H∧Dat K G (.ref b) (kdat k)∧(∀ z∈xs,Dat K G (.ref z.2.1) (kdat z.1))∧(k,b',n)∈xs∧Q (.int n) H
theorem ix_dY {P:Program}{w:World}{K:PySem.W.Frag}(eP:X.prog = P) (ew:X.w = w) (eK:X.K = K) (hu:X.A.units + 64 < cLine):IxR X (rIxY P w K):=by
 subst eP ew eK
 intro value slice pins s σ H x y v u Q I rx ry h hs
 obtain ⟨n,a,b,b',k,xs,G,rfl,rfl,ha,sg,hb,hxs,hm,q⟩:=h
 cases rx
 cases ry
 obtain ⟨hsm,zs,pr,dd,hnd⟩:=dy_of I sg ha hxs
 obtain ⟨t,ht⟩:=atKey_y pr hnd hm
 have hT:s.TypeIs (.ref a) "dict" := dd.typeIs
 have h2:wpAny (model X.prog X.w) X.A (getItem (.ref a) (.ref b)) (EP X pins σ Q) X.xe s:=wpAny_getItem_heap (show X.A.units + 1 + 1 < cLine by omega) (is2_of I sg hb) dd ht ⟨.int n,H,I.tok _,⟨t,rfl⟩,q⟩
 unfold subscriptTail
 refine wpAny_bind ?_
 rw [getitemInPython_of_ne hT.not_modules]
 refine wpAny_bind (wpAny_specialOf hT slot_dict_getitem.lookup ?_)
 have fin:wpAny (model X.prog X.w) X.A (subscripted slice false (.ref a) (.ref b)) (fun r s₃=>wpAny (model X.prog X.w) X.A (letTemporaryGo value (.ref a) r >>= fun _=>pure r) (EP X pins σ Q) X.xe s₃) X.xe s:=by
  rw [hs]
  exact wpAny_operating (wpAny_mono h2 (fun r s₃ h₃=>wpAny_bind (wpAny_letTemporaryGo (wpAny_pure h₃))) fun _ _ x=>x)
 first
  | exact wpAny_pure (wpAny_bind fin)
  | exact wpAny_bind (wpAny_pure (wpAny_bind fin))
  | exact wpAny_bind fin
end
end L2
namespace L2
open PySem PySem.Spec PyProof.Rows
structure Zap (z TI TO i1 i2:Addr) (f1 f2:List Addr):Prop where
 iz:TI≠z
 oz:TO≠z
 az:i1≠z
 bz:i2≠z
 io:TI≠TO
 ia:TI≠i1
 ib:TI≠i2
 oa:TO≠i1
 ob:TO≠i2
 ab:i1≠i2
 z1:z ∉ f1
 z2:z ∉ f2
 o1:TO ∉ f1
 o2:TO ∉ f2
 b1:i2 ∉ f1
 a2:i1 ∉ f2
section
variable {prog:Program}{w:World}{A:Around}{E:Value→Shared→Prop}{s:Shared}{z TI TO i1 i2:Addr}{f1 f2:List Addr}{n1 n2 k:Nat}{P1 P2:Nat→Value→Prop}{S1 S2:Nat→Heap→Prop}{a b:Value}
theorem ne_mem {c d:Addr}{f:List Addr}(h:d ∉ f) (hc:c∈f):c≠d:=fun e=>h (e ▸ hc)
theorem zx_item {Q:Value→Shared→Prop}(Z:Zap z TI TO i1 i2 f1 f2) (D1:Draws prog w A i1 f1 n1 P1 S1) (D2:Draws prog w A i2 f2 n2 P2 S2) (hz:IsZip s.heap z TI TO .none) (ht:IsPair s.heap TI (.ref i1) (.ref i2)) (ho:IsPair s.heap TO a b) (t1:S1 k s.heap) (t2:S2 k s.heap) (k1:k < n1) (k2:k < n2)
  (q:∀ x y h' tk,P1 k x→P2 k y→IsZip h' z TI TO (rawInt s.heap.objs.size)→IsPair h' TO x y→S1 (k + 1) h' → S2 (k + 1) h' → IsPair h' s.heap.objs.size x y→
   (∀ c o,c≠z→c≠TO→c≠i1→c≠i2→s.heap.get? c = some o→h'.get? c = some o)→Q (.ref s.heap.objs.size) { s with heap:=h',toks:=tk }):
  wpAny (model prog w) A (Builtin.«zip.__next__» ⟨[.ref z],[]⟩) (fun fin s' => ∃ v,fin = .done (.ret v)∧Q v s') E s:=by
 refine wpAny_bind (m:=field (.ref z) 2) (wpAny_field hz rfl (x:=.bool false) rfl (wpAny_bind (m:=field (.ref z) 3) (wpAny_field hz rfl (x:=.ref TI) rfl (wpAny_bind (wpAny_seqItems ht rfl ?_)))))
 refine wpAny_bind (m:=Builtin.SmallTypes.ownedTupleIsFree (.ref z)) ?_
 unfold Builtin.SmallTypes.ownedTupleIsFree;refine wpAny_bind (wpAny_field hz rfl (x:=.none) rfl (wpAny_pure ?_));rw [if_pos (by simp)]
 refine wpAny_bind (wpAny_rule (wpAny_bind (wpAny_field hz rfl (x:=.ref TO) rfl (wpAny_bind (wpAny_setField_rec hz (by simp) fun g1 (z1:IsZip g1 z TI TO .ellipsis) e1=>wpAny_bind ?_)))))
 simp only [List.zipIdx_cons,List.forIn_cons,List.zipIdx_nil,List.forIn_nil]
 refine wpAny_bind (wpAny_bind (wpAny_onRaise (wpAny_bind (m:=Builtin.SmallTypes.nextOf (.ref i1)) ?_)))
 refine D1.item k _ _ _ k1 (D1.frame _ _ _ t1 fun c hc o e=>e1.extBut _ _ (ne_mem Z.z1 hc) e) fun x g2 tk2 px u1 e2=>wpAny_pure ?_
 dsimp only at e2 ⊢
 have o2:IsPair g2 TO a b:=e2.extBut _ _ Z.oa (e1.extBut _ _ Z.oz ho)
 refine wpAny_bind (wpAny_seqItems o2 rfl (wpAny_bind (wpAny_updateSeq_pair o2 fun g3 (o3:IsPair g3 TO x b) e3=>wpAny_bind (wpAny_letGo (wpAny_pure ?_)))))
 refine wpAny_bind (wpAny_bind (wpAny_onRaise (wpAny_bind (m:=Builtin.SmallTypes.nextOf (.ref i2)) ?_)))
 refine D2.item k _ _ _ k2 (D2.frame _ _ _ t2 fun c hc o e=>e3.extBut _ _ (ne_mem Z.o2 hc) (e2.extBut _ _ (ne_mem Z.a2 hc) (e1.extBut _ _ (ne_mem Z.z2 hc) e))) fun y g4 tk4 py u2 e4=>wpAny_pure ?_
 dsimp only at e4 ⊢
 have o4:IsPair g4 TO x b:=e4.extBut _ _ Z.ob o3
 refine wpAny_bind (wpAny_seqItems o4 rfl (wpAny_bind (wpAny_updateSeq_pair o4 fun g5 (o5:IsPair g5 TO x y) e5=>wpAny_bind (wpAny_letGo (wpAny_pure (wpAny_pure (wpAny_bind (wpAny_seqItems o5 rfl (wpAny_bind (wpAny_newTuple ?_))))))))))
 have z5:IsZip g5 z TI TO .ellipsis:=e5.extBut _ _ Z.oz.symm (e4.extBut _ _ Z.bz.symm (e3.extBut _ _ Z.oz.symm (e2.extBut _ _ Z.az.symm z1)))
 have sz:g5.objs.size = s.heap.objs.size:=by rw [e5.1,e4.1,e3.1,e2.1,e1.1]
 have kp:∀ c o,c≠z→c≠TO→c≠i1→c≠i2→s.heap.get? c = some o→g5.get? c = some o:=fun c o c1 c2 c3 c4 e=>e5.extBut _ _ c2 (e4.extBut _ _ c4 (e3.extBut _ _ c2 (e2.extBut _ _ c3 (e1.extBut _ _ c1 e))))
 have u15:S1 (k + 1) g5:=D1.frame _ _ _ u1 fun c hc o e=>e5.extBut _ _ (ne_mem Z.o1 hc) (e4.extBut _ _ (ne_mem Z.b1 hc) (e3.extBut _ _ (ne_mem Z.o1 hc) e))
 have u25:S2 (k + 1) g5:=D2.frame _ _ _ u2 fun c hc o e=>e5.extBut _ _ (ne_mem Z.o2 hc) e
 have lz:=Heap.lt_size z5
 refine wpAny_bind (m:=Builtin.SmallTypes.ownedTupleHandOut (.ref z) (.ref g5.objs.size)) ?_
 unfold Builtin.SmallTypes.ownedTupleHandOut
 have z6:IsZip (g5.push { cls:=.type "tuple",data:=.seq #[x,y] }) z TI TO .ellipsis:=Heap.get?_push_of_some _ z5
 refine wpAny_bind (wpAny_setField_rec z6 (by simp) fun g7 (z7:IsZip g7 z TI TO (rawInt g5.objs.size)) e7=>wpAny_setField_rec z7 (by simp) fun g8 (z8:IsZip g8 z TI TO (rawInt g5.objs.size)) e8=>?_)
 have up:∀ c o,c≠z→g5.get? c = some o→g8.get? c = some o:=fun c o c1 e=>e8.extBut _ _ c1 (e7.extBut _ _ c1 (Heap.get?_push_of_some _ e))
 have t8:IsPair g8 g5.objs.size x y:=e8.extBut _ _ (Nat.ne_of_gt lz) (e7.extBut _ _ (Nat.ne_of_gt lz) (Heap.get?_push_size _ rfl))
 refine wpAny_pure ⟨.ref g5.objs.size,rfl,?_⟩
 rw [sz] at z8 t8 ⊢
 exact q x y g8 _ px py z8 (up _ _ Z.oz o5) (D1.frame _ _ _ u15 fun c hc o e=>up c o (ne_mem Z.z1 hc) e) (D2.frame _ _ _ u25 fun c hc o e=>up c o (ne_mem Z.z2 hc) e) t8 fun c o c1 c2 c3 c4 e=>up c o c1 (kp c o c1 c2 c3 c4 e)
theorem zx_end {Q:Fin→Shared→Prop}(Z:Zap z TI TO i1 i2 f1 f2) (D1:Draws prog w A i1 f1 n1 P1 S1) (D2:Draws prog w A i2 f2 n2 P2 S2) (hz:IsZip s.heap z TI TO .none) (ht:IsPair s.heap TI (.ref i1) (.ref i2)) (ho:IsPair s.heap TO a b) (t1:S1 k s.heap) (t2:S2 k s.heap) (hk:k = n1∨(k < n1∧k = n2))
  (q:∀ h' e tk,(∀ c o,c≠z→c≠TO→c≠i1→c≠i2→s.heap.get? c = some o→h'.get? c = some o)→(∃ o,h'.get? e = some o∧o.cls = .type "StopIteration")→E (.ref e) { s with heap:=h',toks:=tk }):
  wpAny (model prog w) A (Builtin.«zip.__next__» ⟨[.ref z],[]⟩) Q E s:=by
 refine wpAny_bind (m:=field (.ref z) 2) (wpAny_field hz rfl (x:=.bool false) rfl (wpAny_bind (m:=field (.ref z) 3) (wpAny_field hz rfl (x:=.ref TI) rfl (wpAny_bind (wpAny_seqItems ht rfl ?_)))))
 refine wpAny_bind (m:=Builtin.SmallTypes.ownedTupleIsFree (.ref z)) ?_
 unfold Builtin.SmallTypes.ownedTupleIsFree;refine wpAny_bind (wpAny_field hz rfl (x:=.none) rfl (wpAny_pure ?_));rw [if_pos (by simp)]
 refine wpAny_bind (wpAny_rule (wpAny_bind (wpAny_field hz rfl (x:=.ref TO) rfl (wpAny_bind (wpAny_setField_rec hz (by simp) fun g1 (z1:IsZip g1 z TI TO .ellipsis) e1=>wpAny_bind ?_)))))
 simp only [List.zipIdx_cons,List.forIn_cons,List.zipIdx_nil,List.forIn_nil]
 refine wpAny_bind (wpAny_bind (wpAny_onRaise (wpAny_bind (m:=Builtin.SmallTypes.nextOf (.ref i1)) ?_)))
 have fr1:S1 k g1:=D1.frame _ _ _ t1 fun c hc o e=>e1.extBut _ _ (ne_mem Z.z1 hc) e
 rcases hk with rfl | ⟨k1,rfl⟩
 ·refine D1.done _ _ _ fr1 fun g2 e e2 he=>?_
  obtain ⟨oe,hoe,hce⟩:=he
  have z2:IsZip g2 z TI TO .ellipsis:=e2 _ _ Z.az.symm z1
  have ez:e≠z:=fun x=>by subst x;rw [z2] at hoe;cases hoe;simp at hce
  exact wpAny_setField_rec z2 (by simp) fun g3 _ e3=>q g3 e _ (fun c o c1 _ c3 _ x=>e3.extBut _ _ c1 (e2 _ _ c3 (e1.extBut _ _ c1 x))) ⟨oe,e3.extBut _ _ ez hoe,hce⟩
 ·refine D1.item k _ _ _ k1 fr1 fun x g2 tk2 px u1 e2=>wpAny_pure ?_
  dsimp only at e2 ⊢
  have o2:IsPair g2 TO a b:=e2.extBut _ _ Z.oa (e1.extBut _ _ Z.oz ho)
  refine wpAny_bind (wpAny_seqItems o2 rfl (wpAny_bind (wpAny_updateSeq_pair o2 fun g3 (o3:IsPair g3 TO x b) e3=>wpAny_bind (wpAny_letGo (wpAny_pure ?_)))))
  refine wpAny_bind (wpAny_bind (wpAny_onRaise (wpAny_bind (m:=Builtin.SmallTypes.nextOf (.ref i2)) ?_)))
  refine D2.done _ _ _ (D2.frame _ _ _ t2 fun c hc o e=>e3.extBut _ _ (ne_mem Z.o2 hc) (e2.extBut _ _ (ne_mem Z.a2 hc) (e1.extBut _ _ (ne_mem Z.z2 hc) e))) fun g4 e e4 he=>?_
  dsimp only at e4 ⊢
  obtain ⟨oe,hoe,hce⟩:=he
  have z4:IsZip g4 z TI TO .ellipsis:=e4 _ _ Z.bz.symm (e3.extBut _ _ Z.oz.symm (e2.extBut _ _ Z.az.symm z1))
  have ez:e≠z:=fun x=>by subst x;rw [z4] at hoe;cases hoe;simp at hce
  exact wpAny_setField_rec z4 (by simp) fun g5 _ e5=>q g5 e _ (fun c o c1 c2 c3 c4 x=>e5.extBut _ _ c1 (e4 _ _ c4 (e3.extBut _ _ c2 (e2.extBut _ _ c3 (e1.extBut _ _ c1 x))))) ⟨oe,e5.extBut _ _ ez hoe,hce⟩
end
end L2
namespace L2
open PySem PySem.Spec PyProof.Rows
abbrev lIt (l:Addr):Obj:={ cls:=.type "list_iterator",data:=.fields #[.ref l,.int 0 0] }
abbrev yq2 (h:Heap) (l1 l2:Addr):Heap:=(h.push (lIt l1)).push (lIt l2)
abbrev yq4 (h:Heap) (l1 l2:Addr):Heap:=((yq2 h l1 l2).push { cls:=.type "tuple",data:=.seq #[.ref h.objs.size,.ref (h.push (lIt l1)).objs.size] }).push { cls:=.type "tuple",data:=.seq #[.none,.none] }
abbrev yq5 (h:Heap) (l1 l2:Addr):Heap:=(yq4 h l1 l2).push { cls:=.type "zip",data:=.fields #[.none,.bool false,.bool false,.ref (yq2 h l1 l2).objs.size,.ref ((yq2 h l1 l2).push { cls:=.type "tuple",data:=.seq #[.ref h.objs.size,.ref (h.push (lIt l1)).objs.size] }).objs.size] }
theorem IsList.push' {h:Heap}{l:Addr}{xs:Array Value}(hl:h.IsList l xs) (o:Obj):(h.push o).IsList l xs:=by
 obtain ⟨ob,e,r⟩:=hl
 exact ⟨ob,Heap.get?_push_of_some _ e,r⟩
theorem zipL_new (l1 l2:Addr) (xs ys:Array Value):
  Meets (Builtin.«zip.__new__» ⟨[.type "zip",.ref l1,.ref l2],[]⟩) (fun _ R s=>s.heap.IsList l1 xs∧s.heap.IsList l2 ys∧R (.ok (.ret (.ref (yq4 s.heap l1 l2).objs.size))) { s with heap:=yq5 s.heap l1 l2 }):=
 .of_wp fun prog w A R s h=>by
  obtain ⟨hp,g,d,tk,os⟩:=s;obtain ⟨t1,t2,h⟩:=h
  have q0:=sub_zip
  have q1:Heap.IsList (Shared.heap ⟨hp,g,d,tk,os⟩) l1 xs:=t1
  have q2:Heap.IsList (Shared.heap ⟨hp.push (lIt l1),g,d,tk,os⟩) l2 ys:=IsList.push' t2 _
  wp_walk using wpAny_pyIter_list q1,wpAny_pyIter_list q2
  exact ⟨_,rfl,h⟩
section
variable {prog:Program}{w:World}{A:Around}{E:Value→Shared→Prop}{s:Shared}
theorem call_zipL {l1 l2:Addr}{xs ys:Array Value}{Q:Value→Shared→Prop}(q1:s.heap.IsList l1 xs) (q2:s.heap.IsList l2 ys)
  (h:∀ h',IsZip h' (s.heap.objs.size + 4) (s.heap.objs.size + 2) (s.heap.objs.size + 3) .none→IsPair h' (s.heap.objs.size + 2) (.ref s.heap.objs.size) (.ref (s.heap.objs.size + 1))→IsPair h' (s.heap.objs.size + 3) .none .none→
   h'.IsListIter s.heap.objs.size l1 0→h'.IsListIter (s.heap.objs.size + 1) l2 0→(∀ c o,s.heap.get? c = some o→h'.get? c = some o)→Q (.ref (s.heap.objs.size + 4)) { s with heap:=h' }):
  wpAny (model prog w) A (call (.type "zip") [.ref l1,.ref l2]) Q E s:=by
 refine callType_new F.called_zip (by decide) (F.typeCall_zip_2 _ _) (F.newCall_zip_2 _ _) (fun obj=>F.args_object_init_3 obj _ _) F.entry_zip_new (zipL_new l1 l2 xs ys) ⟨q1,q2,?_⟩
 have a1:(s.heap.push (lIt l1)).objs.size = s.heap.objs.size + 1:=Heap.size_push ..
 have a2:(yq2 s.heap l1 l2).objs.size = s.heap.objs.size + 2:=by rw [Heap.size_push,a1]
 have a3:((yq2 s.heap l1 l2).push { cls:=.type "tuple",data:=.seq #[.ref s.heap.objs.size,.ref (s.heap.push (lIt l1)).objs.size] }).objs.size = s.heap.objs.size + 3:=by rw [Heap.size_push,a2]
 have a4:(yq4 s.heap l1 l2).objs.size = s.heap.objs.size + 4:=by rw [Heap.size_push,a3]
 have u:∀ {hh:Heap}{o:Obj}{c:Addr}{ob:Obj},hh.get? c = some ob→(hh.push o).get? c = some ob:=fun e=>Heap.get?_push_of_some _ e
 have g5:(yq5 s.heap l1 l2).get? (yq4 s.heap l1 l2).objs.size = some _:=Heap.get?_push_size _ rfl
 have g4:(yq5 s.heap l1 l2).get? ((yq2 s.heap l1 l2).push { cls:=.type "tuple",data:=.seq #[.ref s.heap.objs.size,.ref (s.heap.push (lIt l1)).objs.size] }).objs.size = some _:=u (Heap.get?_push_size _ rfl)
 have g3:(yq5 s.heap l1 l2).get? (yq2 s.heap l1 l2).objs.size = some _:=u (u (Heap.get?_push_size _ rfl))
 have g2:(yq5 s.heap l1 l2).get? (s.heap.push (lIt l1)).objs.size = some (lIt l2):=u (u (u (Heap.get?_push_size _ rfl)))
 have g1:(yq5 s.heap l1 l2).get? s.heap.objs.size = some (lIt l1):=u (u (u (u (Heap.get?_push_size _ rfl))))
 rw [a2,a3,a4] at g5
 rw [a1,a2] at g3
 rw [a3] at g4
 rw [a1] at g2
 show _∧_
 rw [a4]
 exact ⟨⟨_,g5,rfl⟩,h _ g5 g3 g4 ⟨_,g1,rfl,rfl⟩ ⟨_,g2,rfl,rfl⟩ fun c o x=>u (u (u (u (u x))))⟩
theorem zx_next {z TI TO i1 i2:Addr}{f1 f2:List Addr}{n1 n2 k:Nat}{P1 P2:Nat→Value→Prop}{S1 S2:Nat→Heap→Prop}{a b:Value}{Q:Option Value→Shared→Prop}(Z:Zap z TI TO i1 i2 f1 f2) (D1:Draws prog w A.in1 i1 f1 n1 P1 S1) (D2:Draws prog w A.in1 i2 f2 n2 P2 S2) (hz:IsZip s.heap z TI TO .none) (ht:IsPair s.heap TI (.ref i1) (.ref i2)) (ho:IsPair s.heap TO a b)
  (t1:S1 k s.heap) (t2:S2 k s.heap) (k1:k < n1) (k2:k < n2)
  (q:∀ x y h' tk,P1 k x→P2 k y→IsZip h' z TI TO (rawInt s.heap.objs.size)→IsPair h' TO x y→S1 (k + 1) h' → S2 (k + 1) h' → IsPair h' s.heap.objs.size x y→
   (∀ c o,c≠z→c≠TO→c≠i1→c≠i2→s.heap.get? c = some o→h'.get? c = some o)→Q (some (.ref s.heap.objs.size)) { s with heap:=h',toks:=tk }):wpAny (model prog w) A (pyNext (.ref z)) Q E s:=by
 have hT:s.TypeIs (.ref z) "zip" := ⟨_,hz,rfl⟩
 unfold pyNext
 exact wpAny_bind (wpAny_attempt (wpAny_callSpecial?_slot (name:=Str.ofString "__next__") hT F.slot_zip_next (wpAny_call_entry F.slot_zip_next hT F.entry_zip_next (zx_item Z D1 D2 hz ht ho t1 t2 k1 k2 fun x y h' tk p1 p2 b1 b2 b3 b4 b5 b6=>wpAny_pure (q x y h' tk p1 p2 b1 b2 b3 b4 b5 b6)) (F.args_zip_next_1 _))))
theorem zx_stop {z TI TO i1 i2:Addr}{f1 f2:List Addr}{n1 n2 k:Nat}{P1 P2:Nat→Value→Prop}{S1 S2:Nat→Heap→Prop}{a b:Value}{Q:Option Value→Shared→Prop}(Z:Zap z TI TO i1 i2 f1 f2) (D1:Draws prog w A.in1 i1 f1 n1 P1 S1) (D2:Draws prog w A.in1 i2 f2 n2 P2 S2) (hz:IsZip s.heap z TI TO .none) (ht:IsPair s.heap TI (.ref i1) (.ref i2)) (ho:IsPair s.heap TO a b)
  (t1:S1 k s.heap) (t2:S2 k s.heap) (hk:k = n1∨(k < n1∧k = n2))
  (q:∀ h' tk,(∀ c o,c≠z→c≠TO→c≠i1→c≠i2→s.heap.get? c = some o→h'.get? c = some o)→Q none { s with heap:=h',toks:=tk }):wpAny (model prog w) A (pyNext (.ref z)) Q E s:=by
 have hT:s.TypeIs (.ref z) "zip" := ⟨_,hz,rfl⟩
 unfold pyNext
 refine wpAny_bind (wpAny_attempt (wpAny_callSpecial?_slot (name:=Str.ofString "__next__") hT F.slot_zip_next (wpAny_call_entry F.slot_zip_next hT F.entry_zip_next (zx_end Z D1 D2 hz ht ho t1 t2 hk fun h' e tk hk' he=>?_) (F.args_zip_next_1 _))))
 obtain ⟨o,ho',hc⟩:=he
 exact wpAny_bind (wpAny_isInstance (T:= "StopIteration") (b:=true) ⟨o,ho',hc⟩ isSubtype_stop (wpAny_pure (q _ _ hk')))
end
def ItzL (K:PySem.W.Frag) (a1 a2:Addr):It:=
 ⟨fun i H=>∃ xs x ys y,SqL K H a1 xs∧xs[i]? = some x∧SqL K H a2 ys∧ys[i]? = some y,fun i H v H' => ∃ p x y,H p = none∧v = .ref p∧H' = upd H p (.tup [x,y])∧(∀ xs,SqL K H a1 xs→xs[i]? = some x)∧∀ ys,SqL K H a2 ys→ys[i]? = some y,
  fun i H=>∃ xs ys,SqL K H a1 xs∧SqL K H a2 ys∧(i = xs.length∨(i < xs.length∧i = ys.length))⟩
theorem turn_zipL {P:Program}{w:World}{K:PySem.W.Frag}{elts:List Expr}{tk:Nat}{tpos:Pos}{a1 a2 z TI TO i1 i2:Addr}(Z:Zap z TI TO i1 i2 [i1,a1] [i2,a2]) (n1:a1≠i1) (n2:a2≠i2):Turn P w K (.Tuple elts tk tpos) (ItzL K a1 a2) [z,TI,TO,i1,i2] z (fun i h=>IsZip h z TI TO .none∧IsPair h TI (.ref i1) (.ref i2)∧(∃ a b,IsPair h TO a b)∧h.IsListIter i1 a1 i∧h.IsListIter i2 a2 i) where
 mem:=by simp
 obj:=fun i h st c hc=>by
  obtain ⟨hz,ht,⟨a,b,ho⟩,⟨o1,e1,_,d1⟩,⟨o2,e2,_,d2⟩⟩:=st
  simp only [List.mem_cons,List.not_mem_nil,or_false] at hc
  rcases hc with rfl | rfl | rfl | rfl | rfl
  ·exact ⟨_,hz,fun v q=>by cases q⟩
  ·exact ⟨_,ht,fun v q=>by cases q⟩
  ·exact ⟨_,ho,fun v q=>by cases q⟩
  ·exact ⟨o1,e1,fun v q=>by rw [d1] at q;cases q⟩
  ·exact ⟨o2,e2,fun v q=>by rw [d2] at q;cases q⟩
 keep:=fun i h h' st k=>by
  obtain ⟨hz,ht,⟨a,b,ho⟩,⟨o1,e1,r1⟩,⟨o2,e2,r2⟩⟩:=st
  exact ⟨k z (by simp) _ hz,k TI (by simp) _ ht,⟨a,b,k TO (by simp) _ ho⟩,⟨o1,k i1 (by simp) _ e1,r1⟩,⟨o2,k i2 (by simp) _ e2,r2⟩⟩
 item:=by
  intro X hP hw hK hc i pins s σ H E I hf st hg
  subst hP hw hK
  obtain ⟨xs,x,ys,y,hq1,hx,hq2,hy⟩:=hg
  obtain ⟨its1,rv1,p1,_⟩:=I.list hq1
  obtain ⟨its2,rv2,p2,_⟩:=I.list hq2
  obtain ⟨u1,hu1,ru1⟩:=rv1.get hx
  obtain ⟨u2,hu2,ru2⟩:=rv2.get hy
  obtain ⟨hz,ht,⟨a,b,ho⟩,t1,t2⟩:=st
  have l1:i < its1.toArray.size:=by have:=(List.getElem?_eq_some_iff.mp hu1).1;simpa using this
  have l2:i < its2.toArray.size:=by have:=(List.getElem?_eq_some_iff.mp hu2).1;simpa using this
  have hh:X.A.in1.handled = none:=I.ok.hd hc
  refine zx_next Z (Draws.list hh i1 a1 n1 its1.toArray) (Draws.list hh i2 a2 n2 its2.toArray) hz ht ho ⟨t1,p1.isList⟩ ⟨t2,p2.isList⟩ l1 l2 fun x' y' h' tk' hP1 hP2 b1 b2 b3 b4 b5 b6=>?_
  have ex:x' = u1:=by
   have:its1[i]? = some x' := by simpa using hP1
   rw [hu1] at this;exact (Option.some.inj this).symm
  have ey:y' = u2:=by
   have:its2[i]? = some y' := by simpa using hP2
   rw [hu2] at this;exact (Option.some.inj this).symm
  subst ex ey
  refine ⟨_,rfl,wpAny_letOwnedTupleGo_zip b1 fun h2 hz2 hs2=>?_⟩
  have zt:z≠s.heap.objs.size:=Nat.ne_of_lt (Heap.lt_size hz)
  have new:ObjOk X.prog X.w (upd H s.heap.objs.size (.tup [x,y])) h2 s.heap.objs.size (.tup [x,y]):=
   ⟨by show 2≤sizeLine;decide,[x',y'],.cons ru1 (.cons ru2 .nil),⟨_,(hs2.2 _ (Ne.symm zt)).trans b5,rfl,_,rfl⟩,_,(hs2.2 _ (Ne.symm zt)).trans b5,rfl⟩
  have kk:∀ b o,b ∉ [z,TI,TO,i1,i2]→s.heap.get? b = some o→h2.get? b = some o:=fun b o hb q=>by
   simp only [List.mem_cons,List.not_mem_nil,or_false,not_or] at hb
   exact (hs2.2 b hb.1).trans (b6 b o hb.1 hb.2.2.1 hb.2.2.2.1 hb.2.2.2.2 q)
  have fresh:=I.hok.fresh (Nat.le_refl s.heap.objs.size)
  refine ⟨.ref s.heap.objs.size,_,I.turnsNew (t' := tk') kk hf (Nat.le_refl _) new,rfl,⟨_,x,y,fresh,rfl,rfl,fun zs hy' => by rw [I.list_inj hy' hq1];exact hx,fun zs hy' => by rw [I.list_inj hy' hq2];exact hy⟩,⟨hz2,?_,⟨_,_,(hs2.2 TO Z.oz).trans b2⟩,?_,?_⟩,fun c hc=>?_⟩
  ·exact (hs2.2 TI Z.iz).trans (b6 TI _ Z.iz Z.io Z.ia Z.ib ht)
  ·obtain ⟨o3,g1,g2⟩:=b3.1
   exact ⟨o3,(hs2.2 i1 Z.az).trans g1,g2⟩
  ·obtain ⟨o3,g1,g2⟩:=b4.1
   exact ⟨o3,(hs2.2 i2 Z.bz).trans g1,g2⟩
  ·have lt:∃ o,s.heap.get? c = some o:=by
    simp only [List.mem_cons,List.not_mem_nil,or_false] at hc
    rcases hc with rfl | rfl | rfl | rfl | rfl
    ·exact ⟨_,hz⟩
    ·exact ⟨_,ht⟩
    ·exact ⟨_,ho⟩
    ·obtain ⟨o,e,_⟩:=t1;exact ⟨o,e⟩
    ·obtain ⟨o,e,_⟩:=t2;exact ⟨o,e⟩
   obtain ⟨o,e⟩:=lt
   rw [upd_ne (Nat.ne_of_lt (Heap.lt_size e))];exact (hf c hc).1
 done:=by
  intro X hP hw hK hc i pins s σ H E I hf st hg
  subst hP hw hK
  obtain ⟨xs,ys,hq1,hq2,hi⟩:=hg
  obtain ⟨its1,rv1,p1,_⟩:=I.list hq1
  obtain ⟨its2,rv2,p2,_⟩:=I.list hq2
  have e1:=rv1.length
  have e2:=rv2.length
  obtain ⟨hz,ht,⟨a,b,ho⟩,t1,t2⟩:=st
  have hh:X.A.in1.handled = none:=I.ok.hd hc
  refine zx_stop Z (Draws.list hh i1 a1 n1 its1.toArray) (Draws.list hh i2 a2 n2 its2.toArray) hz ht ho ⟨t1,p1.isList⟩ ⟨t2,p2.isList⟩ (by simp only [List.size_toArray];omega) fun h' tk' b6=>?_
  exact ⟨rfl,I.turns (t' := tk') (fun c u hc' q=>by
   simp only [List.mem_cons,List.not_mem_nil,or_false,not_or] at hc'
   exact b6 c u hc'.1 hc'.2.2.1 hc'.2.2.2.1 hc'.2.2.2.2 q) hf⟩
 self:=fun _ _ _ _ _ st h=>wpAny_pyIter_zip st.1 h
theorem zap_of {n l1 l2:Nat}(b1:l1 < n) (b2:l2 < n):Zap (n + 4) (n + 2) (n + 3) n (n + 1) [n,l1] [n + 1,l2]:=by
 have h:∀ {a b c:Nat},a≠b→a≠c→a ∉ [b,c]:=fun h1 h2 hm=>by
  rcases List.mem_cons.mp hm with e | e
  ·exact h1 e
  ·exact h2 (List.mem_singleton.mp e)
 constructor
 all_goals first
  | exact h (by omega) (by omega)
  | (show (_:Nat)≠_;omega)
theorem for_zipL {K:PySem.W.Frag}{a1 a2:Addr}{xs ys:List V}{g:TG}{tb:TS}{D:Ends}{σ:St}{H:Hp}(Pv:Nat→St→Hp→Prop) (h0:Pv 0 σ H) (hxy:xs.length = ys.length) (hl:∀ i σ H,i≤xs.length→Pv i σ H→SqL K H a1 xs∧SqL K H a2 ys)
  (hs:∀ i x y σ H p,xs[i]? = some x→ys[i]? = some y→Pv i σ H→H p = none→g (.ref p) σ (upd H p (.tup [x,y])) fun σ2 H2=>tb { D with nx:=Pv (i + 1),ct:=Pv (i + 1),bk:=D.nx } σ2 H2) (hd:∀ σ H,Pv xs.length σ H→D.nx σ H):
  ∃ W:Nat→Nat→St→Hp→Prop,(∃ m,W 0 m σ H)∧∀ i m σ H,W i m σ H→
   ((ItzL K a1 a2).stop i H∧D.nx σ H)∨((ItzL K a1 a2).go i H∧∃ N:St→Hp→Prop,(∀ σ' H',N σ' H' → ∃ m',m' < m∧W (i + 1) m' σ' H')∧∀ x H',(ItzL K a1 a2).yld i H x H' → g x σ H' fun σ2 H2=>tb { D with nx:=N,ct:=N,bk:=D.nx } σ2 H2):=by
 refine ⟨fun i m σ H=>m = xs.length - i∧i≤xs.length∧Pv i σ H,⟨xs.length,by simp,Nat.zero_le _,h0⟩,?_⟩
 rintro i m σ H ⟨rfl,hi,p⟩
 obtain ⟨q1,q2⟩:=hl i σ H hi p
 by_cases hlt:i < xs.length
 ·refine .inr ⟨⟨xs,_,ys,_,q1,List.getElem?_eq_getElem hlt,q2,List.getElem?_eq_getElem (by omega)⟩,Pv (i + 1),fun σ' H' p' => ⟨xs.length - (i + 1),by omega,rfl,hlt,p'⟩,fun x H' y=>?_⟩
  obtain ⟨p',x',y',hp',rfl,rfl,hx,hy⟩:=y
  exact hs i x' y' σ H p' (hx xs q1) (hy ys q2) p hp'
 ·have e:i = xs.length:=by omega
  subst e
  exact .inl ⟨⟨xs,ys,q1,q2,.inl rfl⟩,hd σ H p⟩
section
variable {X:Cx}
def iZpL (K:PySem.W.Frag) (ta:TA):TI:=fun σ H R=>ta σ H fun vs H1=>∃ a1 a2,vs = [.ref a1,.ref a2]∧(∃ xs,SqL K H1 a1 xs)∧(∃ ys,SqL K H1 a2 ys)∧R (ItzL K a1 a2) H1
theorem boot_zip:bootBuiltins "zip" = some (.type "zip"):=by decide +kernel
theorem pi_zipL {K:PySem.W.Frag}(eK:X.K = K) {a b:Expr}{ta:TA}{p pos:Pos}{elts:List Expr}{tk:Nat}{tpos:Pos}(hg:Gl X "zip") (hm:X.mg "zip" = none) (ha:PA X [a,b] ta) (hs:starEach [a,b] X.env = [(false,eval a X.env),(false,eval b X.env)]:=by rfl) (hs2:starEach [b] X.env = [(false,eval b X.env)]:=by rfl):
  PI X (.Tuple elts tk tpos) (.Call (.Name "zip" p) [a,b] [] pos) (iZpL K ta):=by
 subst eK
 intro pins s σ H R I h
 refine Call_ (ld_blt I hg hm boot_zip (PyProof.Rows.callWith_type1 (thn (ha pos pins s σ H _ I h) fun us s1 ⟨vs,H1,I1,r1,q1⟩=>?_) (by rw [hs,hs2]) (by rw [hs2];rfl)))
 obtain ⟨l1,l2,e,⟨xs,hq1⟩,⟨ys,hq2⟩,q⟩:=q1
 subst e
 cases r1 with
 | cons r rr=>
  cases rr with
  | cons r' rr=>
   cases rr
   cases (show _ = Value.ref l1 from r)
   cases (show _ = Value.ref l2 from r')
   obtain ⟨its1,rv1,p1,_⟩:=I1.list hq1
   obtain ⟨its2,rv2,p2,_⟩:=I1.list hq2
   have b1:l1 < s1.heap.objs.size:=by obtain ⟨o,e,_⟩:=id p1.isList;exact Heap.lt_size e
   have b2:l2 < s1.heap.objs.size:=by obtain ⟨o,e,_⟩:=id p2.isList;exact Heap.lt_size e
   refine call_zipL (show s1.heap.IsList l1 its1.toArray from p1.isList) (show s1.heap.IsList l2 its2.toArray from p2.isList) fun h' hz ht ho i1 i2 hk=>?_
   have Z:=zap_of b1 b2
   refine wpAny_pyIter_zip hz ⟨s1.heap.objs.size + 4,_,_,_,H1,rfl,I1.kept (t' := s1.toks) hk,turn_zipL Z (Nat.ne_of_lt b1) (Nat.ne_of_lt (Nat.lt_succ_of_lt b2)),⟨hz,ht,⟨_,_,ho⟩,i1,i2⟩,fun c hc=>?_,q⟩
   have hc' : s1.heap.objs.size≤c:=by
    simp only [List.mem_cons,List.not_mem_nil,or_false] at hc
    rcases hc with rfl | rfl | rfl | rfl | rfl
    ·exact Nat.le_add_right _ _
    ·exact Nat.le_add_right _ _
    ·exact Nat.le_add_right _ _
    ·exact Nat.le_refl _
    ·exact Nat.le_add_right _ _
   exact I1.fpOk hc' (I1.hok.fresh hc')
end
end L2
namespace K28
open PySem L2 Frac Lw Dig PySem.NumText Nm
open Ord Num Look Rdo
def spNo:Sp:=fun _ _ _ _=>False
def spThree (K:PySem.W.Frag):Sp:=fun vs H Q _=>∃ (G:Hp) (v1:V) (L:Fs→Fs→An) (gs:List Fs),vs = [v1]∧Same G H∧Dat K G v1 (dTab L gs)∧gs.length≤1000∧agree L gs = true∧∀ G' H',Grow G H G' H' → Q .non H'
def RRow (book:List Str):List PyData→PyData→Prop:=fun ds d=>∃ (ws:List Wd) (num:Int→Int→Prop) (gs:List Fs),ds = [dOs ws,.tuple (gs.map dT)]∧OC book num ws∧(∀ g∈gs,FZ book.length g)∧gs.length≤1000∧Wk (lookA book ws) (· ∈ gs)∧d = .list (gs.map fun g=>.int (rk (lookA book ws) (uniq gs) g:Nat))
section
variable {P:Program}{w:World}{K:PySem.W.Frag}{mg:Str→Option Value}{base:Heap}
theorem ok_picked_out (T:Top K mg):FnOk P w K mg base CX0 1 T.f_picked_out T.fd_picked_out ["row", "places"] spNo:=by
 refine T.F_picked_out.ok sc_picked_out (fun vs H Q E h=>h.elim) (fun cdv A outer s H vs Q E hr h=>h.elim)
theorem ok_three (T:Top K mg):FnOk P w K mg base CX0 4 T.f_three_against T.fd_three_against ["table"] (spThree K):=by
 have G_against_ranks:FnOk P w K mg base CX0 3 T.f_against_ranks T.fd_against_ranks ["table"] (spAgainst K):=(ok_against T).mono (by decide)
 have G_looks_agree:FnOk P w K mg base CX0 3 T.f_looks_agree T.fd_looks_agree ["table"] (spP K RAgree):=ok_agree T
 have G_picked_out:FnOk P w K mg base CX0 3 T.f_picked_out T.fd_picked_out ["row", "places"] spNo:=(ok_picked_out T).mono (by decide)
 refine T.F_three_against.ok sc_three_against (fun vs H Q E h=>?_) (fun cdv A outer s H vs Q E hr h=>?_)
 ·obtain ⟨G,v1,L,gs,rfl,_⟩:=h
  rfl
 ·obtain ⟨G,v1,L,gs,rfl,sg,h1,hl,ha,k⟩:=h
  refine ⟨_,(pss_cons (ps_set (i:=1) sc_three_against.nd rfl (Or.inl rfl) (pe_call G_against_ranks hr (by rfl) T.m_against_ranks T.F_against_ranks.kp T.b_against_ranks .nil pass0 (pa_cons (pv 0) pa_nil st_Name)))
   (pss_cons (ps_if (pt_cmpR op_isN (pv 1) pe_non (nomark _)) (pss_one (ps_ret pe_non)) pss_nil)
   (pss_cons (ps_for PassesOwn.never rfl (pi_range1 (by rfl) T.range_ (pa_cons (pe_callB (call_lenK (K:=K) rfl) (by rfl) T.len_ PySem.boot_len (pa_cons (pv 0) pa_nil st_Name)) pa_nil st_Call)) (pg_name (i:=2) sc_three_against.nd rfl (Or.inl rfl)) (pss_cons (ps_set (i:=3) sc_three_against.nd rfl (Or.inr rfl) (pe_tup (pa_cons (pe_ix (ix_tupK (K:=K) rfl) (pv 1) pe_int (fun _ _=>rfl)) (pa_cons (pe_ix (ix_tupK (K:=K) rfl) (pv 1) pe_int (fun _ _=>rfl)) (pa_cons (pv 2) pa_nil st_Name) st_Subscript) st_Subscript)))
   (pss_one (ps_if (pt_not (pt_val (pe_call G_looks_agree hr (by rfl) T.m_looks_agree T.F_looks_agree.kp T.b_looks_agree .nil pass0 (pa_cons (pe_lc (x:= "place") (cap:=["table", "three"]) (js:=[0,3]) ⟨rfl,by decide +kernel,by decide +kernel,rfl,(by show ∀ p∈(_:List (Str × NameKind)),p.2 = NameKind.free→List.lookup p.1 (defScope s_three_against).names = some NameKind.cell;decide +kernel),by decide +kernel,by decide +kernel,by decide +kernel⟩ rfl rfl (fun _ _ h=>h) (pi_tup (pv 3)) (fun _ _ _ _=>⟨pif_nil,(pe_call G_picked_out hr (by rfl) T.m_picked_out T.F_picked_out.kp T.b_picked_out .nil pass0 (pa_cons (pe_ix (ix_listK (K:=K) rfl) (pv 1) (pv 0) (fun _ _=>rfl)) (pa_cons (pv 2) pa_nil st_Name) st_Subscript))⟩)) pa_nil st_ListComp)))) (pss_one (ps_ret (pv 3))) pss_nil))))
   (pss_one (ps_ret pe_non))))) ,?_⟩
  refine ⟨_,rfl,G,v1,L,gs,rfl,sg,h1,hl,fun G' H' g _=>?_,fun p G' H' g ha' => by rw [ha] at ha';cases ha'⟩
  exact ⟨_,rfl,rfl,_,rfl,iteT (k _ _ g)⟩
theorem ev_ixY {σ:St}{G:Hp}{tb:TE}{i:Nat}{pd b' : Addr} {xs:List YE}{k:KX}{n:Int}(hG:G pd = some (dY P w pd xs)) (hx:∀ z∈xs,Dat K G (.ref z.2.1) (kdat z.1)) (ha:σ[i]? = some (some (.ref pd))) (hb:Ev K tb σ G (kdat k)) (hm:(k,b',n)∈xs):Ev K (tOp (rIxY P w K) (tVar i) tb) σ G (.int n):=
 fun G1 H s1 s2 Q kk=>⟨_,ha,hb G1 H s1 s2 _ fun v G2 H2 g2 hv=>by
  obtain ⟨p,us,rfl,_,_⟩:=Dat.tup hv
  exact ⟨n,pd,p,b',k,xs,G2,rfl,rfl,g2.gh _ _ (g2.gg _ _ (s1 _ _ hG)),g2.gh,hv,fun z hz=>(hx z hz).same (s1.trans g2.gg),hm,kk _ G2 H2 g2 (dat_int _)⟩⟩
theorem uniq_nodup (gs:List Fs):(uniq gs).Nodup:=by
 have key:∀ (l acc:List Fs),acc.Nodup→(l.foldl (fun acc f=>if (acc.any fun g=>decide (g = f)) = true then acc else acc ++ [f]) acc).Nodup:=by
  intro l
  induction l with
  | nil=>intro acc h;exact h
  | cons x r ih=>
   intro acc h
   rw [List.foldl_cons]
   refine ih _ ?_
   by_cases z:(acc.any fun g=>decide (g = x)) = true
   ·rw [if_pos z];exact h
   ·rw [if_neg z]
    refine List.nodup_append.mpr ⟨h,by simp,fun a ha b hb e=>?_⟩
    have hb' : b = x:=by simpa using hb
    exact z (List.any_eq_true.mpr ⟨a,ha,decide_eq_true (e.trans hb')⟩)
 exact key gs [] List.nodup_nil
theorem ok_ranksof (T:Top K mg) (M:Bs K mg base) (W:Wds K w.params mg) (W1:Txs K w.params mg "AHEAD" aheadT) (W2:Txs K w.params mg "OTHER_WAY" otherT):FnOk P w K mg base CX0 9 T.f_ranks_of T.fd_ranks_of ["order", "book", "row"] (spB K T.P_looked cr_looked RRow):=by
 have G_table_of:FnOk P w K mg base CX0 8 T.f_table_of T.fd_table_of ["order", "book", "things"] (spB K T.P_looked cr_looked RTab):=ok_table T M W W1 W2
 have G_each_once:FnOk P w K mg base CX0 8 T.f_each_once T.fd_each_once ["things"] (spP K REach):=(ok_each T).mono (by decide)
 have G_three_against:FnOk P w K mg base CX0 8 T.f_three_against T.fd_three_against ["table"] (spThree K):=(ok_three T).mono (by decide)
 have G_ranks_in:FnOk P w K mg base CX0 8 T.f_ranks_in T.fd_ranks_in ["table"] (spP K RRanks):=(ok_ranks T).mono (by decide)
 refine T.F_ranks_of.ok sc_ranks_of (fun vs H Q E h=>?_) (fun cdv A outer s H vs Q E hr h=>?_)
 ·obtain ⟨G,book,vo,pb,us,ds,d,rfl,_,_,_,hd,⟨ws,num,gs,rfl,_⟩,_⟩:=h
  have:=hd.length
  simp only [List.length_cons,List.length_nil] at this ⊢
  omega
 ·obtain ⟨G,book,vo,pb,us,ds,d,rfl,hT,sg,hpb,hd,⟨ws,num,gs,rfl,oc,hgs,hl,wk,rfl⟩,k⟩:=h
  obtain ⟨v0,r0,e0,h0,hd⟩:=hd.cons
  cases e0
  rename Dats K G us _=>hd
  obtain ⟨v2,r2,rfl,h2,hd⟩:=hd.cons
  cases hd.nil
  have hu:=hr.units
  have hul:=uniq_len gs
  have zl:(2000:Nat)≤sizeLine:=by decide
  refine ⟨_,(pss_cons (ps_set (i:=3) sc_ranks_of.nd rfl (Or.inr rfl) (pe_call G_each_once hr (by rfl) T.m_each_once T.F_each_once.kp T.b_each_once .nil pass0 (pa_cons (pv 2) pa_nil st_Name)))
   (pss_cons (ps_set (i:=4) sc_ranks_of.nd rfl (Or.inl rfl) (pe_call G_table_of hr (by rfl) T.m_table_of T.F_table_of.kp T.b_table_of .nil pass0 (pa_cons (pv 0) (pa_cons (pv 1) (pa_cons (pv 3) pa_nil st_Name) st_Name) st_Name)))
   (pss_cons (ps_set (i:=5) sc_ranks_of.nd rfl (Or.inl rfl) (pe_call G_three_against hr (by rfl) T.m_three_against T.F_three_against.kp T.b_three_against .nil pass0 (pa_cons (pv 4) pa_nil st_Name)))
   (pss_cons (ps_if (pt_cmpR op_notN (pv 5) pe_non (nomark _)) pss_never pss_nil)
   (pss_cons (ps_set (i:=6) sc_ranks_of.nd rfl (Or.inr rfl) (pe_dnewY (P:=P) (w:=w) rfl rfl))
   (pss_cons (ps_for PassesOwn.never rfl (pi_zipL (K:=K) rfl (by rfl) T.zip_ (pa_cons (pv 3) (pa_cons (pe_call G_ranks_in hr (by rfl) T.m_ranks_in T.F_ranks_in.kp T.b_ranks_in .nil pass0 (pa_cons (pv 4) pa_nil st_Name)) pa_nil st_Call) st_Name)) (pg_tup (n:=2) rfl (pgs_cons (pg_name (i:=7) sc_ranks_of.nd rfl (Or.inl rfl)) (pgs_cons (pg_name (i:=8) sc_ranks_of.nd rfl (Or.inl rfl)) pgs_nil)) (by rfl)) (pss_one (ps_dputY (P:=P) (w:=w) (K:=K) rfl rfl rfl hu (pv 6) (pv 7) (pv 8) (by rfl))))
   (pss_one (ps_ret (pe_lc (x:= "thing") (cap:=["ranks"]) (js:=[6]) ⟨rfl,by decide +kernel,by decide +kernel,rfl,(by show ∀ p∈(_:List (Str × NameKind)),p.2 = NameKind.free→List.lookup p.1 (defScope s_ranks_of).names = some NameKind.cell;decide +kernel),by decide +kernel,by decide +kernel,by decide +kernel⟩ rfl rfl (fun _ _ h=>h) (pi_tup (pv 2)) (fun _ _ _ _=>⟨pif_nil,(pe_ix (ix_dY (P:=P) (w:=w) (K:=K) rfl rfl rfl hu) (pv 1) (pv 0) (fun _ _=>rfl))⟩)))))))))) ,?_⟩
  refine asg_ev (K:=K) (ev_call (E:=E0) (R:=REach) (eva_cons (ev_var rfl h2) eva_nil) ⟨gs,rfl,hl,rfl⟩) sg fun v3 G1 H1 g1 h3=>?_
  refine asg_ev (K:=K) (ev_callB (R:=RTab) (d:=dTab (lookA book ws) (uniq gs)) (g1.gg _ _ hT) (g1.gg _ _ hpb) rfl (ev_var rfl (h0.same g1.gg)) (eva_cons (ev_var rfl h3) eva_nil) ⟨ws,num,uniq gs,rfl,oc,fun g hg=>hgs g ((uniq_mem gs g).mp hg),by omega,rfl⟩) g1.gh fun v4 G2 H2 g2 h4=>?_
  have ag:agree (lookA book ws) (uniq gs) = true:=(agree_iff _ _).mpr (wk.sub fun f hf=>(uniq_mem gs f).mp hf)
  refine ⟨_,rfl,G2,v4,lookA book ws,uniq gs,rfl,g2.gh,h4,by omega,ag,fun G3 H3 g3=>?_⟩
  refine ⟨_,rfl,rfl,_,rfl,iteF ?_⟩
  refine fun pd hpd=>?_
  have g03:=(g1.trans g2).trans g3
  have gpd:G3 pd = none:=g3.gh.free hpd
  have s3:Same G3 (upd H3 pd (dY P w pd [])):=g3.gh.trans (same_new hpd)
  have h3' := h3.same (g2.gg.trans g3.gg)
  obtain ⟨p3,ys,rfl,hp3,hys⟩:=h3'.lst
  have hyl:ys.length = (uniq gs).length:=by rw [hys.length,List.length_map]
  refine ⟨_,rfl,_,rfl,G3,_,_,s3,dats_cons (h4.same g3.gg) dats_nil,⟨lookA book ws,uniq gs,rfl,by omega,rfl⟩,fun v5 G4 H4 g4 h5=>?_⟩
  obtain ⟨p5,zs,rfl,hp5,hzs⟩:=h5.lst
  have hzl:zs.length = (uniq gs).length:=by rw [hzs.length,List.length_map]
  have gpd4:G4 pd = none:=by
   cases e:G4 pd with
   | none=>rfl
   | some o=>
    rcases g4.fr pd o e with h | h
    ·rw [gpd] at h;cases h
    ·rw [upd_same] at h;cases h
  have np3:p3≠pd:=ne_of_none hp3 gpd
  have np5:p5≠pd:=ne_of_none hp5 gpd4
  refine ⟨p3,p5,rfl,⟨ys,SqL.of (g4.gh _ _ (g4.gg _ _ hp3))⟩,⟨zs,SqL.of (g4.gh _ _ hp5)⟩,for_zipL (xs:=ys) (ys:=zs) (fun i σ H' => ∃ (vt vr:Option V) (xs:List YE),σ = [some vo,some (.ref pb),some v2,some (.ref p3),some v4,some .non,some (.ref pd),vt,vr]∧(∀ b o,b≠pd→H4 b = some o→H' b = some o)∧H' pd = some (dY P w pd xs)∧xs.map (fun x=>(x.1,x.2.2)) = ((uniq gs).take i).map (fun f=>(keyF f,((rk (lookA book ws) (uniq gs) f:Nat):Int)))∧∀ z∈xs,Dat K G4 (.ref z.2.1) (kdat z.1))
   ⟨_,_,[],rfl,fun b o n e=>e,g4.hh _ _ upd_same,rfl,fun z hz=>by cases hz⟩ (by omega) ?_ ?_ ?_⟩
  ·rintro i σ H' _ ⟨vt,vr,xs,rfl,kp,_⟩
   exact ⟨SqL.of (kp _ _ np3 (g4.gh _ _ (g4.gg _ _ hp3))),SqL.of (kp _ _ np5 (g4.gh _ _ hp5))⟩
  ·rintro i x y σ H' p hx hy ⟨vt,vr,xs,rfl,kp,hk,hxs,hdat⟩ hp
   have hi:i < (uniq gs).length:=by have:=(List.getElem?_eq_some_iff.mp hx).1;omega
   have hgi:(uniq gs)[i]? = some (uniq gs)[i]:=List.getElem?_eq_getElem hi
   obtain ⟨dd,hdd,hxd⟩:=hys.get' hx
   rw [List.getElem?_map,hgi] at hdd
   have hdd:some (dT (uniq gs)[i]) = some dd:=hdd
   injection hdd with hdd
   subst hdd
   obtain ⟨de,hde,hyd⟩:=hzs.get' hy
   rw [List.getElem?_map,hgi] at hde
   have hde:some (PyData.int (rk (lookA book ws) (uniq gs) (uniq gs)[i]:Nat)) = some de:=hde
   injection hde with hde
   subst hde
   have nd:=uniq_nodup gs
   have hnew:(uniq gs)[i] ∉ (uniq gs).take i:=fun h=>by
    obtain ⟨j,hj,e⟩:=List.mem_take_iff_getElem.mp h
    exact List.pairwise_iff_getElem.mp nd j i (by omega) hi (by omega) e
   generalize (uniq gs)[i] = f at hgi hxd hyd hnew
   obtain ⟨px,us,rfl,hpx,hus⟩:=Dat.tup hxd
   have ey:=hyd.int
   subst ey
   refine ⟨p,_,rfl,SqT.of upd_same,rfl,_,_,rfl,_,_,rfl,rfl,?_⟩
   have npp:pd≠p:=fun e=>by rw [← e,hk] at hp;cases hp
   have sG4:Same G4 (upd H' p (.tup [.ref px,.int (rk (lookA book ws) (uniq gs) f:Nat)])):=fun b o e=>same_new hp b o (kp b o (ne_of_none e gpd4) (g4.gh b o e))
   have hkeys:xs.map (·.1) = ((uniq gs).take i).map keyF:=by
    have:=congrArg (List.map Prod.fst) hxs
    rw [List.map_map,List.map_map] at this
    exact this
   have hxl:xs.length≤(uniq gs).length:=by
    have:=congrArg List.length hkeys
    rw [List.length_map,List.length_map,List.length_take] at this
    omega
   have hpx4:Dat K G4 (.ref px) (kdat (keyF f)):=by rw [kdat_key];exact hxd.same g4.gg
   refine ⟨_,rfl,_,rfl,_,rfl,_,pd,px,keyF f,xs,G4,rfl,rfl,rfl,by rw [upd_ne npp];exact hk,sG4,hpx4,hdat,?_,by omega,?_⟩
   ·rw [hkeys]
    intro h
    obtain ⟨g,hg,e⟩:=List.mem_map.mp h
    rw [keyF_inj e] at hg
    exact hnew hg
   ·refine ⟨_,_,xs ++ [(keyF f,px,((rk (lookA book ws) (uniq gs) f:Nat):Int))],rfl,fun b o n e=>?_,upd_same,?_,fun z hz=>?_⟩
    ·rw [upd_ne n]
     exact same_new hp b o (kp b o n e)
    ·rw [List.map_append,hxs,List.take_succ,hgi,List.map_append];rfl
    ·rcases List.mem_append.mp hz with hz | hz
     ·exact hdat z hz
     ·rw [List.mem_singleton.mp hz];exact hpx4
  ·rintro σ H5 ⟨vt,vr,xs,rfl,kp,hk,hxs,hdat⟩
   have ht:(uniq gs).take ys.length = uniq gs:=by rw [hyl];exact List.take_length
   rw [ht] at hxs
   have g35:Grow G3 H3 (upd G4 pd (dY P w pd xs)) H5:=by
    refine ⟨fun b o e=>?_,fun b o e=>?_,fun b o e=>?_,fun b o e=>?_⟩
    ·rw [upd_ne (ne_of_none e gpd)];exact g4.gg b o e
    ·by_cases hb:b = pd
     ·subst hb;rw [upd_same] at e;rw [hk];exact e
     ·rw [upd_ne hb] at e;exact kp b o hb (g4.gh b o e)
    ·have hb:b≠pd:=ne_of_none e hpd
     exact kp b o hb (g4.hh b o (by rw [upd_ne hb];exact e))
    ·by_cases hb:b = pd
     ·subst hb;exact .inr hpd
     ·rw [upd_ne hb] at e
      rcases g4.fr b o e with h | h
      ·exact .inl h
      ·rw [upd_ne hb] at h;exact .inr h
   have s45:Same G4 (upd G4 pd (dY P w pd xs)):=fun b o e=>by rw [upd_ne (ne_of_none e gpd4)];exact e
   have g05:=g03.trans g35
   refine ret_ev (K:=K) (ev_lcT (js:=[6]) gs dT (fun g=>some (.int (rk (lookA book ws) (uniq gs) g:Nat))) (ev_var rfl (h2.same g05.gg)) (by omega) fun G6 i g x s6 hg hx=>lc1 evt_noif ?_) g35.gh fun v G' H' g' hv=>k v G' H' (g05.trans g') (by rw [fm_some] at hv;exact hv)
   have hm:(keyF g,((rk (lookA book ws) (uniq gs) g:Nat):Int))∈xs.map (fun x=>(x.1,x.2.2)):=by
    rw [hxs]
    exact List.mem_map.mpr ⟨g,(uniq_mem gs g).mpr (List.mem_of_getElem? hg),rfl⟩
   obtain ⟨⟨k1,b',n'⟩,hm1,hm2⟩:=List.mem_map.mp hm
   injection hm2 with hm2 hm3
   have hm2:k1 = keyF g:=hm2
   have hm3:n' = ((rk (lookA book ws) (uniq gs) g:Nat):Int):=hm3
   subst hm2 hm3
   exact ev_ixY (s6 _ _ upd_same) (fun z hz=>(hdat z hz).same (s45.trans s6)) rfl (ev_var rfl (by rw [kdat_key];exact hx)) hm1
end
end K28
namespace StbG
open PySem PyProof.Rows
def R (f:Keyed→Int) (xs:Array Keyed) (i:Nat):Int:=match xs[i]? with
 | some p=>f p
 | none=>0
theorem R_of {f:Keyed→Int}{xs ys:Array Keyed}{i j:Nat}(h:xs[i]? = ys[j]?):R f xs i = R f ys j:=by unfold R;rw [h]
structure SB (κ:SortKind) (a₀:Array Keyed) (st:SortSt):Prop where
 perm:(arrOf st).Perm a₀
 kind:kindOf st = κ
 failed:failedOf st = none
 pend:pendingOf st = #[]
theorem SB.size {κ:SortKind}{a₀:Array Keyed}{st:SortSt}(h:SB κ a₀ st):(arrOf st).size = a₀.size:=h.perm.size_eq
theorem SB.setArr {κ:SortKind}{a₀:Array Keyed}{st:SortSt}(h:SB κ a₀ st) {xs:Array Keyed}(hp:xs.Perm (arrOf st)):SB κ a₀ (PyProof.Rows.setArr st xs):=⟨hp.trans h.perm,h.kind,h.failed,h.pend⟩
def Srt (ρ:Keyed→Int) (xs:Array Keyed) (n:Nat):Prop:=∀ i j,i≤j→j < n→R ρ xs i≤R ρ xs j
def Up (ρ τ:Keyed→Int) (xs:Array Keyed) (n:Nat):Prop:=∀ i j,i < j→j < n→R ρ xs i < R ρ xs j∨(R ρ xs i = R ρ xs j∧R τ xs i≤R τ xs j)
def Dn (ρ τ:Keyed→Int) (xs:Array Keyed) (n:Nat):Prop:=∀ i j,i < j→j < n→R ρ xs j < R ρ xs i∨(R ρ xs i = R ρ xs j∧R τ xs j≤R τ xs i)
def Rs (τ:Keyed→Int) (N:Nat) (xs:Array Keyed) (n:Nat):Prop:=∀ i j,i < j→n≤j→j < N→R τ xs i≤R τ xs j
variable {ρ τ:Keyed→Int}{κ:SortKind}
theorem Rs.mono {N n m:Nat}{xs:Array Keyed}(h:Rs τ N xs n) (k:n≤m):Rs τ N xs m:=fun i j a b c=>h i j a (by omega) c
theorem Up.le {xs:Array Keyed}{n:Nat}(h:Up ρ τ xs n):Srt ρ xs n:=fun i j hij hj=>by
 rcases Nat.lt_or_eq_of_le hij with q | rfl
 ·rcases h i j q hj with z | z <;> omega
 ·exact Int.le_refl _
theorem up_of {xs:Array Keyed}{a n N:Nat}(hu:Up ρ τ xs a) (hr:Rs τ N xs a) (hs:Srt ρ xs n) (hn:n≤N):Up ρ τ xs n:=fun i j hij hj=>by
 have le:=hs i j (Nat.le_of_lt hij) hj
 by_cases h:j < a
 ·exact hu i j hij h
 ·have:=hr i j hij (by omega) (by omega)
  omega
theorem mirK {xs:Array Keyed}{i j:Nat}(hj:j≤xs.size) (k:Nat):(i≤k∧k < j→R ρ (mirror xs i j ((j - i) / 2)) k = R ρ xs (i + j - 1 - k)∧R τ (mirror xs i j ((j - i) / 2)) k = R τ xs (i + j - 1 - k))∧
  (¬ (i≤k∧k < j)→R ρ (mirror xs i j ((j - i) / 2)) k = R ρ xs k∧R τ (mirror xs i j ((j - i) / 2)) k = R τ xs k):=by
 have e:=getElem?_mirror_all (i:=i) hj k
 refine ⟨fun h=>?_,fun h=>?_⟩
 ·rw [if_pos h] at e;exact ⟨R_of e,R_of e⟩
 ·rw [if_neg h] at e;exact ⟨R_of e,R_of e⟩
theorem bubK {xs:Array Keyed}{src d:Nat}(hs:src < xs.size) (hd:d≤src) (k:Nat):(k = src - d→R ρ (bubble xs src d) k = R ρ xs src∧R τ (bubble xs src d) k = R τ xs src)∧
  (src - d < k∧k≤src→R ρ (bubble xs src d) k = R ρ xs (k - 1)∧R τ (bubble xs src d) k = R τ xs (k - 1))∧(k < src - d∨src < k→R ρ (bubble xs src d) k = R ρ xs k∧R τ (bubble xs src d) k = R τ xs k):=by
 have e:=getElem?_bubble hs d hd k
 refine ⟨fun h=>?_,fun h=>?_,fun h=>?_⟩
 ·rw [if_pos h] at e;exact ⟨R_of e,R_of e⟩
 ·rw [if_neg (by omega),if_pos h] at e;exact ⟨R_of e,R_of e⟩
 ·rw [if_neg (by omega),if_neg (by omega)] at e;exact ⟨R_of e,R_of e⟩
theorem dn_mirror {xs:Array Keyed}{g x:Nat}(hx:x≤xs.size) (hg:g≤x) (h1:Dn ρ τ xs g) (h2:∀ i,i < g→g < x→R ρ xs g < R ρ xs i) (h3:∀ i,g≤i→i < x→R ρ xs i = R ρ xs g) (h4:∀ i j,i < j→g≤i→j < x→R τ xs i≤R τ xs j):
  Dn ρ τ (mirror xs g x ((x - g) / 2)) x:=fun i j hij hj=>by
 have mi:=mirK (ρ:=ρ) (τ:=τ) (i:=g) hx i
 have mj:=mirK (ρ:=ρ) (τ:=τ) (i:=g) hx j
 by_cases c1:g≤i
 ·obtain ⟨a1,a2⟩:=mi.1 ⟨c1,by omega⟩
  obtain ⟨b1,b2⟩:=mj.1 ⟨by omega,hj⟩
  rw [a1,a2,b1,b2]
  have q1:=h3 (g + x - 1 - i) (by omega) (by omega)
  have q2:=h3 (g + x - 1 - j) (by omega) (by omega)
  exact .inr ⟨by omega,h4 _ _ (by omega) (by omega) (by omega)⟩
 ·obtain ⟨a1,a2⟩:=mi.2 (by omega)
  rw [a1,a2]
  by_cases c2:g≤j
  ·obtain ⟨b1,b2⟩:=mj.1 ⟨c2,hj⟩
   rw [b1,b2]
   have q2:=h3 (g + x - 1 - j) (by omega) (by omega)
   have:=h2 i (by omega) (by omega)
   exact .inl (by omega)
  ·obtain ⟨b1,b2⟩:=mj.2 (by omega)
   rw [b1,b2]
   exact h1 i j hij (by omega)
theorem rs_mirror {xs:Array Keyed}{N g x:Nat}(hx:x≤xs.size) (h:Rs τ N xs x):Rs τ N (mirror xs g x ((x - g) / 2)) x:=fun i j hij h1 h2=>by
 have mi:=mirK (ρ:=τ) (τ:=τ) (i:=g) hx i
 obtain ⟨_,b2⟩:=(mirK (ρ:=τ) (τ:=τ) (i:=g) hx j).2 (by omega)
 rw [b2]
 by_cases c1:g≤i∧i < x
 ·rw [(mi.1 c1).2];exact h _ _ (by omega) (by omega) h2
 ·rw [(mi.2 c1).2];exact h _ _ hij (by omega) h2
section
variable {prog:Program}{w:World}{A:Around}{E:Value→Shared→Prop}{s:Shared}{a₀:Array Keyed}
def Cmp (prog:Program) (w:World) (A:Around) (E:Value→Shared→Prop) (s:Shared) (ρ:Keyed→Int) (κ:SortKind) (a₀:Array Keyed):Prop:=∀ {st:SortSt}{i j:Nat}{Q:Option Bool→SortSt→Prop},SB κ a₀ st→i < a₀.size→j < a₀.size→Q (some (decide (R ρ (arrOf st) i < R ρ (arrOf st) j))) st→wpS (model prog w) A E s (ltAt' i j) Q st
theorem s_asc {st:SortSt}{a nrem:Nat}{Q:AscSt→SortSt→Prop}(ik:Cmp prog w A E s ρ κ a₀) (hn:nrem≤a₀.size) (a1:1≤a) (an:a≤nrem) (hB:SB κ a₀ st) (hs:Srt ρ (arrOf st) a)
  (k:∀ n,a≤n→n≤nrem→Srt ρ (arrOf st) n→(n = nrem∨R ρ (arrOf st) n < R ρ (arrOf st) (n - 1))→Q (none,n) st):wpS (model prog w) A E s (ascLoop a nrem) Q st:=by
 unfold ascLoop
 refine wpS_forRange (I:=fun x c s2=>s2 = st∧c = (none,x)∧Srt ρ (arrOf st) x) ?turn ?over ⟨rfl,rfl,hs⟩
 case over=>
  rintro c s2 ⟨rfl,rfl,h⟩
  rw [Nat.max_eq_right an] at h ⊢
  exact k nrem an (Nat.le_refl _) h (.inl rfl)
 case turn=>
  rintro x c s2 x1 x2 ⟨rfl,rfl,h⟩
  dsimp only
  refine wpS_bind (ik hB (by omega) (by omega) ?_)
  by_cases less:R ρ (arrOf s2) x < R ρ (arrOf s2) (x - 1)
  ·rw [decide_eq_true less]
   simp only [if_true]
   exact wpS_pure (k x x1 (by omega) h (.inr less))
  ·rw [decide_eq_false less]
   simp only [Bool.false_eq_true,if_false]
   refine wpS_pure ⟨rfl,rfl,fun i j hij hj=>?_⟩
   by_cases c:j < x
   ·exact h i j hij c
   ·have e:j = x:=by omega
    subst e
    by_cases e2:i = j
    ·rw [e2];exact Int.le_refl _
    ·have:=h i (j - 1) (by omega) (by omega)
     omega
abbrev Good (ρ τ:Keyed→Int) (κ:SortKind) (a₀:Array Keyed) (st:SortSt) (n:Nat):Prop:=SB κ a₀ st∧Up ρ τ (arrOf st) n∧Rs τ a₀.size (arrOf st) n
theorem s_tail {st:SortSt}{n nrem:Nat}{Q:Option Nat→SortSt→Prop}(ik:Cmp prog w A E s ρ κ a₀) (hn:nrem≤a₀.size) (n1:1≤n) (nn:n≤nrem) (hB:SB κ a₀ st) (hd:Dn ρ τ (arrOf st) n) (hr:Rs τ a₀.size (arrOf st) n)
  (k:∀ m st',Good ρ τ κ a₀ st' m→1≤m→m≤nrem→Q (some m) st'):wpS (model prog w) A E s (tail3 n nrem) Q st:=by
 have hsz:n≤(arrOf st).size:=by rw [hB.size];omega
 have u:Up ρ τ (mirror (arrOf st) 0 n ((n - 0) / 2)) n:=fun i j hij hj=>by
  obtain ⟨a1,a2⟩:=(mirK (ρ:=ρ) (τ:=τ) (i:=0) hsz i).1 ⟨Nat.zero_le _,by omega⟩
  obtain ⟨b1,b2⟩:=(mirK (ρ:=ρ) (τ:=τ) (i:=0) hsz j).1 ⟨Nat.zero_le _,hj⟩
  rw [a1,a2,b1,b2]
  have:=hd (0 + n - 1 - j) (0 + n - 1 - i) (by omega) (by omega)
  omega
 have r:Rs τ a₀.size (mirror (arrOf st) 0 n ((n - 0) / 2)) n:=rs_mirror hsz hr
 unfold tail3
 refine wpS_bind (wpS_reverse (wpS_bind (s_asc ik hn n1 nn (hB.setArr (mirror_perm _ _ _ _)) (Up.le u) fun m m1 m2 sm _=>?_)))
 exact wpS_pure (k m _ ⟨hB.setArr (mirror_perm _ _ _ _),up_of u r sm (by omega),Rs.mono r m1⟩ (by omega) m2)
structure Fall (ρ τ:Keyed→Int) (κ:SortKind) (a₀:Array Keyed) (st:SortSt) (x g:Nat):Prop where
 b:SB κ a₀ st
 lt:g < x
 d:Dn ρ τ (arrOf st) g
 hi:∀ i,i < g→R ρ (arrOf st) g < R ρ (arrOf st) i
 eq:∀ i,g≤i→i < x→R ρ (arrOf st) i = R ρ (arrOf st) g
 r:Rs τ a₀.size (arrOf st) g
theorem Fall.close {st:SortSt}{x g:Nat}(f:Fall ρ τ κ a₀ st x g) (hx:x≤a₀.size):SB κ a₀ (setArr st (mirror (arrOf st) g x ((x - g) / 2)))∧Dn ρ τ (mirror (arrOf st) g x ((x - g) / 2)) x∧Rs τ a₀.size (mirror (arrOf st) g x ((x - g) / 2)) x∧∀ k,R ρ (mirror (arrOf st) g x ((x - g) / 2)) k = R ρ (arrOf st) k:=by
 have hs:x≤(arrOf st).size:=by rw [f.b.size];exact hx
 have lt:=f.lt
 refine ⟨f.b.setArr (mirror_perm _ _ _ _),dn_mirror hs (Nat.le_of_lt lt) f.d (fun i h _=>f.hi i h) f.eq fun i j a b c=>f.r i j a (by omega) (by omega),rs_mirror hs (f.r.mono (Nat.le_of_lt lt)),fun k=>?_⟩
 by_cases c:g≤k∧k < x
 ·rw [((mirK (ρ:=ρ) (τ:=τ) (i:=g) hs k).1 c).1,f.eq _ (by omega) (by omega),f.eq k c.1 c.2]
 ·rw [((mirK (ρ:=ρ) (τ:=τ) (i:=g) hs k).2 c).1]
theorem Fall.one {st:SortSt}{x:Nat}(f:Fall ρ τ κ a₀ st x (x - 1)):Dn ρ τ (arrOf st) x:=fun i j hij hj=>by
 have lt:=f.lt
 by_cases c:j < x - 1
 ·exact f.d i j hij c
 ·have e:j = x - 1:=by omega
  subst e
  exact .inl (f.hi i hij)
theorem s_desc {st:SortSt}{n nrem:Nat}{Q:DescSt→SortSt→Prop}(ik:Cmp prog w A E s ρ κ a₀) (hn:nrem≤a₀.size) (nn:n + 1≤nrem) (f0:Fall ρ τ κ a₀ st (n + 1) n)
  (k:∀ m q st',Fall ρ τ κ a₀ st' m (m - (q + 1))→q + 1≤m→m≤nrem→Q (none,m,q) st'):wpS (model prog w) A E s (descLoop (n + 1) nrem) Q st:=by
 unfold descLoop
 refine wpS_forRange (I:=fun x c st' => ∃ q,c = (none,x,q)∧Fall ρ τ κ a₀ st' x (x - (q + 1))∧q + 1≤x) ?turn ?over ⟨0,rfl,by simpa using f0,by omega⟩
 case over=>
  rintro c st' ⟨q,rfl,f,hq⟩
  rw [show max (n + 1) nrem = nrem from Nat.max_eq_right nn] at f hq ⊢
  exact k nrem q st' f hq (Nat.le_refl _)
 case turn=>
  rintro x c st' hx1 hx2 ⟨q,rfl,f,hq⟩
  dsimp only
  have lx:R ρ (arrOf st') (x - 1) = R ρ (arrOf st') (x - (q + 1)):=f.eq _ (by omega) (by omega)
  refine wpS_bind (ik f.b (by omega) (by omega) ?_)
  by_cases less:R ρ (arrOf st') x < R ρ (arrOf st') (x - 1)
  ·rw [decide_eq_true less]
   simp only [if_true]
   have nextF:∀ st2,SB κ a₀ st2→Dn ρ τ (arrOf st2) x→Rs τ a₀.size (arrOf st2) x→(∀ z,R ρ (arrOf st2) z = R ρ (arrOf st') z)→Fall ρ τ κ a₀ st2 (x + 1) (x + 1 - (0 + 1)):=fun st2 b d r e=>by
    refine ⟨b,by omega,by simpa using d,fun i hi=>?_,fun i h1 h2=>?_,by simpa using r⟩
    ·have hi' : i < x:=by omega
     rw [show x + 1 - (0 + 1) = x by omega,e,e]
     by_cases c:i < x - (q + 1)
     ·have:=f.hi i c;omega
     ·have:=f.eq i (by omega) hi';omega
    ·have:i = x + 1 - (0 + 1):=by omega
     rw [this]
   by_cases hq0:q > 0
   ·rw [if_pos hq0]
    obtain ⟨c1,c2,c3,c4⟩:=f.close (by omega)
    exact wpS_bind (wpS_reverse (wpS_pure ⟨0,rfl,nextF _ c1 c2 c3 c4,by omega⟩))
   ·rw [if_neg hq0]
    have e0:q = 0:=by omega
    subst e0
    exact wpS_pure ⟨0,rfl,nextF st' f.b (Fall.one (by simpa using f)) (f.r.mono (by omega)) fun _=>rfl,by omega⟩
  ·rw [decide_eq_false less]
   simp only [Bool.false_eq_true,if_false]
   refine wpS_bind (ik f.b (by omega) (by omega) ?_)
   by_cases more:R ρ (arrOf st') (x - 1) < R ρ (arrOf st') x
   ·rw [decide_eq_true more]
    simp only [if_true]
    exact wpS_pure (k x q st' f hq (by omega))
   ·rw [decide_eq_false more]
    simp only [Bool.false_eq_true,if_false]
    have ee:x + 1 - (q + 1 + 1) = x - (q + 1):=by omega
    have f' : Fall ρ τ κ a₀ st' (x + 1) (x - (q + 1)):=⟨f.b,by omega,f.d,f.hi,fun i h1 h2=>by
     by_cases c:i < x
     ·exact f.eq i h1 c
     ·have:i = x:=by omega
      subst this;omega,f.r⟩
    exact wpS_pure ⟨q + 1,rfl,by rw [ee];exact f',by omega⟩
theorem s_descPart {st:SortSt}{n nrem:Nat}{Q:Option Nat→SortSt→Prop}(ik:Cmp prog w A E s ρ κ a₀) (hn:nrem≤a₀.size) (nn:n + 1≤nrem) (f0:Fall ρ τ κ a₀ st (n + 1) n) (k:∀ m st',Good ρ τ κ a₀ st' m→1≤m→m≤nrem→Q (some m) st'):
  wpS (model prog w) A E s (descPart n nrem) Q st:=by
 unfold descPart
 refine wpS_bind (wpS_lift (wpAny_rule ⟨rfl,wpS_bind (s_desc ik hn nn f0 fun m q st' f hq hm=>?_)⟩))
 dsimp only
 by_cases hq0:q > 0
 ·rw [if_pos hq0]
  obtain ⟨c1,c2,c3,_⟩:=f.close (by omega)
  exact wpS_bind (wpS_reverse (s_tail ik hn (by omega) hm c1 c2 c3 k))
 ·rw [if_neg hq0]
  have e0:q = 0:=by omega
  subst e0
  exact s_tail ik hn (by omega) hm f.b (Fall.one (by simpa using f)) (f.r.mono (by omega)) k
theorem s_count {st:SortSt}{nrem:Nat}{Q:Option Nat→SortSt→Prop}(ik:Cmp prog w A E s ρ κ a₀) (hn:nrem≤a₀.size) (n1:1≤nrem) (hB:SB κ a₀ st) (r0:Rs τ a₀.size (arrOf st) 0) (k:∀ m st',Good ρ τ κ a₀ st' m→1≤m→m≤nrem→Q (some m) st'):
  wpS (model prog w) A E s (countRun' 0 nrem) Q st:=by
 have u1:Up ρ τ (arrOf st) 1:=fun i j a b=>by omega
 rw [countRun0_eq]
 refine wpS_bind (s_asc ik hn (Nat.le_refl 1) n1 hB u1.le fun n m1 m2 sn hor=>?_)
 have un:Up ρ τ (arrOf st) n:=up_of u1 (r0.mono (by omega)) sn (by omega)
 have g:Good ρ τ κ a₀ st n:=⟨hB,un,r0.mono (by omega)⟩
 dsimp only
 by_cases e:n = nrem
 ·rw [if_pos (by simpa using e)];exact wpS_pure (k n st g m1 m2)
 rw [if_neg (by simpa using e)]
 have lt:R ρ (arrOf st) n < R ρ (arrOf st) (n - 1):=hor.resolve_left e
 by_cases c:n > 1
 ·rw [if_pos c]
  refine wpS_bind (ik hB (by omega) (by omega) ?_)
  by_cases rose:R ρ (arrOf st) 0 < R ρ (arrOf st) (n - 1)
  ·rw [decide_eq_true rose]
   simp only [if_true]
   exact wpS_pure (k n st g m1 m2)
  ·rw [decide_eq_false rose]
   simp only [Bool.false_eq_true,if_false]
   have all:∀ i,0≤i→i < n→R ρ (arrOf st) i = R ρ (arrOf st) 0:=fun i _ hi=>by
    have a1:=sn 0 i (Nat.zero_le _) hi
    have a2:=sn i (n - 1) (by omega) (by omega)
    omega
   have f:Fall ρ τ κ a₀ st n 0:=⟨hB,by omega,fun i j _ h=>by omega,fun i h=>by omega,all,r0⟩
   obtain ⟨c1,c2,c3,c4⟩:=f.close (by omega)
   refine wpS_bind (wpS_reverse (s_descPart ik hn (by omega) ⟨c1,by omega,c2,fun i hi=>?_,fun i h1 h2=>?_,c3⟩ k))
   ·show R ρ (mirror (arrOf st) 0 n ((n - 0) / 2)) n < R ρ (mirror (arrOf st) 0 n ((n - 0) / 2)) i
    rw [c4,c4]
    have:=all i (Nat.zero_le _) hi
    have:=all (n - 1) (Nat.zero_le _) (by omega)
    omega
   ·have:i = n:=by omega
    rw [this]
 ·rw [if_neg c]
  have e1:n = 1:=by omega
  subst e1
  exact s_descPart ik hn (by omega) ⟨hB,by omega,fun i j _ h=>by omega,fun i h=>by (have:i = 0:=by omega);subst this;exact lt,fun i h1 h2=>by (have:i = 1:=by omega);rw [this],r0.mono (by omega)⟩ k
theorem s_binary {st:SortSt}{n ok:Nat}{Q:Bool→SortSt→Prop}(ik:Cmp prog w A E s ρ κ a₀) (hn:n≤a₀.size) (o1:1≤ok) (o2:ok≤n) (g0:Good ρ τ κ a₀ st ok) (kk:∀ st',Good ρ τ κ a₀ st' n→Q true st'):wpS (model prog w) A E s (binarySort' 0 n ok) Q st:=by
 rw [binarySort'_eq]
 simp only [Nat.zero_add]
 refine wpS_bind (wpS_mono (wpS_forRange (I:=fun k c st' => c = (none,())∧Good ρ τ κ a₀ st' k) (Q:=fun c st' => c = (none,())∧Good ρ τ κ a₀ st' n) ?turn ?over ⟨rfl,by rw [Nat.max_eq_left o1];exact g0⟩) fun c st' ⟨e,g⟩=>by subst e;exact wpS_pure (kk st' g))
 case over=>
  rintro c st' ⟨e,g⟩
  rw [Nat.max_eq_left o1,Nat.max_eq_right o2] at g
  exact ⟨e,g⟩
 case turn=>
  rintro k c st' k1 k2 ⟨rfl,hB,u,r⟩
  have ks:k < a₀.size:=by omega
  have srt:=u.le
  refine wpS_bind (wpS_mono (wpS_forRange (I:=fun x c s2=>s2 = st' ∧ ∃ lo hi,c = (none,lo,hi)∧lo≤hi∧hi≤k∧hi - lo≤k - x∧(∀ i,i < lo→R ρ (arrOf st') i≤R ρ (arrOf st') k)∧∀ i,hi≤i→i < k→R ρ (arrOf st') k < R ρ (arrOf st') i)
   (Q:=fun c s2=>s2 = st' ∧ ∃ lo hi,c = (none,lo,hi)∧lo≤k∧(∀ i,i < lo→R ρ (arrOf st') i≤R ρ (arrOf st') k)∧∀ i,lo≤i→i < k→R ρ (arrOf st') k < R ρ (arrOf st') i) ?look ?found ⟨rfl,0,k,rfl,Nat.zero_le _,Nat.le_refl _,by omega,fun i h=>by omega,fun i a b=>by omega⟩) ?put)
  case found=>
   rintro c s2 ⟨rfl,lo,hi,rfl,a1,a2,a3,a4,a5⟩
   have:lo = hi:=by omega
   subst this
   exact ⟨rfl,lo,lo,rfl,a2,a4,a5⟩
  case look=>
   rintro x c s2 _ hx ⟨rfl,lo,hi,rfl,a1,a2,a3,a4,a5⟩
   dsimp only
   by_cases ge:lo ≥ hi
   ·rw [if_pos ge]
    have:lo = hi:=by omega
    subst this
    exact wpS_pure ⟨rfl,lo,lo,rfl,a2,a4,a5⟩
   ·rw [if_neg ge]
    refine wpS_bind (ik hB ks (by omega) ?_)
    by_cases less:R ρ (arrOf s2) k < R ρ (arrOf s2) ((lo + hi) / 2)
    ·rw [decide_eq_true less]
     simp only [if_true]
     exact wpS_pure ⟨rfl,lo,(lo + hi) / 2,rfl,by omega,by omega,by omega,a4,fun i b1 b2=>Int.lt_of_lt_of_le less (srt _ _ b1 b2)⟩
    ·rw [decide_eq_false less]
     simp only [Bool.false_eq_true,if_false]
     exact wpS_pure ⟨rfl,(lo + hi) / 2 + 1,hi,rfl,by omega,by omega,by omega,fun i b1=>Int.le_trans (srt i ((lo + hi) / 2) (by omega) (by omega)) (Int.not_lt.mp less),a5⟩
  case put=>
   rintro c s2 ⟨rfl,lo,hi,rfl,a2,a4,a5⟩
   show wpS _ _ _ _ (do moveDown' k lo;pure (ForInStep.yield (none,()))) _ _
   have kz:k < (arrOf s2).size:=by rw [hB.size];exact ks
   have ed:k - (k - lo) = lo:=by omega
   rw [moveDown'_eq]
   refine wpS_bind (wpS_modify (wpS_pure ⟨rfl,hB.setArr (bubble_perm _ _ _),fun i j hij hj=>?_,fun i j hij h1 h2=>?_⟩))
   ·show R ρ (bubble (arrOf s2) k (k - lo)) i < R ρ (bubble (arrOf s2) k (k - lo)) j∨(R ρ (bubble (arrOf s2) k (k - lo)) i = R ρ (bubble (arrOf s2) k (k - lo)) j∧R τ (bubble (arrOf s2) k (k - lo)) i≤R τ (bubble (arrOf s2) k (k - lo)) j)
    have bi:=bubK (ρ:=ρ) (τ:=τ) kz (show k - lo≤k by omega) i
    have bj:=bubK (ρ:=ρ) (τ:=τ) kz (show k - lo≤k by omega) j
    rw [ed] at bi bj
    rcases Nat.lt_trichotomy i lo with c1 | c1 | c1
    ·obtain ⟨p1,p2⟩:=bi.2.2 (.inl c1)
     rw [p1,p2]
     rcases Nat.lt_trichotomy j lo with c2 | c2 | c2
     ·obtain ⟨q1,q2⟩:=bj.2.2 (.inl c2)
      rw [q1,q2];exact u i j hij (by omega)
     ·obtain ⟨q1,q2⟩:=bj.1 c2
      rw [q1,q2]
      have z1:=a4 i c1
      have z2:=r i k (by omega) (Nat.le_refl _) ks
      omega
     ·obtain ⟨q1,q2⟩:=bj.2.1 ⟨c2,by omega⟩
      rw [q1,q2];exact u i (j - 1) (by omega) (by omega)
    ·obtain ⟨p1,p2⟩:=bi.1 c1
     obtain ⟨q1,q2⟩:=bj.2.1 ⟨by omega,by omega⟩
     rw [p1,p2,q1,q2]
     exact .inl (a5 (j - 1) (by omega) (by omega))
    ·obtain ⟨p1,p2⟩:=bi.2.1 ⟨c1,by omega⟩
     obtain ⟨q1,q2⟩:=bj.2.1 ⟨by omega,by omega⟩
     rw [p1,p2,q1,q2]
     exact u (i - 1) (j - 1) (by omega) (by omega)
   ·show R τ (bubble (arrOf s2) k (k - lo)) i≤R τ (bubble (arrOf s2) k (k - lo)) j
    have bi:=bubK (ρ:=ρ) (τ:=τ) kz (show k - lo≤k by omega) i
    rw [ed] at bi
    obtain ⟨_,q2⟩:=(bubK (ρ:=ρ) (τ:=τ) kz (show k - lo≤k by omega) j).2.2 (.inr (by omega))
    rw [q2]
    rcases Nat.lt_trichotomy i lo with c1 | c1 | c1
    ·rw [(bi.2.2 (.inl c1)).2];exact r i j hij (by omega) h2
    ·rw [(bi.1 c1).2];exact r k j (by omega) (by omega) h2
    ·by_cases c2:i≤k
     ·rw [(bi.2.1 ⟨c1,c2⟩).2];exact r (i - 1) j (by omega) (by omega) h2
     ·rw [(bi.2.2 (.inr (by omega))).2];exact r i j hij (by omega) h2
theorem s_runs {st:SortSt}{Q:Unit→SortSt→Prop}(ik:Cmp prog w A E s ρ κ a₀) (hB:SB κ a₀ st) (z2:2≤a₀.size) (z64:a₀.size < 64) (r0:Rs τ a₀.size (arrOf st) 0)
  (kk:∀ st',(arrOf st').Perm a₀→failedOf st' = none→Up ρ τ (arrOf st') a₀.size→Q () st'):wpS (model prog w) A E s sortRuns' Q st:=by
 have mr:minRun' a₀.size a₀.size 0 = a₀.size:=by
  obtain ⟨f,hf⟩:∃ f,a₀.size = f + 1:=⟨a₀.size - 1,by omega⟩
  have q:minRun' (f + 1) a₀.size 0 = a₀.size:=by rw [minRun'_succ,if_pos z64];rfl
  rwa [← hf] at q
 rw [sortRuns'_eq]
 refine wpS_bind (wpS_get (show wpS _ _ _ _ _ _ _ from ?_))
 dsimp only
 simp only [hB.size,mr]
 have fin:∀ st' n,n = a₀.size→Good ρ τ κ a₀ st' n→(arrOf (setPending st' ((pendingOf st').push (0,n,0)))).Perm a₀∧failedOf (setPending st' ((pendingOf st').push (0,n,0))) = none∧pendingOf (setPending st' ((pendingOf st').push (0,n,0))) = #[(0,n,0)]∧Up ρ τ (arrOf (setPending st' ((pendingOf st').push (0,n,0)))) n:=fun st' n _ g=>
  ⟨g.1.perm,g.1.failed,by show (pendingOf st').push _ = _;rw [g.1.pend];rfl,g.2.1⟩
 refine wpS_bind (wpS_mono (wpS_forRange
  (I:=fun x c st' => (x = 0∧c = (none,0)∧SB κ a₀ st' ∧ Rs τ a₀.size (arrOf st') 0)∨(1≤x∧c = (none,a₀.size)∧(arrOf st').Perm a₀∧failedOf st' = none∧pendingOf st' = #[(0,a₀.size,0)]∧Up ρ τ (arrOf st') a₀.size))
  (Q:=fun c st' => c = (none,a₀.size)∧(arrOf st').Perm a₀∧failedOf st' = none∧pendingOf st' = #[(0,a₀.size,0)]∧Up ρ τ (arrOf st') a₀.size) ?turn ?over (.inl ⟨rfl,rfl,hB,r0⟩)) ?post)
 case over=>
  rintro c st' (⟨hx,_⟩ | ⟨_,r⟩)
  ·omega
  ·exact r
 case turn=>
  rintro x c st' _ hx (⟨rfl,rfl,hB',r'⟩ | ⟨hx1,rfl,hD⟩)
  ·dsimp only
   rw [if_neg (show ¬ (0 ≥ a₀.size) by omega)]
   simp only [Nat.sub_zero,Nat.min_self,Nat.zero_add]
   refine wpS_bind (s_count ik (Nat.le_refl _) (show 1≤a₀.size by omega) hB' r' fun m st2 g2 m1 m2=>?_)
   dsimp only
   by_cases lt:m < a₀.size
   ·rw [if_pos lt]
    refine wpS_bind (wpS_lift (wpAny_rule ⟨rfl,wpS_bind (s_binary ik (Nat.le_refl _) m1 m2 g2 fun st3 g3=>?_)⟩))
    simp only [Bool.not_true,Bool.false_eq_true,if_false]
    have nb:(pendingOf st3).back? = none:=by rw [g3.1.pend];rfl
    refine wpS_bind (wpS_get (show wpS _ _ _ _ _ _ _ from ?_))
    rw [nb]
    exact wpS_bind (wpS_modify (wpS_pure (.inr ⟨by omega,rfl,fin st3 _ rfl g3⟩)))
   ·rw [if_neg lt]
    have em:m = a₀.size:=by omega
    subst em
    have nb:(pendingOf st2).back? = none:=by rw [g2.1.pend];rfl
    refine wpS_bind (wpS_get (show wpS _ _ _ _ _ _ _ from ?_))
    rw [nb]
    exact wpS_bind (wpS_modify (wpS_pure (.inr ⟨by omega,rfl,fin st2 _ rfl g2⟩)))
  ·dsimp only
   rw [if_pos (show a₀.size ≥ a₀.size from Nat.le_refl _)]
   exact wpS_pure ⟨rfl,hD⟩
 case post=>
  rintro c st' ⟨rfl,p,f,pd,u⟩
  dsimp only
  refine wpS_bind (wpS_mono (wpS_forRange (I:=fun _ c s2=>s2 = st' ∧ c = (none,())) (Q:=fun c s2=>s2 = st' ∧ c = (none,())) (fun x c s2 _ _ ⟨e1,e2⟩=>?_) (fun _ _ q=>q) ⟨rfl,rfl⟩) fun c s2 ⟨e1,e2⟩=>?_)
  ·subst e1 e2
   exact wpS_pure (kk _ p f u)
  ·subst e1 e2
   refine wpS_bind (wpS_get (show wpS _ _ _ _ _ _ _ from ?_))
   rw [if_pos (show (pendingOf s2).size≤1 by rw [pd];exact Nat.le_refl 1)]
   exact wpS_pure ⟨rfl,rfl⟩
end
end StbG
namespace L2
open PySem PySem.Spec PyProof.Rows
theorem vals_at:∀ {xs:List V}{us:List Value},Vals xs us→∀ {i:Nat}{u:Value},us[i]? = some u→∃ x,xs[i]? = some x∧RelV x u
 | _,_,.nil,_,_,e=>by simp at e
 | _,_,.cons r _,0,_,e=>by simp at e;subst e;exact ⟨_,rfl,r⟩
 | _,_,.cons _ h,i + 1,_,e=>by simpa using vals_at h (by simpa using e)
theorem vals_of_at:∀ {xs:List V}{us:List Value},xs.length = us.length→(∀ (i:Nat) x u,xs[i]? = some x→us[i]? = some u→RelV x u)→Vals xs us
 | [],[],_,_=>.nil
 | x :: xs,u :: us,hl,h=>.cons (h 0 x u rfl rfl) (vals_of_at (by simpa using hl) fun i y v e1 e2=>h (i + 1) y v (by simpa using e1) (by simpa using e2))
 | [],_ :: _,hl,_=>by simp at hl
 | _ :: _,[],hl,_=>by simp at hl
theorem intsAre_vals:∀ {ns:List Int}{us:List Value},Vals (ns.map V.int) us→IntsAre us ns
 | [],_,h=>by cases h;exact .nil
 | n :: ns,_,h=>by
  cases h with
  | cons r h' =>
   obtain ⟨t,rfl⟩:=r
   exact .cons n t (intsAre_vals h')
abbrev gV (g:Nat→Int) (n:Nat):List V:=(List.range n).map fun i=>V.int (g i)
theorem gV_at {g:Nat→Int}{n i:Nat}{us:List Value}{u:Value}(h:Vals (gV g n) us) (e:us[i]? = some u):i < n∧∃ t,u = .int (g i) t:=by
 obtain ⟨x,hx,r⟩:=vals_at h e
 rw [List.getElem?_map] at hx
 have hi:i < n:=by
  have:=(List.getElem?_eq_some_iff.mp e).1
  have hl:=h.length
  rw [List.length_map,List.length_range] at hl
  omega
 rw [List.getElem?_range hi] at hx
 have:V.int (g i) = x:=Option.some.inj hx
 subst this
 exact ⟨hi,r⟩
section
variable {g:Nat→Int}{n:Nat}{keys items:List Value}
theorem pair_mem (hk:Vals (gV g n) keys) (ha:Vals (gV (fun i=>(i:Nat)) n) items) {p:Keyed}(h:p∈keys.zip items):∃ m,m < n∧∃ t t',p = (.int (g m) t,.int (m:Nat) t'):=by
 obtain ⟨i,hi⟩:=List.getElem?_of_mem h
 rw [List.getElem?_zip_eq_some] at hi
 obtain ⟨h1,t,e1⟩:=gV_at hk hi.1
 obtain ⟨_,t',e2⟩:=gV_at ha hi.2
 exact ⟨i,h1,t,t',Prod.ext e1 e2⟩
def nO (p:Keyed):Nat:=(numOf p.2).toNat
theorem zip_nO (hk:Vals (gV g n) keys) (ha:Vals (gV (fun i=>(i:Nat)) n) items):(keys.zip items).map nO = List.range n:=by
 have l1:=hk.length
 have l2:=ha.length
 rw [List.length_map,List.length_range] at l1 l2
 refine List.ext_getElem? fun i=>?_
 rw [List.getElem?_map]
 by_cases h:i < n
 ·have e1:keys[i]? = some keys[i]:=List.getElem?_eq_getElem (by omega)
  have e2:items[i]? = some items[i]:=List.getElem?_eq_getElem (by omega)
  have e3:(keys.zip items)[i]? = some (keys[i],items[i]):=by rw [List.getElem?_zip_eq_some];exact ⟨e1,e2⟩
  obtain ⟨_,t,e⟩:=gV_at ha e2
  rw [e3,List.getElem?_range h]
  show some (nO (keys[i],items[i])) = some i
  unfold nO
  rw [e];simp [numOf]
 ·rw [List.getElem?_eq_none (by simp;omega),List.getElem?_eq_none (by simp;omega)];rfl
theorem out_of (hk:Vals (gV g n) keys) (ha:Vals (gV (fun i=>(i:Nat)) n) items) {xs:Array Keyed}(hp:xs.toList.Perm (keys.zip items)) (hu:StbG.Up (fun p=>numOf p.1) (fun p=>numOf p.2) xs n):
  ∃ out:List Nat,out.Perm (List.range n)∧out.Pairwise (fun i j=>g i < g j∨(g i = g j∧i < j))∧Vals (out.map fun i=>V.int (i:Nat)) (xs.map (·.2)).toList:=by
 have hsz:xs.size = n:=by
  have:=hp.length_eq
  have l1:=hk.length
  have l2:=ha.length
  rw [List.length_map,List.length_range] at l1 l2
  rw [List.length_zip,Array.length_toList] at this
  omega
 have mem:∀ (i:Nat) (p:Keyed),xs[i]? = some p→∃ m,m < n∧∃ t t',p = (.int (g m) t,.int (m:Nat) t'):=fun i p e=>pair_mem hk ha (hp.mem_iff.mp (by
  have:=Array.mem_of_getElem? e
  exact Array.mem_toList_iff.mpr this))
 have hout:∀ (i:Nat) (p:Keyed),xs[i]? = some p→StbG.R (fun p=>numOf p.1) xs i = g (nO p)∧StbG.R (fun p=>numOf p.2) xs i = (nO p:Nat):=fun i p e=>by
  obtain ⟨m,_,t,t',rfl⟩:=mem i p e
  constructor
  ·unfold StbG.R;rw [e];simp [numOf,nO]
  ·unfold StbG.R;rw [e];simp [numOf,nO]
 have hnd:(xs.toList.map nO).Nodup:=by
  have:=hp.map nO
  rw [zip_nO hk ha] at this
  exact this.nodup_iff.mpr List.nodup_range
 refine ⟨xs.toList.map nO,by rw [← zip_nO hk ha];exact hp.map _,?_,?_⟩
 ·rw [List.pairwise_iff_getElem]
  intro i j hi hj hij
  have hj' : j < xs.size:=by simpa using hj
  have e1:xs[i]? = some xs[i]:=Array.getElem?_eq_getElem (by omega)
  have e2:xs[j]? = some xs[j]:=Array.getElem?_eq_getElem hj'
  obtain ⟨a1,a2⟩:=hout i _ e1
  obtain ⟨b1,b2⟩:=hout j _ e2
  have:=hu i j hij (by omega)
  rw [a1,a2,b1,b2] at this
  have q1:(xs.toList.map nO)[i] = nO xs[i]:=by simp
  have q2:(xs.toList.map nO)[j] = nO xs[j]:=by simp
  have ne:=List.pairwise_iff_getElem.mp hnd i j hi hj hij
  rw [q1,q2] at ne ⊢
  have ne' : nO xs[i]≠nO xs[j]:=ne
  omega
 ·refine vals_of_at (by simp) fun i x u h1 h2=>?_
  have hi:i < xs.size:=by
   have:=(List.getElem?_eq_some_iff.mp h2).1
   simpa using this
  have e1:xs[i]? = some xs[i]:=Array.getElem?_eq_getElem hi
  obtain ⟨m,_,t,t',e⟩:=mem i _ e1
  have hx:x = V.int (nO xs[i]:Nat):=by
   rw [List.getElem?_map,List.getElem?_map] at h1
   have:xs.toList[i]? = some xs[i]:=by simp [hi]
   rw [this] at h1
   exact (Option.some.inj h1).symm
  have hu' : u = xs[i].2:=by
   have:(xs.map (·.2)).toList[i]? = some xs[i].2:=by simp [hi]
   rw [this] at h2
   exact (Option.some.inj h2).symm
  rw [hx,hu',e]
  exact ⟨t',by simp [nO,numOf]⟩
theorem rs_start (hk:Vals (gV g n) keys) (ha:Vals (gV (fun i=>(i:Nat)) n) items):StbG.Rs (fun p=>numOf p.2) (keys.toArray.zip items.toArray).size (keys.toArray.zip items.toArray) 0:=fun i j hij _ hj=>by
 have at_:∀ i,i < (keys.toArray.zip items.toArray).size→StbG.R (fun p=>numOf p.2) (keys.toArray.zip items.toArray) i = (i:Nat):=fun i hi=>by
  have e:(keys.toArray.zip items.toArray)[i]? = some (keys.toArray.zip items.toArray)[i]:=Array.getElem?_eq_getElem hi
  have e' : (keys.zip items)[i]? = some (keys.toArray.zip items.toArray)[i]:=by
   have:(keys.toArray.zip items.toArray).toList = keys.zip items:=by rw [ksk_zip]
   rw [← this,Array.getElem?_toList];exact e
  rw [List.getElem?_zip_eq_some] at e'
  obtain ⟨_,t,e2⟩:=gV_at ha e'.2
  unfold StbG.R
  rw [e]
  show numOf (keys.toArray.zip items.toArray)[i].2 = _
  rw [e2];rfl
 rw [at_ i (by omega),at_ j hj]
 omega
end
theorem ints_cmp {prog:Program}{w:World}{A:Around}{E:Value→Shared→Prop}{s:Shared}{a₀:Array Keyed}(ik:IntKeys a₀):StbG.Cmp prog w A E s (fun p=>numOf p.1) oneType' a₀:=fun {st i j Q} hB hi hj hq=>wpS_ltK ⟨hB.perm,hB.kind,hB.failed,hB.pend⟩ ik hi hj hq
section
variable {X:Cx}{pins:List (Addr × Obj)}{σ:St}{H:Hp}{s:Shared}{g:Nat→Int}{n:Nat}{D kS:Addr}{P:PySem.Fin→Shared→Prop}{A:Around}{E:Value→Shared→Prop}{items:List Value}
def exO (a:Addr) (o:Obj):HO:=.ext fun h=>h.get? a = some o
theorem exO_ok {Pr:Program}{w:World}{h:Heap}{a:Addr}{o:Obj}{H:Hp}(e:h.get? a = some o):ObjOk Pr w H h a (exO a o):=⟨e,⟨o,e⟩,fun _ _ p q=>q _ p⟩
theorem Inv.exO {a:Addr}{o:Obj}(I:Inv X pins σ H s) (h:H a = some (L2.exO a o)):s.heap.get? a = some o:=(show ObjOk X.prog X.w H s.heap a (L2.exO a o) from I.hok a _ h).1
theorem srt_end {keys:List Value}{e e1:Nat}(I:Inv X pins σ H s) (hD:H D = some (exO D (seqObj "list" #[] e1))) (hK:H kS = some (.lst (gV g n))) (hkD:kS≠D) (n64:n < 64) (hk:Vals (gV g n) keys) (ha:Vals (gV (fun i=>(i:Nat)) n) items)
  (hoK:s.heap.get? kS = some (seqObj "list" keys.toArray e))
  (k:∀ out:List Nat,out.Perm (List.range n)→out.Pairwise (fun i j=>g i < g j∨(g i = g j∧i < j))→∀ s',Inv X pins σ (upd (upd H kS (.lst [])) D (.lst (out.map fun i=>V.int (i:Nat)))) s' → P (.done (.ret .none)) s'):
  wpAny (model X.prog X.w) A (ksk_end D false items.toArray e1 (.ref kS) keys.toArray) P E s:=by
 have zl:(2000:Nat)≤sizeLine:=by decide
 have l1:=hk.length
 have l2:=ha.length
 rw [List.length_map,List.length_range] at l1 l2
 have ik:IntsAre keys.toArray.toList ((List.range n).map g):=by
  rw [List.toList_toArray]
  exact intsAre_vals (by rw [List.map_map];exact hk)
 have hzs:(keys.toArray.zip items.toArray).size = n:=by rw [Array.size_zip,List.size_toArray,List.size_toArray];omega
 have ez:(keys.toArray.zip items.toArray).toList = keys.zip items:=by rw [ksk_zip]
 have TAIL:∀ st:SortSt,(arrOf st).Perm (keys.toArray.zip items.toArray)→failedOf st = none→StbG.Up (fun p=>numOf p.1) (fun p=>numOf p.2) (arrOf st) n→wpAny (model X.prog X.w) A (ksk_tail D false e1 (.ref kS) st) P E s:=fun st hp hf hu=>by
  obtain ⟨out,o1,o2,o3⟩:=out_of hk ha (xs:=arrOf st) (by rw [← ez];exact Array.perm_iff_toList_perm.mp hp) hu
  have osz:((arrOf st).map (·.2)).size = n:=by rw [Array.size_map,hp.size_eq,hzs]
  have I1:=I.lset (l:=kS) (ys:=[]) (its' := []) (f:=fun _=>(#[]:Array Value)) (t' := s.toks) hK hoK rfl .nil (by show 0≤_;omega)
  have hD1:upd H kS (.lst []) D = some (exO D (seqObj "list" #[] e1)):=by rw [upd_ne (Ne.symm hkD)];exact hD
  have hoD1:(s.heap.update kS (Obj.mapSeq fun _=>(#[]:Array Value))).get? D = some (seqObj "list" #[] e1):=I1.exO hD1
  have upq:=PySem.IsL.update hoD1 fun _=>(arrOf st).map (·.2)
  have eqA:(arrOf st).map (·.2) = ((arrOf st).map (·.2)).toList.toArray:=by rw [Array.toArray_toList]
  have I2:Inv X pins σ (upd (upd H kS (.lst [])) D (.lst (out.map fun i=>V.int (i:Nat)))) { s with heap:=(s.heap.update kS (Obj.mapSeq fun _=>(#[]:Array Value))).update D (Obj.mapSeq fun _=>(arrOf st).map (·.2)) }:=
   I1.write (x:=D) (e:=D) (t' := s.toks) (by rw [hD1];exact trivial) (.inl rfl) (fun b' u hb hu=>(Heap.get?_update_other _ (Obj.mapSeq fun _=>(arrOf st).map (·.2)) (Ne.symm hb)).trans hu) ⟨_,upq⟩ (show ObjOk X.prog X.w _ _ D (.lst (out.map fun i=>V.int (i:Nat))) from ⟨by rw [List.length_map];have:=o1.length_eq;rw [List.length_range] at this;omega,((arrOf st).map (·.2)).toList,_,o3,by rw [← eqA];exact upq⟩)
  unfold ksk_tail
  refine wpAny_bind (listUpdate_at hoK rfl ?_ (by rw [List.size_toArray];omega) (Nat.zero_le _))
  refine wpAny_bind (wpAny_letGo (wpAny_bind (seqEpoch_at hoD1 rfl (wpAny_bind (listUpdate_at hoD1 rfl ?_ (Nat.zero_le _) (by show ((arrOf st).map (·.2)).size≤_;omega))))))
  rw [hf]
  simp only [bne_self_eq_false,Bool.false_eq_true,if_false]
  exact wpAny_pure (k out o1 o2 _ I2)
 unfold ksk_end
 dsimp only
 simp only [Bool.false_eq_true,if_false]
 by_cases h2:items.toArray.size < 2
 ·rw [if_pos h2,if_pos h2]
  refine wpAny_bind (wpAny_pure ?_)
  rw [StateT.run_pure]
  refine wpAny_bind (wpAny_pure (TAIL (SortSt.mk' general' (keys.toArray.zip items.toArray) #[] 7 none) (Array.Perm.refl _) rfl fun i j a b=>?_))
  rw [List.size_toArray] at h2
  omega
 ·rw [if_neg h2,if_neg h2]
  rw [List.size_toArray] at h2
  rw [ksk_kind ik (by rw [List.size_toArray];omega)]
  refine wpAny_bind (wpAny_pure (wpAny_bind (wpAny_mono (StbG.s_runs (ρ:=fun p=>numOf p.1) (τ:=fun p=>numOf p.2) (κ:=oneType') (a₀:=keys.toArray.zip items.toArray) (st:=SortSt.mk' oneType' (keys.toArray.zip items.toArray) #[] 7 none)
   (Q:=fun _ st' => (arrOf st').Perm (keys.toArray.zip items.toArray)∧failedOf st' = none∧StbG.Up (fun p=>numOf p.1) (fun p=>numOf p.2) (arrOf st') (keys.toArray.zip items.toArray).size)
   (ints_cmp (ksk_intKeys ik)) ⟨Array.Perm.refl _,rfl,rfl,rfl⟩ (by rw [hzs];omega) (by rw [hzs];exact n64) (rs_start hk ha) fun st' a1 a2 a3=>⟨a1,a2,a3⟩) ?_ fun _ _ e=>e)))
  rintro ⟨⟨⟩,st'⟩ s' ⟨rfl,hp,hf,hu⟩
  exact TAIL st' hp hf (by rw [← hzs];exact hu)
theorem srt_rest {kk e1:Nat}{f:Addr}{q:Str}{params:Arguments}{body:Expr}{sc:Scope}{cap:List Str}{y:Str}{te:TE}{js:List Nat}{H0:Hp}
  (hr:Room (kk + 1) A) (hAf:A.frames = X.A.frames) (S:LamScope X.env.scope sc [y] cap) (hjs:js.map (fun j=>X.N[j]?) = cap.map some)
  (hbind:∀ (u pm ctv:Value) (c' : Addr) (cl:List (Str × Addr)),bindArgs (PySem.W.kla_fn "<lambda>" q params body sc cl pm (.ref c') ctv) ⟨[u],[]⟩ = pure [(y,u)])
  (hbody:∀ A outer s H f c' cl,Room kk (A.deeper (PySem.W.envX q sc s.heap.objs.size f (.ref c') cl))→PE (lamCx X.prog X.w X.K X.mg X.base ([y] ++ cap) q sc f c' cl A outer s H) body te)
  (L:IsLam H0 f q params body sc (clOf X.env sc.names [])) (hev:∀ i,i < n→Ev X.K te (some (.int (i:Nat)) :: capV σ js) H0 (.int (g i)))
  (I:Inv X pins σ H s) (s0:Same H0 H) (hD:H D = some (exO D (seqObj "list" #[] e1))) (hK:H kS = some (.lst [])) (hkD:kS≠D) (fD:H0 D = none) (fK:H0 kS = none) (n64:n < 64) (ha:Vals (gV (fun i=>(i:Nat)) n) items)
  (k:∀ out:List Nat,out.Perm (List.range n)→out.Pairwise (fun i j=>g i < g j∨(g i = g j∧i < j))→∀ s' H',Same H0 H' → H' D = some (.lst (out.map fun i=>V.int (i:Nat)))→Inv X pins σ H' s' → P (.done (.ret .none)) s'):
  wpAny (model X.prog X.w) A (ksk_rest D (.ref f) false items.toArray e1 (.ref kS)) P E s:=by
 have zl:(2000:Nat)≤sizeLine:=by decide
 have l2:=ha.length
 rw [List.length_map,List.length_range] at l2
 have lenJ:js.length = cap.length:=by have:=congrArg List.length hjs;simpa using this
 unfold ksk_rest
 refine wpAny_bind (wpAny_rule ?_)
 rw [List.forIn_toArray]
 refine wpAny_bind (ksk_fold (fun i s' => ∃ H',Inv X pins σ H' s' ∧ Same H0 H' ∧ H' D = some (exO D (seqObj "list" #[] e1))∧H' kS = some (.lst (gV g i))) items 0 s ⟨H,I,s0,hD,hK⟩ ?turn ?over)
 case turn=>
  rintro j x s' hx ⟨H',I',s1,hD',hK'⟩
  simp only [Nat.zero_add] at hK' ⊢
  obtain ⟨hj,t,rfl⟩:=gV_at ha hx
  have C:=I'.cellsAre S hjs
  have e0:Env0 X.prog X.w X.K X.mg X.base A X.stack s' H' := ⟨hAf.trans I'.env0.frames,I'.env0.mod,I'.env0.bs,I'.env0.bsz,I'.env0.funs,I'.env0.frf,I'.env0.hok,I'.env0.bare⟩
  have L' := L.same fun b o u e=>s1 b _ e
  have run:=lam_run (A:=A) (Q:=fun v H2=>v = .int (g j)∧Same H' H2) (E:=E0) (vs:=[.int (j:Nat)]) (us:=[.int (j:Nat) t]) S (fun z hz=>by
   obtain ⟨c',hc'⟩:=Option.isSome_iff_exists.mp (clOf_has (env:=X.env) (acc:=[]) (PySem.mem_of_lookup hz))
   exact ⟨c',hc'⟩) hr e0 L' C (fun pm ctv c' => hbind _ pm ctv c' _) rfl (by unfold capV;rw [List.length_map,lenJ]) (.cons ⟨t,rfl⟩ .nil) (fun c' hr' => hbody _ _ _ _ _ c' _ hr') ((hev j hj).use s1 fun v G' H2 g2 hv=>⟨hv.int,g2.hh⟩)
  refine wpAny_bind (wpAny_attempt (wpAny_call (codeAny_mono run fun r s2 hq' => ?_)))
  cases r with
  | error e=>exact False.elim hq'
  | ok fl=>
   cases fl with
   | next=>exact False.elim hq'
   | brk=>exact False.elim hq'
   | cont=>exact False.elim hq'
   | ret u=>
    obtain ⟨v,H2,I2,rv,ev,s2'⟩:=I'.after hq'
    subst ev
    obtain ⟨t2,rfl⟩:=rv
    have hK2:=s2' _ _ hK'
    obtain ⟨_,its,m,rv2,hl2,hoK⟩:=I2.lstM hK2
    have hl3:=rv2.length
    rw [List.length_map,List.length_range] at hl3
    have I3:=I2.lset (l:=kS) (ys:=gV g (j + 1)) (its' := its ++ [.int (g j) t2]) (f:=(·.push (.int (g j) t2))) (t' := s2.toks) hK2 hoK (by simp) (by
     rw [show gV g (j + 1) = gV g j ++ [V.int (g j)] by rw [gV,List.range_succ,List.map_append];rfl]
     exact rv2.append (.cons ⟨t2,rfl⟩ .nil)) (by rw [List.length_map,List.length_range];omega)
    refine wpAny_bind (listUpdate_at hoK rfl (wpAny_pure ⟨rfl,_,I3,fun b o e=>?_,?_,upd_same⟩) (by rw [List.size_toArray];omega) (by rw [Array.size_push,List.size_toArray];omega))
    ·rw [upd_ne (ne_of_none e fK)];exact s2' _ _ (s1 _ _ e)
    ·rw [upd_ne (Ne.symm hkD)];exact s2' _ _ hD'
 case over=>
  rintro s' ⟨H',I',s1,hD',hK'⟩
  rw [Nat.zero_add,← l2] at hK'
  obtain ⟨_,its,m,rv2,hl2,hoK⟩:=I'.lstM hK'
  refine wpAny_bind (listItems_at hoK rfl ?_)
  exact srt_end I' hD' hK' hkD n64 rv2 ha hoK fun out o1 o2 s2 I2=>k out o1 o2 s2 _ (fun b o e=>by rw [upd_ne (ne_of_none e fD),upd_ne (ne_of_none e fK)];exact s1 _ _ e) upd_same I2
end
end L2
namespace Look
open PySem Ord Rdo
theorem perm_once {α:Type}{r:α→α→Prop}(as:∀ x y,r x y→¬ r y x):∀ {a b:List α},a.Perm b→a.Pairwise r→b.Pairwise r→a = b
 | [],b,p,_,_=>by rw [List.nil_perm.mp p]
 | x :: a,[],p,_,_=>by have:=p.length_eq;simp at this
 | x :: a,y :: b,p,h1,h2=>by
  obtain ⟨p1,p2⟩:=List.pairwise_cons.mp h1
  obtain ⟨q1,q2⟩:=List.pairwise_cons.mp h2
  have hx:x∈y :: b:=p.mem_iff.mp List.mem_cons_self
  have hy:y∈x :: a:=p.mem_iff.mpr List.mem_cons_self
  have e:x = y:=by
   rcases List.mem_cons.mp hx with e | hx
   ·exact e
   ·rcases List.mem_cons.mp hy with e | hy
    ·exact e.symm
    ·exact absurd (p1 y hy) (as _ _ (q1 x hx))
  subst e
  rw [perm_once as (List.perm_cons x |>.mp p) p2 q2]
def ltN (g:Nat→Int) (i j:Nat):Prop:=g i < g j∨(g i = g j∧i < j)
theorem ltN_as (g:Nat→Int) (i j:Nat) (h:ltN g i j):¬ ltN g j i:=by unfold ltN at *;omega
def srtN (g:Nat→Int) (n:Nat):List Nat:=(List.range n).mergeSort fun i j=>decide (g i < g j∨(g i = g j∧i≤j))
theorem srtN_perm (g:Nat→Int) (n:Nat):(srtN g n).Perm (List.range n):=List.mergeSort_perm _ _
theorem srtN_nodup (g:Nat→Int) (n:Nat):(srtN g n).Nodup:=(srtN_perm g n).nodup_iff.mpr List.nodup_range
theorem srtN_srt (g:Nat→Int) (n:Nat):(srtN g n).Pairwise (ltN g):=by
 have h:(srtN g n).Pairwise fun i j=>(decide (g i < g j∨(g i = g j∧i≤j))) = true:=List.pairwise_mergeSort (fun a b c h1 h2=>by
  have:=of_decide_eq_true h1
  have:=of_decide_eq_true h2
  exact decide_eq_true (by omega)) (fun a b=>by
  rw [Bool.or_eq_true,decide_eq_true_iff,decide_eq_true_iff];omega) _
 have nd:=srtN_nodup g n
 refine (h.and nd).imp fun {i j} ⟨a,b⟩=>?_
 have:=of_decide_eq_true a
 unfold ltN
 have:i≠j:=b
 omega
theorem srtN_of {g:Nat→Int}{n:Nat}{out:List Nat}(h:out.Perm (List.range n)) (s:out.Pairwise (ltN g)):out = srtN g n:=perm_once (ltN_as g) (h.trans (srtN_perm g n).symm) s (srtN_srt g n)
abbrev th (gs:List Fs) (i:Nat):Fs:=gs.getD i []
def ltL (L:Fs→Fs→An) (gs:List Fs) (i j:Nat):Prop:=L (th gs i) (th gs j) = .ahead∨(L (th gs i) (th gs j) = .like∧i < j)
def rkZ (L:Fs→Fs→An) (gs:List Fs) (i:Nat):Int:=(rk L (uniq gs) (th gs i):Nat)
def tn (L:Fs→Fs→An) (gs:List Fs):List Nat:=srtN (rkZ L gs) gs.length
theorem th_mem {gs:List Fs}{i:Nat}(h:i < gs.length):th gs i∈gs:=by
 unfold th
 rw [List.getD_eq_getElem?_getD,List.getElem?_eq_getElem h];exact List.getElem_mem h
theorem look_rk' {L:Fs→Fs→An}{gs:List Fs}(wk:Wk L (· ∈ gs)) {f g:Fs}(hf:f∈gs) (hg:g∈gs):L f g = cmpN (rk L (uniq gs) f) (rk L (uniq gs) g):=by
 have w:Wk L (· ∈ uniq gs):=wk.sub fun f h=>(uniq_mem gs f).mp h
 have a:=(agree_iff L (uniq gs)).mpr w
 unfold agree at a
 exact of_decide_eq_true (List.all_eq_true.mp (List.all_eq_true.mp a f ((uniq_mem gs f).mpr hf)) g ((uniq_mem gs g).mpr hg))
theorem cmpN_cases (i j:Nat):(cmpN i j = .ahead↔i < j)∧(cmpN i j = .like↔i = j)∧(cmpN i j = .behind↔j < i):=by
 unfold cmpN
 by_cases h:i < j
 ·rw [if_pos h];refine ⟨⟨fun _=>h,fun _=>rfl⟩,⟨fun z=>(by cases z),fun z=>(by omega)⟩,⟨fun z=>(by cases z),fun z=>(by omega)⟩⟩
 ·rw [if_neg h]
  by_cases h2:i > j
  ·rw [if_pos h2];refine ⟨⟨fun z=>(by cases z),fun z=>(by omega)⟩,⟨fun z=>(by cases z),fun z=>(by omega)⟩,⟨fun _=>h2,fun _=>rfl⟩⟩
  ·rw [if_neg h2];refine ⟨⟨fun z=>(by cases z),fun z=>(by omega)⟩,⟨fun _=>(by omega),fun _=>rfl⟩,⟨fun z=>(by cases z),fun z=>(by omega)⟩⟩
theorem ltL_iff {L:Fs→Fs→An}{gs:List Fs}(wk:Wk L (· ∈ gs)) {i j:Nat}(hi:i < gs.length) (hj:j < gs.length):ltL L gs i j↔ltN (rkZ L gs) i j:=by
 unfold ltL ltN rkZ
 rw [look_rk' wk (th_mem hi) (th_mem hj),(cmpN_cases _ _).1,(cmpN_cases _ _).2.1]
 omega
theorem tn_perm (L:Fs→Fs→An) (gs:List Fs):(tn L gs).Perm (List.range gs.length):=srtN_perm _ _
theorem tn_len (L:Fs→Fs→An) (gs:List Fs):(tn L gs).length = gs.length:=by rw [(tn_perm L gs).length_eq,List.length_range]
theorem tn_of {L:Fs→Fs→An}{gs:List Fs}(wk:Wk L (· ∈ gs)) {out:List Nat}(h:out.Perm (List.range gs.length)) (s:out.Pairwise (ltL L gs)):out = tn L gs:=by
 refine srtN_of h ?_
 refine (List.Pairwise.and_mem.mp s).imp fun {i j} ⟨a,b,c⟩=>?_
 exact (ltL_iff wk (List.mem_range.mp (h.mem_iff.mp a)) (List.mem_range.mp (h.mem_iff.mp b))).mp c
end Look
namespace L2
open PySem PySem.Spec PyProof.Rows Lw
def tSrtK (K:PySem.W.Frag) (P:Addr) (cr:Nat→Nat→Option Str) (js:List Nat) (t0 te:TE):TE:=fun σ H Q=>t0 σ H fun v H1=>H1 P = some (.tbl cr)∧∃ (n:Nat) (g:Nat→Int),v = .int (n:Nat)∧n < 64∧
 (∀ i,i < n→Ev K te (some (.int (i:Nat)) :: capV σ js) H1 (.int (g i)))∧∀ l H' (out:List Nat),Same H1 H' → H1 l = none→H' l = some (.lst (out.map fun i=>V.int (i:Nat)))→out.Perm (List.range n)→out.Pairwise (fun i j=>g i < g j∨(g i = g j∧i < j))→Q (.ref l) H'
theorem boot_srt:bootBuiltins "sorted" = some (.builtin "sorted"):=by decide +kernel
section
variable {X:Cx}{kk:Nat}{y:Str}{c P:Addr}{cr:Nat→Nat→Option Str}{q:Str}{params:Arguments}{body a:Expr}{sc:Scope}{cap:List Str}{t0 te:TE}{p1 p2 pos q2 lpos kpos:Pos}
theorem pe_srtK (hr:Room (kk + 3) X.A) (hc:X.calm = true) (hg1:Gl X "sorted") (hm1:X.mg "sorted" = none) (hg2:Gl X "range") (hm2:X.mg "range" = none) {js:List Nat}(S:LamScope X.env.scope sc [y] cap) (hjs:js.map (fun j=>X.N[j]?) = cap.map some) (hcode:X.env.code = .ref c) (C:PySem.W.CodeHd X.base c P) (hbm:BM X.mg X.base) (hq:q = X.env.qual ++ "<lambda>") (hcr:cr lpos.line lpos.col = some q)
  (hbind:∀ (u pm ctv:Value) (c' : Addr) (cl:List (Str × Addr)),bindArgs (PySem.W.kla_fn "<lambda>" q params body sc cl pm (.ref c') ctv) ⟨[u],[]⟩ = pure [(y,u)])
  (ha:PE X a t0)
  (hbody:∀ A outer s H f c' cl,Room kk (A.deeper (PySem.W.envX q sc s.heap.objs.size f (.ref c') cl))→PE (lamCx X.prog X.w X.K X.mg X.base ([y] ++ cap) q sc f c' cl A outer s H) body te)
  (hdef:defaultsOf params X.env = ([],[]):=by rfl) (hs1:starEach [.Call (.Name "range" p2) [a] [] q2] X.env = [(false,eval (.Call (.Name "range" p2) [a] [] q2) X.env)]:=by rfl) (hs2:starEach [a] X.env = [(false,eval a X.env)]:=by rfl)
  (hks:(backToKw pos (keywordEach [⟨some "key",.Lambda params body sc lpos,kpos⟩] X.env)).filterMap (·.1) = [Str.ofString "key"]:=by rfl) (hall:(backToKw pos (keywordEach [⟨some "key",.Lambda params body sc lpos,kpos⟩] X.env)).all (·.1.isSome) = true:=by rfl) (hkw:(backToKw pos (keywordEach [⟨some "key",.Lambda params body sc lpos,kpos⟩] X.env)).any (·.1.isNone) = false:=by rfl):
  PE X (.Call (.Name "sorted" p1) [.Call (.Name "range" p2) [a] [] q2] [⟨some "key",.Lambda params body sc lpos,kpos⟩] pos) (tSrtK X.K P cr js t0 te):=by
 intro pins s σ H Q I h
 refine wpAny_Call_Name_kw (ld_blt I hg1 hm1 boot_srt ?_)
 have z:sizeLine < 2 ^ 62:=by decide
 refine callWith_kw (id:= "sorted") ?_ (by rw [hs1];rfl) (by rw [hs1];rfl) hall hkw
 rw [hs1]
 show wpAny _ _ (spliced [(false,eval (.Call (.Name "range" p2) [a] [] q2) X.env)]) _ _ s
 refine Calls.spliced_cons (wpAny_Call_Name_kw (ld_blt I hg2 hm2 boot_range (PyProof.Rows.callWith_type1 (thn (pa_cons ha pa_nil (by rw [hs2];rfl) q2 pins s σ H (fun vs H1=>match vs with
  | [v]=>H1 P = some (.tbl cr)∧∃ (n:Nat) (g:Nat→Int),v = .int (n:Nat)∧n < 64∧(∀ i,i < n→Ev X.K te (some (.int (i:Nat)) :: capV σ js) H1 (.int (g i)))∧∀ l H' (out:List Nat),Same H1 H' → H1 l = none→H' l = some (.lst (out.map fun i=>V.int (i:Nat)))→out.Perm (List.range n)→out.Pairwise (fun i j=>g i < g j∨(g i = g j∧i < j))→Q (.ref l) H'
  | _=>False) I h) fun us s1 ⟨vs,H1,I1,r1,q1⟩=>?_) hs2 rfl)))
 match vs,r1,q1 with
 | [v],r1,⟨hP,n,g,ev,n64,hev,hQ⟩=>
 subst ev
 obtain ⟨u,rfl,r⟩:=Vals.one r1
 obtain ⟨t,rfl⟩:=r
 refine call_range_1 (Calls.spliced_nil ?_)
 refine thn (pk_cons (pe_lam (c:=c) (cr:=cr) S hcode C hbm hq hcr hdef) pk_nil pos pins _ σ _ (fun vs H2=>∃ f,vs = [.ref f]∧Same (upd H1 s1.heap.objs.size (exO s1.heap.objs.size _)) H2∧IsLam H2 f q params body sc (clOf X.env sc.names [])) (I1.laid (a:=s1.heap.objs.size) (o:=exO s1.heap.objs.size _) (fun b o e=>Heap.get?_push_of_some _ e) (Nat.le_refl _) (exO_ok (Heap.get?_push_size _ rfl))) ⟨by rw [upd_ne (ne_of_none hP (I1.hok.fresh (Nat.le_refl _)))];exact hP,fun f H' hf sm L=>⟨f,rfl,sm,L⟩⟩) fun ws s2 ⟨vs2,H2,I2,r2,f,e2,sm,L⟩=>?_
 subst e2
 obtain ⟨u2,rfl,r2'⟩:=Vals.one r2
 obtain rfl:u2 = Value.ref f:=r2'
 rw [hks]
 have fr1:H1 s1.heap.objs.size = none:=I1.hok.fresh (Nat.le_refl _)
 have sm1:=(same_new fr1).trans sm
 have hR:=I2.exO (sm _ _ upd_same)
 have zl:(2000:Nat)≤sizeLine:=by decide
 have z24:(64:Nat)≤2 ^ 24:=by decide
 generalize s1.heap.objs.size = rr at hR sm fr1
 show wpAny _ _ (call (.builtin "sorted") [.ref rr] [(Str.ofString "key",.ref f)]) _ _ s2
 refine call_function_entry_kw kind_sorted plain_sorted entry_sorted (ksk_s1 _ _) ?_
 unfold Builtin.«sorted»
 refine wpAny_bind (m:=checkCount "sorted" 1 1 _) (wpAny_pure ?_)
 refine wpAny_bind (rng_collect (A:=X.A.in1) (n:=n) (show X.A.in1.handled = none from hr.hd) (r:=rr) (a:=0) (b:=(n:Int)) (c:=1) hR (small_one (by omega) (by omega) (by omega) (by omega)) (by rw [rangeSize_one];split <;> omega) (by omega) fun h' tk acc hk hacc=>?_)
 have ha' : Vals (gV (fun i=>(i:Nat)) n) acc.toList:=by
  have:=vals_rng hacc
  have e:((List.range n).map fun (i:Nat)=>V.int (0 + i)) = gV (fun i=>(i:Nat)) n:=List.map_congr_left fun i _=>by rw [Int.zero_add]
  rw [e] at this;exact this
 have al:=ha'.length
 rw [List.length_map,List.length_range] at al
 have I3:=I2.kept (t' := tk) hk
 refine wpAny_bind (wpAny_newList ?_ (by omega))
 have hoL:(h'.push (seqObj "list" acc.toList.toArray 0)).get? h'.objs.size = some (seqObj "list" acc.toList.toArray 0):=Heap.get?_push_size _ rfl
 obtain ⟨e1,ho1⟩:∃ e1,((h'.push (seqObj "list" acc.toList.toArray 0)).update h'.objs.size (Obj.mapSeq fun _=>(#[]:Array Value))).get? h'.objs.size = some (seqObj "list" #[] e1):=⟨_,get?_update_seq hoL fun _=>#[]⟩
 have fD:H2 h'.objs.size = none:=I3.hok.fresh (Nat.le_refl _)
 refine wpAny_bind (wpAny_holding (wpAny_call_entry_kw PyProof.Rows.slot_list_sort ⟨_,hoL,rfl⟩ PyProof.Rows.entry_list_sort ?body (ksk_l1 _ _)))
 case body=>
  show wpAny (model X.prog X.w) X.A.in1.in1 (Builtin.«list.sort» ⟨[.ref h'.objs.size],[(Str.ofString "key",.ref f)]⟩) _ _ _
  rw [ksk_t1]
  unfold ksk_tree
  refine wpAny_bind (listItems_at hoL rfl ?_)
  refine wpAny_bind (listUpdate_at hoL rfl ?_ (by rw [List.size_toArray];omega) (Nat.zero_le _))
  refine wpAny_bind (seqEpoch_at ho1 rfl ?_)
  refine wpAny_bind (wpAny_newTuple ?_ (by show acc.toList.toArray.toList.length≤_;rw [List.toList_toArray];omega))
  refine wpAny_bind (wpAny_newList (wpAny_holding ?_) (Nat.zero_le _))
  have I4:Inv X pins σ (upd H2 h'.objs.size (exO h'.objs.size (seqObj "list" #[] e1))) { s2 with heap:=(h'.push (seqObj "list" acc.toList.toArray 0)).update h'.objs.size (Obj.mapSeq fun _=>(#[]:Array Value)),toks:=tk }:=
   I3.laid (t' := tk) (fun b o e=>(Heap.get?_update_other _ _ (Nat.ne_of_gt (Heap.lt_size e))).trans (Heap.get?_push_of_some _ e)) (Nat.le_refl _) (exO_ok ho1)
  have I5:=I4.kept (t' := tk) (h' := ((h'.push (seqObj "list" acc.toList.toArray 0)).update h'.objs.size (Obj.mapSeq fun _=>(#[]:Array Value))).push (seqObj "tuple" acc.toList.toArray.toList.toArray 0)) fun b o e=>Heap.get?_push_of_some _ e
  have I6:=I5.lnew (ys:=[]) (its:=[]) (t' := tk) .nil (Nat.zero_le _)
  have fK:=I5.hok.fresh (Nat.le_refl _)
  have nKD:(((h'.push (seqObj "list" acc.toList.toArray 0)).update h'.objs.size (Obj.mapSeq fun _=>(#[]:Array Value))).push (seqObj "tuple" acc.toList.toArray.toList.toArray 0)).objs.size≠h'.objs.size:=fun zz=>by
   have zz2:upd H2 h'.objs.size (exO h'.objs.size (seqObj "list" #[] e1)) _ = none:=fK
   rw [zz,upd_same] at zz2;cases zz2
  refine srt_rest (kk:=kk) (H0:=H2) (n:=n) (g:=g) hr.in1.in1 rfl S hjs hbind hbody L (fun i hi=>(hev i hi).mono sm1) I6 ?_ ?_ upd_same nKD fD ?_ n64 ha' fun out o1 o2 s' H' sH hD I' => ⟨_,rfl,wpAny_pure ⟨_,rfl,.ref h'.objs.size,H',I',rfl,hQ _ H' out (sm1.trans sH) (sm1.free fD) hD o1 o2⟩⟩
  ·exact (same_new fD).trans (same_new fK)
  ·rw [upd_ne (Ne.symm nKD)];exact upd_same
  ·have:=fK
   rw [upd_ne nKD] at this;exact this
end
end L2
namespace L2
open PySem PySem.Spec PyProof.Rows Look
theorem ev_srtK {K:PySem.W.Frag}{P:Addr}{cr:Nat→Nat→Option Str}{js:List Nat}{t0 te:TE}{σ:St}{G:Hp}{n:Nat}{g:Nat→Int}(hP:G P = some (.tbl cr)) (h0:Ev K t0 σ G (.int (n:Nat))) (hn:n < 64) (he:∀ i,i < n→Ev K te (some (.int (i:Nat)) :: capV σ js) G (.int (g i))):
  Ev K (tSrtK K P cr js t0 te) σ G (.list ((srtN g n).map fun i=>PyData.int (i:Nat))):=fun G1 H s1 s2 Q k=>h0 G1 H s1 s2 _ fun v G2 H2 g2 hv=>by
 refine ⟨g2.gh _ _ (g2.gg _ _ (s1 _ _ hP)),n,g,hv.int,hn,fun i hi=>(he i hi).mono ((s1.trans g2.gg).trans g2.gh),fun l H' out sm fl hl o1 o2=>?_⟩
 have e:out = srtN g n:=srtN_of o1 o2
 subst e
 have gl:G2 l = none:=g2.gh.free fl
 have g3:Grow G2 H2 (upd G2 l (.lst ((srtN g n).map fun i=>V.int (i:Nat)))) H' := by
  refine ⟨fun b o e=>by rw [upd_ne (ne_of_none e gl)];exact e,fun b o e=>?_,sm,fun b o e=>?_⟩
  ·by_cases h:b = l
   ·subst h;rw [upd_same] at e;rw [hl,e]
   ·rw [upd_ne h] at e;exact sm _ _ (g2.gh _ _ e)
  ·by_cases h:b = l
   ·subst h;exact .inr fl
   ·rw [upd_ne h] at e;exact .inl e
 exact k _ _ _ (g2.trans g3) (dat_lst upd_same (dats_nats _))
end L2
namespace K28
open PySem L2 Frac Lw Dig PySem.NumText Nm
open Ord Num Look Rdo
def spTn (K:PySem.W.Frag) (Pt Pn:Addr) (R:List Str→List PyData→PyData→Prop):Sp:=fun vs H Q _=>∃ (G:Hp) (book:List Str) (vo:V) (pb:Addr) (us:List V) (ds:List PyData) (d:PyData),vs = vo :: .ref pb :: us∧(G Pt = some (.tbl cr_looked)∧G Pn = some (.tbl fun _ _=>some lq_turning))∧Same G H∧G pb = some (.tup (book.map V.str))∧Dats K G (vo :: us) ds∧R book ds d∧
 ∀ v G' H',Grow G H G' H' → Dat K G' v d→Q v H'
def RTng (book:List Str):List PyData→PyData→Prop:=fun ds d=>∃ (ws:List Wd) (num:Int→Int→Prop) (gs:List Fs),ds = [dOs ws,.tuple (gs.map dT)]∧OC book num ws∧(∀ g∈gs,FZ book.length g)∧gs.length < 64∧Wk (lookA book ws) (· ∈ gs)∧d = dN (tn (lookA book ws) gs)
section
variable {P:Program}{w:World}{K:PySem.W.Frag}{mg:Str→Option Value}{base:Heap}
theorem ok_turning (T:Top K mg) (M:Bs K mg base) (W:Wds K w.params mg) (W1:Txs K w.params mg "AHEAD" aheadT) (W2:Txs K w.params mg "OTHER_WAY" otherT):FnOk P w K mg base CX0 10 T.f_turning T.fd_turning ["order", "book", "row"] (spTn K T.P_looked T.P_turning RTng):=by
 have G_ranks_of:FnOk P w K mg base CX0 9 T.f_ranks_of T.fd_ranks_of ["order", "book", "row"] (spB K T.P_looked cr_looked RRow):=ok_ranksof T M W W1 W2
 refine T.F_turning.okC sc_turning (fun vs H Q E h=>?_) (fun cdv A outer s H vs Q E hcd hr h=>?_)
 ·obtain ⟨G,book,vo,pb,us,ds,d,rfl,_,_,_,hd,⟨ws,num,gs,rfl,_⟩,_⟩:=h
  have:=hd.length
  simp only [List.length_cons,List.length_nil] at this ⊢
  omega
 ·obtain ⟨G,book,vo,pb,us,ds,d,rfl,⟨hT,hC⟩,sg,hpb,hd,⟨ws,num,gs,rfl,oc,hgs,hl,wk,rfl⟩,k⟩:=h
  obtain ⟨v0,r0,e0,h0,hd⟩:=hd.cons
  cases e0
  rename Dats K G us _=>hd
  obtain ⟨v2,r2,rfl,h2,hd⟩:=hd.cons
  cases hd.nil
  have hu:=hr.units
  refine ⟨_,(pss_cons (ps_set (i:=3) sc_turning.nd rfl (Or.inr rfl) (pe_call G_ranks_of hr (by rfl) T.m_ranks_of T.F_ranks_of.kp T.b_ranks_of .nil pass0 (pa_cons (pv 0) (pa_cons (pv 1) (pa_cons (pv 2) pa_nil st_Name) st_Name) st_Name)))
   (pss_one (ps_ret (pe_callTy (call_tupleK (K:=K) rfl) (by rfl) T.tuple_ bTup (pa_cons (pe_srtK (kk:=1) (y:= "place") (cap:=["ranks"]) (js:=[3]) (q:=lq_turning) (cr:=fun _ _=>some lq_turning) (hr.mono (by decide)) rfl (by rfl) T.sorted_ (by rfl) T.range_ ⟨rfl,rfl,rfl,by decide +kernel,by decide +kernel,(by show ∀ p∈(_:List (Str × NameKind)),p.2 = NameKind.free→List.lookup p.1 (defScope s_turning).names = some NameKind.cell;decide +kernel),by decide +kernel,by decide +kernel,by decide +kernel⟩ rfl (hcd.trans T.cd_turning) (PySem.W.codeHd_of_K M.kin T.ch_turning) M.bm rfl rfl (fun _ _ _ _ _=>rfl) (pe_callB (call_lenK (K:=K) rfl) (by rfl) T.len_ PySem.boot_len (pa_cons (pv 2) pa_nil st_Name)) (fun _ _ _ _ _ _ _ hr2=>(pe_ix (ix_listK (K:=K) rfl) (pv 1) (pv 0) (fun _ _=>rfl)))) pa_nil st_Call))))) ,?_⟩
  refine asgs_ev (K:=K) (ev_callB (R:=RRow) hT hpb rfl (ev_var rfl h0) (eva_cons (ev_var rfl h2) eva_nil) ⟨ws,num,gs,rfl,oc,hgs,by omega,wk,rfl⟩) sg fun v3 G1 H1 g1 h3=>?_
  refine ret_ev (K:=K) (ev_tupleL (eva_cons (ev_srtK (n:=gs.length) (g:=rkZ (lookA book ws) gs) (g1.gg _ _ hC) (ev_d (ev_lenT (eva_cons (ev_var rfl (h2.same g1.gg)) eva_nil)) (by rw [List.length_map])) hl fun i hi=>?_) eva_nil)) g1.gh fun v G' H' g' hv=>k v G' H' (g1.trans g') hv
  refine ev_ixL (n:=i) (ev_var rfl h3) (ev_var rfl (dat_int _)) (by rw [List.length_map];exact ixN_nat hi) ?_
  rw [List.getElem?_map,List.getElem?_eq_getElem hi]
  unfold rkZ th
  rw [List.getD_eq_getElem?_getD,List.getElem?_eq_getElem hi];rfl
theorem ev_callN {σ:St}{G:Hp}{ta:TE}{t:TA}{i:Nat}{pb Pt Pn:Addr}{book:List Str}{d0 d:PyData}{ds:List PyData}{R:List Str→List PyData→PyData→Prop}(hT:G Pt = some (.tbl cr_looked)) (hC:G Pn = some (.tbl fun _ _=>some lq_turning)) (hpb:G pb = some (.tup (book.map V.str))) (hi:σ[i]? = some (some (.ref pb))) (ha:Ev K ta σ G d0) (h:EvA K t σ G ds) (hR:R book (d0 :: ds) d):
  Ev K (tCall (spTn K Pt Pn R) [] E0 (tCons ta (tCons (tVar i) t))) σ G d:=fun G1 H s1 s2 Q k=>ha G1 H s1 s2 _ fun v1 G2 H2 g2 h1=>⟨_,hi,h G2 H2 (s1.trans g2.gg) g2.gh _ fun vs G3 H3 g3 h3=>by
  have g23:=g2.trans g3
  have sG:=s1.trans g23.gg
  refine ⟨G3,book,v1,pb,vs,d0 :: ds,d,by simp,⟨sG _ _ hT,sG _ _ hC⟩,g3.gh,sG _ _ hpb,dats_cons (h1.same g3.gg) h3,hR,fun v G' H' g' hv=>k v G' H' (g23.trans g') hv⟩⟩
end
end K28
namespace L2
open PySem PySem.Spec PyProof.Rows
section
variable {prog:Program}{w:World}{A:Around}{E:Value→Shared→Prop}{s:Shared}
end
section
variable {X:Cx}
end
end L2
namespace L2
open PySem PySem.Spec PyProof.Rows
structure CompScope2 (fr sc:Scope) (x x2:Str) (cap:List Str):Prop where
 kind:sc.kind = .function
 cell:∀ p∈sc.names,p.2≠.cell
 names:∀ p∈sc.names,p.2 = .local→sc.names.lookup p.1 = some .local
 tgt:sc.names.lookup x = some .local
 tgt2:sc.names.lookup x2 = some .local
 free:∀ p∈sc.names,p.2 = .free→fr.names.lookup p.1 = some .cell
 caps:∀ y∈cap,(y,NameKind.free)∈sc.names
 nd:(x :: x2 :: cap).Nodup
 noboth:∀ y∈cap,sc.names.lookup y≠some .local
section
variable {X:Cx}{pins:List (Addr × Obj)}{σ:St}{H:Hp}{s:Shared}{sc:Scope}{x x2:Str}{cap:List Str}
theorem CompScope2.cells (S:CompScope2 X.env.scope sc x x2 cap) (ok:X.Ok):∀ p∈sc.names,p.2 = .free→∃ c,X.env.cells.lookup p.1 = some c:=
 fun p hp e=>ok.has p.1 (.inl (S.free p hp e))
theorem CompScope2.sub (S:CompScope2 X.env.scope sc x x2 cap) (ok:X.Ok) {y:Str}{c:Addr}(h:(clOf X.env sc.names []).lookup y = some c):X.env.cells.lookup y = some c:=
 clOf_mem (S.cells ok) (fun _ _ z=>by simp at z) h
theorem comp_inv2 (S:CompScope2 X.env.scope sc x x2 cap) {js:List Nat}(hjs:js.map (fun j=>X.N[j]?) = cap.map some) (I:Inv X pins σ H s) {fp:List Addr}(hf:∀ b∈fp,FpOk X pins H b) (hlt:∀ b∈fp,b < s.heap.objs.size)
  {h1:Heap}{tk:Nat}{D C:Addr}{oD:Obj}{m:Str→Option Value}(hD:D = s.heap.objs.size) (hC:C = s.heap.objs.size + 1) (keep:∀ b o,s.heap.get? b = some o→h1.get? b = some o) (hoD:h1.get? D = some oD) (hnc:∀ v,oD.data≠.cell v) (hns:h1.Ns C m):
  Inv (compCx X sc (x :: x2 :: cap) C s H fp) [(D,oD)] (none :: none :: capV σ js) H { s with heap:=h1,toks:=tk }:=by
 subst hD hC
 have lenJ:js.length = cap.length:=by have:=congrArg List.length hjs;simpa using this
 have ok:=I.ok
 refine ⟨⟨ok.mod,S.kind,ok.glob,ok.blt,?_,fun y z c h1 h2=>ok.inj y z c (S.sub ok h1) (S.sub ok h2),fun y hy=>?_,(fun y c h=>Bool.noConfusion h),ok.hd,ok.frames,.inl rfl,fun b hb=>⟨?_,fun y c e=>(hf b hb).2.2.2.2.1 y c (S.sub ok e)⟩,I.bs,Nat.le_trans ok.bsz I.sz,fun b o e hb=>?_,fun b hb hb' => ?_,I.stack,I.stkFree⟩,
  rfl,I.bare,Un.kept keep,⟨m,hns,fun i y v e1 e2 e3=>?_⟩,fun y c e=>?_,I.hok.fresh (Nat.le_succ _),fun y c e=>I.freeC y c (S.sub ok e),fun p hp=>?_,I.hok.kept keep,?_⟩
 ·exact Nat.le_succ _
 ·have hy' : ∃ k,(y,k)∈(relabel sc X.env).names∧(k = .cell∨k = .free):=by
   rcases hy with hy | hy
   ·exact ⟨_,PySem.mem_of_lookup hy,.inl rfl⟩
   ·exact ⟨_,PySem.mem_of_lookup hy,.inr rfl⟩
  obtain ⟨k,hm,hk⟩:=hy'
  obtain ⟨k',hm',hk'⟩:=relabel_mem hm
  have hfree:k' = .free:=by
   rcases hk' with e | ⟨e,_⟩
   ·subst e
    rcases hk with e | e
    ·exact absurd e (S.cell _ hm')
    ·exact e
   ·exact e
  subst hfree
  exact Option.isSome_iff_exists.mp (clOf_has hm')
 ·exact neLt (Nat.lt_succ_of_lt (hlt b hb))
 ·obtain ⟨_,_,_,z,_⟩:=hf b hb
  rcases z with z | z
  ·exact ok.noex b o e z
  ·have:=Heap.lt_size (ok.bs b o e).1
   exact absurd (Nat.lt_of_lt_of_le this z) (Nat.lt_irrefl _)
 ·obtain ⟨_,z1,z2,_⟩:=hf b hb
  rcases List.mem_cons.mp (I.stkSub b hb') with z | z
  ·exact z1 z
  ·exact z2 z
 ·match i,e1,e2 with
  | 0,e1,e2=>
   have e2' : (none:Option V) = some v:=by simpa using e2
   cases e2'
  | 1,e1,e2=>
   have e2' : (none:Option V) = some v:=by simpa using e2
   cases e2'
  | i + 2,e1,e2=>
   have e1' : cap[i]? = some y:=by simpa using e1
   have e2' : (capV σ js)[i]? = some (some v):=by simpa using e2
   have hy:y∈cap:=List.mem_of_getElem? e1'
   unfold capV at e2'
   rw [List.getElem?_map] at e2'
   cases ej:js[i]? with
   | none=>rw [ej] at e2';cases e2'
   | some j=>
    rw [ej] at e2'
    have e2'' : (σ[j]?).join = some v:=Option.some.inj e2'
    have eN:X.N[j]? = some y:=by
     have:=congrArg (fun l=>l[i]?) hjs
     simp only [List.getElem?_map,ej,e1',Option.map_some] at this
     exact Option.some.inj this
    have eσ:σ[j]? = some (some v):=by
     cases q:σ[j]? with
     | none=>rw [q] at e2'';cases e2''
     | some w' =>
      rw [q] at e2''
      have:w' = some v:=by simpa using e2''
      rw [this]
    have kc:X.env.scope.names.lookup y = some .cell:=S.free (y,.free) (S.caps y hy) rfl
    obtain ⟨m0,hn0,hl0⟩:=I.loc
    obtain ⟨u,ru,lk⟩:=hl0 j y v eN eσ (.inr (.inl kc))
    refine ⟨u,ru,?_⟩
    rcases lk with ⟨k,_⟩ | ⟨_,c,ec,hc⟩
    ·have k' : X.env.scope.names.lookup y = some .local:=k
     rw [kc] at k';cases k'
    ·obtain ⟨c',hc'⟩:=Option.isSome_iff_exists.mp (clOf_has (env:=X.env) (acc:=[]) (S.caps y hy))
     have hcc:c' = c:=Option.some.inj ((S.sub ok hc').symm.trans ec)
     subst hcc
     refine .inr ⟨?_,c',hc',?_⟩
     ·rcases e3 with e3 | e3 | e3
      ·exfalso
       have hm:=PySem.mem_of_lookup e3
       obtain ⟨k',hm',hk'⟩:=relabel_mem hm
       rcases hk' with e | ⟨_,e⟩
       ·subst e
        exact S.noboth y hy (S.names _ hm' rfl)
       ·cases e
      ·exact .inl e3
      ·exact .inr e3
     ·obtain ⟨o,ho,hd⟩:=hc
      exact ⟨o,keep _ o ho,hd⟩
 ·obtain ⟨v,o,ho,hd⟩:=I.cell y c (S.sub ok e)
  exact ⟨v,o,keep _ o ho,hd⟩
 ·have hp' : p = (s.heap.objs.size,oD):=by simpa using hp
  subst hp'
  refine ⟨hoD,I.hok.fresh (Nat.le_refl _),neLt (Nat.lt_succ_self _),fun hb=>?_,hnc⟩
  obtain ⟨_,o,ho,_⟩:=I.stack.mem hb
  exact Nat.lt_irrefl _ (Heap.lt_size ho)
 ·show (none :: none :: capV σ js).length = (x :: x2 :: cap).length
  unfold capV
  simp [lenJ]
theorem comp_end2 (S:CompScope2 X.env.scope sc x x2 cap) (I:Inv X pins σ H s) {fp:List Addr}(hf:∀ b∈fp,FpOk X pins H b) {D C:Addr}{pn' : List (Addr × Obj)} {σ' : St} {H' : Hp} {s' : Shared} {ys:List V}{its:List Value}{k:Nat}{h' : Heap}
  (hD:D = s.heap.objs.size) (hC:C = s.heap.objs.size + 1) (J:Inv (compCx X sc (x :: x2 :: cap) C s H fp) pn' σ' H' s') (hnD:H' D = none) (hoD:s'.heap.get? D = some { cls:=.type "list",data:=.seq its.toArray k }) (rv:Vals ys its) (hz:ys.length≤sizeLine)
  (hs:Heap.SameBut C s'.heap h'):Inv X pins σ (upd H' D (.lst ys)) { s' with heap:=h' }:=by
 subst hD hC
 have base:Un (frs X.stack) fp H H' s.heap s'.heap:=J.base
 have hnC:H' (s.heap.objs.size + 1) = none:=J.free
 have neC:∀ {b:Addr}{o:Obj},s.heap.get? b = some o→b≠s.heap.objs.size + 1:=fun e=>neLt (Nat.lt_succ_of_lt (Heap.lt_size e))
 have neD:∀ {b:Addr}{o:Obj},s.heap.get? b = some o→b≠s.heap.objs.size:=fun e=>neLt (Heap.lt_size e)
 have neDH:∀ {b:Addr}{o:HO},H b = some o→b≠s.heap.objs.size:=fun e=>neLt (I.hok.lt e)
 refine I.call' (s' := { s' with heap:=h' }) (ch:=fp) J.os ⟨fun b o e n hb hx=>?_,fun b o e n hb hx=>?_,fun b o e n hx=>?_,fun b o e hx=>?_,fun b xs e=>?_,fun b o u e=>?_,fun b ps e=>?_⟩ (fun b u e=>?_) J.bare fun b hb=>?_
 ·exact (hs.2 b (neC e)).trans (base.keep b o e n hb hx)
 ·obtain ⟨sl,q⟩:=base.slot b o e n hb hx
  exact ⟨sl,(hs.2 b (neC e)).trans q⟩
 ·rw [upd_ne (neD e)];exact base.free b o e n hx
 ·obtain ⟨o',q⟩:=base.there b o e hx
  exact ⟨o',(hs.2 b (neC e)).trans q⟩
 ·rw [upd_ne (neDH e)];exact base.tups b xs e
 ·rw [upd_ne (neDH e)];exact base.frzs b o u e
 ·rw [upd_ne (neDH e)];exact base.tbls b ps e
 ·by_cases hb:b = s.heap.objs.size
  ·subst hb
   rw [upd_same] at e
   cases e
   exact ⟨hz,its,k,rv,(hs.2 _ (neLt (Nat.lt_succ_self _))).trans hoD⟩
  ·rw [upd_ne hb] at e
   have J' : ObjOk X.prog X.w H' s'.heap b u:=J.hok b u e
   refine J'.stay (fun c v hc q=>(hs.2 c ?_).trans q) (fun c q=>?_) (fun c xs q=>?_) fun c o u q=>?_
   ·rintro rfl
    rcases hc with rfl | hc
    ·rw [hnC] at e;cases e
    ·rw [hnC] at hc;cases hc
   ·rw [upd_ne (ne_of_none q hnD)];exact q
   ·rw [upd_ne (ne_of_none q hnD)];exact q
   ·rw [upd_ne (ne_of_none q hnD)];exact q
 ·obtain ⟨_,z1,_,z3,z4,z5⟩:=hf b hb
  exact ⟨z3,z1,z4,z5⟩
end
section
variable {X:Cx}{pins:List (Addr × Obj)}{σ:St}{H:Hp}{s:Shared}{sc:Scope}{x x2:Str}{cap:List Str}
def LCw2 (K:PySem.W.Frag) (J:It) (js:List Nat) (σ:St) (tt:TT) (te:TE) (Q:VK) (W:Nat→Nat→List V→Hp→Prop):Prop:=
 ∀ i m ys H,W i m ys H→ys.length < sizeLine∧
  ((J.stop i H∧∀ p,H p = none→Q (.ref p) (upd H p (.lst ys)))∨
   (J.go i H∧∀ x H',J.yld i H x H' → ∃ p u1 u2,x = .ref p∧SqT K H' p [u1,u2]∧tt (some u1 :: some u2 :: capV σ js) H' fun b H2=>if b = true then te (some u1 :: some u2 :: capV σ js) H2 fun v H3=>∃ m',m' < m∧W (i + 1) m' (ys ++ [v]) H3 else ∃ m',m' < m∧W (i + 1) m' ys H2))
def tLC2 (K:PySem.W.Frag) (wi:TI) (js:List Nat) (tt:TT) (te:TE):TE:=fun σ H Q=>wi σ H fun J H1=>∃ W:Nat→Nat→List V→Hp→Prop,(∃ m,W 0 m [] H1)∧LCw2 K J js σ tt te Q W
theorem comp_run2 (S:CompScope2 X.env.scope sc x x2 cap) {js:List Nat}(hjs:js.map (fun j=>X.N[j]?) = cap.map some) (hc:X.calm = true) {elt iter:Expr}{ifs:List Expr}{pos px py tpos:Pos}{tk:Nat}{tt:TT}{te:TE}
  (hb:∀ C s0 H0 ex,PIf (compCx X sc (x :: x2 :: cap) C s0 H0 ex) ifs tt∧PE (compCx X sc (x :: x2 :: cap) C s0 H0 ex) elt te)
  (I:Inv X pins σ H s) {J:It}{fp:List Addr}{it:Addr}{tn:Nat→Heap→Prop}(T:Turn X.prog X.w X.K (.Tuple [.Name x px,.Name x2 py] tk tpos) J fp it tn) (st:tn 0 s.heap) (hf:∀ b∈fp,FpOk X pins H b)
  {Q:VK}{W:Nat→Nat→List V→Hp→Prop}(w0:∃ m,W 0 m [] H) (turn:LCw2 X.K J js σ tt te Q W) {RR:Value→Addr→Result→Shared→Prop}{E:Value→Shared→Prop}
  (hR:∀ D C s' σ' H' ys its k,D = s.heap.objs.size→C = s.heap.objs.size + 1→Inv (compCx X sc (x :: x2 :: cap) C s H fp) [(D,{ cls:=.type "list",data:=.seq its.toArray k })] σ' H' s' → Vals ys its→ys.length≤sizeLine→(∀ p,H' p = none→Q (.ref p) (upd H' p (.lst ys)))→RR (.ref D) C (.ok .next) s'):
  wpAny (model X.prog X.w) X.A (newList []) (fun acc s₃=>wpAny (model X.prog X.w) X.A (newFunctionEnv sc X.env.globals (clOf X.env sc.names []) [] X.env.qual none .none (some X.env)) (fun cenv s₄=>
   codeAny (model X.prog X.w) X.A (.compStart (.ListComp elt [⟨(.Tuple [.Name x px,.Name x2 py] tk tpos),iter,ifs,0⟩] sc pos) 0 (.ref it) acc { cenv with scope:=relabel sc X.env }) (RR acc cenv.locals) s₄) E s₃) E s:=by
 refine wpAny_newObj_type (wpAny_newFunctionEnv S.cell (by intro y hy;simp at hy) (fun h₁ hns₁ hsb₁=>?_) S.kind)
 dsimp only at hns₁ hsb₁ ⊢
 have hlt:∀ b∈fp,b < s.heap.objs.size:=fun b hb' => by
  obtain ⟨o,e,_⟩:=T.obj 0 _ st b hb'
  exact Heap.lt_size e
 generalize hH2:s.heap.push { cls:=.type "list",dict:=none,data:=.seq ([]:List Value).toArray } = H2 at hns₁ hsb₁ ⊢
 have hC:H2.objs.size = s.heap.objs.size + 1:=by rw [← hH2,Heap.size_push]
 have old:∀ b o,s.heap.get? b = some o→h₁.get? b = some o:=fun b o e=>
  hsb₁.extBut b o (by rw [hC];exact neLt (Nat.lt_succ_of_lt (Heap.lt_size e))) (Heap.get?_push_of_some _ (hH2 ▸ Heap.get?_push_of_some _ e))
 have hacc:h₁.get? s.heap.objs.size = some { cls:=.type "list",data:=.seq ([]:List Value).toArray }:=
  hsb₁.extBut _ _ (by rw [hC];exact neLt (Nat.lt_succ_self _)) (Heap.get?_push_of_some _ (hH2 ▸ Heap.get?_push_size _ rfl))
 have st₁:tn 0 h₁:=T.keep _ _ _ st fun b _ o e=>old b o e
 obtain ⟨m0,w0⟩:=w0
 rw [hC] at hns₁ hsb₁ ⊢
 generalize hCe:s.heap.objs.size + 1 = C at hns₁ hsb₁ hR ⊢
 generalize hDe:s.heap.objs.size = D at hacc hR ⊢
 have hDe' := hDe.symm
 have hC' : C = s.heap.objs.size + 1:=hCe.symm
 have ltD:∀ {b:Addr},b < s.heap.objs.size→b≠D:=fun h=>by rw [← hDe];exact neLt h
 have loop:∀ s₃:Shared,s₃ = { s with heap:=h₁,toks:=s.toks + ([]:List (Str × Value)).length }→
   codeAny (model X.prog X.w) X.A (.compLoop (.ListComp elt [⟨(.Tuple [.Name x px,.Name x2 py] tk tpos),iter,ifs,0⟩] sc pos) 0 (.ref it) (.ref D) (compEnvC sc (clOf X.env sc.names []) C X.env)) (RR (.ref D) C) s₃:=by
  rintro s₃ rfl
  have I0:Inv (compCx X sc (x :: x2 :: cap) C s H fp) [(D,{ cls:=.type "list",data:=.seq ([]:List Value).toArray })] (none :: none :: capV σ js) H { s with heap:=h₁,toks:=s.toks + ([]:List (Str × Value)).length }:=
   comp_inv2 S hjs I hf hlt hDe' hC' old hacc (fun v z=>by cases z) hns₁
  have ndN:(compCx X sc (x :: x2 :: cap) C s H fp).N.Nodup:=S.nd
  have hxl:(compCx X sc (x :: x2 :: cap) C s H fp).env.scope.names.lookup x = some .local:=lookup_relabel_local S.tgt
  have hxl2:(compCx X sc (x :: x2 :: cap) C s H fp).env.scope.names.lookup x2 = some .local:=lookup_relabel_local S.tgt2
  have fpD:∀ b∈fp,b≠D:=fun b hb' => ltD (hlt b hb')
  refine comp_turns (fun n s' => ∃ i v0 v1 H' ys its k,Inv (compCx X sc (x :: x2 :: cap) C s H fp) [(D,{ cls:=.type "list",data:=.seq its.toArray k })] (v0 :: v1 :: capV σ js) H' s' ∧ tn i s'.heap∧(∀ b∈fp,H' b = none)∧Vals ys its∧W i n ys H')
   ?_ m0 ⟨0,none,none,H,[],[],0,I0,st₁,fun b hb' => (hf b hb').1,.nil,w0⟩
  rintro n s3 ⟨i,v0,v1,H3,ys,its,k,I3,st3,fr3,rv,w3⟩
  obtain ⟨hlen,hor⟩:=turn i n ys H3 w3
  have stat:∀ {H' : Hp} {o:Obj},(∀ b∈fp,H' b = none)→∀ b∈fp,FpOk (compCx X sc (x :: x2 :: cap) C s H fp) [(D,o)] H' b:=fun {H' o} hn b hb' =>
   ⟨hn b hb',(I3.ok.exf b hb').1,I3.ok.exfs b hb',.inl hb',(I3.ok.exf b hb').2,fun p hp=>by
    have hp' : p = (D,o):=by simpa using hp
    rw [hp']
    exact Ne.symm (fpD b hb')⟩
  rcases hor with ⟨stop,qn⟩ | ⟨go,step⟩
  ·refine thn (T.done (compCx X sc (x :: x2 :: cap) C s H fp) rfl rfl rfl hc i _ s3 _ H3 _ I3 (stat fr3) st3 stop) fun r s4 ⟨hr,I4⟩=>?_
   subst hr
   exact hR D C s4 _ H3 ys its k rfl rfl I4 rv (Nat.le_of_lt hlen) qn
  ·refine thn (T.item (compCx X sc (x :: x2 :: cap) C s H fp) rfl rfl rfl hc i _ s3 _ H3 _ I3 (stat fr3) st3 go) fun r s4 ⟨u,hr,h4⟩=>?_
   subst hr
   refine thn h4 fun _ s5 ⟨xv,H5,I5,r5,y5,st5,fr5⟩=>?_
   have I5' := I5.pinned (stat fr5) (T.obj _ _ st5)
   have hg:PG (compCx X sc (x :: x2 :: cap) C s H fp) (.Tuple [.Name x px,.Name x2 py] tk tpos) (gTup X.K 2 (gCons (gName 0) (gCons (gName 1) gNil))):=pg_tup hc (pgs_cons (pg_name ndN rfl (.inl hxl) (.inr hxl)) (pgs_cons (pg_name ndN rfl (.inl hxl2) (.inr hxl2)) pgs_nil))
   obtain ⟨pv',u1,u2,exv,hsq,st'⟩:=step xv H5 y5
   subst exv
   refine thn (hg _ s5 _ H5 (.ref pv') u (fun σ2 H2=>σ2 = some u1 :: some u2 :: capV σ js∧H2 = H5) I5' r5 ⟨pv',[u1,u2],rfl,hsq,rfl,u1,[u2],rfl,u2,[],rfl,rfl,rfl,rfl⟩) fun _ s6 ⟨σ6,H6,I6,e6,e6'⟩=>?_
   subst e6 e6'
   refine thn ((hb C s H fp).1 _ s6 _ H6 _ I6 st') fun ok s7 ⟨H7,I7,q7⟩=>?_
   have fin:∀ {s8:Shared}{H8:Hp}{v8 v9:Option V},Inv (compCx X sc (x :: x2 :: cap) C s H fp) ([(D,{ cls:=.type "list",data:=.seq its.toArray k })] ++ pinsAt fp s5.heap) (v8 :: v9 :: capV σ js) H8 s8→tn (i + 1) s8.heap∧(∀ b∈fp,H8 b = none)∧s8.heap.get? D = some { cls:=.type "list",data:=.seq its.toArray k }∧H8 D = none∧D≠C:=fun {s8 H8 v8 v9} I8=>by
    have pinD:=I8.pin (D,{ cls:=.type "list",data:=.seq its.toArray k }) (List.mem_append_right _ (List.mem_append_left _ (List.mem_singleton.mpr rfl)))
    have pinF:∀ b∈fp,∀ o,s5.heap.get? b = some o→s8.heap.get? b = some o∧H8 b = none:=fun b hb' o e=>
     have z:=I8.pin (b,o) (List.mem_append_right _ (List.mem_append_right _ (mem_pinsAt hb' e)))
     ⟨z.1,z.2.1⟩
    refine ⟨T.keep _ _ _ st5 fun b hb' o e=>(pinF b hb' o e).1,fun b hb' => ?_,pinD.1,pinD.2.1,pinD.2.2.1⟩
    obtain ⟨o,e,_⟩:=T.obj _ _ st5 b hb'
    exact (pinF b hb' o e).2
   cases ok with
   | false=>
    rw [if_neg Bool.false_ne_true] at q7 ⊢
    obtain ⟨m',hm,w7⟩:=q7
    obtain ⟨f1,f2,_⟩:=fin I7
    exact ⟨m',hm,i + 1,some u1,some u2,H7,ys,its,k,I7.unpinned,f1,f2,rv,w7⟩
   | true=>
    rw [if_pos rfl] at q7 ⊢
    refine thn ((hb C s H fp).2 _ s7 _ H7 _ I7 q7) fun u8 s8 ⟨v,H8,I8,r8,q8⟩=>?_
    obtain ⟨f1,f2,f3,f4,f5⟩:=fin I8
    obtain ⟨m',hm,w8⟩:=q8
    have rv' : Vals (ys ++ [v]) (its ++ [u8]):=rv.append (.cons r8 .nil)
    refine wpAny_list_append_plain ⟨k,f3⟩ (fun h9 hl9 hs9=>?_) (by rw [List.size_toArray,← rv.length];exact Nat.le_of_lt hlen)
    obtain ⟨k9,e9⟩:=hl9
    have e9' : h9.get? D = some { cls:=.type "list",data:=.seq (its ++ [u8]).toArray k9 }:=by rw [e9];simp
    have In:Inv (compCx X sc (x :: x2 :: cap) C s H fp) (pinsAt fp s5.heap) (some u1 :: some u2 :: capV σ js) H8 s8:=I8.pins_of fun p hp=>I8.pin p (List.mem_append_right _ (List.mem_append_right _ hp))
    have It' : Inv (compCx X sc (x :: x2 :: cap) C s H fp) (pinsAt fp s5.heap) (some u1 :: some u2 :: capV σ js) H8 { s8 with heap:=h9 }:=
     In.turned (it:=D) (h' := h9) (t' := s8.toks) (fun b o hb' e=>hs9.extBut b o hb' e) f4 f5 (.inr (Nat.le_of_eq hDe)) (fun y c e z=>by
      obtain ⟨v',o,ho,_⟩:=I.cell y c (S.sub I.ok e)
      exact ltD (Heap.lt_size ho) z) fun p hp z=>by
      have hp' : p∈pinsAt fp s5.heap:=by simpa using hp
      exact fpD p.1 (of_pinsAt hp').1 z
    refine ⟨m',hm,i + 1,some u1,some u2,H8,ys ++ [v],its ++ [u8],k9,It'.pins_of fun p hp=>?_,T.keep _ _ _ f1 fun b hb' o e=>hs9.extBut b o (fpD b hb') e,f2,rv',w8⟩
    have hp' : p = (D,{ cls:=.type "list",data:=.seq (its ++ [u8]).toArray k9 }):=by simpa using hp
    subst hp'
    refine ⟨e9',f4,f5,fun hb' => ?_,fun v z=>by cases z⟩
    obtain ⟨_,o,ho,_⟩:=I.stack.mem hb'
    exact ltD (Heap.lt_size ho) rfl
 exact codeAny_compStart_list (loop _ rfl) (T.self X.A 0 _ _ _ st₁ (loop _ rfl))
theorem pe_lc2 (S:CompScope2 X.env.scope sc x x2 cap) {js:List Nat}(hjs:js.map (fun j=>X.N[j]?) = cap.map some) (hc:X.calm = true) (hxe:∀ e s,¬ X.xe e s) {elt iter:Expr}{ifs:List Expr}{pos px py tpos:Pos}{tk:Nat}{wi:TI}{tt:TT}{te:TE}
  (hi:PI X (.Tuple [.Name x px,.Name x2 py] tk tpos) iter wi) (hb:∀ C s0 H0 ex,PIf (compCx X sc (x :: x2 :: cap) C s0 H0 ex) ifs tt∧PE (compCx X sc (x :: x2 :: cap) C s0 H0 ex) elt te)
  (hs:∀ x,foldedSetIterable iter X.env x = pure x:=by intro _;rfl):PE X (.ListComp elt [⟨(.Tuple [.Name x px,.Name x2 py] tk tpos),iter,ifs,0⟩] sc pos) (tLC2 X.K wi js tt te):=by
 intro pins s σ H Q I h
 rw [eval_ListComp]
 refine wpAny_comprehension_free (use:=none) rfl hs (closureFor_eq (S.cells I.ok)) S.kind S.names (thn (hi pins s σ H _ I h) fun xv s₁ h₁=>thn h₁ fun itv s₂ h₂=>?_)
 obtain ⟨it,fp,tn,J,H2,e,I2,T,st2,f2,W,w0,turn⟩:=h₂
 subst e
 refine comp_run2 (Q:=Q) (RR:=fun acc C=>compPost (model X.prog X.w) X.A X.xe none (EP X pins σ Q) acc C) S hjs hc hb I2 T st2 f2 w0 turn ?_
 intro D C s' σ' H' ys its k hD hC J' rv hz q
 obtain ⟨m,hn,_⟩:=J'.loc
 have pinD:=J'.pin (D,{ cls:=.type "list",data:=.seq its.toArray k }) (List.mem_append_right _ (List.mem_singleton.mpr rfl))
 exact ⟨m,hn,fun h' hs' => ⟨.ref D,_,comp_end2 S I2 f2 hD hC J' pinD.2.1 pinD.1 rv hz hs',rfl,q D pinD.2.1⟩⟩
end
end L2
namespace L2
open PySem PySem.Spec PyProof.Rows StbG
section
variable {prog:Program}{w:World}{A:Around}{E:Value→Shared→Prop}{s:Shared}
def PairAt (h:Heap) (v:Value) (a b:Int):Prop:=∃ p o t u n,v = .ref p∧h.get? p = some o∧o.cls = .type "tuple" ∧ o.data = .seq #[.int a t,.int b u] n
theorem pair_lt {x y:Value}{a b c d:Int}{Q:Bool→Shared→Prop}(hx:PairAt s.heap x a b) (hy:PairAt s.heap y c d) (h:Q (decide (a < c∨(a = c∧b < d))) s):wpAny (model prog w) A (keyLt' (tuples' true) x y) Q E s:=by
 obtain ⟨p,o,t,u,n,rfl,e1,_,d1⟩:=hx
 obtain ⟨p2,o2,t2,u2,n2,rfl,e2,_,d2⟩:=hy
 refine PySem.W.kat_lt e1 d1 e2 d2 ?_
 show PySem.W.KatLex prog w A true _ Q [(.int a t,.int c t2),(.int b u,.int d u2)] 0 s
 refine PySem.W.kat_cons (wpAny_eqBool_int (PySem.W.kat_go (fun z=>PySem.W.kat_yes (PySem.W.kat_cons (wpAny_eqBool_int (PySem.W.kat_go (fun z2=>PySem.W.kat_yes (PySem.W.kat_nil ?_)) fun z2=>PySem.W.kat_no (PySem.W.kat_one _ _ (lt_int ?_)))))) fun z=>PySem.W.kat_no (oneLt_int ?_)))
 ·have e1:a = c:=by simpa using z
  have e2:b = d:=by simpa using z2
  have:decide (a < c∨(a = c∧b < d)) = false:=decide_eq_false (by omega)
  rw [this] at h
  exact h
 ·have e1:a = c:=by simpa using z
  have:decide (a < c∨(a = c∧b < d)) = decide (b < d):=decide_eq_decide.mpr (by omega)
  rw [this] at h
  exact h
 ·have e1:a≠c:=by simpa using z
  have:decide (a < c∨(a = c∧b < d)) = decide (a < c):=decide_eq_decide.mpr (by omega)
  rw [this] at h
  exact h
theorem pairs_cmp {ρ:Keyed→Int}{vs:List Value}(h:∀ p∈(vs.toArray.zip vs.toArray).toList,∃ a b,PairAt s.heap p.1 a b∧0≤b∧b < 1000∧ρ p = a * 1000 + b):Cmp prog w A E s ρ (tuples' true) (vs.toArray.zip vs.toArray):=by
 intro st i j Q hB hi hj hq
 have at_:∀ k,k < (vs.toArray.zip vs.toArray).size→∃ x q a b,(arrOf st)[k]? = some (x,q)∧PairAt s.heap x a b∧0≤b∧b < 1000∧R ρ (arrOf st) k = a * 1000 + b:=fun k hk=>by
  have hk' : k < (arrOf st).size:=by rw [hB.size];exact hk
  have hm:(arrOf st)[k]∈(vs.toArray.zip vs.toArray).toList:=(Array.perm_iff_toList_perm.mp hB.perm).mem_iff.mp (by simp)
  obtain ⟨a,b,hp,b0,b1,e⟩:=h _ hm
  have e' : (arrOf st)[k]? = some (arrOf st)[k]:=getElem?_pos _ k hk'
  exact ⟨(arrOf st)[k].1,(arrOf st)[k].2,a,b,e',hp,b0,b1,by unfold R;rw [e'];exact e⟩
 obtain ⟨x,p,a,b,ei,hx,x0,x1,ri⟩:=at_ i hi
 obtain ⟨y,q,c,d,ej,hy,y0,y1,rj⟩:=at_ j hj
 rw [ri,rj] at hq
 have e:decide (a * 1000 + b < c * 1000 + d) = decide (a < c∨(a = c∧b < d)):=decide_eq_decide.mpr (by omega)
 rw [e] at hq
 rw [ltAt'_eq]
 refine wpS_bind (wpS_get ?_)
 show wpS _ _ _ _ (do let x ← elem' (arrOf st) i;let y ← elem' (arrOf st) j;lt' x y) Q st
 rw [elem'_eq,elem'_eq,ei,ej]
 refine wpS_bind (wpS_pure (wpS_bind (wpS_pure ?_)))
 rw [lt'_eq]
 refine wpS_bind (wpS_get ?_)
 rw [hB.kind]
 exact wpS_bind (wpS_lift (wpAny_attempt (pair_lt hx hy ⟨rfl,wpS_pure hq⟩)))
theorem pairs_kind {vs:List Value}{Q:SortKind→Shared→Prop}(h:∀ v∈vs,∃ a b,PairAt s.heap v a b) (hne:vs≠[]) (hq:Q (tuples' true) s):wpAny (model prog w) A (keyKind' vs.toArray) Q E s:=by
 have key:∀ vs:List Value,(∀ v∈vs,∃ a b,PairAt s.heap v a b)→∃ fs:List Value,PySem.W.KatTups s.heap vs fs∧fs.length = vs.length∧∀ f∈fs,∃ a t,f = .int a t:=by
  intro vs
  induction vs with
  | nil=>intro _;exact ⟨[],.nil,rfl,fun f hf=>by cases hf⟩
  | cons v r ih=>
   intro h
   obtain ⟨fs,k1,k2,k3⟩:=ih fun z hz=>h z (List.mem_cons_of_mem _ hz)
   obtain ⟨a,b,p,o,t,u,n,rfl,e1,c1,d1⟩:=h v List.mem_cons_self
   exact ⟨.int a t :: fs,PySem.W.KatTups.cons e1 c1 d1 rfl k1,by rw [List.length_cons,List.length_cons,k2],fun f hf=>by
    rcases List.mem_cons.mp hf with rfl | hf
    ·exact ⟨a,t,rfl⟩
    ·exact k3 f hf⟩
 obtain ⟨fs,k1,k2,k3⟩:=key vs h
 refine PySem.W.kat_kind (T:=.type "int") k1 (by rw [k2];cases vs with | nil=>exact absurd rfl hne | cons=>simp) (fun f hf=>?_) (by decide) hq
 obtain ⟨a,t,rfl⟩:=k3 f hf
 exact PySem.W.Looks.of_pure rfl
def pN (h:Heap) (v:Value):Int:=match v with
 | .ref p=>match h.get? p with
  | some o=>match o.data with
   | .seq xs _=>numOf (xs.getD 0 .none) * 1000 + numOf (xs.getD 1 .none)
   | _=>0
  | none=>0
 | _=>0
theorem pN_of {h:Heap}{v:Value}{a b:Int}(x:PairAt h v a b):pN h v = a * 1000 + b:=by
 obtain ⟨p,o,t,u,n,rfl,e1,_,d1⟩:=x
 unfold pN
 dsimp only
 rw [e1]
 show (match o.data with | .seq xs _=>numOf (xs.getD 0 .none) * 1000 + numOf (xs.getD 1 .none) | _=>0) = _
 rw [d1]
 rfl
theorem PairAt.keep {h h' : Heap} {v:Value}{a b:Int}(x:PairAt h v a b) (k:∀ b o,h.get? b = some o→h'.get? b = some o):PairAt h' v a b:=by
 obtain ⟨p,o,t,u,n,e,e1,r⟩:=x
 exact ⟨p,o,t,u,n,e,k _ _ e1,r⟩
abbrev pz (vs:List Value):Array Keyed:=vs.toArray.zip vs.toArray
theorem pz_size (vs:List Value):(pz vs).size = vs.length:=by simp [pz]
theorem pz_mem {vs:List Value}{p:Keyed}(h:p∈(pz vs).toList):p.1∈vs∧p.2 = p.1:=by
 have e:(pz vs).toList = vs.zip vs:=by simp [pz]
 rw [e] at h
 obtain ⟨i,hi⟩:=List.getElem?_of_mem h
 rw [List.getElem?_zip_eq_some] at hi
 exact ⟨List.mem_of_getElem? hi.1,Option.some.inj (hi.2.symm.trans hi.1)⟩
theorem lsort_pairs {a:Addr}{vs:List Value}{n:Nat}{ρ:Keyed→Int}{P:PySem.Fin→Shared→Prop}(ho:s.heap.get? a = some (seqObj "list" vs.toArray n)) (hv:∀ v∈vs,∃ x y,PairAt s.heap v x y∧0≤y∧y < 1000∧∀ q,ρ (v,q) = x * 1000 + y) (z64:vs.length < 64)
  (k:∀ st' : SortSt,(arrOf st').Perm (pz vs)→Up ρ (fun _=>0) (arrOf st') (pz vs).size→P (.done (.ret .none)) { s with heap:=sortedHeap s.heap a vs ((arrOf st').map (·.2)) }):wpAny (model prog w) A (Builtin.«list.sort» ⟨[.ref a],[]⟩) P E s:=by
 have la:a < s.heap.objs.size:=Heap.lt_size ho
 have zl:(64:Nat)≤sizeLine:=by decide
 obtain ⟨e1,ho1⟩:∃ e1,(s.heap.update a (Obj.mapSeq fun _=>#[])).get? a = some (seqObj "list" #[] e1):=⟨_,get?_update_seq ho fun _=>#[]⟩
 have ho6:(((s.heap.update a (Obj.mapSeq fun _=>#[])).push (seqObj "tuple" vs.toArray 0)).push (seqObj "list" #[] 0)).get? a = some (seqObj "list" #[] e1):=Heap.get?_push_of_some _ (Heap.get?_push_of_some _ ho1)
 rw [list_sort_plain]
 refine wpAny_bind (listItems_at ho rfl (wpAny_bind (listUpdate_at ho rfl ?_ (by rw [List.size_toArray];omega) (Nat.zero_le _))))
 refine wpAny_bind (seqEpoch_at ho1 rfl (wpAny_bind (wpAny_newTuple ?_ (by show vs.toArray.toList.length≤_;rw [List.toList_toArray];omega))))
 refine wpAny_bind (wpAny_newList (wpAny_holding ?_) (Nat.zero_le _))
 show wpAny (model prog w) A _ P E { s with heap:=((s.heap.update a (Obj.mapSeq fun _=>#[])).push (seqObj "tuple" vs.toArray 0)).push (seqObj "list" #[] 0) }
 have keep:∀ v∈vs,∀ x y,PairAt s.heap v x y→PairAt (((s.heap.update a (Obj.mapSeq fun _=>#[])).push (seqObj "tuple" vs.toArray 0)).push (seqObj "list" #[] 0)) v x y:=fun v hv' x y pa=>by
  obtain ⟨p,o,t,u,m,e,e1',c1,d1⟩:=pa
  have npa:a≠p:=fun z=>by
   subst z
   rw [ho] at e1'
   have eo:=Option.some.inj e1'
   rw [← eo] at c1
   have c2:Value.type "list" = Value.type "tuple" := c1
   injection c2 with c2
   exact absurd c2 (by decide)
  exact ⟨p,o,t,u,m,e,Heap.get?_push_of_some _ (Heap.get?_push_of_some _ ((Heap.get?_update_other s.heap _ npa).trans e1')),c1,d1⟩
 have osz:∀ st' : SortSt,(arrOf st').Perm (pz vs)→((arrOf st').map (·.2)).size≤sizeLine + 1:=fun st' hp=>by rw [Array.size_map,hp.size_eq,pz_size];omega
 dsimp only
 by_cases h2:vs.toArray.size < 2
 ·rw [if_pos h2,if_pos h2]
  refine wpAny_bind (wpAny_pure ?_)
  rw [StateT.run_pure]
  refine wpAny_bind (wpAny_pure ?_)
  dsimp only
  refine wpAny_bind (seqEpoch_at ho6 rfl (wpAny_bind (listUpdate_at ho6 rfl ?_ (Nat.zero_le _) (osz (SortSt.mk' general' (pz vs) #[] 7 none) (Array.Perm.refl _)))))
  simp only [bne_self_eq_false,Bool.false_eq_true,if_false]
  refine wpAny_pure (k (SortSt.mk' general' (pz vs) #[] 7 none) (Array.Perm.refl _) fun i j hij hj=>?_)
  rw [pz_size] at hj
  rw [List.size_toArray] at h2
  omega
 ·rw [if_neg h2,if_neg h2]
  rw [List.size_toArray] at h2
  refine wpAny_bind (pairs_kind (fun v hv' => ?_) (fun z=>by subst z;simp at h2) ?_)
  ·obtain ⟨x,y,pa,_⟩:=hv v hv'
   exact ⟨x,y,keep v hv' x y pa⟩
  refine wpAny_bind (wpAny_mono (s_runs (ρ:=ρ) (τ:=fun _=>0) (κ:=tuples' true) (a₀:=pz vs) (st:=SortSt.mk' (tuples' true) (pz vs) #[] 7 none) (Q:=fun _ st' => (arrOf st').Perm (pz vs)∧failedOf st' = none∧Up ρ (fun _=>0) (arrOf st') (pz vs).size)
   (pairs_cmp fun p hp=>?_) ⟨Array.Perm.refl _,rfl,rfl,rfl⟩ (by rw [pz_size];omega) (by rw [pz_size];exact z64) (fun i j _ _ _=>?_) fun st' a1 a2 a3=>⟨a1,a2,a3⟩) ?_ fun _ _ e=>e)
  ·obtain ⟨m1,m2⟩:=pz_mem hp
   obtain ⟨x,y,pa,y0,y1,e⟩:=hv _ m1
   exact ⟨x,y,keep _ m1 x y pa,y0,y1,e p.2⟩
  ·unfold R
   split <;> split <;> exact Int.le_refl _
  rintro ⟨⟨⟩,st'⟩ s' ⟨rfl,hp,hf,hu⟩
  dsimp only
  refine wpAny_bind (seqEpoch_at ho6 rfl (wpAny_bind (listUpdate_at ho6 rfl ?_ (Nat.zero_le _) (osz st' hp))))
  rw [hf]
  simp only [bne_self_eq_false,Bool.false_eq_true,if_false]
  exact wpAny_pure (k st' hp hu)
theorem sorted_pairs {l:Addr}{vs:List Value}{ρ:Keyed→Int}{Q:Value→Shared→Prop}(hl:s.heap.IsList l vs.toArray) (hv:∀ v∈vs,∃ x y,PairAt s.heap v x y∧0≤y∧y < 1000∧∀ q,ρ (v,q) = x * 1000 + y) (z64:vs.length < 64)
  (k:∀ st' : SortSt,(arrOf st').Perm (pz vs)→Up ρ (fun _=>0) (arrOf st') (pz vs).size→Q (.ref (s.heap.objs.size + 1)) { s with heap:=sortedAll s.heap vs ((arrOf st').map (·.2)) }):wpAny (model prog w) A (call (.builtin "sorted") [.ref l]) Q E s:=by
 have zl:(64:Nat)≤sizeLine:=by decide
 refine Calls.call_function_entry kind_sorted plain_sorted entry_sorted (args_sorted1 _) (show wpAny _ _ (Builtin.«sorted» _) _ _ _ from ?_)
 unfold Builtin.«sorted»
 refine wpAny_bind (m:=checkCount "sorted" 1 1 _) (wpAny_pure (wpAny_bind (collect_list hl (wpAny_bind (wpAny_newList ?_ (by omega))) (by omega))))
 have zs:((s.heap.push (seqObj "list" #[] 0)).update s.heap.objs.size (Obj.mapSeq (· ++ vs.toArray))).objs.size = s.heap.objs.size + 1:=by rw [Heap.size_update,size_push']
 have oL:(((s.heap.push (seqObj "list" #[] 0)).update s.heap.objs.size (Obj.mapSeq (· ++ vs.toArray))).push (seqObj "list" vs.toArray 0)).get? (s.heap.objs.size + 1) = some (seqObj "list" vs.toArray 0):=by rw [← zs];exact Heap.get?_push_size _ rfl
 show wpAny _ _ _ _ _ { s with heap:=((s.heap.push (seqObj "list" #[] 0)).update s.heap.objs.size (Obj.mapSeq (· ++ vs.toArray))).push (seqObj "list" vs.toArray 0) }
 rw [zs]
 refine wpAny_bind (wpAny_holding (wpAny_call_entry PyProof.Rows.slot_list_sort ⟨_,oL,rfl⟩ PyProof.Rows.entry_list_sort (lsort_pairs oL (fun v hv' => ?_) z64 fun st' a1 a2=>⟨_,rfl,wpAny_pure ⟨_,rfl,k st' a1 a2⟩⟩) (args_list_sort _)))
 obtain ⟨x,y,pa,r⟩:=hv v hv'
 exact ⟨x,y,pa.keep fun b o e=>Heap.get?_push_of_some _ ((Heap.get?_update_other _ _ (Nat.ne_of_gt (Heap.lt_size e))).trans (Heap.get?_push_of_some _ e)),r⟩
end
theorem perm_lift {α β:Type}{f:α→β}{a b:List β}(h:a.Perm b):∀ {Z:List α},Z.map f = b→∃ Z' : List α,Z'.Perm Z∧Z'.map f = a:=by
 induction h with
 | nil=>intro Z e;exact ⟨Z,.refl _,e⟩
 | cons x h ih=>
  intro Z e
  cases Z with
  | nil=>cases e
  | cons z Z=>
   injection e with e1 e2
   obtain ⟨Z',p,e3⟩:=ih e2
   exact ⟨z :: Z',p.cons z,by rw [List.map_cons,e1,e3]⟩
 | swap x y l=>
  intro Z e
  match Z,e with
  | z :: z2 :: Z,e=>
   injection e with e1 e2
   injection e2 with e2 e3
   exact ⟨z2 :: z :: Z,.swap _ _ _,by rw [List.map_cons,List.map_cons,e1,e2,e3]⟩
 | trans h1 h2 i1 i2=>
  intro Z e
  obtain ⟨Z2,p2,e2⟩:=i2 e
  obtain ⟨Z1,p1,e1⟩:=i1 e2
  exact ⟨Z1,p1.trans p2,e1⟩
abbrev dPr (p:Int × Int):PyData:=.tuple [.int p.1,.int p.2]
def rSrtP (K:PySem.W.Frag):List V→Hp→VK→Prop:=fun xs H Q=>∃ (G:Hp) (p:Addr) (vs:List V) (ps:List (Int × Int)),xs = [.ref p]∧Same G H∧SqL K H p vs∧Dats K G vs (ps.map dPr)∧ps.length < 64∧(∀ q∈ps,0≤q.2∧q.2 < 1000)∧
 ∀ (l:Addr) (us:List V) (qs:List (Int × Int)),H l = none→qs.Perm ps→Dats K G us (qs.map dPr)→qs.Pairwise (fun a b=>a.1 * 1000 + a.2≤b.1 * 1000 + b.2)→Q (.ref l) (upd H l (.lst us))
section
variable {X:Cx}{pins:List (Addr × Obj)}{σ:St}{H G:Hp}{s:Shared}
theorem pair_of (I:Inv X pins σ H s) (sg:Same G H) {v:V}{u:Value}{q:Int × Int}(r:RelV v u) (h:Dat X.K G v (dPr q)):PairAt s.heap u q.1 q.2:=by
 obtain ⟨p,xs,rfl,hp,hxs⟩:=h.tup
 obtain ⟨y,ys,rfl,hy,hxs⟩:=hxs.cons
 obtain ⟨z,zs,rfl,hz,hxs⟩:=hxs.cons
 cases hxs.nil
 cases hy.int
 cases hz.int
 obtain rfl:u = Value.ref p:=r
 obtain ⟨its,rv,⟨o,e1,c1,n,d1⟩,_⟩:=I.tuple (sg.tup hp)
 cases rv with
 | cons r1 rv=>
  cases rv with
  | cons r2 rv=>
   cases rv
   obtain ⟨t,rfl⟩:=r1
   obtain ⟨t2,rfl⟩:=r2
   exact ⟨p,o,t,t2,n,rfl,e1,c1,d1⟩
theorem triples (I:Inv X pins σ H s) (sg:Same G H):∀ {vs:List V}{its:List Value}{ps:List (Int × Int)},Vals vs its→Dats X.K G vs (ps.map dPr)→∃ Z:List (Value × V × (Int × Int)),Z.map (·.1) = its∧Z.map (·.2.2) = ps∧∀ z∈Z,RelV z.2.1 z.1∧Dat X.K G z.2.1 (dPr z.2.2)∧PairAt s.heap z.1 z.2.2.1 z.2.2.2
 | _,_,[],.nil,_=>⟨[],rfl,rfl,fun z hz=>by cases hz⟩
 | _,_,_ :: _,.nil,h=>by obtain ⟨_,_,e,_⟩:=h.cons;cases e
 | _,_,[],.cons _ _,h=>by cases h.nil
 | v0 :: vs0,u0 :: us0,q :: ps,.cons r rv,h=>by
  obtain ⟨y,ys,e,hy,h'⟩:=h.cons
  cases e
  obtain ⟨Z,e1,e2,e3⟩:=triples I sg rv h'
  refine ⟨(u0,v0,q) :: Z,by rw [List.map_cons,e1],by rw [List.map_cons,e2],fun z hz=>?_⟩
  rcases List.mem_cons.mp hz with rfl | hz
  ·exact ⟨r,hy,pair_of I sg r hy⟩
  ·exact e3 z hz
theorem call_sortedP {K:PySem.W.Frag}(e:X.K = K):CallR X (.builtin "sorted") (rSrtP K):=by
 subst e
 intro pins s σ H xs us Q I r h
 obtain ⟨G,p,vs,ps,rfl,sg,hq,hd,h64,hps,k⟩:=h
 obtain ⟨u,rfl,rx⟩:=vals1 r
 cases rx
 obtain ⟨its,r',pl,hz⟩:=I.list hq
 have hlen:=r'.length
 have hl2:=hd.length
 rw [List.length_map] at hl2
 obtain ⟨Z,z1,z2,z3⟩:=triples I sg r' hd
 have hv:∀ v∈its,∃ x y,PairAt s.heap v x y∧0≤y∧y < 1000∧∀ q:Value,(fun p:Keyed=>pN s.heap p.1) (v,q) = x * 1000 + y:=fun v hv=>by
  rw [← z1] at hv
  obtain ⟨z,hz,rfl⟩:=List.mem_map.mp hv
  obtain ⟨_,_,pa⟩:=z3 z hz
  have hq2:=hps z.2.2 (by rw [← z2];exact List.mem_map_of_mem hz)
  exact ⟨_,_,pa,hq2.1,hq2.2,fun _=>pN_of pa⟩
 refine sorted_pairs (ρ:=fun p=>pN s.heap p.1) pl.isList hv (by omega) fun st' a1 a2=>?_
 obtain ⟨c,hc⟩:=sortedAll_at s.heap its ((arrOf st').map (·.2))
 have zp:(arrOf st').size = its.length:=by rw [a1.size_eq,pz_size]
 have mem:∀ q∈(arrOf st').toList,q.1∈its∧q.2 = q.1:=fun q hq=>pz_mem ((Array.perm_iff_toList_perm.mp a1).mem_iff.mp hq)
 have hperm:((arrOf st').toList.map (·.2)).Perm its:=by
  have:=(Array.perm_iff_toList_perm.mp a1).map (·.2)
  have e:(pz its).toList.map (·.2) = its:=by
   have:(pz its).toList = its.zip its:=by simp [pz]
   rw [this,← List.unzip_snd,List.unzip_zip (by rfl)]
  rw [e] at this;exact this
 obtain ⟨Z',p1,e1⟩:=perm_lift hperm z1
 have zl:Z'.length = (arrOf st').size:=by have:=congrArg List.length e1;simpa using this
 have hZ:∀ z∈Z',RelV z.2.1 z.1∧Dat X.K G z.2.1 (dPr z.2.2)∧PairAt s.heap z.1 z.2.2.1 z.2.2.2:=fun z hz=>z3 z (p1.mem_iff.mp hz)
 have hvals:∀ L:List (Value × V × (Int × Int)),(∀ z∈L,RelV z.2.1 z.1∧Dat X.K G z.2.1 (dPr z.2.2)∧PairAt s.heap z.1 z.2.2.1 z.2.2.2)→Vals (L.map (·.2.1)) (L.map (·.1))∧Dats X.K G (L.map (·.2.1)) ((L.map (·.2.2)).map dPr):=by
  intro L
  induction L with
  | nil=>intro _;exact ⟨.nil,dats_nil⟩
  | cons z L ih=>
   intro h
   obtain ⟨i1,i2⟩:=ih fun y hy=>h y (List.mem_cons_of_mem _ hy)
   obtain ⟨h1,h2,_⟩:=h z List.mem_cons_self
   exact ⟨.cons h1 i1,dats_cons h2 i2⟩
 obtain ⟨hV,hD⟩:=hvals Z' hZ
 rw [e1] at hV
 have eo:((arrOf st').map (·.2)).toList = (arrOf st').toList.map (·.2):=by simp
 refine ⟨.ref (s.heap.objs.size + 1),_,I.laid (t' := s.toks) (fun _ _=>sortedAll_old) (Nat.le_succ _) (show ObjOk X.prog X.w _ (sortedAll s.heap its ((arrOf st').map (·.2))) _ (.lst (Z'.map (·.2.1))) from ⟨by rw [List.length_map];have:(64:Nat)≤sizeLine:=(by decide);omega,((arrOf st').map (·.2)).toList,c,by rw [eo];exact hV,hc⟩),rfl,k _ _ (Z'.map (·.2.2)) (I.hok.fresh (Nat.le_succ _)) (by rw [← z2];exact p1.map _) hD ?_⟩
 rw [List.pairwise_iff_getElem]
 intro i j hi hj hij
 have hj' : j < Z'.length:=by simpa using hj
 have at_:∀ m (hm:m < Z'.length),R (fun p=>pN s.heap p.1) (arrOf st') m = Z'[m].2.2.1 * 1000 + Z'[m].2.2.2:=fun m hm=>by
  have hm' : m < (arrOf st').size:=by omega
  have ea:(arrOf st')[m]? = some (arrOf st')[m]:=Array.getElem?_eq_getElem hm'
  have q1:Z'[m].1 = (arrOf st')[m].2:=by
   have h1:(Z'.map (·.1))[m]? = some Z'[m].1:=by rw [List.getElem?_map,List.getElem?_eq_getElem hm];rfl
   rw [e1,List.getElem?_map] at h1
   have h2:(arrOf st').toList[m]? = some (arrOf st')[m]:=by simp [hm']
   rw [h2] at h1
   exact (Option.some.inj h1).symm
  have q2:=(mem (arrOf st')[m] (by simp)).2
  unfold R
  rw [ea]
  show pN s.heap (arrOf st')[m].1 = _
  rw [← q2,← q1]
  exact pN_of (hZ _ (List.getElem_mem hm)).2.2
 have:=a2 i j hij (by rw [← a1.size_eq];omega)
 rw [at_ i (by omega),at_ j hj'] at this
 simp only [List.getElem_map]
 omega
theorem ev_srtP {K:PySem.W.Frag}{σ:St}{G:Hp}{t:TA}{ps qs:List (Int × Int)}(h:EvA K t σ G [.list (ps.map dPr)]) (h64:ps.length < 64) (hps:∀ q∈ps,0≤q.2∧q.2 < 1000) (hq:∀ rs:List (Int × Int),rs.Perm ps→rs.Pairwise (fun a b=>a.1 * 1000 + a.2≤b.1 * 1000 + b.2)→rs = qs):Ev K (tCB (rSrtP K) t) σ G (.list (qs.map dPr)):=
 ev_cb h fun G1 H xs Q s1 s2 hx k=>by
  obtain ⟨v,r,rfl,hv,hx⟩:=hx.cons
  rw [hx.nil]
  obtain ⟨p,ys,rfl,hp,hys⟩:=hv.lst
  refine ⟨G1,p,ys,ps,rfl,s2,SqL.of (s2 _ _ hp),hys,h64,hps,fun l us rs hl hperm hd hs=>?_⟩
  have e:=hq rs hperm hs
  subst e
  have g:=grow_new (o:=.lst us) s2 hl
  exact k _ _ _ g (dat_lst upd_same (hd.same g.gg))
end
end L2
namespace L2
open PySem PySem.Spec PyProof.Rows
theorem for_enumT {K:PySem.W.Frag}{a:Addr}{xs:List V}{g:TG}{tb:TS}{D:Ends}{σ:St}{H:Hp}(Pv:Nat→St→Hp→Prop) (h0:Pv 0 σ H) (hl:∀ i σ H,i≤xs.length→Pv i σ H→SqT K H a xs)
  (hs:∀ i x σ H p,xs[i]? = some x→Pv i σ H→H p = none→g (.ref p) σ (upd H p (.tup [.int i,x])) fun σ2 H2=>tb { D with nx:=Pv (i + 1),ct:=Pv (i + 1),bk:=D.nx } σ2 H2) (hd:∀ σ H,Pv xs.length σ H→D.nx σ H):
  ∃ W:Nat→Nat→St→Hp→Prop,(∃ m,W 0 m σ H)∧∀ i m σ H,W i m σ H→
   ((IteT K a).stop i H∧D.nx σ H)∨((IteT K a).go i H∧∃ N:St→Hp→Prop,(∀ σ' H',N σ' H' → ∃ m',m' < m∧W (i + 1) m' σ' H')∧∀ x H',(IteT K a).yld i H x H' → g x σ H' fun σ2 H2=>tb { D with nx:=N,ct:=N,bk:=D.nx } σ2 H2):=by
 refine ⟨fun i m σ H=>m = xs.length - i∧i≤xs.length∧Pv i σ H,⟨xs.length,by simp,Nat.zero_le _,h0⟩,?_⟩
 rintro i m σ H ⟨rfl,hi,p⟩
 have q:=hl i σ H hi p
 by_cases hlt:i < xs.length
 ·refine .inr ⟨⟨xs,_,q,List.getElem?_eq_getElem hlt⟩,Pv (i + 1),fun σ' H' p' => ⟨xs.length - (i + 1),by omega,rfl,hlt,p'⟩,fun x H' y=>?_⟩
  obtain ⟨p',x',hp',rfl,rfl,hx⟩:=y
  exact hs i x' σ H p' (hx xs q) p hp'
 ·have e:i = xs.length:=by omega
  subst e
  exact .inl ⟨⟨xs,q,Nat.le_refl _⟩,hd σ H p⟩
theorem ev_lc2P {K:PySem.W.Frag}{σ:St}{G:Hp}{tl:TE}{js:List Nat}{te:TE}(ps:List (Int × Int)) (f:Int × Int→PyData) (h:Ev K tl σ G (.list (ps.map dPr))) (hj:ps.length < sizeLine) (hc:∀ G2 (i:Nat) p,Same G G2→ps[i]? = some p→Ev K te (some (.int p.1) :: some (.int p.2) :: capV σ js) G2 (f p)):Ev K (tLC2 K (iList K tl) js tNoIf te) σ G (.list (ps.map f)):=
 fun G1 H s1 s2 Q k=>h G1 H s1 s2 _ fun v G2 H2 g2 hv=>by
  obtain ⟨p,xs,rfl,hp,hxs⟩:=hv.lst
  have hl:xs.length = ps.length:=by rw [hxs.length,List.length_map]
  refine ⟨p,rfl,⟨xs,SqL.of (g2.gh _ _ hp)⟩,fun i m ys H' => m = ps.length - i∧i≤ps.length∧ys.length = i∧∃ G',Grow G2 H2 G' H' ∧ Dats K G' ys ((ps.take i).map f),⟨ps.length,by omega,by omega,rfl,G2,Grow.refl g2.gh,by simpa using dats_nil⟩,?_⟩
  rintro i m ys H' ⟨rfl,hi,hyl,G',g',hys⟩
  have hp' := g'.hh _ _ (g2.gh _ _ hp)
  refine ⟨by omega,?_⟩
  by_cases e:i = ps.length
  ·subst e
   refine .inl ⟨⟨xs,SqL.of hp',by omega⟩,fun l hlf=>?_⟩
   have g3:=grow_new (o:=.lst ys) g'.gh hlf
   rw [List.take_length] at hys
   exact k _ _ _ ((g2.trans g').trans g3) (dat_lst upd_same (hys.same g3.gg))
  ·have hi' : i < ps.length:=by omega
   refine .inr ⟨⟨xs,_,SqL.of hp',List.getElem?_eq_getElem (by omega)⟩,fun x H'' hy=>?_⟩
   obtain ⟨eH,hx⟩:=hy
   subst eH
   have hx:=hx xs (SqL.of hp')
   obtain ⟨dd,hdd,hxd⟩:=hxs.get' hx
   rw [List.getElem?_map,List.getElem?_eq_getElem hi'] at hdd
   have hdd:some (dPr ps[i]) = some dd:=hdd
   injection hdd with hdd
   subst hdd
   obtain ⟨q,us,rfl,hq,hus⟩:=hxd.tup
   obtain ⟨y1,r1,rfl,h1,hus⟩:=hus.cons
   obtain ⟨y2,r2,rfl,h2,hus⟩:=hus.cons
   cases hus.nil
   rw [h1.int,h2.int] at hq
   refine ⟨q,_,_,rfl,((g2.gh.trans g'.hh)).tup hq,tNoIf_of ?_⟩
   refine hc G' i _ (s1.trans (g2.gg.trans g'.gg)) (List.getElem?_eq_getElem hi') G' H'' (Same.refl _) g'.gh _ fun v G4 H4 g4 hv=>⟨ps.length - (i + 1),by omega,rfl,by omega,by rw [List.length_append,hyl];rfl,G4,g'.trans g4,?_⟩
   rw [List.take_succ,List.getElem?_eq_getElem hi',List.map_append]
   exact dats_snoc (hys.same g4.gg) hv
end L2
namespace Look
open PySem Ord Rdo L2
def pA (L:Fs→Fs→An) (gs:List Fs) (i:Nat):Int × Int:=((rk L gs (th gs i):Nat),(i:Nat))
theorem cnt_rk {L:Fs→Fs→An}{gs:List Fs}(wk:Wk L (· ∈ gs)) {f:Fs}(hf:f∈gs):gs.countP (fun o=>decide (L o f = .ahead)) = rk L gs f:=by
 unfold rk
 refine List.countP_congr fun g hg=>?_
 rw [wk.anti f g hf hg,decide_eq_true_iff,decide_eq_true_iff]
 cases L f g <;> decide
theorem due_eq {L:Fs→Fs→An}{gs:List Fs}(wk:Wk L (· ∈ gs)) (hl:gs.length < 1000) {rs:List (Int × Int)}(hp:rs.Perm ((List.range gs.length).map (pA L gs))) (hs:rs.Pairwise fun a b=>a.1 * 1000 + a.2≤b.1 * 1000 + b.2):rs = (tn L gs).map (pA L gs):=by
 obtain ⟨Z,p,e⟩:=perm_lift hp rfl
 subst e
 have e:Z = tn L gs:=by
  refine tn_of wk p ?_
  have nd:Z.Nodup:=p.nodup_iff.mpr List.nodup_range
  rw [List.pairwise_map] at hs
  refine (List.Pairwise.and_mem.mp (hs.and nd)).imp fun {i j} ⟨hi,hj,h,hne⟩=>?_
  have li:=List.mem_range.mp (p.mem_iff.mp hi)
  have lj:=List.mem_range.mp (p.mem_iff.mp hj)
  have a:=(agree_iff L gs).mpr wk
  unfold agree at a
  have q:=of_decide_eq_true (List.all_eq_true.mp (List.all_eq_true.mp a _ (th_mem li)) _ (th_mem lj))
  have h' : ((rk L gs (th gs i):Nat):Int) * 1000 + (i:Nat)≤((rk L gs (th gs j):Nat):Int) * 1000 + (j:Nat):=h
  unfold ltL
  rw [q,(cmpN_cases _ _).1,(cmpN_cases _ _).2.1]
  have:i≠j:=hne
  omega
 rw [e]
end Look
namespace K28
open PySem L2 Frac Lw Dig PySem.NumText Nm
open Ord Num Look Rdo
def RDue (book:List Str):List PyData→PyData→Prop:=fun ds d=>∃ (ws:List Wd) (num:Int→Int→Prop) (gs:List Fs),ds = [dOs ws,.tuple (gs.map dT)]∧OC book num ws∧(∀ g∈gs,FZ book.length g)∧gs.length < 64∧Wk (lookA book ws) (· ∈ gs)∧d = dN (tn (lookA book ws) gs)
section
variable {P:Program}{w:World}{K:PySem.W.Frag}{mg:Str→Option Value}{base:Heap}
theorem ok_due (T:Top K mg) (M:Bs K mg base) (W:Wds K w.params mg) (W1:Txs K w.params mg "AHEAD" aheadT) (W2:Txs K w.params mg "OTHER_WAY" otherT):FnOk P w K mg base CX0 7 T.f__law_due T.fd__law_due ["order", "book", "row"] (spB K T.P_looked cr_looked RDue):=by
 have G_looked:FnOk P w K mg base CX0 6 T.f_looked T.fd_looked ["order", "book", "first", "second"] (spLook K T.P_looked cr_looked):=ok_looked T M W W1 W2
 refine T.F__law_due.ok sc__law_due (fun vs H Q E h=>?_) (fun cdv A outer s H vs Q E hr h=>?_)
 ·obtain ⟨G,book,vo,pb,us,ds,d,rfl,_,_,_,hd,⟨ws,num,gs,rfl,_⟩,_⟩:=h
  have:=hd.length
  simp only [List.length_cons,List.length_nil] at this ⊢
  omega
 ·obtain ⟨G,book,vo,pb,us,ds,d,rfl,hT,sg,hpb,hd,⟨ws,num,gs,rfl,⟨o1,o2,o3,o4⟩,hgs,hl,wk,rfl⟩,k⟩:=h
  obtain ⟨v0,r0,e0,h0,hd⟩:=hd.cons
  cases e0
  rename Dats K G us _=>hd
  obtain ⟨v2,r2,rfl,h2,hd⟩:=hd.cons
  cases hd.nil
  have zl:(2000:Nat)≤sizeLine:=by decide
  obtain ⟨pt,vs,rfl,hpt,hvs⟩:=h2.tup
  have hvl:vs.length = gs.length:=by rw [hvs.length,List.length_map]
  refine ⟨_,(pss_cons (ps_set (i:=3) sc__law_due.nd rfl (Or.inl rfl) (pe_lst pa_nil))
   (pss_cons (ps_for PassesOwn.never rfl (pi_enumT (by rfl) T.enumerate_ (pa_cons (pv 2) pa_nil st_Name)) (pg_tup (n:=2) rfl (pgs_cons (pg_name (i:=4) sc__law_due.nd rfl (Or.inl rfl)) (pgs_cons (pg_name (i:=5) sc__law_due.nd rfl (Or.inr rfl)) pgs_nil)) (by rfl)) (pss_cons (ps_set (i:=6) sc__law_due.nd rfl (Or.inl rfl) (pe_callB (call_lenK (K:=K) rfl) (by rfl) T.len_ PySem.boot_len (pa_cons (pe_lc (x:= "other") (cap:=["order", "book", "thing"]) (js:=[0,1,5]) ⟨rfl,by decide +kernel,by decide +kernel,rfl,(by show ∀ p∈(_:List (Str × NameKind)),p.2 = NameKind.free→List.lookup p.1 (defScope s__law_due).names = some NameKind.cell;decide +kernel),by decide +kernel,by decide +kernel,by decide +kernel⟩ rfl rfl (fun _ _ h=>h) (pi_tup (pv 2)) (fun _ _ _ _=>⟨(pif_one (pt_cmpR op_eq (pe_call G_looked hr (by rfl) T.m_looked T.F_looked.kp T.b_looked .nil pass0 (pa_cons (pv 1) (pa_cons (pv 2) (pa_cons (pv 0) (pa_cons (pv 3) pa_nil st_Name) st_Name) st_Name) st_Name)) pe_str (nomark _))),(pv 0)⟩)) pa_nil st_ListComp)))
   (pss_one (ps_expr (pe_bm PySem.F.plainAttrs_list PySem.F.slot_list_append PySem.F.type_list_append mt_append (pv 3) (pa_cons (pe_tup (pa_cons (pv 6) (pa_cons (pv 4) pa_nil st_Name) st_Name)) pa_nil st_Tuple))))))
   (pss_one (ps_ret (pe_callTy (call_tupleK (K:=K) rfl) (by rfl) T.tuple_ bTup (pa_cons (pe_lc2 (x:= "ahead") (x2:= "place") (cap:=[]) (js:=[]) ⟨rfl,by decide +kernel,by decide +kernel,rfl,rfl,(by show ∀ p∈(_:List (Str × NameKind)),p.2 = NameKind.free→List.lookup p.1 (defScope s__law_due).names = some NameKind.cell;decide +kernel),by decide +kernel,by decide +kernel,by decide +kernel⟩ rfl rfl (fun _ _ h=>h) (pi_list (pe_callB (call_sortedP (K:=K) rfl) (by rfl) T.sorted_ boot_srt (pa_cons (pv 3) pa_nil st_Name))) (fun _ _ _ _=>⟨pif_nil,(pv 1)⟩)) pa_nil st_ListComp)))))) ,?_⟩
  refine ⟨(by show 0≤sizeLine;decide),fun l hlf=>?_⟩
  have gl:G l = none:=sg.free hlf
  have s1:Same G (upd H l (.lst [])):=sg.trans (same_new hlf)
  refine ⟨_,rfl,pt,rfl,⟨vs,s1.tup hpt⟩,for_enumT (xs:=vs) (fun i σ H' => ∃ (v4 v5 v6:Option V) (G' : Hp) (xs:List V),σ = [some vo,some (.ref pb),some (.ref pt),some (.ref l),v4,v5,v6]∧Grow G H G' H' ∧ G' l = none∧H' l = some (.lst xs)∧Dats K G' xs (((List.range i).map (pA (lookA book ws) gs)).map dPr)) ⟨_,_,_,G,[],rfl,grow_h sg (same_new hlf),gl,upd_same,dats_nil⟩ ?_ ?_ ?_⟩
  ·rintro i σ H' _ ⟨v4,v5,v6,G',xs,rfl,g,_⟩
   exact (g.gg.trans g.gh).tup hpt
  ·rintro i x σ H' p hx ⟨v4,v5,v6,G',xs,rfl,g,gl',hk,hxs⟩ hp
   have hi:i < gs.length:=by have:=(List.getElem?_eq_some_iff.mp hx).1;omega
   obtain ⟨dd,hdd,hxd⟩:=hvs.get' hx
   rw [List.getElem?_map,List.getElem?_eq_getElem hi] at hdd
   have hdd:some (dT gs[i]) = some dd:=hdd
   injection hdd with hdd
   subst hdd
   have eth:gs[i] = th gs i:=by unfold th;rw [List.getD_eq_getElem?_getD,List.getElem?_eq_getElem hi];rfl
   rw [eth] at hxd
   have hti:th gs i∈gs:=th_mem hi
   have npl:p≠l:=fun z=>by subst z;rw [hk] at hp;cases hp
   have gp:=grow_new (o:=.tup [.int (i:Nat),x]) g.gh hp
   have gA:=g.trans gp
   refine ⟨p,_,rfl,SqT.of upd_same,rfl,_,_,rfl,_,_,rfl,rfl,?_⟩
   have f1:=hgs _ hti
   refine asgs_ev (K:=K) (x:=.int (rk (lookA book ws) gs (th gs i):Nat)) (ev_d (ev_lenL (eva_cons (ev_lcT (js:=[0,1,5]) gs dT (fun o=>if decide (lookA book ws o (th gs i) = .ahead) = true then some (dT o) else none) (ev_var rfl (h2.same gA.gg)) (by omega) fun G2 j o y s3 ho hy=>lcB (evt_c (evt_test (K:=K) (ev_eqS (ev_look ((gA.gg.trans s3) _ _ hT) ((gA.gg.trans s3) _ _ hpb) ⟨⟨(hgs o (List.mem_of_getElem? ho)).1,f1.1,(hgs o (List.mem_of_getElem? ho)).2,f1.2⟩,o2,o3⟩ rfl (ev_var rfl (h0.same (gA.gg.trans s3))) (ev_var rfl hy) (ev_var rfl (hxd.same (gA.gg.trans s3))) o1 o4 (lookA_ev _ _ o3 o1)) (ev_str (x:=S "ahead")))) (decide_eq_decide.mpr (t_inj (b:=.ahead)))) fun _=>ev_var rfl hy) eva_nil)) ?_) gA.gh fun v6' Gb Hb gb hv6=>?_
   ·congr 1
    rw [← cnt_rk wk hti]
    have key:∀ l:List Fs,(l.filterMap fun o=>if decide (lookA book ws o (th gs i) = .ahead) = true then some (dT o) else none).length = l.countP fun o=>decide (lookA book ws o (th gs i) = .ahead):=by
     intro l
     induction l with
     | nil=>rfl
     | cons o r ih=>
      rw [List.filterMap_cons,List.countP_cons]
      cases e:decide (lookA book ws o (th gs i) = .ahead) with
      | true=>rw [if_pos rfl];show _ + 1 = _;rw [ih];simp
      | false=>rw [if_neg Bool.false_ne_true];show (List.filterMap _ r).length = _;rw [ih];simp
    rw [key]
   rw [hv6.int]
   have gB:=gA.trans gb
   have hkA:upd H' p (.tup [.int (i:Nat),x]) l = some (.lst xs):=by rw [upd_ne (Ne.symm npl)];exact hk
   have glA:upd G' p (.tup [.int (i:Nat),x]) l = none:=by rw [upd_ne (Ne.symm npl)];exact gl'
   have hkB:=gb.hh _ _ hkA
   have glB:Gb l = none:=gb.out hkA glA
   refine ⟨_,rfl,.inl ⟨rfl,_,SqL.of hkB⟩,?_⟩
   refine Ev.use (ev_tup (K:=K) (G:=Gb) (σ:=[some vo,some (.ref pb),some (.ref pt),some (.ref l),some (.int (i:Nat)),some x,some (.int (rk (lookA book ws) gs (th gs i):Nat))]) (eva_cons (ev_var (i:=6) rfl (dat_int _)) (eva_cons (ev_var (i:=4) rfl (dat_int _)) eva_nil)) (by show 2≤sizeLine;decide)) gb.gh fun vt Gc Hc gc hvt=>?_
   have hkC:=gc.hh _ _ hkB
   have glC:Gc l = none:=gc.out hkB glB
   have gC:=gB.trans gc
   refine ⟨l,_,_,rfl,rfl,hkC,(by have:=hxs.length;rw [List.length_map,List.length_map,List.length_range] at this;omega),?_⟩
   refine ⟨_,_,_,Gc,xs ++ [vt],rfl,⟨gC.gg,same_upd gC.gh glC,fun b o e=>by rw [upd_ne (ne_of_none e hlf)];exact gC.hh b o e,gC.fr⟩,glC,upd_same,?_⟩
   rw [List.range_succ,List.map_append,List.map_append]
   exact dats_snoc ((hxs.same gp.gg).same (gb.gg.trans gc.gg)) hvt
  ·rintro σ H' ⟨v4,v5,v6,G',xs,rfl,g,gl',hk,hxs⟩
   have gP:Grow G H (upd G' l (.lst xs)) H' := by
    refine ⟨fun b o e=>by rw [upd_ne (ne_of_none e gl)];exact g.gg b o e,fun b o e=>?_,g.hh,fun b o e=>?_⟩
    ·by_cases z:b = l
     ·subst z;rw [upd_same] at e;rw [hk,e]
     ·rw [upd_ne z] at e;exact g.gh b o e
    ·by_cases z:b = l
     ·subst z;exact .inr hlf
     ·rw [upd_ne z] at e;exact g.fr b o e
   have sP:Same G' (upd G' l (.lst xs)):=fun b o e=>by rw [upd_ne (ne_of_none e gl')];exact e
   rw [hvl] at hxs
   have hL:Dat K (upd G' l (.lst xs)) (.ref l) (.list (((List.range gs.length).map (pA (lookA book ws) gs)).map dPr)):=dat_lst upd_same (hxs.same sP)
   generalize upd G' l (.lst xs) = Gq at gP hL
   refine ret_ev (K:=K) (ev_d (ev_tupleL (eva_cons (ev_lc2P (js:=[]) ((tn (lookA book ws) gs).map (pA (lookA book ws) gs)) (fun p=>.int p.2) (ev_srtP (eva_cons (ev_var rfl hL) eva_nil) (by rw [List.length_map,List.length_range];omega) (fun q hq=>?_) fun rs r1 r2=>due_eq wk (by omega) r1 r2) (by rw [List.length_map,tn_len];omega) fun G2 i p s3 hp=>ev_var rfl (dat_int _)) eva_nil)) ?_) gP.gh fun v Gr Hr gr hv=>k v Gr Hr (gP.trans gr) hv
   ·obtain ⟨i,hi,rfl⟩:=List.mem_map.mp hq
    have:=List.mem_range.mp hi
    show 0≤((i:Nat):Int)∧((i:Nat):Int) < 1000
    omega
   ·show PyData.tuple _ = PyData.tuple _
    rw [List.map_map];rfl
end
end K28
namespace K28
open PySem L2 Frac Lw Dig PySem.NumText Nm
open Ord Num Look Rdo
theorem cut_ints (ns:List Int) (j:Option Int):∃ ms:List Int,cutV (ns.map V.int) none j = ms.map V.int∧ms.length≤ns.length:=by
 unfold cutV
 rw [HT.sIx_none]
 refine ⟨(ns.drop 0).take (HT.sIx (ns.map V.int).length (ns.map V.int).length j - 0),by rw [List.map_take,List.map_drop],?_⟩
 rw [List.length_take,List.length_drop];omega
section
variable {P:Program}{w:World}{K:PySem.W.Frag}{mg:Str→Option Value}{base:Heap}
theorem rrw_get {book:List Str}{pool:List (Int × Int)}{i:Int}{x:PyData}(h:RRw [.tuple (book.map PyData.str),.list (pool.map dF),.int i] x):∃ fs:List Fs,x = .tuple (fs.map dT)∧fs.length≤60∧∀ f∈fs,FOk book.length f:=by
 obtain ⟨bk,pl,m,fs,e,hb,_,rfl,hl,hf⟩:=h
 injection e with e1 e
 injection e1 with e1
 have q1:=strs_inj e1
 subst q1
 exact ⟨fs,rfl,by omega,hf⟩
theorem rrw_ex {book:List Str}{pool:List (Int × Int)}{m:Nat}(hb:book.length≤4∧1≤pool.length∧pool.length≤13∧m≤60) (hp:∀ p∈pool,SzP p):∃ x,RRw [.tuple (book.map PyData.str),.list (pool.map dF),.int (m:Nat)] x:=
 ⟨_,book,pool,m,[],rfl,hb,hp,rfl,Nat.zero_le _,fun f hf=>by cases hf⟩
theorem ok_law {f:Addr}{fd:FuncData}(F:Fun K "law" "law" s_law f fd) (T:Top K mg) (W:Wds K w.params mg) (W1:Txs K w.params mg "AHEAD" aheadT) (W2:Txs K w.params mg "OTHER_WAY" otherT) (M:Bs K mg base):FnOk P w K mg base CX0 11 f fd ["script"] (spLawT K [(T.P_looked,cr_looked),(T.P_turning,fun _ _=>some lq_turning)]):=by
 have G__law_next:FnOk P w K mg base CX0 10 T.f__law_next T.fd__law_next ["deck"] (spDv K 1 RNx):=(ok_next T).mono (by decide)
 have G__law_book:FnOk P w K mg base CX0 10 T.f__law_book T.fd__law_book ["deck"] (spBk K):=(ok_book T).mono (by decide)
 have G__law_pool:FnOk P w K mg base CX0 10 T.f__law_pool T.fd__law_pool ["deck"] (spDv K 15 RPool):=(ok_pool T).mono (by decide)
 have G__law_row:FnOk P w K mg base CX0 10 T.f__law_row T.fd__law_row ["deck", "book", "pool", "most"] (spDv K 241 RRw):=(ok_row T).mono (by decide)
 have G__law_order:FnOk P w K mg base CX0 10 T.f__law_order T.fd__law_order ["deck", "book", "pool", "deep"] (spDv K (oN 2) (ROr 2)):=(ok_orderS T 1 (by decide) (ok_orderS T 0 (by decide) (ok_order0 T))).mono (by decide)
 have G__law_due:FnOk P w K mg base CX0 10 T.f__law_due T.fd__law_due ["order", "book", "row"] (spB K T.P_looked cr_looked RDue):=(ok_due T M W W1 W2).mono (by decide)
 have G_turning:FnOk P w K mg base CX0 10 T.f_turning T.fd_turning ["order", "book", "row"] (spTn K T.P_looked T.P_turning RTng):=ok_turning T M W W1 W2
 refine F.ok sc_law (fun vs H Q E h=>?_) (fun cdv A outer s H vs Q E hr h=>?_)
 ·obtain ⟨a,ns,rfl,_⟩:=h
  rfl
 ·obtain ⟨a,ns,rfl,hS,hlen,hTs,fin⟩:=h
  have hT0:H T.P_looked = some (.tbl cr_looked):=hTs _ List.mem_cons_self
  have hC0:H T.P_turning = some (.tbl fun _ _=>some lq_turning):=hTs _ (List.mem_cons_of_mem _ List.mem_cons_self)
  have zl:(2000:Nat)≤sizeLine:=by decide
  have hu:=hr.units
  refine ⟨_,(pss_cons (ps_set (i:=1) sc_law.nd rfl (Or.inl rfl) (pe_lst (pa_cons (pe_slice (sl_listK (K:=K) rfl) (pv 0) po_none (po_some pe_int)) (pa_cons pe_int pa_nil st_Constant) st_Subscript)))
   (pss_cons (ps_for PassesOwn.never rfl (pi_range1 (by rfl) T.range_ (pa_cons pe_int pa_nil st_Constant)) (pg_name (i:=2) sc_law.nd rfl (Or.inl rfl)) (pss_cons (ps_set (i:=3) sc_law.nd rfl (Or.inl rfl) (pe_call G__law_book hr (by rfl) T.m__law_book T.F__law_book.kp T.b__law_book .nil pass0 (pa_cons (pv 1) pa_nil st_Name)))
   (pss_cons (ps_set (i:=4) sc_law.nd rfl (Or.inl rfl) (pe_call G__law_pool hr (by rfl) T.m__law_pool T.F__law_pool.kp T.b__law_pool .nil pass0 (pa_cons (pv 1) pa_nil st_Name)))
   (pss_cons (ps_set (i:=5) sc_law.nd rfl (Or.inl rfl) (pe_call G__law_order hr (by rfl) T.m__law_order T.F__law_order.kp T.b__law_order .nil pass0 (pa_cons (pv 1) (pa_cons (pv 3) (pa_cons (pv 4) (pa_cons pe_int pa_nil st_Constant) st_Name) st_Name) st_Name)))
   (pss_cons (ps_set (i:=6) sc_law.nd rfl (Or.inl rfl) (pe_call G__law_row hr (by rfl) T.m__law_row T.F__law_row.kp T.b__law_row .nil pass0 (pa_cons (pv 1) (pa_cons (pv 3) (pa_cons (pv 4) (pa_cons (pe_ix (ix_listK (K:=K) rfl) (pe_lst (pa_cons pe_int (pa_cons pe_int pa_nil st_Constant) st_Constant)) (pe_callTy call_int1 (by rfl) T.int_ bInt (pa_cons (pe_and (pe_cmpR op_eq (pv 2) pe_int (nomark _)) (pe_one (pe_cmpR op_eq (pe_op op_mod (pe_call G__law_next hr (by rfl) T.m__law_next T.F__law_next.kp T.b__law_next .nil pass0 (pa_cons (pv 1) pa_nil st_Name)) pe_int) pe_int (nomark _)))) pa_nil st_BoolOp)) (fun _ _=>rfl)) pa_nil st_Subscript) st_Name) st_Name) st_Name)))
   (pss_cons (ps_set (i:=7) sc_law.nd rfl (Or.inl rfl) (pe_call G__law_due hr (by rfl) T.m__law_due T.F__law_due.kp T.b__law_due .nil pass0 (pa_cons (pv 5) (pa_cons (pv 3) (pa_cons (pv 6) pa_nil st_Name) st_Name) st_Name)))
   (pss_one (ps_for PassesOwn.never rfl (pi_range1 (by rfl) T.range_ (pa_cons pe_int pa_nil st_Constant)) (pg_name (i:=8) sc_law.nd rfl (Or.inl rfl)) (pss_cons (ps_set (i:=9) sc_law.nd rfl (Or.inl rfl) (pe_call G_turning hr (by rfl) T.m_turning T.F_turning.kp T.b_turning .nil pass0 (pa_cons (pv 5) (pa_cons (pv 3) (pa_cons (pv 6) pa_nil st_Name) st_Name) st_Name)))
   (pss_one (ps_if ((pw_or (pt_not (pt_val (pe_callB (call_isD (K:=K) rfl) (by rfl) T.isinstance_ bIsi (pa_cons (pv 9) (pa_cons (pe_bltn (v:=.ty "tuple") (by rfl) T.tuple_ bTup rfl) pa_nil))))) (pw_or (pt_cmpR (op_neDK (K:=K) rfl hu) (pv 9) (pv 7) (nomark _)) (pw_or1 (pt_cmpR op_gt (pe_callB (call_lenK (K:=K) rfl) (by rfl) T.len_ PySem.boot_len (pa_cons (pe_lc (x:= "one") (cap:=[]) (js:=[]) ⟨rfl,by decide +kernel,by decide +kernel,rfl,(by show ∀ p∈(_:List (Str × NameKind)),p.2 = NameKind.free→List.lookup p.1 (defScope s_law).names = some NameKind.cell;decide +kernel),by decide +kernel,by decide +kernel,by decide +kernel⟩ rfl rfl (fun _ _ h=>h) (pi_tup (pv 9)) (fun _ _ _ _=>⟨(pif_one (pt_val (pe_callB (call_isD (K:=K) rfl) (by rfl) T.isinstance_ bIsi (pa_cons (pv 0) (pa_cons (pe_bltn (v:=.ty "bool") (by rfl) T.bool_ bBool rfl) pa_nil))))),(pv 0)⟩)) pa_nil st_ListComp)) pe_int (nomark _)))))).pt (pss_one (ps_ret pe_bl)) pss_nil)))))))))))
   (pss_one (ps_ret pe_bl)))) ,?_⟩
  refine ⟨_,rfl,63,rfl,a,_,rfl,hS,fun c hc=>⟨(by show 2≤sizeLine;decide),fun d hd=>?_⟩⟩
  obtain ⟨ms,hms,hml⟩:=cut_ints ns (some 63)
  rw [hms] at hd ⊢
  have ndc:d≠c:=fun z=>by subst z;rw [upd_same] at hd;cases hd
  have hd0:H d = none:=by rw [upd_ne ndc] at hd;exact hd
  have s0:Same H (upd (upd H c (.lst (ms.map V.int))) d (.lst [.ref c,.int 0])):=(same_new hc).trans (same_new hd)
  have D0:DkA (2 * 300) (upd (upd H c (.lst (ms.map V.int))) d (.lst [.ref c,.int 0])) d c:=⟨0,ms,upd_same,by rw [upd_ne (Ne.symm ndc)];exact upd_same,by omega,by omega,by decide⟩
  generalize upd (upd H c (.lst (ms.map V.int))) d (.lst [.ref c,.int 0]) = H1 at s0 D0
  refine ⟨2,rfl,by decide,by decide,for_range (n:=2) (fun i σ H' => ∃ (v2 v3 v4 v5 v6 v7 v8 v9:Option V) (G' : Hp),σ = [some (.ref a),some (.ref d),v2,v3,v4,v5,v6,v7,v8,v9]∧Same H G' ∧ Same G' H' ∧ G' d = none∧G' c = none∧DkA ((2 - i) * 300) H' d c) ⟨_,_,_,_,_,_,_,_,H,rfl,Same.refl _,s0,hd0,hc,D0⟩ ?_ ?_⟩
  ·rintro k σ H2 hk ⟨v2,v3,v4,v5,v6,v7,v8,v9,G2,rfl,sH,sg,gd,gc,D⟩
   have D:DkA ((2 - (k + 1)) * 300 + 300) H2 d c:=D.mono (by omega)
   refine ⟨_,rfl,d,c,G2,rfl,sg,gd,gc,D.mono (by omega),fun book pb G3 H3 b1 b2 hwd k3 hpb=>?_⟩
   have hb3:Dat K G3 (.ref pb) (.tuple (book.map PyData.str)):=dat_tup (SqT.of hpb) (dats_strs book)
   refine asgs_dv (K:=K) (d:=d) (c:=c) (dv_call (R:=RPool) rfl eva_nil ⟨_,rfl,[(0,1),(0,1)],rfl,by decide,by decide,fun p hp=>by simp only [List.mem_cons,List.not_mem_nil,or_false,or_self] at hp;subst hp;exact ⟨⟨by decide,by decide⟩,by decide⟩⟩) k3.gh (k3.gd D gd) (k3.gc D gc) (k3.cn 15 (D.mono (by omega))) fun vp x G4 H4 hx k4 hvp=>?_
   obtain ⟨_,pool,rfl,p1,p2,hpl⟩:=hx
   have s34:=k4.gg
   have k4:=k3.trans k4
   refine asgs_dv (K:=K) (d:=d) (c:=c) (n:=oN 2) ((dv_call (R:=ROr 2) rfl (eva_cons (ev_var rfl (hb3.same s34)) (eva_cons (ev_var rfl hvp) (eva_cons (ev_d ev_int (show PyData.int 2 = .int ((2:Nat):Int) from rfl)) eva_nil))) (ror_ex (deep:=2) (by decide) ⟨b1,b2,by omega,by omega⟩ hpl hwd)).imp fun x hx=>ror_get hx) k4.gh (k4.gd D gd) (k4.gc D gc) (k4.cn (oN 2) (D.mono (by show 16 + (1 + 15)≤_;omega))) fun vo x G5 H5 hx k5 hvo=>?_
   obtain ⟨ws,rfl,gw⟩:=hx
   have s35:=s34.trans k5.gg
   have hvp:=hvp.same k5.gg
   have k5:=k4.trans k5
   have D5:=k5.cn (242 + (2 - (k + 1)) * 300) (D.mono (by show _ + (1 + 15 + 16)≤_;omega))
   refine asgs_dv (K:=K) (d:=d) (c:=c) (n:=1 + 241) ((dv_callA (R:=RRw) (m:=1) (n:=241) (Rs:=fun ds=>∃ m:Nat,m≤60∧ds = [.tuple (book.map PyData.str),.list (pool.map dF),.int (m:Nat)]) rfl (((dva_cons (dv_ev (ev_var rfl (hb3.same s35))) (dva_cons (dv_ev (ev_var rfl hvp)) (dva_cons (dv_pickL (m:=0) (n:=1) (q:=2) (R:=fun x=>∃ m:Nat,m≤60∧x = .int (m:Nat)) (dv_two ⟨12,by decide,rfl⟩ ⟨60,by decide,rfl⟩) (dv_intB (n:=1) (dv_and (n:=1) (ev_eqI (ev_var rfl (dat_int _)) ev_int) (dv_eqI (n:=1) (((dv_mod (m:=1) (n:=0) (B:=8) (dv_nx rfl) (dv_c (by decide)))).imp fun x h=>⟨h.choose,h.choose_spec.1,trivial⟩))))) dva_nil))).up (by decide)).imp fun xs hx=>by
     obtain ⟨x1,r1,rfl,rfl,x2,r2,rfl,rfl,x3,r3,rfl,⟨m,hm,rfl⟩,rfl⟩:=hx
     exact ⟨m,hm,rfl⟩) fun ds hds=>by
     obtain ⟨m,hm,rfl⟩:=hds
     exact rrw_ex ⟨b2,by omega,p2,hm⟩ hpl).imp fun x hx=>by
     obtain ⟨ds,⟨m,hm,rfl⟩,hr⟩:=hx
     exact rrw_get hr) k5.gh (k5.gd D gd) (k5.gc D gc) (D5.mono (by omega)) fun vr x G6 H6 hx k6 hvr=>?_
   obtain ⟨fs,rfl,hfl,hfs⟩:=hx
   have s36:=s35.trans k6.gg
   have hvo:=hvo.same k6.gg
   have D6:DkA ((2 - (k + 1)) * 300) H6 d c:=k6.then_ D5
   have k6:=k5.trans k6
   have gd6:=k6.gd D gd
   have gc6:=k6.gc D gc
   have sH6:Same H G6:=sH.trans k6.gg
   have hb6:=hpb
   have hpb6:=s36 _ _ hpb
   have hT6:=sH6 _ _ hT0
   have hC6:=sH6 _ _ hC0
   have oc:OC book (fun a b=>(a,b)∈pool) ws:=⟨gw.1,fun a b h=>(hpl _ h).1,hwd,Nat.le_trans gw.2.1 (by decide)⟩
   have wk:Wk (lookA book ws) (· ∈ fs):=gw.2.2.sub fun g hg=>(hfs g hg).pos
   refine asgs_ev (K:=K) (ev_callB (R:=RDue) (d:=dN (tn (lookA book ws) fs)) hT6 hpb6 rfl (ev_var rfl hvo) (eva_cons (ev_var rfl hvr) eva_nil) ⟨ws,_,fs,rfl,oc,fun g hg=>(hfs g hg).fz,by omega,wk,rfl⟩) k6.gh fun vd G7 H7 g7 hvd=>?_
   refine ⟨2,rfl,by decide,by decide,for_range (n:=2) (fun i σ H' => ∃ (v8 v9:Option V) (G' : Hp),σ = [some (.ref a),some (.ref d),some (.int (0 + (k:Int))),some (.ref pb),some vp,some vo,some vr,some vd,v8,v9]∧Grow G7 H7 G' H') ⟨_,_,G7,rfl,Grow.refl g7.gh⟩ ?_ ?_⟩
   ·rintro i σ H8 _ ⟨v8,v9,G8,rfl,g8⟩
    have s68:=g7.gg.trans g8.gg
    refine asgs_ev (K:=K) (ev_callN (R:=RTng) (d:=dN (tn (lookA book ws) fs)) (s68 _ _ hT6) (s68 _ _ hC6) (s68 _ _ hpb6) rfl (ev_var rfl (hvo.same s68)) (eva_cons (ev_var rfl (hvr.same s68)) eva_nil) ⟨ws,_,fs,rfl,oc,fun g hg=>(hfs g hg).fz,by omega,wk,rfl⟩) g8.gh fun vf G9 H9 g9 hvf=>?_
    have hd9:=hvd.same (g8.gg.trans g9.gg)
    have tl:=tn_len (lookA book ws) fs
    generalize tn (lookA book ws) fs = t at hvf hd9 tl
    refine if_no (evt_c (e:=false) (evt_or (e:=false) (evt_not (evt_b (K:=K) (ev_isD (n:= "tuple") (ev_var rfl hvf) T.tt))) fun _=>evt_c (e:=false) (evt_or (e:=false) (evt_c (e:=false) (evt_test (K:=K) (ev_eqD (g:=fun b=>!b) (n:=4) (ev_var rfl hvf) (ev_var rfl hd9) (pl_nats _) (pl_nats _) (by decide))) (by rw [PySem.Spec.same_self];rfl)) fun _=>evt_c (e:=false) (evt_test (K:=K) (ev_i0 (d:=.bool false) (i:=0) (j:=0) (ev_d (ev_lenL (ds:=[]) (eva_cons (ev_d (ev_lcT (js:=[]) t (fun n=>PyData.int (n:Nat)) (fun _=>none) (ev_var rfl hvf) (by omega) fun G2 j m x s3 hm hx=>lc0 (evt_b (K:=K) (ev_isD (n:= "bool") (ev_var rfl hx) T.ib))) (by congr 1;exact List.filterMap_eq_nil_iff.mpr fun _ _=>rfl)) eva_nil)) rfl) ev_int (dat_bl _))) rfl) rfl) rfl) g9.gh fun Ga Ha ga=>?_
    exact ⟨_,_,Ga,rfl,g8.trans (g9.trans ga)⟩
   ·rintro σ H' ⟨v8,v9,G',rfl,g⟩
    have g6' := g7.trans g
    obtain ⟨⟨o1,q1⟩,o2,q2⟩:=D6.some
    exact ⟨_,_,_,_,_,_,_,_,G',rfl,sH6.trans g6'.gg,g6'.gh,g6'.out q1 gd6,g6'.out q2 gc6,D6.same g6'.hh⟩
  ·rintro σ H2 ⟨v2,v3,v4,v5,v6,v7,v8,v9,G2,rfl,_⟩
   exact fin H2
end
end K28
namespace K28
open PySem L2 Frac Lw Dig PySem.NumText Nm
open Ord Look Rdo
abbrev tabs:Tabs:=[(161,cr_looked),(221,fun _ _=>some lq_turning)]
theorem all_mk {l:PySem.W.OpenLaw}{w:World}{K:PySem.W.Frag}{h:Heap}{mg:Str→Option Value}{fa:Addr}{fz0 fz1 fz2 fz3 fz4 fz5 fz6 fz7 fz8 fz9 fz10 fz11 fz12 fz13 fz14 fz15 fz16 fz17 fz18 fz19 fz20 fz21 fz22 fz23 fz24 fz25 fz26 fz27 fz28 fz29 fz30 fz31 fz32:Addr}(X:K.In h) (G:h.Ns mainGlobals mg) (hfa:mg "law" = some (.ref fa))
  {odz0 anz0 odz1 anz1 odz2 anz2 odz3 anz3 odz4 anz4 odz5 anz5 odz6 anz6 odz7 anz7 odz8 anz8 odz9 anz9 odz10 anz10 odz11 anz11 odz12 anz12 odz13 anz13 odz14 anz14 odz15 anz15 odz16 anz16 odz17 anz17 odz18 anz18 odz19 anz19 odz20 anz20 odz21 anz21 odz22 anz22 odz23 anz23 odz24 anz24 odz25 anz25 odz26 anz26 odz27 anz27 odz28 anz28 odz29 anz29 odz30 anz30 odz31 anz31 odz32 anz32:Option Addr}{slz0 slz1 slz2 slz3 slz4 slz5 slz6 slz7 slz8 slz9 slz10 slz11 slz12 slz13 slz14 slz15 slz16 slz17 slz18 slz19 slz20 slz21 slz22 slz23 slz24 slz25 slz26 slz27 slz28 slz29 slz30 slz31 slz32:Array (Option Value)}{ocz0 kVz0 dcz0 pmz0 cdz0 ctz0 ocz1 kVz1 dcz1 pmz1 cdz1 ctz1 ocz2 kVz2 dcz2 pmz2 cdz2 ctz2 ocz3 kVz3 dcz3 pmz3 cdz3 ctz3 ocz4 kVz4 dcz4 pmz4 cdz4 ctz4 ocz5 kVz5 dcz5 pmz5 cdz5 ctz5 ocz6 kVz6 dcz6 pmz6 cdz6 ctz6 ocz7 kVz7 dcz7 pmz7 cdz7 ctz7 ocz8 kVz8 dcz8 pmz8 cdz8 ctz8 ocz9 kVz9 dcz9 pmz9 cdz9 ctz9 ocz10 kVz10 dcz10 pmz10 cdz10 ctz10 ocz11 kVz11 dcz11 pmz11 cdz11 ctz11 ocz12 kVz12 dcz12 pmz12 cdz12 ctz12 ocz13 kVz13 dcz13 pmz13 cdz13 ctz13 ocz14 kVz14 dcz14 pmz14 cdz14 ctz14 ocz15 kVz15 dcz15 pmz15 cdz15 ctz15 ocz16 kVz16 dcz16 pmz16 cdz16 ctz16 ocz17 kVz17 dcz17 pmz17 cdz17 ctz17 ocz18 kVz18 dcz18 pmz18 cdz18 ctz18 ocz19 kVz19 dcz19 pmz19 cdz19 ctz19 ocz20 kVz20 dcz20 pmz20 cdz20 ctz20 ocz21 kVz21 dcz21 pmz21 cdz21 ctz21 ocz22 kVz22 dcz22 pmz22 cdz22 ctz22 ocz23 kVz23 dcz23 pmz23 cdz23 ctz23 ocz24 kVz24 dcz24 pmz24 cdz24 ctz24 ocz25 kVz25 dcz25 pmz25 cdz25 ctz25 ocz26 kVz26 dcz26 pmz26 cdz26 ctz26 ocz27 kVz27 dcz27 pmz27 cdz27 ctz27 ocz28 kVz28 dcz28 pmz28 cdz28 ctz28 ocz29 kVz29 dcz29 pmz29 cdz29 ctz29 ocz30 kVz30 dcz30 pmz30 cdz30 ctz30 ocz31 kVz31 dcz31 pmz31 cdz31 ctz31 ocz32 kVz32 dcz32 pmz32 cdz32 ctz32:Value}
  (az0:PySem.W.nsIn K mainGlobals "telling" = some (some (.ref fz0))) (lz0:K.lookup fz0 = some ⟨ocz0,odz0,.func (PySem.W.fnOf "telling" "telling" (defArgs s_telling) (defBody s_telling) (defScope s_telling) .none kVz0 dcz0 pmz0 anz0 cdz0 ctz0),slz0⟩) (cz0:PySem.W.codeIn K cdz0 "telling" = true) (kz0:PySem.W.keepIn K (.ref fz0) = true)
  (az1:PySem.W.nsIn K mainGlobals "taken" = some (some (.ref fz1))) (lz1:K.lookup fz1 = some ⟨ocz1,odz1,.func (PySem.W.fnOf "taken" "taken" (defArgs s_taken) (defBody s_taken) (defScope s_taken) .none kVz1 dcz1 pmz1 anz1 cdz1 ctz1),slz1⟩) (cz1:PySem.W.codeIn K cdz1 "taken" = true) (kz1:PySem.W.keepIn K (.ref fz1) = true)
  (az2:PySem.W.nsIn K mainGlobals "word_told" = some (some (.ref fz2))) (lz2:K.lookup fz2 = some ⟨ocz2,odz2,.func (PySem.W.fnOf "word_told" "word_told" (defArgs s_word_told) (defBody s_word_told) (defScope s_word_told) .none kVz2 dcz2 pmz2 anz2 cdz2 ctz2),slz2⟩) (cz2:PySem.W.codeIn K cdz2 "word_told" = true) (kz2:PySem.W.keepIn K (.ref fz2) = true)
  (az3:PySem.W.nsIn K mainGlobals "put_together" = some (some (.ref fz3))) (lz3:K.lookup fz3 = some ⟨ocz3,odz3,.func (PySem.W.fnOf "put_together" "put_together" (defArgs s_put_together) (defBody s_put_together) (defScope s_put_together) .none kVz3 dcz3 pmz3 anz3 cdz3 ctz3),slz3⟩) (cz3:PySem.W.codeIn K cdz3 "put_together" = true) (kz3:PySem.W.keepIn K (.ref fz3) = true)
  (az4:PySem.W.nsIn K mainGlobals "is_open" = some (some (.ref fz4))) (lz4:K.lookup fz4 = some ⟨ocz4,odz4,.func (PySem.W.fnOf "is_open" "is_open" (defArgs s_is_open) (defBody s_is_open) (defScope s_is_open) .none kVz4 dcz4 pmz4 anz4 cdz4 ctz4),slz4⟩) (cz4:PySem.W.codeIn K cdz4 "is_open" = true) (kz4:PySem.W.keepIn K (.ref fz4) = true)
  (az5:PySem.W.nsIn K mainGlobals "answer" = some (some (.ref fz5))) (lz5:K.lookup fz5 = some ⟨ocz5,odz5,.func (PySem.W.fnOf "answer" "answer" (defArgs s_answer) (defBody s_answer) (defScope s_answer) .none kVz5 dcz5 pmz5 anz5 cdz5 ctz5),slz5⟩) (cz5:PySem.W.codeIn K cdz5 "answer" = true) (kz5:PySem.W.keepIn K (.ref fz5) = true)
  (az6:PySem.W.nsIn K mainGlobals "one_then_other" = some (some (.ref fz6))) (lz6:K.lookup fz6 = some ⟨ocz6,odz6,.func (PySem.W.fnOf "one_then_other" "one_then_other" (defArgs s_one_then_other) (defBody s_one_then_other) (defScope s_one_then_other) .none kVz6 dcz6 pmz6 anz6 cdz6 ctz6),slz6⟩) (cz6:PySem.W.codeIn K cdz6 "one_then_other" = true) (kz6:PySem.W.keepIn K (.ref fz6) = true)
  (az7:PySem.W.nsIn K mainGlobals "turned_about" = some (some (.ref fz7))) (lz7:K.lookup fz7 = some ⟨ocz7,odz7,.func (PySem.W.fnOf "turned_about" "turned_about" (defArgs s_turned_about) (defBody s_turned_about) (defScope s_turned_about) .none kVz7 dcz7 pmz7 anz7 cdz7 ctz7),slz7⟩) (cz7:PySem.W.codeIn K cdz7 "turned_about" = true) (kz7:PySem.W.keepIn K (.ref fz7) = true)
  (az8:PySem.W.nsIn K mainGlobals "picked" = some (some (.ref fz8))) (lz8:K.lookup fz8 = some ⟨ocz8,odz8,.func (PySem.W.fnOf "picked" "picked" (defArgs s_picked) (defBody s_picked) (defScope s_picked) .none kVz8 dcz8 pmz8 anz8 cdz8 ctz8),slz8⟩) (cz8:PySem.W.codeIn K cdz8 "picked" = true) (kz8:PySem.W.keepIn K (.ref fz8) = true)
  (az9:PySem.W.nsIn K mainGlobals "settled_by" = some (some (.ref fz9))) (lz9:K.lookup fz9 = some ⟨ocz9,odz9,.func (PySem.W.fnOf "settled_by" "settled_by" (defArgs s_settled_by) (defBody s_settled_by) (defScope s_settled_by) .none kVz9 dcz9 pmz9 anz9 cdz9 ctz9),slz9⟩) (cz9:PySem.W.codeIn K cdz9 "settled_by" = true) (kz9:PySem.W.keepIn K (.ref fz9) = true)
  (az10:PySem.W.nsIn K mainGlobals "compared" = some (some (.ref fz10))) (lz10:K.lookup fz10 = some ⟨ocz10,odz10,.func (PySem.W.fnOf "compared" "compared" (defArgs s_compared) (defBody s_compared) (defScope s_compared) .none kVz10 dcz10 pmz10 anz10 cdz10 ctz10),slz10⟩) (cz10:PySem.W.codeIn K cdz10 "compared" = true) (kz10:PySem.W.keepIn K (.ref fz10) = true)
  (az11:PySem.W.nsIn K mainGlobals "how_stands" = some (some (.ref fz11))) (lz11:K.lookup fz11 = some ⟨ocz11,odz11,.func (PySem.W.fnOf "how_stands" "how_stands" (defArgs s_how_stands) (defBody s_how_stands) (defScope s_how_stands) .none kVz11 dcz11 pmz11 anz11 cdz11 ctz11),slz11⟩) (cz11:PySem.W.codeIn K cdz11 "how_stands" = true) (kz11:PySem.W.keepIn K (.ref fz11) = true)
  (az12:PySem.W.nsIn K mainGlobals "looked" = some (some (.ref fz12))) (lz12:K.lookup fz12 = some ⟨ocz12,odz12,.func (PySem.W.fnOf "looked" "looked" (defArgs s_looked) (defBody s_looked) (defScope s_looked) .none kVz12 dcz12 pmz12 anz12 cdz12 ctz12),slz12⟩) (cz12:PySem.W.codeIn K cdz12 "looked" = true) (kz12:PySem.W.keepIn K (.ref fz12) = true)
  (az13:PySem.W.nsIn K mainGlobals "each_once" = some (some (.ref fz13))) (lz13:K.lookup fz13 = some ⟨ocz13,odz13,.func (PySem.W.fnOf "each_once" "each_once" (defArgs s_each_once) (defBody s_each_once) (defScope s_each_once) .none kVz13 dcz13 pmz13 anz13 cdz13 ctz13),slz13⟩) (cz13:PySem.W.codeIn K cdz13 "each_once" = true) (kz13:PySem.W.keepIn K (.ref fz13) = true)
  (az14:PySem.W.nsIn K mainGlobals "table_of" = some (some (.ref fz14))) (lz14:K.lookup fz14 = some ⟨ocz14,odz14,.func (PySem.W.fnOf "table_of" "table_of" (defArgs s_table_of) (defBody s_table_of) (defScope s_table_of) .none kVz14 dcz14 pmz14 anz14 cdz14 ctz14),slz14⟩) (cz14:PySem.W.codeIn K cdz14 "table_of" = true) (kz14:PySem.W.keepIn K (.ref fz14) = true)
  (az15:PySem.W.nsIn K mainGlobals "looks_of" = some (some (.ref fz15))) (lz15:K.lookup fz15 = some ⟨ocz15,odz15,.func (PySem.W.fnOf "looks_of" "looks_of" (defArgs s_looks_of) (defBody s_looks_of) (defScope s_looks_of) .none kVz15 dcz15 pmz15 anz15 cdz15 ctz15),slz15⟩) (cz15:PySem.W.codeIn K cdz15 "looks_of" = true) (kz15:PySem.W.keepIn K (.ref fz15) = true)
  (az16:PySem.W.nsIn K mainGlobals "looks_agree" = some (some (.ref fz16))) (lz16:K.lookup fz16 = some ⟨ocz16,odz16,.func (PySem.W.fnOf "looks_agree" "looks_agree" (defArgs s_looks_agree) (defBody s_looks_agree) (defScope s_looks_agree) .none kVz16 dcz16 pmz16 anz16 cdz16 ctz16),slz16⟩) (cz16:PySem.W.codeIn K cdz16 "looks_agree" = true) (kz16:PySem.W.keepIn K (.ref fz16) = true)
  (az17:PySem.W.nsIn K mainGlobals "against_ranks" = some (some (.ref fz17))) (lz17:K.lookup fz17 = some ⟨ocz17,odz17,.func (PySem.W.fnOf "against_ranks" "against_ranks" (defArgs s_against_ranks) (defBody s_against_ranks) (defScope s_against_ranks) .none kVz17 dcz17 pmz17 anz17 cdz17 ctz17),slz17⟩) (cz17:PySem.W.codeIn K cdz17 "against_ranks" = true) (kz17:PySem.W.keepIn K (.ref fz17) = true)
  (az18:PySem.W.nsIn K mainGlobals "three_against" = some (some (.ref fz18))) (lz18:K.lookup fz18 = some ⟨ocz18,odz18,.func (PySem.W.fnOf "three_against" "three_against" (defArgs s_three_against) (defBody s_three_against) (defScope s_three_against) .none kVz18 dcz18 pmz18 anz18 cdz18 ctz18),slz18⟩) (cz18:PySem.W.codeIn K cdz18 "three_against" = true) (kz18:PySem.W.keepIn K (.ref fz18) = true)
  (az19:PySem.W.nsIn K mainGlobals "picked_out" = some (some (.ref fz19))) (lz19:K.lookup fz19 = some ⟨ocz19,odz19,.func (PySem.W.fnOf "picked_out" "picked_out" (defArgs s_picked_out) (defBody s_picked_out) (defScope s_picked_out) .none kVz19 dcz19 pmz19 anz19 cdz19 ctz19),slz19⟩) (cz19:PySem.W.codeIn K cdz19 "picked_out" = true) (kz19:PySem.W.keepIn K (.ref fz19) = true)
  (az20:PySem.W.nsIn K mainGlobals "ranks_in" = some (some (.ref fz20))) (lz20:K.lookup fz20 = some ⟨ocz20,odz20,.func (PySem.W.fnOf "ranks_in" "ranks_in" (defArgs s_ranks_in) (defBody s_ranks_in) (defScope s_ranks_in) .none kVz20 dcz20 pmz20 anz20 cdz20 ctz20),slz20⟩) (cz20:PySem.W.codeIn K cdz20 "ranks_in" = true) (kz20:PySem.W.keepIn K (.ref fz20) = true)
  (az21:PySem.W.nsIn K mainGlobals "by_size" = some (some (.ref fz21))) (lz21:K.lookup fz21 = some ⟨ocz21,odz21,.func (PySem.W.fnOf "by_size" "by_size" (defArgs s_by_size) (defBody s_by_size) (defScope s_by_size) .none kVz21 dcz21 pmz21 anz21 cdz21 ctz21),slz21⟩) (cz21:PySem.W.codeIn K cdz21 "by_size" = true) (kz21:PySem.W.keepIn K (.ref fz21) = true)
  (az22:PySem.W.nsIn K mainGlobals "turning" = some (some (.ref fz22))) (lz22:K.lookup fz22 = some ⟨ocz22,odz22,.func (PySem.W.fnOf "turning" "turning" (defArgs s_turning) (defBody s_turning) (defScope s_turning) .none kVz22 dcz22 pmz22 anz22 cdz22 ctz22),slz22⟩) (cz22:PySem.W.codeIn K cdz22 "turning" = true) (kz22:PySem.W.keepIn K (.ref fz22) = true)
  (az23:PySem.W.nsIn K mainGlobals "ranks_of" = some (some (.ref fz23))) (lz23:K.lookup fz23 = some ⟨ocz23,odz23,.func (PySem.W.fnOf "ranks_of" "ranks_of" (defArgs s_ranks_of) (defBody s_ranks_of) (defScope s_ranks_of) .none kVz23 dcz23 pmz23 anz23 cdz23 ctz23),slz23⟩) (cz23:PySem.W.codeIn K cdz23 "ranks_of" = true) (kz23:PySem.W.keepIn K (.ref fz23) = true)
  (az24:PySem.W.nsIn K mainGlobals "_law_next" = some (some (.ref fz24))) (lz24:K.lookup fz24 = some ⟨ocz24,odz24,.func (PySem.W.fnOf "_law_next" "_law_next" (defArgs s__law_next) (defBody s__law_next) (defScope s__law_next) .none kVz24 dcz24 pmz24 anz24 cdz24 ctz24),slz24⟩) (cz24:PySem.W.codeIn K cdz24 "_law_next" = true) (kz24:PySem.W.keepIn K (.ref fz24) = true)
  (az25:PySem.W.nsIn K mainGlobals "_law_fraction" = some (some (.ref fz25))) (lz25:K.lookup fz25 = some ⟨ocz25,odz25,.func (PySem.W.fnOf "_law_fraction" "_law_fraction" (defArgs s__law_fraction) (defBody s__law_fraction) (defScope s__law_fraction) .none kVz25 dcz25 pmz25 anz25 cdz25 ctz25),slz25⟩) (cz25:PySem.W.codeIn K cdz25 "_law_fraction" = true) (kz25:PySem.W.keepIn K (.ref fz25) = true)
  (az26:PySem.W.nsIn K mainGlobals "_law_book" = some (some (.ref fz26))) (lz26:K.lookup fz26 = some ⟨ocz26,odz26,.func (PySem.W.fnOf "_law_book" "_law_book" (defArgs s__law_book) (defBody s__law_book) (defScope s__law_book) .none kVz26 dcz26 pmz26 anz26 cdz26 ctz26),slz26⟩) (cz26:PySem.W.codeIn K cdz26 "_law_book" = true) (kz26:PySem.W.keepIn K (.ref fz26) = true)
  (az27:PySem.W.nsIn K mainGlobals "_law_pool" = some (some (.ref fz27))) (lz27:K.lookup fz27 = some ⟨ocz27,odz27,.func (PySem.W.fnOf "_law_pool" "_law_pool" (defArgs s__law_pool) (defBody s__law_pool) (defScope s__law_pool) .none kVz27 dcz27 pmz27 anz27 cdz27 ctz27),slz27⟩) (cz27:PySem.W.codeIn K cdz27 "_law_pool" = true) (kz27:PySem.W.keepIn K (.ref fz27) = true)
  (az28:PySem.W.nsIn K mainGlobals "_law_row" = some (some (.ref fz28))) (lz28:K.lookup fz28 = some ⟨ocz28,odz28,.func (PySem.W.fnOf "_law_row" "_law_row" (defArgs s__law_row) (defBody s__law_row) (defScope s__law_row) .none kVz28 dcz28 pmz28 anz28 cdz28 ctz28),slz28⟩) (cz28:PySem.W.codeIn K cdz28 "_law_row" = true) (kz28:PySem.W.keepIn K (.ref fz28) = true)
  (az29:PySem.W.nsIn K mainGlobals "_law_case" = some (some (.ref fz29))) (lz29:K.lookup fz29 = some ⟨ocz29,odz29,.func (PySem.W.fnOf "_law_case" "_law_case" (defArgs s__law_case) (defBody s__law_case) (defScope s__law_case) .none kVz29 dcz29 pmz29 anz29 cdz29 ctz29),slz29⟩) (cz29:PySem.W.codeIn K cdz29 "_law_case" = true) (kz29:PySem.W.keepIn K (.ref fz29) = true)
  (az30:PySem.W.nsIn K mainGlobals "_law_order" = some (some (.ref fz30))) (lz30:K.lookup fz30 = some ⟨ocz30,odz30,.func (PySem.W.fnOf "_law_order" "_law_order" (defArgs s__law_order) (defBody s__law_order) (defScope s__law_order) .none kVz30 dcz30 pmz30 anz30 cdz30 ctz30),slz30⟩) (cz30:PySem.W.codeIn K cdz30 "_law_order" = true) (kz30:PySem.W.keepIn K (.ref fz30) = true)
  (az31:PySem.W.nsIn K mainGlobals "_law_due" = some (some (.ref fz31))) (lz31:K.lookup fz31 = some ⟨ocz31,odz31,.func (PySem.W.fnOf "_law_due" "_law_due" (defArgs s__law_due) (defBody s__law_due) (defScope s__law_due) .none kVz31 dcz31 pmz31 anz31 cdz31 ctz31),slz31⟩) (cz31:PySem.W.codeIn K cdz31 "_law_due" = true) (kz31:PySem.W.keepIn K (.ref fz31) = true)
  (az32:PySem.W.nsIn K mainGlobals "law" = some (some (.ref fz32))) (lz32:K.lookup fz32 = some ⟨ocz32,odz32,.func (PySem.W.fnOf "law" "law" (defArgs s_law) (defBody s_law) (defScope s_law) .none kVz32 dcz32 pmz32 anz32 cdz32 ctz32),slz32⟩) (cz32:PySem.W.codeIn K cdz32 "law" = true) (kz32:PySem.W.keepIn K (.ref fz32) = true)
  (qz12:cdz12 = .ref 165) (hz12:PySem.W.codeHdIn K 165 161 = true) (nz12:K.lookup 161 = none)
  (qz22:cdz22 = .ref 225) (hz22:PySem.W.codeHdIn K 225 221 = true) (nz22:K.lookup 221 = none)
  (z_len:PySem.W.nsIn K mainGlobals "len" = some none)
  (z_range:PySem.W.nsIn K mainGlobals "range" = some none)
  (z_tuple:PySem.W.nsIn K mainGlobals "tuple" = some none)
  (z_isinstance:PySem.W.nsIn K mainGlobals "isinstance" = some none)
  (z_list:PySem.W.nsIn K mainGlobals "list" = some none)
  (z_reversed:PySem.W.nsIn K mainGlobals "reversed" = some none)
  (z_enumerate:PySem.W.nsIn K mainGlobals "enumerate" = some none)
  (z_zip:PySem.W.nsIn K mainGlobals "zip" = some none)
  (z_sorted:PySem.W.nsIn K mainGlobals "sorted" = some none)
  (z_int:PySem.W.nsIn K mainGlobals "int" = some none)
  (z_bool:PySem.W.nsIn K mainGlobals "bool" = some none)
  {aW:Addr}{esW:Array DictEntry}{nW:Nat}
  (aWo:PySem.W.nsIn K mainGlobals "WORDS" = some (some (.ref aW))) (lWo:K.lookup aW = some ⟨.type "dict",none,.dict esW nW,#[]⟩) (kWo:PySem.W.KeysLit w.params esW.toList) (oWo:(aW == sysModules) = false) (vWo:wdsOk K esW.toList Ord.wordsT = true)
  {aA:Addr}{esA:Array DictEntry}{nA:Nat}
  (aAo:PySem.W.nsIn K mainGlobals "AHEAD" = some (some (.ref aA))) (lAo:K.lookup aA = some ⟨.type "dict",none,.dict esA nA,#[]⟩) (kAo:PySem.W.KeysLit w.params esA.toList) (oAo:(aA == sysModules) = false) (vAo:tdsOk esA.toList aheadT = true)
  {aO:Addr}{esO:Array DictEntry}{nO:Nat}
  (aOo:PySem.W.nsIn K mainGlobals "OTHER_WAY" = some (some (.ref aO))) (lOo:K.lookup aO = some ⟨.type "dict",none,.dict esO nO,#[]⟩) (kOo:PySem.W.KeysLit w.params esO.toList) (oOo:(aO == sysModules) = false) (vOo:tdsOk esO.toList otherT = true)
  (tt:PySem.W.kitOne K (.type "tuple") (.type "tuple") = some true)
  (st:PySem.W.kitOne K (.type "str") (.type "tuple") = some false)
  (bt:PySem.W.kitOne K (.type "bool") (.type "tuple") = some false)
  (ib:PySem.W.kitOne K (.type "int") (.type "bool") = some false):
  ∃ fd:FuncData,(∀ (s:Shared) (v:Value),BindsTo s fd ⟨[v],[]⟩ [("script",v)])∧((∀ p∈tabs,K.lookup p.1 = none)∧(∀ p∈tabs,isCodeTable h p.1)∧(tabs.map (·.1)).Nodup)∧∀ base:Heap,K.In base→base.Ns mainGlobals mg→Bs K mg base→FnOk l.prog w K mg base CX0 11 fa fd ["script"] (spLawT K tabs):=by
 have e:=hfa.symm.trans (PySem.W.mg_of X G az32)
 cases e
 obtain ⟨W⟩:=Ord.wds_of (P:=w.params) (PySem.W.mg_of X G aWo) lWo kWo oWo vWo
 obtain ⟨W1⟩:=txs_of (P:=w.params) (PySem.W.mg_of X G aAo) lAo kAo oAo vAo
 obtain ⟨W2⟩:=txs_of (P:=w.params) (PySem.W.mg_of X G aOo) lOo kOo oOo vOo
 exact ⟨PySem.W.fnOf "law" "law" (defArgs s_law) (defBody s_law) (defScope s_law) .none kVz32 dcz32 pmz32 anz32 cdz32 ctz32,fun s v=>.of_eq rfl,⟨(List.forall_mem_cons.mpr ⟨nz12,(List.forall_mem_cons.mpr ⟨nz22,(fun _ h=>nomatch h)⟩)⟩),(List.forall_mem_cons.mpr ⟨isTab_of X hz12,(List.forall_mem_cons.mpr ⟨isTab_of X hz22,(fun _ h=>nomatch h)⟩)⟩),by decide⟩,fun base _ _ M=>ok_law (fun_mk (st:=s_law) lz32 cz32 kz32)
  ⟨fz0,_,(fun_mk (st:=s_telling) lz0 cz0 kz0),(fun_mk (st:=s_telling) lz0 cz0 kz0).binds (ps:=["order", "by_field", "by_mark"]) fun _ _ _ _ _ _ us hl=>match us,hl with | [_,_,_],_=>rfl,PySem.W.mg_of X G az0,
   fz1,_,(fun_mk (st:=s_taken) lz1 cz1 kz1),(fun_mk (st:=s_taken) lz1 cz1 kz1).binds (ps:=["told", "many"]) fun _ _ _ _ _ _ us hl=>match us,hl with | [_,_],_=>rfl,PySem.W.mg_of X G az1,
   fz2,_,(fun_mk (st:=s_word_told) lz2 cz2 kz2),(fun_mk (st:=s_word_told) lz2 cz2 kz2).binds (ps:=["word", "parts", "by_field", "by_mark"]) fun _ _ _ _ _ _ us hl=>match us,hl with | [_,_,_,_],_=>rfl,PySem.W.mg_of X G az2,
   fz3,_,(fun_mk (st:=s_put_together) lz3 cz3 kz3),(fun_mk (st:=s_put_together) lz3 cz3 kz3).binds (ps:=["word", "parts"]) fun _ _ _ _ _ _ us hl=>match us,hl with | [_,_],_=>rfl,PySem.W.mg_of X G az3,
   fz4,_,(fun_mk (st:=s_is_open) lz4 cz4 kz4),(fun_mk (st:=s_is_open) lz4 cz4 kz4).binds (ps:=["part"]) fun _ _ _ _ _ _ us hl=>match us,hl with | [_],_=>rfl,PySem.W.mg_of X G az4,
   fz5,_,(fun_mk (st:=s_answer) lz5 cz5 kz5),(fun_mk (st:=s_answer) lz5 cz5 kz5).binds (ps:=["word", "how"]) fun _ _ _ _ _ _ us hl=>match us,hl with | [_,_],_=>rfl,PySem.W.mg_of X G az5,
   fz6,_,(fun_mk (st:=s_one_then_other) lz6 cz6 kz6),(fun_mk (st:=s_one_then_other) lz6 cz6 kz6).binds (ps:=["one", "other"]) fun _ _ _ _ _ _ us hl=>match us,hl with | [_,_],_=>rfl,PySem.W.mg_of X G az6,
   fz7,_,(fun_mk (st:=s_turned_about) lz7 cz7 kz7),(fun_mk (st:=s_turned_about) lz7 cz7 kz7).binds (ps:=["part"]) fun _ _ _ _ _ _ us hl=>match us,hl with | [_],_=>rfl,PySem.W.mg_of X G az7,
   fz8,_,(fun_mk (st:=s_picked) lz8 cz8 kz8),(fun_mk (st:=s_picked) lz8 cz8 kz8).binds (ps:=["case", "one", "other"]) fun _ _ _ _ _ _ us hl=>match us,hl with | [_,_,_],_=>rfl,PySem.W.mg_of X G az8,
   fz9,_,(fun_mk (st:=s_settled_by) lz9 cz9 kz9),(fun_mk (st:=s_settled_by) lz9 cz9 kz9).binds (ps:=["truth", "word", "parts"]) fun _ _ _ _ _ _ us hl=>match us,hl with | [_,_,_],_=>rfl,PySem.W.mg_of X G az9,
   fz10,_,(fun_mk (st:=s_compared) lz10 cz10 kz10),(fun_mk (st:=s_compared) lz10 cz10 kz10).binds (ps:=["one", "other"]) fun _ _ _ _ _ _ us hl=>match us,hl with | [_,_],_=>rfl,PySem.W.mg_of X G az10,
   fz11,_,(fun_mk (st:=s_how_stands) lz11 cz11 kz11),(fun_mk (st:=s_how_stands) lz11 cz11 kz11).binds (ps:=["one", "other"]) fun _ _ _ _ _ _ us hl=>match us,hl with | [_,_],_=>rfl,PySem.W.mg_of X G az11,
   fz12,_,(fun_mk (st:=s_looked) lz12 cz12 kz12),(fun_mk (st:=s_looked) lz12 cz12 kz12).binds (ps:=["order", "book", "first", "second"]) fun _ _ _ _ _ _ us hl=>match us,hl with | [_,_,_,_],_=>rfl,PySem.W.mg_of X G az12,
   fz13,_,(fun_mk (st:=s_each_once) lz13 cz13 kz13),(fun_mk (st:=s_each_once) lz13 cz13 kz13).binds (ps:=["things"]) fun _ _ _ _ _ _ us hl=>match us,hl with | [_],_=>rfl,PySem.W.mg_of X G az13,
   fz14,_,(fun_mk (st:=s_table_of) lz14 cz14 kz14),(fun_mk (st:=s_table_of) lz14 cz14 kz14).binds (ps:=["order", "book", "things"]) fun _ _ _ _ _ _ us hl=>match us,hl with | [_,_,_],_=>rfl,PySem.W.mg_of X G az14,
   fz15,_,(fun_mk (st:=s_looks_of) lz15 cz15 kz15),(fun_mk (st:=s_looks_of) lz15 cz15 kz15).binds (ps:=["order", "book", "one", "things"]) fun _ _ _ _ _ _ us hl=>match us,hl with | [_,_,_,_],_=>rfl,PySem.W.mg_of X G az15,
   fz16,_,(fun_mk (st:=s_looks_agree) lz16 cz16 kz16),(fun_mk (st:=s_looks_agree) lz16 cz16 kz16).binds (ps:=["table"]) fun _ _ _ _ _ _ us hl=>match us,hl with | [_],_=>rfl,PySem.W.mg_of X G az16,
   fz17,_,(fun_mk (st:=s_against_ranks) lz17 cz17 kz17),(fun_mk (st:=s_against_ranks) lz17 cz17 kz17).binds (ps:=["table"]) fun _ _ _ _ _ _ us hl=>match us,hl with | [_],_=>rfl,PySem.W.mg_of X G az17,
   fz18,_,(fun_mk (st:=s_three_against) lz18 cz18 kz18),(fun_mk (st:=s_three_against) lz18 cz18 kz18).binds (ps:=["table"]) fun _ _ _ _ _ _ us hl=>match us,hl with | [_],_=>rfl,PySem.W.mg_of X G az18,
   fz19,_,(fun_mk (st:=s_picked_out) lz19 cz19 kz19),(fun_mk (st:=s_picked_out) lz19 cz19 kz19).binds (ps:=["row", "places"]) fun _ _ _ _ _ _ us hl=>match us,hl with | [_,_],_=>rfl,PySem.W.mg_of X G az19,
   fz20,_,(fun_mk (st:=s_ranks_in) lz20 cz20 kz20),(fun_mk (st:=s_ranks_in) lz20 cz20 kz20).binds (ps:=["table"]) fun _ _ _ _ _ _ us hl=>match us,hl with | [_],_=>rfl,PySem.W.mg_of X G az20,
   fz21,_,(fun_mk (st:=s_by_size) lz21 cz21 kz21),(fun_mk (st:=s_by_size) lz21 cz21 kz21).binds (ps:=["one", "other"]) fun _ _ _ _ _ _ us hl=>match us,hl with | [_,_],_=>rfl,PySem.W.mg_of X G az21,
   fz22,_,(fun_mk (st:=s_turning) lz22 cz22 kz22),(fun_mk (st:=s_turning) lz22 cz22 kz22).binds (ps:=["order", "book", "row"]) fun _ _ _ _ _ _ us hl=>match us,hl with | [_,_,_],_=>rfl,PySem.W.mg_of X G az22,
   fz23,_,(fun_mk (st:=s_ranks_of) lz23 cz23 kz23),(fun_mk (st:=s_ranks_of) lz23 cz23 kz23).binds (ps:=["order", "book", "row"]) fun _ _ _ _ _ _ us hl=>match us,hl with | [_,_,_],_=>rfl,PySem.W.mg_of X G az23,
   fz24,_,(fun_mk (st:=s__law_next) lz24 cz24 kz24),(fun_mk (st:=s__law_next) lz24 cz24 kz24).binds (ps:=["deck"]) fun _ _ _ _ _ _ us hl=>match us,hl with | [_],_=>rfl,PySem.W.mg_of X G az24,
   fz25,_,(fun_mk (st:=s__law_fraction) lz25 cz25 kz25),(fun_mk (st:=s__law_fraction) lz25 cz25 kz25).binds (ps:=["deck"]) fun _ _ _ _ _ _ us hl=>match us,hl with | [_],_=>rfl,PySem.W.mg_of X G az25,
   fz26,_,(fun_mk (st:=s__law_book) lz26 cz26 kz26),(fun_mk (st:=s__law_book) lz26 cz26 kz26).binds (ps:=["deck"]) fun _ _ _ _ _ _ us hl=>match us,hl with | [_],_=>rfl,PySem.W.mg_of X G az26,
   fz27,_,(fun_mk (st:=s__law_pool) lz27 cz27 kz27),(fun_mk (st:=s__law_pool) lz27 cz27 kz27).binds (ps:=["deck"]) fun _ _ _ _ _ _ us hl=>match us,hl with | [_],_=>rfl,PySem.W.mg_of X G az27,
   fz28,_,(fun_mk (st:=s__law_row) lz28 cz28 kz28),(fun_mk (st:=s__law_row) lz28 cz28 kz28).binds (ps:=["deck", "book", "pool", "most"]) fun _ _ _ _ _ _ us hl=>match us,hl with | [_,_,_,_],_=>rfl,PySem.W.mg_of X G az28,
   fz29,_,(fun_mk (st:=s__law_case) lz29 cz29 kz29),(fun_mk (st:=s__law_case) lz29 cz29 kz29).binds (ps:=["deck", "field", "pool"]) fun _ _ _ _ _ _ us hl=>match us,hl with | [_,_,_],_=>rfl,PySem.W.mg_of X G az29,
   fz30,_,(fun_mk (st:=s__law_order) lz30 cz30 kz30),(fun_mk (st:=s__law_order) lz30 cz30 kz30).binds (ps:=["deck", "book", "pool", "deep"]) fun _ _ _ _ _ _ us hl=>match us,hl with | [_,_,_,_],_=>rfl,PySem.W.mg_of X G az30,
   fz31,_,(fun_mk (st:=s__law_due) lz31 cz31 kz31),(fun_mk (st:=s__law_due) lz31 cz31 kz31).binds (ps:=["order", "book", "row"]) fun _ _ _ _ _ _ us hl=>match us,hl with | [_,_,_],_=>rfl,PySem.W.mg_of X G az31,
   165,161,qz12,hz12,
   225,221,qz22,hz22,
   PySem.W.mg_none_of X G z_len,
   PySem.W.mg_none_of X G z_range,
   PySem.W.mg_none_of X G z_tuple,
   PySem.W.mg_none_of X G z_isinstance,
   PySem.W.mg_none_of X G z_list,
   PySem.W.mg_none_of X G z_reversed,
   PySem.W.mg_none_of X G z_enumerate,
   PySem.W.mg_none_of X G z_zip,
   PySem.W.mg_none_of X G z_sorted,
   PySem.W.mg_none_of X G z_int,
   PySem.W.mg_none_of X G z_bool,
   tt,
   st,
   bt,
   ib⟩ W W1 W2 M⟩
theorem walk {l:PySem.W.OpenLaw}{q:Program}{loose:List Str}{XP:(Str→Option Value)→Heap→Prop}{YP:World→Heap→Prop}{d:DefRec}{K:Params→PySem.W.Frag}(hn:l.most = some 63) (hdf:d.params.defaults = [])
  (hY:∀ (w:World) (h:Heap),YP w h→(K w.params).In h∧∀ p∈tabs,h.get? p.1 = some { cls:=.none,data:=.fields #[] })
  (F:∀ (w:World) (mg:Str→Option Value) (fa:Addr) (h:Heap),(K w.params).In h→h.Ns mainGlobals mg→mg d.name = some (.ref fa)→
   ∃ fd:FuncData,(∀ (s:Shared) (u:Value),BindsTo s fd ⟨[u],[]⟩ [("script",u)])∧((∀ p∈tabs,(K w.params).lookup p.1 = none)∧(∀ p∈tabs,isCodeTable h p.1)∧(tabs.map (·.1)).Nodup)∧∀ base:Heap,(K w.params).In base→base.Ns mainGlobals mg→Bs (K w.params) mg base→FnOk l.prog w (K w.params) mg base CX0 11 fa fd ["script"] (spLawT (K w.params) tabs)):
  PySem.W.WalkO q loose XP YP l.row.toRowW d [] (fun f vs=>PySem.call f vs):=
 L2.walk_ofT (n:=63) (k:=11) (x:= "script") (sp:=fun w=>spLawT (K w.params) tabs) (fun _=>tabs) hn (by decide) hdf ⟨rfl,by decide,by decide⟩ hY F (fun _ _ a ns hl hT hS=>⟨a,ns,rfl,hS,hl,hT,fun _=>rfl⟩)
end K28
def PySem.W.Fast.tw16100262591517842531:Nat:=0
def PySem.W.Fast.tw128624953635880424:Nat:=0
def PySem.W.Fast.tw3500523811809849747:Nat:=0
def PySem.W.Fast.tw3158836691541880276:Nat:=0
def PySem.W.Fast.tw16695067557141247607:Nat:=0
def PySem.W.Fast.tw11545151758245756702:Nat:=0
open PySem PySem.W PyProof.Rows
set_option maxRecDepth 100000 in
set_option maxHeartbeats 0 in
theorem PySem.Challenge.cw_ordertext_k28_turning_holds : PySem.Challenge.rw_ordertext_k28_turning.Holds := by
 w_on;o_law;k_head;(case hw=>w_witness2)
 k_fill
 refine K28.walk (l:=PySem.Challenge.rw_ordertext_k28_turning) rfl rfl (fun w h Y=>⟨PySem.W.km_in_of Y,(List.forall_mem_cons.mpr ⟨PySem.W.km_tabs_of Y _ (by first | k_mem | simp),(List.forall_mem_cons.mpr ⟨PySem.W.km_tabs_of Y _ (by first | k_mem | simp),(fun _ h=>nomatch h)⟩)⟩)⟩) ?F
 case F=>
  intro w mg fa h KX G hmg
  refine' K28.all_mk KX G hmg ?az0 ?lz0 ?cz0 ?kz0 ?az1 ?lz1 ?cz1 ?kz1 ?az2 ?lz2 ?cz2 ?kz2 ?az3 ?lz3 ?cz3 ?kz3 ?az4 ?lz4 ?cz4 ?kz4 ?az5 ?lz5 ?cz5 ?kz5 ?az6 ?lz6 ?cz6 ?kz6 ?az7 ?lz7 ?cz7 ?kz7 ?az8 ?lz8 ?cz8 ?kz8 ?az9 ?lz9 ?cz9 ?kz9 ?az10 ?lz10 ?cz10 ?kz10 ?az11 ?lz11 ?cz11 ?kz11 ?az12 ?lz12 ?cz12 ?kz12 ?az13 ?lz13 ?cz13 ?kz13 ?az14 ?lz14 ?cz14 ?kz14 ?az15 ?lz15 ?cz15 ?kz15 ?az16 ?lz16 ?cz16 ?kz16 ?az17 ?lz17 ?cz17 ?kz17 ?az18 ?lz18 ?cz18 ?kz18 ?az19 ?lz19 ?cz19 ?kz19 ?az20 ?lz20 ?cz20 ?kz20 ?az21 ?lz21 ?cz21 ?kz21 ?az22 ?lz22 ?cz22 ?kz22 ?az23 ?lz23 ?cz23 ?kz23 ?az24 ?lz24 ?cz24 ?kz24 ?az25 ?lz25 ?cz25 ?kz25 ?az26 ?lz26 ?cz26 ?kz26 ?az27 ?lz27 ?cz27 ?kz27 ?az28 ?lz28 ?cz28 ?kz28 ?az29 ?lz29 ?cz29 ?kz29 ?az30 ?lz30 ?cz30 ?kz30 ?az31 ?lz31 ?cz31 ?kz31 ?az32 ?lz32 ?cz32 ?kz32 ?qz12 ?hz12 ?nz12 ?qz22 ?hz22 ?nz22 ?z_len ?z_range ?z_tuple ?z_isinstance ?z_list ?z_reversed ?z_enumerate ?z_zip ?z_sorted ?z_int ?z_bool ?aWo ?lWo ?kWo ?oWo ?vWo ?aAo ?lAo ?kAo ?oAo ?vAo ?aOo ?lOo ?kOo ?oOo ?vOo ?tt ?st ?bt ?ib
  (case az0=>k_is)
  (case lz0=>k_is)
  (case cz0=>k_is)
  (case kz0=>k_is)
  (case az1=>k_is)
  (case lz1=>k_is)
  (case cz1=>k_is)
  (case kz1=>k_is)
  (case az2=>k_is)
  (case lz2=>k_is)
  (case cz2=>k_is)
  (case kz2=>k_is)
  (case az3=>k_is)
  (case lz3=>k_is)
  (case cz3=>k_is)
  (case kz3=>k_is)
  (case az4=>k_is)
  (case lz4=>k_is)
  (case cz4=>k_is)
  (case kz4=>k_is)
  (case az5=>k_is)
  (case lz5=>k_is)
  (case cz5=>k_is)
  (case kz5=>k_is)
  (case az6=>k_is)
  (case lz6=>k_is)
  (case cz6=>k_is)
  (case kz6=>k_is)
  (case az7=>k_is)
  (case lz7=>k_is)
  (case cz7=>k_is)
  (case kz7=>k_is)
  (case az8=>k_is)
  (case lz8=>k_is)
  (case cz8=>k_is)
  (case kz8=>k_is)
  (case az9=>k_is)
  (case lz9=>k_is)
  (case cz9=>k_is)
  (case kz9=>k_is)
  (case az10=>k_is)
  (case lz10=>k_is)
  (case cz10=>k_is)
  (case kz10=>k_is)
  (case az11=>k_is)
  (case lz11=>k_is)
  (case cz11=>k_is)
  (case kz11=>k_is)
  (case az12=>k_is)
  (case lz12=>k_is)
  (case cz12=>k_is)
  (case kz12=>k_is)
  (case az13=>k_is)
  (case lz13=>k_is)
  (case cz13=>k_is)
  (case kz13=>k_is)
  (case az14=>k_is)
  (case lz14=>k_is)
  (case cz14=>k_is)
  (case kz14=>k_is)
  (case az15=>k_is)
  (case lz15=>k_is)
  (case cz15=>k_is)
  (case kz15=>k_is)
  (case az16=>k_is)
  (case lz16=>k_is)
  (case cz16=>k_is)
  (case kz16=>k_is)
  (case az17=>k_is)
  (case lz17=>k_is)
  (case cz17=>k_is)
  (case kz17=>k_is)
  (case az18=>k_is)
  (case lz18=>k_is)
  (case cz18=>k_is)
  (case kz18=>k_is)
  (case az19=>k_is)
  (case lz19=>k_is)
  (case cz19=>k_is)
  (case kz19=>k_is)
  (case az20=>k_is)
  (case lz20=>k_is)
  (case cz20=>k_is)
  (case kz20=>k_is)
  (case az21=>k_is)
  (case lz21=>k_is)
  (case cz21=>k_is)
  (case kz21=>k_is)
  (case az22=>k_is)
  (case lz22=>k_is)
  (case cz22=>k_is)
  (case kz22=>k_is)
  (case az23=>k_is)
  (case lz23=>k_is)
  (case cz23=>k_is)
  (case kz23=>k_is)
  (case az24=>k_is)
  (case lz24=>k_is)
  (case cz24=>k_is)
  (case kz24=>k_is)
  (case az25=>k_is)
  (case lz25=>k_is)
  (case cz25=>k_is)
  (case kz25=>k_is)
  (case az26=>k_is)
  (case lz26=>k_is)
  (case cz26=>k_is)
  (case kz26=>k_is)
  (case az27=>k_is)
  (case lz27=>k_is)
  (case cz27=>k_is)
  (case kz27=>k_is)
  (case az28=>k_is)
  (case lz28=>k_is)
  (case cz28=>k_is)
  (case kz28=>k_is)
  (case az29=>k_is)
  (case lz29=>k_is)
  (case cz29=>k_is)
  (case kz29=>k_is)
  (case az30=>k_is)
  (case lz30=>k_is)
  (case cz30=>k_is)
  (case kz30=>k_is)
  (case az31=>k_is)
  (case lz31=>k_is)
  (case cz31=>k_is)
  (case kz31=>k_is)
  (case az32=>k_is)
  (case lz32=>k_is)
  (case cz32=>k_is)
  (case kz32=>k_is)
  (case qz12=>first | rfl | kernel_rfl | k_is)
  (case hz12=>first | rfl | kernel_rfl | k_is)
  (case nz12=>first | rfl | kernel_rfl | k_is)
  (case qz22=>first | rfl | kernel_rfl | k_is)
  (case hz22=>first | rfl | kernel_rfl | k_is)
  (case nz22=>first | rfl | kernel_rfl | k_is)
  (case z_len=>k_is)
  (case z_range=>k_is)
  (case z_tuple=>k_is)
  (case z_isinstance=>k_is)
  (case z_list=>k_is)
  (case z_reversed=>k_is)
  (case z_enumerate=>k_is)
  (case z_zip=>k_is)
  (case z_sorted=>k_is)
  (case z_int=>k_is)
  (case z_bool=>k_is)
  (case aWo=>k_is)
  (case lWo=>k_is)
  (case kWo=>k_keys)
  (case oWo=>decide)
  (case vWo=>kernel_rfl)
  (case aAo=>k_is)
  (case lAo=>k_is)
  (case kAo=>k_keys)
  (case oAo=>decide)
  (case vAo=>kernel_rfl)
  (case aOo=>k_is)
  (case lOo=>k_is)
  (case kOo=>k_keys)
  (case oOo=>decide)
  (case vOo=>kernel_rfl)
  (case tt=>first | kit_is | k_is | rfl)
  (case st=>first | kit_is | k_is | rfl)
  (case bt=>first | kit_is | k_is | rfl)
  (case ib=>first | kit_is | k_is | rfl)
