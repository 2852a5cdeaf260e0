import PyProof.Rows.All
import Wide.All
import OpenK.AllK
import Wide.FinOn
import Lean
import PyProof.EqAt
import PyProof.EqKinds
import PyProof.TupleCall
import PySem.Challenge.RW_ordertext_k32_whole_in_order
set_option Elab.async false
set_option linter.all false
set_option maxRecDepth 100000
namespace L2
open PySem PySem.Spec PyProof.Rows
abbrev Key:=Sum Int Str
def zfG:Key->Value->Bool
 | .inl k,v=>Value.isInt k v
 | .inr x,v=>Value.isStrOf x v
def zpg (w:World):Key->Int
 | .inl k=>hashInt k
 | .inr x=>hashStr w x
theorem YG:∀ {k:Key}{v:Value},zfG k v=true->(∃ i t,k=Sum.inl i/\v=Value.int i t)\/(∃ x t,k=Sum.inr x/\v=Value.str x t)
 | .inl i,v,h=>by
  obtain ⟨t,e⟩:=Value.isInt_shape (k:=i) (v:=v) h
  exact .inl ⟨i,t,rfl,e⟩
 | .inr x,v,h=>by
  obtain ⟨t,e⟩:=Value.isStrOf_shape (x:=x) (v:=v) h
  exact .inr ⟨x,t,rfl,e⟩
theorem zhq (i:Int)(t:Tok):zfG (.inl i) (.int i t)=true:=by simp[zfG,Value.isInt]
theorem zgs (x:Str)(t:Tok):zfG (.inr x) (.str x t)=true:=by simp[zfG,Value.isStrOf]
theorem zmP (a b:Int):decide ((Sum.inl a:Key)=Sum.inl b)=(a==b):=by
 by_cases e:a=b
 ·subst e;simp
 ·have h:¬ (Sum.inl a:Key)=Sum.inl b:=λq=>e (Sum.inl.inj q)
  rw[decide_eq_false h]
  exact (beq_eq_false_iff_ne.mpr e).symm
theorem znx (a b:Str):decide ((Sum.inr a:Key)=Sum.inr b)=decide (a=b):=by
 by_cases e:a=b
 ·subst e;simp
 ·have h:¬ (Sum.inr a:Key)=Sum.inr b:=λq=>e (Sum.inr.inj q)
  rw[decide_eq_false h,decide_eq_false e]
theorem zmy (a:Int)(b:Str):decide ((Sum.inl a:Key)=Sum.inr b)=false:=decide_eq_false (λq=>nomatch q)
theorem znz (a:Str)(b:Int):decide ((Sum.inr a:Key)=Sum.inl b)=false:=decide_eq_false (λq=>nomatch q)
def Y8 (prog:Program)(w:World):PySem.KeyKind prog w Key where
 is:=zfG
 hash:=zpg w
 inj:=λv a b ha hb=>by
  rcases YG ha with ⟨i,t,rfl,rfl⟩ | ⟨x,t,rfl,rfl⟩
  ·rcases YG hb with ⟨j,u,rfl,e⟩ | ⟨y,u,rfl,e⟩
   ·injection e with e1 _;rw[e1]
   ·exact nomatch e
  ·rcases YG hb with ⟨j,u,rfl,e⟩ | ⟨y,u,rfl,e⟩
   ·exact nomatch e
   ·injection e with e1 _;rw[e1]
 byValue:=λk v h=>by
  rcases YG h with ⟨i,t,rfl,rfl⟩ | ⟨x,t,rfl,rfl⟩ <;> rfl
 pyHash:=λhv h=>by
  rcases YG hv with ⟨i,t,rfl,rfl⟩ | ⟨x,t,rfl,rfl⟩
  ·exact wpAny_pyHash_int h
  ·exact wpAny_pyHash_str h
 eqBool:=λhu hv h=>by
  rcases YG hu with ⟨i,t,rfl,rfl⟩ | ⟨x,t,rfl,rfl⟩
  ·rcases YG hv with ⟨j,u,rfl,rfl⟩ | ⟨y,u,rfl,rfl⟩
   ·rw[zmP] at h;exact wpAny_eqBool_int h
   ·rw[zmy] at h;exact SeqAt.EqAt.int_str i t y u _ _ _ _ h
  ·rcases YG hv with ⟨j,u,rfl,rfl⟩ | ⟨y,u,rfl,rfl⟩
   ·rw[znz] at h;exact SeqAt.EqAt.str_int x t j u _ _ _ _ h
   ·rw[znx] at h;exact wpAny_eqBool_str h
 «strs» := λk x t v h=>by
  rcases YG h with ⟨i,u,rfl,e⟩ | ⟨y,u,rfl,e⟩
  ·exact nomatch e
  ·injection e with e1 _
   subst e1
   cases v <;> rfl
theorem zd0 (prog:Program)(w:World)(i:Int)(t:Tok):(Y8 prog w).is (.inl i) (.int i t)=true:=zhq i t
theorem zd4 (prog:Program)(w:World)(x:Str)(t:Tok):(Y8 prog w).is (.inr x) (.str x t)=true:=zgs x t
end L2
namespace L2
open PySem PySem.Spec PyProof.Rows
inductive V where
 | non | bl (b:Bool) | int (i:Int) | str (x:Str) | byt (b:Array UInt8) | flt (b:UInt64) | ref (a:Addr) | ty (n:String)
 deriving DecidableEq
def RelV:V->Value->Prop
 | .non,u=>u=Value.none
 | .bl b,u=>u=Value.bool b
 | .int i,u=>∃ t,u=Value.int i t
 | .str x,u=>∃ t,u=Value.str x t
 | .byt b,u=>∃ t,u=Value.bytes b t
 | .flt b,u=>∃ t,u=Value.float b t
 | .ref a,u=>u=Value.ref a
 | .ty n,u=>u=Value.type n
abbrev Vals:List V->List Value->Prop:=Paired RelV
theorem Vals.length {xs:List V}{us:List Value}(r:Vals xs us):xs.length=us.length:=Paired.length r
theorem Vals.get:∀ {xs:List V}{us:List Value}{i:Nat}{x:V},Vals xs us->xs[i]?=some x->∃ u,us[i]?=some u/\RelV x u
 | _,_,_,_,.nil,e=>by simp at e
 | _,_,0,_,.cons r _,e=>by simp at e;subst e;exact ⟨_,rfl,r⟩
 | _,_,i+1,x,.cons _ t,e=>by
  obtain ⟨u,h1,h2⟩:=Vals.get (i:=i) (x:=x) t (by simpa using e)
  exact ⟨u,by simpa using h1,h2⟩
theorem Vals.set {x:V}{u:Value}(r:RelV x u):∀ {xs:List V}{us:List Value}(i:Nat),Vals xs us->Vals (xs.set i x) (us.set i u)
 | _,_,_,.nil=>.nil
 | _,_,0,.cons _ t=>.cons r t
 | _,_,i+1,.cons q t=>.cons q (Vals.set r i t)
theorem Vals.append:∀ {xs ys:List V}{us ws:List Value},Vals xs us->Vals ys ws->Vals (xs++ys) (us++ws)
 | _,_,_,_,.nil,s=>s
 | _,_,_,_,.cons r t,s=>.cons r (Vals.append t s)
theorem Vals.take:∀ {xs:List V}{us:List Value}(n:Nat),Vals xs us->Vals (xs.take n) (us.take n)
 | _,_,0,_=>.nil
 | _,_,_+1,.nil=>.nil
 | _,_,n+1,.cons r t=>.cons r (Vals.take n t)
theorem Vals.drop:∀ {xs:List V}{us:List Value}(n:Nat),Vals xs us->Vals (xs.drop n) (us.drop n)
 | _,_,0,r=>r
 | _,_,_+1,.nil=>.nil
 | _,_,n+1,.cons _ t=>Vals.drop n t
def znZ:Option V->Option Value->Prop
 | some v,some u=>RelV v u
 | none,none=>True
 | _,_=>False
def KV {κ:Type}:List (κ×V)->List (κ×Value)->Prop:=Paired λ(p:κ×V) (q:κ×Value)=>p.1=q.1/\RelV p.2 q.2
def kV:Key->V
 | .inl i=>.int i
 | .inr x=>.str x
inductive HO where
 
 | lst (xs:List V)
 
 | tup (xs:List V)
 
 | dK (kvs:List (Key×V)) | dT (kvs:List (List Key×V))
 
 | set (S:Int->Bool) (n:Nat)
 
 | ins (C dx:Addr) (fs:List (Str×V))
 
 | own (x:Addr)
 
 | xd (fs:List (Str×V))
 
 | met (f x:Addr)
 
 | rng (lo hi:Int)
 
 | frz (o:Obj) (u:HO)
 
 | tbl (cr:Nat->Nat->Option Str)
 
 | ext (φ:Heap->Prop)
abbrev Hp:=Addr->Option HO
def upd (H:Hp)(a:Addr)(o:HO):Hp:=λb=>if b=a then some o else H b
theorem Zh {H:Hp}{a:Addr}{o:HO}:upd H a o a=some o:=by unfold upd;rw[if_pos rfl]
theorem Zq {H:Hp}{a b:Addr}{o:HO}(h:b≠a):upd H a o b=H b:=by unfold upd;rw[if_neg h]
theorem Zn {H:Hp}{a b:Addr}{o:HO}(h:H a=some o)(h' : H b=none):a≠b:=by
 intro e;subst e;rw[h] at h';cases h'
def zeO (oc:Obj)(q:Str):Prop:=∃ (vs:Array Value) (t:Tok),oc.data = .fields vs/\vs[1]?=some (.str q t)
def zlX (h:Heap)(a:Addr):Prop:=∃ o,h.get? a=some o/\o.dict=none
section
variable (P:Program)(w:World)
def YJ (H:Hp)(h:Heap)(a:Addr):HO->Prop
 | .lst xs=>xs.length<=sizeLine/\∃ (its:List Value) (n:Nat),Vals xs its/\h.get? a=some { cls:=.type "list",data:=.seq its.toArray n }
 | .tup xs=>xs.length<=sizeLine/\∃ its:List Value,Vals xs its/\IsTup h a its.toArray/\zlX h a
 | .dK kvs=>kvs.length<=sizeLine/\(a==sysModules)=false/\∃ vs,KV kvs vs/\h.DictOf (Y8 P w) a vs
 | .dT kvs=>kvs.length<=sizeLine/\(a==sysModules)=false/\∃ xs:List (List Key×Addr×Value),
   Paired (λ(p:List Key×V) (q:List Key×Addr×Value)=>p.1=q.1/\H q.2.1=some (.tup (p.1.map kV))/\RelV p.2 q.2.2) kvs xs/\
   ∃ o es ep,h.get? a=some o/\o.ExactDict/\o.data = .dict es ep/\es.toList=xs.map (entryOfKey (tupleKind (Y8 P w)))/\(xs.map (·.1)).Nodup
 | .set S n=>h.SetOf (intKind P w) a S n
 | .ins C dx fs=>H dx=some (.own a)/\fs.length<=1000/\dx≠a/\h.get? a=some (PySem.W.instObj C dx)/\
   ∃ mA,h.Ns1 dx mA/\(∀ f,znZ (fs.lookup f) (mA f))/\PySem.Within mA (fs.map (·.1))
 | .own _=>∃ o,h.get? a=some o
 | .xd fs=>∃ mA,h.Ns1 a mA/\∀ f,znZ (fs.lookup f) (mA f)
 | .rng lo hi=>∃ t u v,h.get? a=some { cls:=.type "range",data:=.fields #[.int lo t,.int hi u,.int 1 v] }
 | .frz o u=>h.get? a=some o/\YJ H h a u
 | .tbl cr=>∃ ps:Array Value,h.get? a=some { cls:=.none,data:=.fields ps }/\TriplesOk ps.toList/\∀ (pos:Pos) (v:Value),codeAmong pos ps.toList=some v->
   ∃ (c:Addr) (oc:Obj) (q:Str),v = .ref c/\cr pos.line pos.col=some q/\H c=some (.frz oc (.own c))/\zeO oc q
 | .met f x=>h.get? a=some (PySem.W.methodObj (.ref f) (.ref x))
 | .ext φ=>φ h/\(∃ o,h.get? a=some o)/\∀ h1 h2:Heap,φ h1->(∀ o,h1.get? a=some o->h2.get? a=some o)->φ h2
def HOk (H:Hp)(h:Heap):Prop:=∀ a o,H a=some o->YJ P w H h a o
end
section
variable {P:Program}{w:World}{H H' : Hp}{h h' : Heap}{a:Addr}{o:HO}
theorem YJ.lt (x:YJ P w H h a o):a<h.objs.size:=by
 cases o with
 | lst xs=>obtain ⟨_,_,_,_,e⟩:=x;exact Heap.lt_size e
 | tup xs=>obtain ⟨_,_,_,p,_⟩:=x;exact p.lt
 | dK kvs=>obtain ⟨_,_,_,_,o,_,_,e,_⟩:=x;exact Heap.lt_size e
 | dT kvs=>obtain ⟨_,_,_,_,o,_,_,e,_⟩:=x;exact Heap.lt_size e
 | set S n=>obtain ⟨o,_,_,_,e,_⟩:=x;exact Heap.lt_size e
 | ins C dx fs=>obtain ⟨_,_,_,e,_⟩:=x;exact Heap.lt_size e
 | own y=>obtain ⟨_,e⟩:=x;exact Heap.lt_size e
 | xd fs=>obtain ⟨_,⟨_,_,_,e,_⟩,_⟩:=x;exact Heap.lt_size e
 | rng lo hi=>obtain ⟨_,_,_,e⟩:=x;exact Heap.lt_size e
 | frz ob u=>obtain ⟨e,_⟩:=x;exact Heap.lt_size e
 | tbl cr=>obtain ⟨_,e,_⟩:=x;exact Heap.lt_size e
 | met f y=>exact Heap.lt_size (show h.get? a=some _ from x)
 | ext φ=>obtain ⟨_,⟨_,e⟩,_⟩:=x;exact Heap.lt_size e
theorem Paired.zoD {α β:Type}{F G:α->β->Prop}:∀ {l₁:List α}{l₂:List β},Paired F l₁ l₂->(∀ a b,F a b->G a b)->Paired G l₁ l₂
 | _,_,.nil,_=>.nil
 | _,_,.cons r t,f=>.cons (f _ _ r) (Paired.zoD t f)
theorem YJ.stay (x:YJ P w H h a o)(k:∀ b u,(b=a\/H b=some (.own a))->h.get? b=some u->h'.get? b=some u)
  (ho:∀ b,H b=some (.own a)->H' b=some (.own a)) (ht:∀ b xs,H b=some (.tup xs)->H' b=some (.tup xs)) (hz:∀ b o u,H b=some (.frz o u)->H' b=some (.frz o u)):YJ P w H' h' a o:=by
 induction o with
 | lst xs=>obtain ⟨z,its,n,r,e⟩:=x;exact ⟨z,its,n,r,k _ _ (.inl rfl) e⟩
 | tup xs=>obtain ⟨z,its,r,⟨ob,e,c⟩,od,e',d'⟩:=x;exact ⟨z,its,r,⟨ob,k _ _ (.inl rfl) e,c⟩,od,k _ _ (.inl rfl) e',d'⟩
 | dK kvs=>obtain ⟨z,y,vs,r,ob,es,ep,e,c⟩:=x;exact ⟨z,y,vs,r,ob,es,ep,k _ _ (.inl rfl) e,c⟩
 | dT kvs=>
  obtain ⟨z,y,xs,r,ob,es,ep,e,c⟩:=x
  exact ⟨z,y,xs,Paired.zoD r λp q z=>⟨z.1,ht _ _ z.2.1,z.2.2⟩,ob,es,ep,k _ _ (.inl rfl) e,c⟩
 | set S n=>obtain ⟨ob,es,ep,t,e,c⟩:=x;exact ⟨ob,es,ep,t,k _ _ (.inl rfl) e,c⟩
 | ins C dx fs=>
  obtain ⟨d,z,ne,e,mA,⟨od,es,ep,e2,c⟩,r⟩:=x
  exact ⟨ho _ d,z,ne,k _ _ (.inl rfl) e,mA,⟨od,es,ep,k _ _ (.inr d) e2,c⟩,r⟩
 | own y=>obtain ⟨ob,e⟩:=x;exact ⟨ob,k _ _ (.inl rfl) e⟩
 | xd fs=>obtain ⟨mA,⟨od,es,ep,e,c⟩,r⟩:=x;exact ⟨mA,⟨od,es,ep,k _ _ (.inl rfl) e,c⟩,r⟩
 | rng lo hi=>obtain ⟨t,u,v,e⟩:=x;exact ⟨t,u,v,k _ _ (.inl rfl) e⟩
 | frz ob u ih=>obtain ⟨e,q⟩:=x;exact ⟨k _ _ (.inl rfl) e,ih q⟩
 | tbl cr=>
  obtain ⟨ps,e,ht3,hc⟩:=x
  exact ⟨ps,k a _ (.inl rfl) e,ht3,λpos v q=>let ⟨c,oc,z,h1,h2,h3,h4⟩:=hc pos v q;⟨c,oc,z,h1,h2,hz _ _ _ h3,h4⟩⟩
 | met f y=>
  have e:h.get? a=some (PySem.W.methodObj (.ref f) (.ref y)):=x
  show h'.get? a=some (PySem.W.methodObj (.ref f) (.ref y))
  exact k a _ (.inl rfl) e
 | ext φ=>obtain ⟨p,⟨o,e⟩,st⟩:=x;exact ⟨st _ _ p λo q=>k _ _ (.inl rfl) q,⟨o,k _ _ (.inl rfl) e⟩,st⟩
theorem HOk.lt (x:HOk P w H h)(e:H a=some o):a<h.objs.size:=(x a o e).lt
theorem HOk.fresh (x:HOk P w H h)(e:h.objs.size<=a):H a=none:=by
 cases q:H a with
 | none=>rfl
 | some u=>exact absurd (Nat.lt_of_lt_of_le (x.lt q) e) (Nat.lt_irrefl _)
theorem HOk.kept (x:HOk P w H h)(k:∀ b u,h.get? b=some u->h'.get? b=some u):HOk P w H h' := λa o e=>
 (x a o e).stay (λb u _ q=>k b u q) (λ_ q=>q) (λ_ _ q=>q) λ_ _ _ q=>q
theorem HOk.laid (x:HOk P w H h)(k:∀ b u,h.get? b=some u->h'.get? b=some u)(hp:h.objs.size<=a)(new:YJ P w (upd H a o) h' a o):HOk P w (upd H a o) h' := λb u e=>by
 have hn:=x.fresh hp
 by_cases hb:b=a
 ·subst hb;rw[Zh] at e;cases e;exact new
 ·rw[Zq hb] at e
  exact (x b u e).stay (λc v _ q=>k c v q) (λc q=>by rw[Zq (Zn q hn)];exact q) (λc xs q=>by rw[Zq (Zn q hn)];exact q) λc o u q=>by rw[Zq (Zn q hn)];exact q
end
def Rd (H:Hp)(a:Addr)(u:HO):Prop:=H a=some u\/∃ o,H a=some (.frz o u)
theorem Rd.ok {P:Program}{w:World}{H:Hp}{h:Heap}{a:Addr}{u:HO}(r:Rd H a u)(x:HOk P w H h):YJ P w H h a u:=by
 rcases r with r | ⟨o,r⟩
 ·exact x a u r
 ·obtain ⟨_,q⟩:=x a _ r
  exact q
def Mut:Option HO->Prop
 | some (.lst _)=>True
 | some (.dK _)=>True
 | some (.dT _)=>True
 | some (.set _ _)=>True
 | some (.ins _ _ _)=>True
 | some (.ext _)=>True
 | _=>False
section
variable {P:Program}{w:World}{H:Hp}{h h' : Heap}{x e:Addr}{o' : HO}
theorem HOk.write (ok:HOk P w H h)(mu:Mut (H x))(he:e=x\/H e=some (.own x))(k:∀ b u,b≠e->h.get? b=some u->h'.get? b=some u)(heo:∃ u,h'.get? e=some u)
  (new:YJ P w (upd H x o') h' x o'):HOk P w (upd H x o') h' := λb u q=>by
 have nown:∀ c y,H c=some (.own y)->c≠x:=λc y r z=>by subst z;rw[r] at mu;exact mu
 have ntup:∀ c xs,H c=some (.tup xs)->c≠x:=λc xs r z=>by subst z;rw[r] at mu;exact mu
 have nfrz:∀ c o u,H c=some (.frz o u)->c≠x:=λc o u r z=>by subst z;rw[r] at mu;exact mu
 by_cases hb:b=x
 ·subst hb;rw[Zh] at q;cases q;exact new
 ·rw[Zq hb] at q
  by_cases hbe:b=e
  ·have q' : H b=some (.own x):=by
    rcases he with z | z
    ·exact absurd (hbe.trans z) hb
    ·rw[hbe];exact z
   rw[q] at q';cases q'
   obtain ⟨v,hv⟩:=heo
   exact ⟨v,by rw[hbe];exact hv⟩
  ·refine (ok b u q).stay (λc v hc r=>k c v ?_ r) (λc r=>by rw[Zq (nown c b r)];exact r) (λc xs r=>by rw[Zq (ntup c xs r)];exact r) λc o u r=>by rw[Zq (nfrz c o u r)];exact r
   rcases hc with rfl | hc
   ·exact hbe
   ·rintro rfl
    rcases he with z | z
    ·exact nown c b hc z
    ·rw[hc] at z;cases z;exact hb rfl
end
structure Un (fs ex:List Addr)(H H' : Hp)(h h' : Heap):Prop where
 keep:∀ b o,h.get? b=some o->H b=none->b∉fs->b∉ex->h'.get? b=some o
 slot:∀ b o,h.get? b=some o->H b=none->b∈fs->b∉ex->∃ sl,h'.get? b=some { o with slots:=sl }
 free:∀ b o,h.get? b=some o->H b=none->b∉ex->H' b=none
 there:∀ b o,h.get? b=some o->b∉ex->∃ o',h'.get? b=some o'
 tups:∀ b xs,H b=some (.tup xs)->H' b=some (.tup xs)
 frzs:∀ b o u,H b=some (.frz o u)->H' b=some (.frz o u)
 tbls:∀ b cr,H b=some (.tbl cr)->H' b=some (.tbl cr)
section
variable {fs fs' ex ex' : List Addr}{H H1 H2:Hp}{h h1 h2 h' : Heap}{a x e:Addr}{o:HO}
theorem Un.any (u:Un fs ex H H1 h h1){b:Addr}{ob:Obj}(q:h.get? b=some ob)(n:H b=none)(hx:b∉ex):∃ sl,h1.get? b=some { ob with slots:=sl }:=by
 by_cases hb:b∈fs
 ·exact u.slot b ob q n hb hx
 ·exact ⟨ob.slots,u.keep b ob q n hb hx⟩
theorem Un.kept (k:∀ b u,h.get? b=some u->h'.get? b=some u):Un fs ex H H h h' :=
 ⟨λb ob q _ _ _=>k b ob q,λb ob q _ _ _=>⟨ob.slots,k b ob q⟩,λ_ _ _ n _=>n,λb ob q _=>⟨ob,k b ob q⟩,λ_ _ q=>q,λ_ _ _ q=>q,λ_ _ q=>q⟩
theorem Un.refl:Un fs ex H H h h:=Un.kept λ_ _ q=>q
theorem Un.laid (k:∀ b u,h.get? b=some u->h'.get? b=some u)(hp:h.objs.size<=a)(hn:H a=none):Un fs ex H (upd H a o) h h' where
 keep:=λb u q _ _ _=>k b u q
 slot:=λb u q _ _ _=>⟨u.slots,k b u q⟩
 free:=λb u q n _=>by rw[Zq (Nat.ne_of_lt (Nat.lt_of_lt_of_le (Heap.lt_size q) hp))];exact n
 there:=λb u q _=>⟨u,k b u q⟩
 tups:=λb xs q=>by rw[Zq (Zn q hn)];exact q
 frzs:=λb u xs q=>by rw[Zq (Zn q hn)];exact q
 tbls:=λb cr q=>by rw[Zq (Zn q hn)];exact q
theorem Un.write (mu:Mut (H x))(he:e=x\/H e=some (.own x))(k:∀ b u,b≠e->h.get? b=some u->h'.get? b=some u)(heo:∃ u,h'.get? e=some u):Un fs ex H (upd H x o) h h' := by
 have hx:∀ b,H b=none->b≠x:=λb n z=>by subst z;rw[n] at mu;exact mu
 have hb:∀ b,H b=none->b≠e:=λb n z=>by
  subst z
  rcases he with r | r
  ·exact hx b n r
  ·rw[n] at r;cases r
 have hm:∀ b u,H b=some u->¬ Mut (some u)->b≠x:=λb u q nm z=>by subst z;rw[q] at mu;exact nm mu
 refine ⟨λb u q n _ _=>k b u (hb b n) q,λb u q n _ _=>⟨u.slots,k b u (hb b n) q⟩,λb u q n _=>by rw[Zq (hx b n)];exact n,λb u q _=>?_,
  λb xs q=>by rw[Zq (hm b _ q λz=>z)];exact q,λb u xs q=>by rw[Zq (hm b _ q λz=>z)];exact q,λb cr q=>by rw[Zq (hm b _ q λz=>z)];exact q⟩
 by_cases hbe:b=e
 ·subst hbe;exact heo
 ·exact ⟨u,k b u hbe q⟩
end
def trk (h:Heap)(H:Hp):List Addr:=(List.range h.objs.size).filter λa=>(H a).isSome
def zhJ (h:Heap)(H:Hp):Heap:=PySem.W.hideAll h (trk h H)
theorem zgr (h:Heap)(H:Hp):(zhJ h H).objs.size=h.objs.size:=PySem.W.hideAll_size _ _
theorem ziY {h:Heap}{H:Hp}{b:Addr}{o:Obj}(e:h.get? b=some o)(n:H b=none):(zhJ h H).get? b=some o:=
 PySem.W.hideAll_get _ e λhm=>by
  have q:(H b).isSome=true:=(List.mem_filter.mp hm).2
  rw[n] at q;simp at q
theorem zli {h:Heap}{H:Hp}{b:Addr}{o:Obj}(e:(zhJ h H).get? b=some o):h.get? b=some o/\H b=none:=by
 have e' : h.get? b=some o:=PySem.W.of_hideAll (trk h H) e
 refine ⟨e',?_⟩
 cases q:H b with
 | none=>rfl
 | some x=>
  have hm:b∈trk h H:=List.mem_filter.mpr ⟨List.mem_range.mpr (Heap.lt_size e'),by simp[q]⟩
  have z:(zhJ h H).get? b=none:=PySem.W.hideAll_none (trk h H) hm
  rw[z] at e;cases e
end L2
namespace L2
open PySem PySem.Spec PyProof.Rows
structure Mod (K:PySem.W.Frag)(mg:Str->Option Value)(base:Heap):Prop where
 kin:K.In base
 glob:base.Ns mainGlobals mg
 blt:∃ mb,base.Ns builtinsNs mb/\∀ x:Str,x≠ "__name__" -> mb x=bootBuiltins x
 nolimit:base.NoLimit
structure Cx where
 prog:Program
 w:World
 K:PySem.W.Frag
 mg:Str->Option Value
 base:Heap
 A:Around
 N:List Str
 s₀:Shared
 H₀:Hp
 env:Env
 outer:List Env
 stack:List Env
 ex:List Addr
 fn:Str->Bool
 calm:Bool
 pn:List (Addr×Obj)
 xe:Value->Shared->Prop
def frs (l:List Env):List Addr:=l.filterMap (·.frame)
abbrev Cx.fs (X:Cx):List Addr:=frs X.outer
def Vis (sc:Scope)(x:Str):Prop:=sc.names.lookup x=some .local\/sc.names.lookup x=some .cell\/sc.names.lookup x=some .free
def Loc (sc:Scope)(x:Str):Prop:=sc.names.lookup x=some .local\/sc.names.lookup x=some .cell
def Look (env:Env)(h:Heap)(m:Str->Option Value)(x:Str)(u:Value):Prop:=
 (env.kindOf x=some .local/\m x=some u)\/((env.kindOf x=some .cell\/env.kindOf x=some .free)/\∃ c,env.cells.lookup x=some c/\h.IsCell c (some u))
structure Cx.Ok (X:Cx):Prop where
 mod:Mod X.K X.mg X.base
 kind:X.env.scope.kind = .function
 glob:X.env.globals=mainGlobals
 blt:X.env.builtins=builtinsNs
 above:X.s₀.heap.objs.size<=X.env.locals
 inj:∀ x y c,X.env.cells.lookup x=some c->X.env.cells.lookup y=some c->x=y
 has:∀ x,(X.env.kindOf x=some .cell\/X.env.kindOf x=some .free)->∃ c,X.env.cells.lookup x=some c
 cab:∀ x c,X.fn x=true->X.env.cells.lookup x=some c->X.s₀.heap.objs.size<=c
 hd:X.calm=true->X.A.handled=none
 frames:X.A.frames=some X.stack
 stk:X.stack=X.outer\/(X.stack=X.env::X.outer/\X.env.frame=some X.env.locals)
 exf:∀ b∈X.ex,b≠X.env.locals/\∀ x c,X.env.cells.lookup x=some c->c≠b
 bs:∀ b o,X.base.get? b=some o->X.s₀.heap.get? b=some o/\X.H₀ b=none
 bsz:X.base.objs.size<=X.s₀.heap.objs.size
 noex:∀ b o,X.base.get? b=some o->b∉X.ex
 exfs:∀ b∈X.ex,b∉X.fs
 zdu:X.s₀.heap.FunFrames X.base X.outer
 frf:∀ b∈X.fs,X.H₀ b=none
structure Inv (X:Cx)(pins:List (Addr×Obj))(σ:List (Option V))(H:Hp)(s:Shared):Prop where
 ok:X.Ok
 os:s.os=X.s₀.os
 bare:AllBare s.gens
 base:Un X.fs X.ex X.H₀ H X.s₀.heap s.heap
 loc:∃ m,s.heap.Ns X.env.locals m/\∀ (i:Nat) (x:Str) (v:V),X.N[i]?=some x->σ[i]?=some (some v)->Vis X.env.scope x->∃ u,RelV v u/\Look X.env s.heap m x u
 cell:∀ x c,X.env.cells.lookup x=some c->∃ v,s.heap.IsCell c v
 free:H X.env.locals=none
 freeC:∀ x c,X.env.cells.lookup x=some c->H c=none
 pin:∀ p∈X.pn++pins,s.heap.get? p.1=some p.2/\H p.1=none/\p.1≠X.env.locals/\p.1∉X.fs/\∀ v,p.2.data≠.cell v
 hok:HOk X.prog X.w H s.heap
 len:σ.length=X.N.length
section
variable {X:Cx}{pins:List (Addr×Obj)}{σ:List (Option V)}{H H' : Hp}{s:Shared}{h' : Heap}
theorem Cx.Ok.zo9 (ok:X.Ok){b:Addr}{o:Obj}(e:X.base.get? b=some o):b∉X.fs:=λhb=>by
 have:=(ok.zdu.mem hb).1
 rw[e] at this;cases this
theorem Inv.bs (I:Inv X pins σ H s):∀ b o,X.base.get? b=some o->s.heap.get? b=some o/\H b=none:=λb o e=>
 ⟨I.base.keep b o (I.ok.bs b o e).1 (I.ok.bs b o e).2 (I.ok.zo9 e) (I.ok.noex b o e),I.base.free b o (I.ok.bs b o e).1 (I.ok.bs b o e).2 (I.ok.noex b o e)⟩
theorem Inv.bk (I:Inv X pins σ H s):∀ b o,X.base.get? b=some o->s.heap.get? b=some o:=λb o e=>(I.bs b o e).1
theorem Inv.mod (I:Inv X pins σ H s):Mod X.K X.mg X.base:=I.ok.mod
theorem Inv.kIn (I:Inv X pins σ H s):X.K.In s.heap:=I.ok.mod.kin.keeps I.bk
theorem Inv.fr (I:Inv X pins σ H s):∃ m,Fr X.base X.env.locals s.heap m:=
 let ⟨m,hn,_⟩:=I.loc
 ⟨m,hn,I.bk,Nat.le_trans I.ok.bsz I.ok.above⟩
theorem Inv.lt (I:Inv X pins σ H s):X.env.locals<s.heap.objs.size:=let ⟨_,hn,_⟩:=I.loc;hn.lt
theorem Inv.sz (I:Inv X pins σ H s):X.s₀.heap.objs.size<=s.heap.objs.size:=Nat.le_trans I.ok.above (Nat.le_of_lt I.lt)
theorem Inv.zoW (I:Inv X pins σ H s){a:Addr}(h:s.heap.objs.size<=a):a∉X.fs:=λhb=>by
 obtain ⟨_,o,ho,_⟩:=I.ok.zdu.mem hb
 exact absurd (Nat.lt_of_lt_of_le (Heap.lt_size ho) (Nat.le_trans I.sz h)) (Nat.lt_irrefl _)
theorem Inv.cne (I:Inv X pins σ H s):∀ x c,X.env.cells.lookup x=some c->c≠X.env.locals:=λx c e z=>by
 obtain ⟨v,o,ho,hd⟩:=I.cell x c e
 obtain ⟨m,⟨o',es,ep,ho',hd',_⟩,_⟩:=I.loc
 rw[z,ho'] at ho;cases ho;rw[hd'] at hd;cases hd
theorem Inv.zdu (I:Inv X pins σ H s):s.heap.FunFrames X.base X.outer:=by
 have all:∀ (l:List Env),(∀ b∈frs l,b∈X.fs)->X.s₀.heap.FunFrames X.base l->s.heap.FunFrames X.base l:=by
  intro l
  induction l with
  | nil=>intro _ _;trivial
  | cons env r ih=>
   intro hs hl
   obtain ⟨hk,⟨L,o,hf,hn,ho,hd⟩,hr⟩:=hl
   have hL:L∈X.fs:=hs L (by unfold frs;rw[List.filterMap_cons,hf];exact List.mem_cons_self)
   obtain ⟨sl,e⟩:=I.base.slot L o ho (I.ok.frf L hL) hL λz=>I.ok.exfs L z hL
   exact ⟨hk,⟨L,_,hf,hn,e,hd⟩,ih (λb hb=>hs b (by unfold frs;rw[List.filterMap_cons,hf];exact List.mem_cons_of_mem _ hb)) hr⟩
 exact all X.outer (λ_ hb=>hb) I.ok.zdu
theorem Inv.stack (I:Inv X pins σ H s):s.heap.FunFrames X.base X.stack:=by
 rcases I.ok.stk with e | ⟨e,hf⟩
 ·rw[e];exact I.zdu
 ·rw[e]
  obtain ⟨m,hn,_⟩:=I.loc
  refine .cons (by rw[I.ok.kind];decide) hf hn ?_ I.zdu
  exact Heap.get?_none_of_le (Nat.le_trans I.ok.bsz I.ok.above)
theorem Inv.zf4 (I:Inv X pins σ H s):∀ b∈frs X.stack,b∈X.env.locals::X.fs:=λb hb=>by
 rcases I.ok.stk with e | ⟨e,hf⟩
 ·rw[e] at hb;exact List.mem_cons_of_mem _ hb
 ·rw[e] at hb
  unfold frs at hb
  rw[List.filterMap_cons,hf] at hb
  exact hb
theorem Inv.zgY (I:Inv X pins σ H s):∀ b∈frs X.stack,H b=none:=λb hb=>by
 rcases List.mem_cons.mp (I.zf4 b hb) with e | hb
 ·rw[e];exact I.free
 ·obtain ⟨_,o,ho,_⟩:=I.ok.zdu.mem hb
  exact I.base.free b o ho (I.ok.frf b hb) λz=>I.ok.exfs b z hb
theorem Inv.step {g' : Array GenState}{t' : Nat}{d' : Drawn}{ch:List Addr}(I:Inv X pins σ H s)
  (hch:∀ b∈ch,(b∈X.ex\/X.s₀.heap.objs.size<=b)/\b≠X.env.locals/\(∀ x c,X.env.cells.lookup x=some c->c≠b)/\∀ p∈X.pn++pins,p.1≠b)
  (keep:∀ b o,b≠X.env.locals->b∉X.fs->b∉ch->s.heap.get? b=some o->H b=none->h'.get? b=some o)
  (slot:∀ b o,b≠X.env.locals->b∈X.fs->b∉ch->s.heap.get? b=some o->H b=none->∃ sl,h'.get? b=some { o with slots:=sl }) (free:∀ b o,b∉ch->s.heap.get? b=some o->H b=none->H' b=none)
  (there:∀ b o,b∉ch->s.heap.get? b=some o->∃ o',h'.get? b=some o')
  (tups:∀ b xs,H b=some (.tup xs)->H' b=some (.tup xs)) (frzs:∀ b o u,H b=some (.frz o u)->H' b=some (.frz o u)) (tbls:∀ b cr,H b=some (.tbl cr)->H' b=some (.tbl cr))
  (ns:∀ m,s.heap.Ns X.env.locals m->h'.Ns X.env.locals m) (hok:HOk X.prog X.w H' h') (hg:AllBare g'):
  Inv X pins σ H' { s with heap:=h',gens:=g',drawn:=d',toks:=t' }:=by
 have neL:∀ b o,X.s₀.heap.get? b=some o->b≠X.env.locals:=λb o e=>Nat.ne_of_lt (Nat.lt_of_lt_of_le (Heap.lt_size e) I.ok.above)
 have neC:∀ b o,X.s₀.heap.get? b=some o->b∉X.ex->b∉ch:=λb o e hx hb=>by
  rcases (hch b hb).1 with z | z
  ·exact hx z
  ·exact absurd (Nat.lt_of_lt_of_le (Heap.lt_size e) z) (Nat.lt_irrefl _)
 have cellK:∀ x c,X.env.cells.lookup x=some c->∀ v,s.heap.IsCell c v->h'.IsCell c v:=λx c e v ⟨o,ho,hd⟩=>by
  have nch:c∉ch:=λz=>(hch c z).2.2.1 x c e rfl
  by_cases hc:c∈X.fs
  ·obtain ⟨sl,q⟩:=slot c o (I.cne x c e) hc nch ho (I.freeC x c e)
   exact ⟨_,q,hd⟩
  ·exact ⟨o,keep c o (I.cne x c e) hc nch ho (I.freeC x c e),hd⟩
 refine ⟨I.ok,I.os,hg,⟨λb o e n hb hx=>?_,λb o e n hb hx=>?_,λb o e n hx=>?_,λb o e hx=>?_,λb xs e=>tups b xs (I.base.tups b xs e),λb o xs e=>frzs b o xs (I.base.frzs b o xs e),λb ps e=>?_⟩,?_,λx c e=>?_,?_,λx c e=>?_,λp hp=>?_,hok,I.len⟩
 ·exact keep b o (neL b o e) hb (neC b o e hx) (I.base.keep b o e n hb hx) (I.base.free b o e n hx)
 ·obtain ⟨sl,e1⟩:=I.base.slot b o e n hb hx
  obtain ⟨sl',e2⟩:=slot b _ (neL b o e) hb (neC b o e hx) e1 (I.base.free b o e n hx)
  exact ⟨sl',e2⟩
 ·obtain ⟨o',e1⟩:=I.base.there b o e hx
  exact free b o' (neC b o e hx) e1 (I.base.free b o e n hx)
 ·obtain ⟨o',e1⟩:=I.base.there b o e hx
  exact there b o' (neC b o e hx) e1
 ·exact tbls b ps (I.base.tbls b ps e)
 ·obtain ⟨m,hn,hl⟩:=I.loc
  refine ⟨m,ns m hn,λi x v e1 e2 e3=>?_⟩
  obtain ⟨u,r,l⟩:=hl i x v e1 e2 e3
  refine ⟨u,r,?_⟩
  rcases l with l | ⟨k,c,e,z⟩
  ·exact .inl l
  ·exact .inr ⟨k,c,e,cellK x c e _ z⟩
 ·obtain ⟨v,z⟩:=I.cell x c e
  exact ⟨v,cellK x c e v z⟩
 ·obtain ⟨m,⟨o,_,_,ho,_⟩,_⟩:=I.loc
  exact free _ o (λz=>(hch _ z).2.1 rfl) ho I.free
 ·obtain ⟨v,o,ho,hd⟩:=I.cell x c e
  exact free c o (λz=>(hch c z).2.2.1 x c e rfl) ho (I.freeC x c e)
 ·obtain ⟨e,n,ne,nf,d⟩:=I.pin p hp
  have nch:p.1∉ch:=λz=>(hch p.1 z).2.2.2 p hp rfl
  exact ⟨keep p.1 p.2 ne nf nch e n,free p.1 p.2 nch e n,ne,nf,d⟩
theorem Inv.un {t' : Nat}(I:Inv X pins σ H s)(u:Un X.fs [] H H' s.heap h')(hok:HOk X.prog X.w H' h'):Inv X pins σ H' { s with heap:=h',toks:=t' }:=by
 obtain ⟨m,⟨o,es,ep,ho,r⟩,_⟩:=id I.loc
 obtain ⟨sl,hL⟩:=u.any ho I.free (by simp)
 exact I.step (g' := s.gens) (d' := s.drawn) (ch:=[]) (λ_ z=>nomatch z) (λb o _ hb _ e n=>u.keep b o e n hb (by simp)) (λb o _ hb _ e n=>u.slot b o e n hb (by simp)) (λb o _ e n=>u.free b o e n (by simp)) (λb o _ e=>u.there b o e (by simp)) u.tups u.frzs u.tbls (λm' hm=>by
  obtain ⟨o',es',ep',ho',r'⟩:=hm
  rw[ho] at ho';cases ho'
  exact ⟨_,es',ep',hL,r'⟩) hok I.bare
theorem Inv.call {g' : Array GenState}{t' : Nat}{d' : Drawn}{ch:List Addr}(I:Inv X pins σ H s)(u:Un (frs X.stack) ch H H' s.heap h')(hok:HOk X.prog X.w H' h')(hg:AllBare g')
  (hch:∀ b∈ch,(b∈X.ex\/X.s₀.heap.objs.size<=b)/\b≠X.env.locals/\(∀ x c,X.env.cells.lookup x=some c->c≠b)/\∀ p∈X.pn++pins,p.1≠b):
  Inv X pins σ H' { s with heap:=h',gens:=g',drawn:=d',toks:=t' }:=by
 obtain ⟨m,⟨o,es,ep,ho,r⟩,_⟩:=id I.loc
 obtain ⟨sl,hL⟩:=u.any ho I.free λz=>(hch _ z).2.1 rfl
 exact I.step (ch:=ch) hch (λb o hL hb hc e n=>u.keep b o e n (λz=>(List.mem_cons.mp (I.zf4 b z)).elim hL hb) hc) (λb o _ _ hc e n=>u.any e n hc) (λb o hc e n=>u.free b o e n hc) (λb o hc e=>u.there b o e hc) u.tups u.frzs u.tbls (λm' hm=>by
  obtain ⟨o',es',ep',ho',r'⟩:=hm
  rw[ho] at ho';cases ho'
  exact ⟨_,es',ep',hL,r'⟩) hok hg
theorem Inv.turned {t' : Nat}{it:Addr}(I:Inv X pins σ H s)(k:∀ b o,b≠it->s.heap.get? b=some o->h'.get? b=some o)(hn:H it=none)(hL:it≠X.env.locals)
  (h1:it∈X.ex\/X.s₀.heap.objs.size<=it) (h2:∀ x c,X.env.cells.lookup x=some c->c≠it) (h3:∀ p∈X.pn++pins,p.1≠it):Inv X pins σ H { s with heap:=h',toks:=t' }:=by
 have nit:∀ b u,H b=some u->b≠it:=λb u e z=>by rw[z,hn] at e;cases e
 refine I.step (g' := s.gens) (d' := s.drawn) (ch:=[it]) (λb hb=>?_) (λb o _ _ hc e _=>k b o (λz=>hc (by simp[z])) e) (λb o _ _ hc e _=>⟨o.slots,k b o (λz=>hc (by simp[z])) e⟩) (λ_ _ _ _ n=>n)
  (λb o hc e=>⟨o,k b o (λz=>hc (by simp[z])) e⟩) (λ_ _ e=>e) (λ_ _ _ e=>e) (λ_ _ e=>e) (λm hm=>?_) (λb u e=>?_) I.bare
 ·have e:b=it:=by simpa using hb
  subst e
  exact ⟨h1,hL,h2,h3⟩
 ·obtain ⟨o,es,ep,ho,r⟩:=hm
  exact ⟨o,es,ep,k _ o (Ne.symm hL) ho,r⟩
 ·refine (I.hok b u e).stay (λc v hc q=>k c v ?_ q) (λ_ q=>q) (λ_ _ q=>q) λ_ _ _ q=>q
  rcases hc with z | z
  ·rw[z];exact nit b u e
  ·exact nit c _ z
theorem Inv.tok (I:Inv X pins σ H s)(t:Nat):Inv X pins σ H { s with toks:=t }:=I.un (h' := s.heap) (t' := t) Un.refl I.hok
theorem Inv.kept {t' : Nat}(I:Inv X pins σ H s)(k:∀ b u,s.heap.get? b=some u->h'.get? b=some u):Inv X pins σ H { s with heap:=h',toks:=t' }:=I.un (Un.kept k) (I.hok.kept k)
theorem Inv.laid {a:Addr}{o:HO}{t' : Nat}(I:Inv X pins σ H s)(k:∀ b u,s.heap.get? b=some u->h'.get? b=some u)(hp:s.heap.objs.size<=a)(new:YJ X.prog X.w (upd H a o) h' a o):
  Inv X pins σ (upd H a o) { s with heap:=h',toks:=t' }:=I.un (Un.laid k hp (I.hok.fresh hp)) (I.hok.laid k hp new)
theorem Inv.write {x e:Addr}{o:HO}{t' : Nat}(I:Inv X pins σ H s)(mu:Mut (H x))(he:e=x\/H e=some (.own x))(k:∀ b u,b≠e->s.heap.get? b=some u->h'.get? b=some u)(heo:∃ u,h'.get? e=some u)
  (new:YJ X.prog X.w (upd H x o) h' x o):Inv X pins σ (upd H x o) { s with heap:=h',toks:=t' }:=I.un (Un.write mu he k heo) (I.hok.write mu he k heo new)
theorem Inv.Vm {pins' : List (Addr×Obj)}(I:Inv X pins σ H s)(h:∀ p∈pins',s.heap.get? p.1=some p.2/\H p.1=none/\p.1≠X.env.locals/\p.1∉X.fs/\∀ v,p.2.data≠.cell v):Inv X pins' σ H s:=
 ⟨I.ok,I.os,I.bare,I.base,I.loc,I.cell,I.free,I.freeC,λp hp=>(List.mem_append.mp hp).elim (λz=>I.pin p (List.mem_append_left _ z)) (h p),I.hok,I.len⟩
theorem zeD {N:List Str}(hN:N.Nodup){i j:Nat}{x:Str}(a:N[i]?=some x)(b:N[j]?=some x):i=j:=by
 obtain ⟨h1,e1⟩:=List.getElem?_eq_some_iff.mp a
 obtain ⟨h2,e2⟩:=List.getElem?_eq_some_iff.mp b
 exact (List.getElem_inj hN).mp (e1.trans e2.symm)
theorem zgf {M:Model}{A:Around}{E:Value->Shared->Prop}{i:Nat}{x:Str}{v:V}{u:Value}{Q:Unit->Shared->Prop}(I:Inv X pins σ H s)(hN:X.N.Nodup)(hi:X.N[i]?=some x)(hx:Loc X.env.scope x)(r:RelV v u)
  (h:∀ s',Inv X pins (σ.set i (some v)) H s' -> (∃ a,Heap.SameBut a s.heap s'.heap/\(a=X.env.locals\/X.env.cells.lookup x=some a))->Q () s') (hf:X.fn x=true\/X.env.scope.names.lookup x=some .local:=by first | exact .inl rfl | exact .inr rfl | assumption):wpAny M A (storeName X.env x u) Q E s:=by
 obtain ⟨m,hn,hl⟩:=id I.loc
 have hcls:(X.env.scope.kind == .class||(X.env.scope.kind == .module&&X.env.locals != X.env.globals))=false:=by rw[I.ok.kind];rfl
 have hiσ:i<σ.length:=by rw[I.len];exact (List.getElem?_eq_some_iff.mp hi).1
 have cne:=I.cne
 have tracked:∀ {a:Addr}{h' : Heap},(∃ o,s.heap.get? a=some o/\H a=none)->Heap.SameBut a s.heap h' -> HOk X.prog X.w H h' := λ{a h'} ha hs b ob e=>by
  obtain ⟨_,_,hfree⟩:=ha
  refine (I.hok b ob e).stay (λc w' hc q=>(hs.2 c ?_).trans q) (λ_ q=>q) (λ_ _ q=>q) λ_ _ _ q=>q
  rintro rfl
  rcases hc with rfl | hc
  ·rw[hfree] at e;cases e
  ·rw[hfree] at hc;cases hc
 rcases hx with hk | hk
 ·refine wpAny_storeName_local hk hn (λh' hn' hs=>?_) hcls
  obtain ⟨oL,_,_,hoL,_⟩:=id hn
  refine h _ ⟨I.ok,I.os,I.bare,⟨λb o e n hb hx=>?_,λb o e n hb hx=>?_,I.base.free,λb o e hx=>?_,I.base.tups,I.base.frzs,I.base.tbls⟩,⟨_,hn',λj y v' e1 e2 e3=>?_⟩,λy c e=>?_,I.free,I.freeC,λp hp=>?_,tracked ⟨oL,hoL,I.free⟩ hs,by simpa using I.len⟩ ⟨_,hs,.inl rfl⟩
  ·exact (hs.2 b (Nat.ne_of_lt (Nat.lt_of_lt_of_le (Heap.lt_size e) I.ok.above))).trans (I.base.keep b o e n hb hx)
  ·obtain ⟨sl,e1⟩:=I.base.slot b o e n hb hx
   exact ⟨sl,(hs.2 b (Nat.ne_of_lt (Nat.lt_of_lt_of_le (Heap.lt_size e) I.ok.above))).trans e1⟩
  ·obtain ⟨o',e1⟩:=I.base.there b o e hx
   exact ⟨o',(hs.2 b (Nat.ne_of_lt (Nat.lt_of_lt_of_le (Heap.lt_size e) I.ok.above))).trans e1⟩
  ·by_cases hj:j=i
   ·subst hj
    rw[hi] at e1;cases e1
    rw[List.getElem?_set_self hiσ] at e2
    cases e2
    exact ⟨u,r,.inl ⟨hk,by simp⟩⟩
   ·rw[List.getElem?_set_ne (Ne.symm hj)] at e2
    obtain ⟨u',r',q⟩:=hl j y v' e1 e2 e3
    refine ⟨u',r',?_⟩
    rcases q with ⟨k,e⟩ | ⟨k,c,e,z⟩
    ·refine .inl ⟨k,?_⟩
     have:y≠x:=λe=>hj (zeD hN e1 (e ▸ hi))
     simp[this,e]
    ·exact .inr ⟨k,c,e,z.sameBut hs (cne y c e)⟩
  ·obtain ⟨w',z⟩:=I.cell y c e
   exact ⟨w',z.sameBut hs (cne y c e)⟩
  ·obtain ⟨e,n,ne,nf,d⟩:=I.pin p hp
   exact ⟨(hs.2 p.1 ne).trans e,n,ne,nf,d⟩
 ·have hfn:X.fn x=true:=by
   rcases hf with z | z
   ·exact z
   ·rw[z] at hk;cases hk
  obtain ⟨c,hc⟩:=I.ok.has x (.inl hk)
  obtain ⟨w',z⟩:=I.cell x c hc
  refine wpAny_storeName_cell I.ok.kind hk hc z (λh' hc' hs=>?_)
  obtain ⟨oc,hoc,hocd⟩:=id z
  refine h { s with heap:=h' } ⟨I.ok,I.os,I.bare,⟨λb o e n hb hx=>?_,λb o e n hb hx=>?_,I.base.free,λb o e hx=>?_,I.base.tups,I.base.frzs,I.base.tbls⟩,⟨m,hn.sameBut hs (Ne.symm (cne x c hc)),λj y v' e1 e2 e3=>?_⟩,λy c' e=>?_,I.free,I.freeC,λp hp=>?_,tracked ⟨oc,hoc,I.freeC x c hc⟩ hs,by simpa using I.len⟩ ⟨c,hs,.inr hc⟩
  ·exact (hs.2 b (Nat.ne_of_lt (Nat.lt_of_lt_of_le (Heap.lt_size e) (I.ok.cab x c hfn hc)))).trans (I.base.keep b o e n hb hx)
  ·obtain ⟨sl,e1⟩:=I.base.slot b o e n hb hx
   exact ⟨sl,(hs.2 b (Nat.ne_of_lt (Nat.lt_of_lt_of_le (Heap.lt_size e) (I.ok.cab x c hfn hc)))).trans e1⟩
  ·obtain ⟨o',e1⟩:=I.base.there b o e hx
   exact ⟨o',(hs.2 b (Nat.ne_of_lt (Nat.lt_of_lt_of_le (Heap.lt_size e) (I.ok.cab x c hfn hc)))).trans e1⟩
  ·by_cases hj:j=i
   ·subst hj
    rw[hi] at e1;cases e1
    rw[List.getElem?_set_self hiσ] at e2
    cases e2
    exact ⟨u,r,.inr ⟨.inl hk,c,hc,hc'⟩⟩
   ·rw[List.getElem?_set_ne (Ne.symm hj)] at e2
    obtain ⟨u',r',q⟩:=hl j y v' e1 e2 e3
    refine ⟨u',r',?_⟩
    rcases q with q | ⟨k,c',e,z'⟩
    ·exact .inl q
    ·refine .inr ⟨k,c',e,z'.sameBut hs ?_⟩
     rintro rfl
     exact hj (zeD hN e1 (I.ok.inj _ _ _ e hc ▸ hi))
  ·by_cases hcc:c'=c
   ·subst hcc;exact ⟨_,hc'⟩
   ·obtain ⟨w2,z2⟩:=I.cell y c' e
    exact ⟨w2,z2.sameBut hs hcc⟩
  ·obtain ⟨e,n,ne,nf,d⟩:=I.pin p hp
   refine ⟨(hs.2 p.1 ?_).trans e,n,ne,nf,d⟩
   intro q
   rw[q,hoc] at e
   have q' : oc=p.2:=Option.some.inj e
   exact d w' (by rw[← q'];exact hocd)
theorem Ur {M:Model}{A:Around}{E:Value->Shared->Prop}{i:Nat}{x:Str}{v:V}{u:Value}{Q:Unit->Shared->Prop}(I:Inv X pins σ H s)(hN:X.N.Nodup)(hi:X.N[i]?=some x)(hx:Loc X.env.scope x)(r:RelV v u)
  (h:∀ s',Inv X pins (σ.set i (some v)) H s' -> Q () s') (hf:X.fn x=true\/X.env.scope.names.lookup x=some .local:=by first | exact .inl rfl | exact .inr rfl | assumption):wpAny M A (storeName X.env x u) Q E s:=
 zgf I hN hi hx r (λs' I' _=>h s' I') hf
theorem Inv.call' {s' : Shared}{ch:List Addr}(I:Inv X pins σ H s)(ho:s'.os=s.os)(u:Un (frs X.stack) ch H H' s.heap s'.heap)(hok:HOk X.prog X.w H' s'.heap)(hg:AllBare s'.gens)
  (hch:∀ b∈ch,(b∈X.ex\/X.s₀.heap.objs.size<=b)/\b≠X.env.locals/\(∀ x c,X.env.cells.lookup x=some c->c≠b)/\∀ p∈X.pn++pins,p.1≠b):Inv X pins σ H' s' := by
 obtain ⟨h',g',d',t',o'⟩:=s'
 have e:o'=s.os:=ho
 subst e
 exact I.call (g' := g') (t' := t') (d' := d') u hok hg hch
end
abbrev XK:=Value->Option Addr->Hp->Prop
abbrev St:=List (Option V)
abbrev VK:=V->Hp->Prop
abbrev TE:=St->Hp->VK->Prop
abbrev TT:=St->Hp->(Bool->Hp->Prop)->Prop
abbrev TA:=St->Hp->(List V->Hp->Prop)->Prop
structure Ends where
 nx:St->Hp->Prop
 rt:VK
 bk:St->Hp->Prop:=λ_ _=>False
 ct:St->Hp->Prop:=λ_ _=>False
abbrev TS:=Ends->St->Hp->Prop
def EP (X:Cx)(pins:List (Addr×Obj))(σ:St)(Q:VK)(u:Value)(s' : Shared):Prop:=∃ v H',Inv X pins σ H' s' /\ RelV v u/\Q v H'
def TP (X:Cx)(pins:List (Addr×Obj))(σ:St)(Q:Bool->Hp->Prop)(b:Bool)(s' : Shared):Prop:=∃ H',Inv X pins σ H' s' /\ Q b H'
def AP (X:Cx)(pins:List (Addr×Obj))(σ:St)(Q:List V->Hp->Prop)(us:List Value)(s' : Shared):Prop:=∃ vs H',Inv X pins σ H' s' /\ Vals vs us/\Q vs H'
def SP (X:Cx)(pins:List (Addr×Obj))(D:Ends)(f:Flow)(s' : Shared):Prop:=
 match f with
 | .next=>∃ σ' H',Inv X pins σ' H' s' /\ D.nx σ' H'
 | .brk=>∃ σ' H',Inv X pins σ' H' s' /\ D.bk σ' H'
 | .cont=>∃ σ' H',Inv X pins σ' H' s' /\ D.ct σ' H'
 | .ret u=>∃ v σ' H',Inv X pins σ' H' s' /\ RelV v u/\D.rt v H'
def PE (X:Cx)(e:Expr)(t:TE):Prop:=
 ∀ (pins:List (Addr×Obj)) (s:Shared) (σ:St) (H:Hp) (Q:VK),Inv X pins σ H s->t σ H Q->wpAny (model X.prog X.w) X.A (eval e X.env) (EP X pins σ Q) X.xe s
def PT (X:Cx)(e:Expr)(t:TT):Prop:=
 ∀ (pins:List (Addr×Obj)) (s:Shared) (σ:St) (H:Hp) (Q:Bool->Hp->Prop),Inv X pins σ H s->t σ H Q->wpAny (model X.prog X.w) X.A (isTrue e X.env (eval e X.env)) (TP X pins σ Q) X.xe s
def PW (X:Cx)(e:Expr)(t:TT):Prop:=
 ∀ (whole:Sem Value) (pins:List (Addr×Obj)) (s:Shared) (σ:St) (H:Hp) (Q:Bool->Hp->Prop),Inv X pins σ H s->t σ H Q->wpAny (model X.prog X.w) X.A (isTrue e X.env whole) (TP X pins σ Q) X.xe s
theorem PW.pt {X:Cx}{e:Expr}{t:TT}(h:PW X e t):PT X e t:=h _
def PA (X:Cx)(es:List Expr)(t:TA):Prop:=
 ∀ (pos:Pos) (pins:List (Addr×Obj)) (s:Shared) (σ:St) (H:Hp) (Q:List V->Hp->Prop),Inv X pins σ H s->t σ H Q->wpAny (model X.prog X.w) X.A (spliced (backTo pos (starEach es X.env))) (AP X pins σ Q) X.xe s
def PS (X:Cx)(st:Stmt)(t:TS):Prop:=
 ∀ (pins:List (Addr×Obj)) (s:Shared) (σ:St) (H:Hp) (D:Ends),Inv X pins σ H s->t D σ H->wpAny (model X.prog X.w) X.A (exec st X.env) (SP X pins D) X.xe s
def PSs (X:Cx)(st:List Stmt)(t:TS):Prop:=
 ∀ (pins:List (Addr×Obj)) (s:Shared) (σ:St) (H:Hp) (D:Ends),Inv X pins σ H s->t D σ H->wpAny (model X.prog X.w) X.A (execs st X.env) (SP X pins D) X.xe s
theorem thn {α:Type}{t:Sem α}{Q Q' : α->Shared->Prop}{M:Model}{A:Around}{E:Value->Shared->Prop}{s:Shared}(h:wpAny M A t Q E s)(hQ:∀ a s,Q a s->Q' a s):wpAny M A t Q' E s:=wpAny_mono h hQ λ_ _ x=>x
end L2
namespace L2
open PySem PySem.Spec PyProof.Rows
section
variable {X:Cx}
def Xq (i:Nat):TE:=fun σ H Q=>∃ v,σ[i]?=some (some v)/\Q v H
def tC (v:V):TE:=λ_ H Q=>Q v H
theorem zht {i:Nat}{x:Str}{pos:Pos}(hN:X.N[i]?=some x)(hv:Vis X.env.scope x)(hd:(x==("__debug__" : Str))=false:=by decide) (hcd:(x==("__classdict__" : Str))=false:=by decide):PE X (.Name x pos) (Xq i):=by
 intro pins s σ H Q I h
 obtain ⟨v,e,h⟩:=h
 obtain ⟨m,hn,hl⟩:=I.loc
 obtain ⟨u,r,l⟩:=hl i x v hN e hv
 have fin:EP X pins σ Q u s:=⟨v,H,I,r,h⟩
 rcases l with ⟨hk,hm⟩ | ⟨hk,c,hc,hcell⟩
 ·exact wpAny_Name (wpAny_loadName_local I.ok.kind hk hn hm fin) hd
 ·rcases hk with hk | hk
  ·exact wpAny_Name (wpAny_loadName_cell I.ok.kind hk hc hcell fin) hd
  ·exact wpAny_Name (wpAny_loadName_free I.ok.kind hk hc hcell fin hcd) hd
theorem Zg {i j pos}:PE X (.Constant (.int i) j pos) (tC (.int i)):=λ_ _ _ H _ I h=>wpAny_Constant_int ⟨.int i,H,I.tok _,⟨_,rfl⟩,h⟩
theorem zaS {b j pos}:PE X (.Constant (.bool b) j pos) (tC (.bl b)):=λ_ _ _ H _ I h=>Constant_bool ⟨.bl b,H,I,rfl,h⟩
theorem zay {j pos}:PE X (.Constant .none j pos) (tC .non):=λ_ _ _ H _ I h=>Constant_none ⟨.non,H,I,rfl,h⟩
theorem ZK {x j pos}:PE X (.Constant (.str x) j pos) (tC (.str x)):=λ_ _ _ H _ I h=>Calls.Constant_str ⟨.str x,H,I.tok _,⟨_,rfl⟩,h⟩
def Gl (X:Cx)(x:Str):Prop:=X.env.kindOf x=some .globalImplicit
theorem U6 {E:Value->Shared->Prop}{pins:List (Addr×Obj)}{s:Shared}{σ:St}{H:Hp}{x:Str}{u:Value}{pos:Pos}{Q:Value->Shared->Prop}(I:Inv X pins σ H s)(hg:Gl X x)(hm:X.mg x=some u)(h:Q u s)
  (hd:(x==("__debug__" : Str))=false:=by decide):wpAny (model X.prog X.w) X.A (eval (.Name x pos) X.env) Q E s:=
 Calls.Name_function_global I.ok.kind hg (Calls.loadGlobal_global (by rw[I.ok.glob];exact I.mod.glob.keeps I.bk) hm h) hd
theorem WW {E:Value->Shared->Prop}{pins:List (Addr×Obj)}{s:Shared}{σ:St}{H:Hp}{x:Str}{u:Value}{pos:Pos}{Q:Value->Shared->Prop}(I:Inv X pins σ H s)(hg:Gl X x)(hm:X.mg x=none)(hv:bootBuiltins x=some u)(h:Q u s)
  (hn:x≠ "__name__" := by decide) (hd:(x==("__debug__" : Str))=false:=by decide):wpAny (model X.prog X.w) X.A (eval (.Name x pos) X.env) Q E s:=by
 obtain ⟨mb,h1,h2⟩:=I.mod.blt
 exact Calls.Name_function_global I.ok.kind hg (Calls.loadGlobal_builtin (by rw[I.ok.glob];exact I.mod.glob.keeps I.bk) hm (by rw[I.ok.blt];exact h1.keeps I.bk) ((h2 x hn).trans hv) h) hd
theorem zb8 {x:Str}{v:V}{u:Value}{pos:Pos}(hg:Gl X x)(hm:X.mg x=some u)(r:RelV v u)(hd:(x==("__debug__" : Str))=false:=by decide):PE X (.Name x pos) (tC v):=
 λ_ _ _ H _ I h=>U6 I hg hm ⟨v,H,I,r,h⟩ hd
theorem zkB {x:Str}{v:V}{u:Value}{pos:Pos}(hg:Gl X x)(hm:X.mg x=none)(hv:bootBuiltins x=some u)(r:RelV v u)(hn:x≠ "__name__" := by decide) (hd:(x==("__debug__" : Str))=false:=by decide):PE X (.Name x pos) (tC v):=
 λ_ _ _ H _ I h=>WW I hg hm hv ⟨v,H,I,r,h⟩ hn hd
variable {a b:Expr}{ta tb:TE}{pos:Pos}
def tB (t:TE):TT:=fun σ H Q=>t σ H λx H1=>∃ c,x = .bl c/\Q c H1
theorem VD {e:Expr}{t:TE}(h:PE X e t)(he:∀ whole,isTrue e X.env whole=(do let v ← whole;standAt e.pos;holding [v] (truthy v)):=by intro _;rfl):PT X e (tB t):=by
 intro pins s σ H Q I hw
 refine isTrue_plain (thn (h pins s σ H _ I hw) λv s1 ⟨x,H1,I1,r1,q1⟩=>?_) (he _)
 obtain ⟨d,rfl,q⟩:=q1
 cases r1
 exact wpAny_truthy_bool ⟨H1,I1,q⟩
variable {tA tB' : TT}{rest:List Expr}
def tOr (t u:TT):TT:=fun σ H Q=>t σ H λc H1=>if c=true then Q true H1 else u σ H1 Q
def zoU (t:TT):TT:=fun σ H Q=>t σ H λc H1=>Q (!c) H1
theorem pw_or1 (ha:PT X a tA):PW X (.BoolOp .Or [a] pos) tA:=by
 intro wh pins s σ H Q I h
 refine isTrue_or (thn (ha pins s σ H Q I h) λc s1 e=>?_)
 cases c with
 | false=>exact isTrue_or_nil e
 | true=>exact e
theorem pw_or (ha:PT X a tA)(hb:PW X (.BoolOp .Or (b::rest) pos) tB'):PW X (.BoolOp .Or (a::b::rest) pos) (tOr tA tB'):=by
 intro wh pins s σ H Q I h
 refine isTrue_or (thn (ha pins s σ H _ I h) λc s1 ⟨H1,I1,q1⟩=>?_)
 cases c with
 | true=>exact ⟨H1,I1,q1⟩
 | false=>exact hb wh pins s1 σ H1 Q I1 q1
theorem zmv (ha:PT X a tA):PT X (.UnaryOp .Not a pos) (zoU tA):=by
 intro pins s σ H Q I h
 exact isTrue_not (ha pins s σ H (λc H1=>Q (!c) H1) I h)
def zlU (ta:TE):TE:=fun σ H Q=>ta σ H λx H1=>∃ c,x = .bl c/\Q (.bl (!c)) H1
theorem zj1 (ha:PE X a ta):PE X (.UnaryOp .Not a pos) (zlU ta):=by
 intro pins s σ H Q I h
 refine UnaryOp_ (thn (ha pins s σ H _ I h) λv s1 ⟨x,H1,I1,r1,q1⟩=>?_)
 obtain ⟨c,rfl,q1⟩:=q1
 cases r1
 exact not_of (wpAny_truthy_bool ⟨.bl (!c),H1,I1,rfl,q1⟩)
def tIf (t:TT)(ta tb:TE):TE:=fun σ H Q=>t σ H λc H1=>if c=true then ta σ H1 Q else tb σ H1 Q
theorem Wy {c:Expr}(hc:PT X c tA)(ha:PE X a ta)(hb:PE X b tb):PE X (.IfExp c a b pos) (tIf tA ta tb):=by
 intro pins s σ H Q I h
 refine wpAny_IfExp (thn (hc pins s σ H _ I h) λd s1 ⟨H1,I1,q1⟩=>?_)
 cases d with
 | true=>exact ha pins s1 σ H1 Q I1 q1
 | false=>exact hb pins s1 σ H1 Q I1 q1
end
end L2
namespace L2
open PySem PySem.Spec PyProof.Rows
def SqL (K:PySem.W.Frag)(H:Hp)(a:Addr)(xs:List V):Prop:=
 Rd H a (.lst xs)\/
  ∃ (o:Obj) (its:Array Value) (n:Nat),K.lookup a=some o/\o.cls = .type "list" /\ o.dict=none/\o.data = .seq its n/\its.size<=sizeLine/\Vals xs its.toList
def SqT (K:PySem.W.Frag)(H:Hp)(a:Addr)(xs:List V):Prop:=
 Rd H a (.tup xs)\/
  ∃ (o:Obj) (its:Array Value) (n:Nat),K.lookup a=some o/\o.cls = .type "tuple" /\ o.data = .seq its n/\its.size<=sizeLine/\Vals xs its.toList
def zoO:Value->Option V
 | .none=>some .non
 | .bool b=>some (.bl b)
 | .int i _=>some (.int i)
 | .str x _=>some (.str x)
 | .bytes b _=>some (.byt b)
 | .float b _=>some (.flt b)
 | .ref a=>some (.ref a)
 | .type n=>some (.ty n)
 | _=>none
theorem RelV.abs {x:V}{u:Value}(r:RelV x u):zoO u=some x:=by
 cases x with
 | non=>cases r;rfl
 | bl _=>cases r;rfl
 | int _=>obtain ⟨t,rfl⟩:=r;rfl
 | str _=>obtain ⟨t,rfl⟩:=r;rfl
 | byt _=>obtain ⟨t,rfl⟩:=r;rfl
 | flt _=>obtain ⟨t,rfl⟩:=r;rfl
 | ref _=>cases r;rfl
 | ty _=>cases r;rfl
theorem RelV.inj {x y:V}{u:Value}(r:RelV x u)(q:RelV y u):x=y:=Option.some.inj (r.abs.symm.trans q.abs)
theorem Vals.inj:∀ {xs ys:List V}{us:List Value},Vals xs us->Vals ys us->xs=ys
 | _,_,_,.nil,.nil=>rfl
 | _,_,_,.cons r t,.cons r' t' => by rw[r.inj r',Vals.inj t t']
section
variable {X:Cx}{pins:List (Addr×Obj)}{σ:St}{H:Hp}{s:Shared}{a:Addr}{xs ys:List V}
theorem SqL.of {K:PySem.W.Frag}(h:H a=some (.lst xs)):SqL K H a xs:=.inl (.inl h)
theorem SqT.of {K:PySem.W.Frag}(h:H a=some (.tup xs)):SqT K H a xs:=.inl (.inl h)
theorem Inv.list (I:Inv X pins σ H s)(h:SqL X.K H a xs):∃ its:List Value,Vals xs its/\PlainL s.heap a its.toArray/\xs.length<=sizeLine:=by
 rcases h with h | ⟨o,its,n,hk,hc,hd,hs,hz,r⟩
 ·obtain ⟨z,its,n,r,e⟩:=h.ok I.hok
  exact ⟨its,r,⟨_,n,e,rfl,rfl,rfl⟩,z⟩
 ·refine ⟨its.toList,r,⟨o,n,I.kIn a o hk,hc,hd,by simpa using hs⟩,?_⟩
  have e:=r.length
  simp only[Array.length_toList] at e
  omega
theorem Inv.tuple (I:Inv X pins σ H s)(h:SqT X.K H a xs):∃ its:List Value,Vals xs its/\IsTup s.heap a its.toArray/\xs.length<=sizeLine:=by
 rcases h with h | ⟨o,its,n,hk,hc,hs,hz,r⟩
 ·obtain ⟨z,its,r,p,_⟩:=h.ok I.hok
  exact ⟨its,r,p,z⟩
 ·refine ⟨its.toList,r,⟨o,I.kIn a o hk,hc,n,by simpa using hs⟩,?_⟩
  have e:=r.length
  simp only[Array.length_toList] at e
  omega
theorem Inv.Ue (I:Inv X pins σ H s)(h:SqL X.K H a xs)(h' : SqL X.K H a ys):xs=ys:=by
 obtain ⟨its,r,⟨o,n,e,_,_,d⟩,_⟩:=I.list h
 obtain ⟨its',r',⟨o',n',e',_,_,d'⟩,_⟩:=I.list h'
 rw[e] at e';cases e'
 rw[d] at d'
 injection d' with d1 _
 have:its=its' := by simpa using congrArg Array.toList d1
 subst this
 exact r.inj r'
theorem Inv.J2 (I:Inv X pins σ H s)(h:SqT X.K H a xs)(h' : SqT X.K H a ys):xs=ys:=by
 obtain ⟨its,r,⟨o,e,_,n,d⟩,_⟩:=I.tuple h
 obtain ⟨its',r',⟨o',e',_,n',d'⟩,_⟩:=I.tuple h'
 rw[e] at e';cases e'
 rw[d] at d'
 injection d' with d1 _
 have:its=its' := by simpa using congrArg Array.toList d1
 subst this
 exact r.inj r'
end
abbrev Cx.wish (X:Cx)(E:Value->Shared->Prop):Cx:={ X with xe:=E }
abbrev Cx.nox (X:Cx):Cx:=X.wish λ_ _=>False
theorem Cx.Ok.wish {X:Cx}(ok:X.Ok)(E:Value->Shared->Prop):(X.wish E).Ok:=
 ⟨ok.mod,ok.kind,ok.glob,ok.blt,ok.above,ok.inj,ok.has,ok.cab,ok.hd,ok.frames,ok.stk,ok.exf,ok.bs,ok.bsz,ok.noex,ok.exfs,ok.zdu,ok.frf⟩
theorem Cx.Ok.VR {X:Cx}{E:Value->Shared->Prop}(ok:(X.wish E).Ok):X.Ok:=
 ⟨ok.mod,ok.kind,ok.glob,ok.blt,ok.above,ok.inj,ok.has,ok.cab,ok.hd,ok.frames,ok.stk,ok.exf,ok.bs,ok.bsz,ok.noex,ok.exfs,ok.zdu,ok.frf⟩
section
variable {X:Cx}{pins:List (Addr×Obj)}{σ:St}{H:Hp}{s:Shared}{E:Value->Shared->Prop}
theorem Inv.wish (I:Inv X pins σ H s)(E:Value->Shared->Prop):Inv (X.wish E) pins σ H s:=⟨I.ok.wish E,I.os,I.bare,I.base,I.loc,I.cell,I.free,I.freeC,I.pin,I.hok,I.len⟩
theorem Inv.VR (I:Inv (X.wish E) pins σ H s):Inv X pins σ H s:=⟨I.ok.VR,I.os,I.bare,I.base,I.loc,I.cell,I.free,I.freeC,I.pin,I.hok,I.len⟩
theorem SP.VR {D:Ends}{f:Flow}{s' : Shared}(h:SP (X.wish E) pins D f s'):SP X pins D f s' := by
 cases f with
 | next=>obtain ⟨σ',H',I,q⟩:=h;exact ⟨σ',H',I.VR,q⟩
 | brk=>obtain ⟨σ',H',I,q⟩:=h;exact ⟨σ',H',I.VR,q⟩
 | cont=>obtain ⟨σ',H',I,q⟩:=h;exact ⟨σ',H',I.VR,q⟩
 | ret u=>obtain ⟨v,σ',H',I,r,q⟩:=h;exact ⟨v,σ',H',I.VR,r,q⟩
theorem PSs.nox {st:List Stmt}{t:TS}(h:PSs X.nox st t):PSs X st t:=λpins s σ H D I hw=>
 wpAny_mono (h pins s σ H D (I.wish _) hw) (λ_ _ q=>q.VR) λ_ _ z=>False.elim z
end
section
variable {X:Cx}{st:Stmt}{rest:List Stmt}{t u:TS}{e:Expr}{te:TE}{pos:Pos}
def zod:TS:=λD σ H=>D.nx σ H
def zlK (t u:TS):TS:=λD σ H=>t { D with nx:=u D } σ H
theorem ZQ:PSs X [] zod:=λ_ _ σ H _ I h=>wpAny_execs_nil ⟨σ,H,I,h⟩
theorem Ze (h1:PS X st t)(h2:PSs X rest u):PSs X (st::rest) (zlK t u):=by
 intro pins s σ H D I h
 refine wpAny_execs_cons (thn (h1 pins s σ H { D with nx:=u D } I h) λf s1 q=>?_)
 cases f with
 | next=>
  obtain ⟨σ',H',I',q⟩:=q
  exact h2 pins s1 σ' H' D I' q
 | ret v=>exact q
 | brk=>exact q
 | cont=>exact q
theorem Zo (h1:PS X st t):PSs X [st] t:=by
 intro pins s σ H D I h
 refine wpAny_execs_cons (thn (h1 pins s σ H D I h) λf s1 q=>?_)
 cases f with
 | next=>exact wpAny_execs_nil q
 | ret v=>exact q
 | brk=>exact q
 | cont=>exact q
theorem Inv.quiet {pins:List (Addr×Obj)}{σ:St}{H:Hp}{s:Shared}(I:Inv X pins σ H s):interactive X.env=false:=by simp[interactive,I.ok.kind]
def zof (te:TE):TS:=λD σ H=>te σ H λ_ H1=>D.nx σ H1
theorem J5 (he:PE X e te)(hs:swapsWith e none pos.line X.env=pure false:=by rfl):PS X (.Expr e pos) (zof te):=by
 intro pins s σ H D I h
 exact wpAny_Expr_any (thn (he pins s σ H _ I h) λv s1 ⟨x,H1,I1,r1,q1⟩=>⟨σ,H1,I1,q1⟩) I.quiet hs
def znM (te:TE):TS:=λD σ H=>te σ H D.rt
theorem Zy (he:PE X e te):PS X (.Return (some e) pos) (znM te):=by
 intro pins s σ H D I h
 exact wpAny_Return_some (thn (he pins s σ H _ I h) λv s1 ⟨x,H1,I1,r1,q1⟩=>⟨x,σ,H1,I1,r1,q1⟩)
def zlI (c:TT)(t u:TS):TS:=λD σ H=>c σ H λb H1=>if b=true then t D σ H1 else u D σ H1
theorem Yt {c:Expr}{a b:List Stmt}{tc:TT}(hc:PT X c tc)(ha:PSs X a t)(hb:PSs X b u):PS X (.If c a b pos) (zlI tc t u):=by
 intro pins s σ H D I h
 refine wpAny_If (thn (hc pins s σ H _ I h) λd s1 ⟨H1,I1,q1⟩=>?_)
 cases d with
 | true=>exact ha pins s1 σ H1 D I1 q1
 | false=>exact hb pins s1 σ H1 D I1 q1
def zm4:TS:=λ_ _ _=>False
theorem zgw {sts:List Stmt}:PSs X sts zm4:=λ_ _ _ _ _ _ h=>h.elim
end
abbrev TG:=V->St->Hp->(St->Hp->Prop)->Prop
abbrev TGs:=List V->St->Hp->(St->Hp->Prop)->Prop
def PG (X:Cx)(target:Expr)(t:TG):Prop:=
 ∀ (pins:List (Addr×Obj)) (s:Shared) (σ:St) (H:Hp) (v:V) (u:Value) (Q:St->Hp->Prop),Inv X pins σ H s->RelV v u->t v σ H Q->
  wpAny (model X.prog X.w) X.A (assign target X.env u) (λ_ s' => ∃ σ' H',Inv X pins σ' H' s' /\ Q σ' H') X.xe s
def PGs (X:Cx)(ts:List Expr)(t:TGs):Prop:=
 ∀ (pins:List (Addr×Obj)) (s:Shared) (σ:St) (H:Hp) (vs:List V) (us:List Value) (Q:St->Hp->Prop),Inv X pins σ H s->Vals vs us->t vs σ H Q->
  wpAny (model X.prog X.w) X.A (assignInOrder ((assignEach ts X.env).map (·.2)) us) (λ_ s' => ∃ σ' H',Inv X pins σ' H' s' /\ Q σ' H') X.xe s
abbrev zn0:=V->V->V->Hp->(Hp->Prop)->Prop
def zoI (X:Cx)(t:zn0):Prop:=
 ∀ (pins:List (Addr×Obj)) (s:Shared) (σ:St) (H:Hp) (o i v:V) (ov iv u:Value) (Q:Hp->Prop),Inv X pins σ H s->RelV o ov->RelV i iv->RelV v u->t o i v H Q->
  wpAny (model X.prog X.w) X.A (setItem ov iv u) (λ_ s' => ∃ H',Inv X pins σ H' s' /\ Q H') X.xe s
section
variable {X:Cx}{pos:Pos}
def zdL (i:Nat):TG:=λv σ H Q=>Q (σ.set i (some v)) H
theorem Yy {i:Nat}{x:Str}(hN:X.N.Nodup)(hi:X.N[i]?=some x)(hx:Loc X.env.scope x)(hf:X.fn x=true\/X.env.scope.names.lookup x=some .local:=by first | exact .inl rfl | exact .inr rfl | assumption):PG X (.Name x pos) (zdL i):=by
 intro pins s σ H v u Q I r h
 exact wpAny_assign_Name (Ur I hN hi hx r (λs' I' => ⟨_,H,I',h⟩) hf)
def zo1:TGs:=λvs σ H Q=>vs=[]/\Q σ H
def zn1 (t:TG)(u:TGs):TGs:=λvs σ H Q=>∃ v r,vs=v::r/\t v σ H fun σ' H' => u r σ' H' Q
theorem zac:PGs X [] zo1:=by
 intro pins s σ H vs us Q I r h
 obtain ⟨e,h⟩:=h
 subst e
 cases r
 exact assignInOrder_nil ⟨σ,H,I,h⟩
theorem XH {e:Expr}{es:List Expr}{t:TG}{u:TGs}(h1:PG X e t)(h2:PGs X es u)
  (hs:(assignEach (e::es) X.env).map (·.2)=assign e X.env::(assignEach es X.env).map (·.2):=by rfl):PGs X (e::es) (zn1 t u):=by
 intro pins s σ H vs us Q I r h
 obtain ⟨v,vr,e1,h⟩:=h
 subst e1
 cases r with
 | cons r rr=>
  rw[hs]
  refine assignInOrder_cons (thn (h1 pins s σ H _ _ _ I r h) λ_ s1 ⟨σ1,H1,I1,q1⟩=>?_)
  exact h2 pins s1 σ1 H1 _ _ Q I1 rr q1
def zoY (K:PySem.W.Frag)(n:Nat)(t:TGs):TG:=λv σ H Q=>∃ a xs,v = .ref a/\SqT K H a xs/\xs.length=n/\t xs σ H Q
theorem zcT {es:List Expr}{k:Nat}{t:TGs}{n:Nat}(hc:X.calm=true)(h:PGs X es t)
  (hn:(assignEach es X.env).length=n:=by rfl) (hst:(assignEach es X.env).findIdx? (·.1)=none:=by rfl):PG X (.Tuple es k pos) (zoY X.K n t):=by
 intro pins s σ H v u Q I r hw
 obtain ⟨a,xs,e1,hq,hl,hw⟩:=hw
 subst e1
 cases r
 obtain ⟨its,rv,ht,hz⟩:=I.tuple hq
 refine assign_Tuple_tuple (I.ok.hd hc) ht (by simp[hn,← hl,rv.length]) hst λh' hx=>?_
 have I1:Inv X pins σ H { s with heap:=h' }:=I.kept (t' := s.toks) λb o e=>hx b o (Nat.ne_of_lt (Heap.lt_size e)) e
 exact h pins _ σ H xs _ Q I1 (by simpa using rv) hw
def zpf (to ti:TE)(t:zn0):TG:=λv σ H Q=>to σ H λo H1=>ti σ H1 λi H2=>t o i v H2 λH3=>Q σ H3
theorem zjo {o i:Expr}{to ti:TE}{t:zn0}(ho:PE X o to)(hi:PE X i ti)(hs:zoI X t)
  (ha:∀ v,assign (.Subscript o i pos) X.env v=(do
   let ov ← holding [v] (eval o X.env)
   let iv ← holding [v,ov] (eval i X.env)
   standAt pos
   holding [v,ov,iv] (setItem ov iv v)
   release [v,ov,iv] []):=by intro _;rfl):PG X (.Subscript o i pos) (zpf to ti t):=by
 intro pins s σ H v u Q I r h
 rw[ha]
 refine wpAny_bind (wpAny_holding (thn (ho pins s σ H _ I h) λov s1 ⟨x,H1,I1,r1,q1⟩=>?_))
 refine wpAny_bind (wpAny_holding (thn (hi pins s1 σ H1 _ I1 q1) λiv s2 ⟨y,H2,I2,r2,q2⟩=>?_))
 refine wpAny_bind (wpAny_standAt (wpAny_bind (wpAny_holding (thn (hs pins s2 σ H2 x y v ov iv u _ I2 r1 r2 r q2) λ_ s3 ⟨H3,I3,q3⟩=>?_))))
 exact wpAny_release ⟨σ,H3,I3,q3⟩
def zlO (te:TE)(g:TG):TS:=λD σ H=>te σ H λx H1=>g x σ H1 D.nx
theorem zji {tg e:Expr}{te:TE}{g:TG}(he:PE X e te)(hg:PG X tg g)(hs:swapsWithSole [tg] e pos.line X.env=pure false:=by rfl) (hw:swappedStores [tg] e X.env=pure none:=by rfl)
  (h1:(assignEach [tg] X.env).map (·.2)=[assign tg X.env]:=by rfl):PS X (.Assign [tg] e pos) (zlO te g):=by
 intro pins s σ H D I h
 refine wpAny_Assign_stores (thn (he pins s σ H _ I h) λv s1 ⟨x,H1,I1,r1,q1⟩=>?_) hs hw
 rw[h1]
 exact thn (hg pins s1 σ H1 x v _ I1 r1 q1) λ_ s2 q=>q
theorem ZD {i:Nat}{x:Str}{e:Expr}{te:TE}{pos' : Pos}(hN:X.N.Nodup)(hi:X.N[i]?=some x)(hx:Loc X.env.scope x)(he:PE X e te)(hs:swapsWith e (some (.Name x pos')) pos.line X.env=pure false:=by rfl) (hf:X.fn x=true\/X.env.scope.names.lookup x=some .local:=by first | exact .inl rfl | exact .inr rfl | assumption):
  PS X (.Assign [.Name x pos'] e pos) (zlO te (zdL i)):=by
 intro pins s σ H D I h
 refine wpAny_Assign_Name (thn (he pins s σ H _ I h) λv s1 ⟨y,H1,I1,r1,q1⟩=>?_) hs
 exact Ur I1 hN hi hx r1 (λs2 I2=>⟨_,H1,I2,q1⟩) hf
end
section
variable {X:Cx}{pos:Pos}
def zi9 (c:TT)(tb:TS):TS:=λD σ H=>∃ W:Nat->St->Hp->Prop,(∃ m,W m σ H)/\∀ m σ H,W m σ H->
 c σ H λb H1=>if b=true then ∃ N:St->Hp->Prop,(∀ σ' H',N σ' H' -> ∃ m',m'<m/\W m' σ' H')/\tb { D with nx:=N,ct:=N,bk:=D.nx } σ H1 else D.nx σ H1
theorem zb4 {c:Expr}{body:List Stmt}{tc:TT}{tb:TS}(hp:PassesOwn (model X.prog X.w) X.A X.env X.xe)(hc:PT X c tc)(hb:PSs X body tb):PS X (.While c body [] pos) (zi9 tc tb):=by
 intro pins s σ H D I h
 obtain ⟨W,⟨m0,w0⟩,turn⟩:=h
 refine wpAny_While (codeAny_whileLoop (λn s' => ∃ σ' H',Inv X pins σ' H' s' /\ W n σ' H') ?_ m0 ⟨σ,H,I,w0⟩)
 rintro n s1 ⟨σ1,H1,I1,w1⟩
 refine wpAny_passesOwn hp (thn (hc pins s1 σ1 H1 _ I1 (turn n σ1 H1 w1)) λb s2 ⟨H2,I2,q2⟩=>?_)
 cases b with
 | true=>
  obtain ⟨N,hN,q2⟩:=q2
  rw[if_pos rfl]
  refine wpAny_passesOwn hp (thn (hb pins s2 σ1 H2 _ I2 q2) λf s3 q3=>?_)
  cases f with
  | next=>
   obtain ⟨σ3,H3,I3,n3⟩:=q3
   obtain ⟨m',hm,w3⟩:=hN σ3 H3 n3
   exact ⟨m',hm,σ3,H3,I3,w3⟩
  | cont=>
   obtain ⟨σ3,H3,I3,n3⟩:=q3
   obtain ⟨m',hm,w3⟩:=hN σ3 H3 n3
   exact ⟨m',hm,σ3,H3,I3,w3⟩
  | brk=>exact q3
  | ret v=>exact q3
 | false=>
  rw[if_neg Bool.false_ne_true]
  exact wpAny_execs_nil ⟨σ1,H2,I2,q2⟩
end
structure It where
 go:Nat->Hp->Prop
 yld:Nat->Hp->V->Hp->Prop
 stop:Nat->Hp->Prop
def zfS (X:Cx)(pins:List (Addr×Obj))(H:Hp)(b:Addr):Prop:=
 H b=none/\b≠X.env.locals/\b∉X.fs/\(b∈X.ex\/X.s₀.heap.objs.size<=b)/\(∀ x c,X.env.cells.lookup x=some c->c≠b)/\∀ p∈X.pn++pins,p.1≠b
theorem Inv.zjx {X:Cx}{pins:List (Addr×Obj)}{σ:St}{H H' : Hp}{s:Shared}{b:Addr}(I:Inv X pins σ H s)(hb:s.heap.objs.size<=b)(hn:H' b=none):zfS X pins H' b:=by
 refine ⟨hn,Nat.ne_of_gt (Nat.lt_of_lt_of_le I.lt hb),I.zoW hb,.inr (Nat.le_trans I.sz hb),λx c e z=>?_,λp hp z=>?_⟩
 ·obtain ⟨v,q⟩:=I.cell x c e
  exact absurd (Nat.lt_of_lt_of_le q.lt (by rw[z];exact hb)) (Nat.lt_irrefl _)
 ·exact absurd (Nat.lt_of_lt_of_le (Heap.lt_size (I.pin p hp).1) (by rw[z];exact hb)) (Nat.lt_irrefl _)
structure Turn (P:Program)(w:World)(K:PySem.W.Frag)(tg:Expr)(J:It)(fp:List Addr)(it:Addr)(tn:Nat->Heap->Prop):Prop where
 mem:it∈fp
 obj:∀ i h,tn i h->∀ b∈fp,∃ o,h.get? b=some o/\∀ v,o.data≠.cell v
 keep:∀ i h h',tn i h->(∀ b∈fp,∀ o,h.get? b=some o->h'.get? b=some o)->tn i h'
 item:∀ (X:Cx),X.prog=P->X.w=w->X.K=K->X.calm=true->∀ (i:Nat) (pins:List (Addr×Obj)) (s:Shared) (σ:St) (H:Hp) (E:Value->Shared->Prop),Inv X pins σ H s->(∀ b∈fp,zfS X pins H b)->tn i s.heap->J.go i H->
  wpAny (model P w) X.A (pyNext (.ref it)) (λr s1=>∃ u,r=some u/\
   wpAny (model P w) X.A (letOwnedTupleGo tg (.ref it) u) (λ_ s2=>∃ x H',Inv X pins σ H' s2/\RelV x u/\J.yld i H x H' /\ tn (i+1) s2.heap/\∀ b∈fp,H' b=none) E s1) E s
 done:∀ (X:Cx),X.prog=P->X.w=w->X.K=K->X.calm=true->∀ (i:Nat) (pins:List (Addr×Obj)) (s:Shared) (σ:St) (H:Hp) (E:Value->Shared->Prop),Inv X pins σ H s->(∀ b∈fp,zfS X pins H b)->tn i s.heap->J.stop i H->
  wpAny (model P w) X.A (pyNext (.ref it)) (λr s1=>r=none/\Inv X pins σ H s1) E s
 self:∀ (A:Around) (i:Nat) (s:Shared) (Q:Value->Shared->Prop) (E:Value->Shared->Prop),tn i s.heap->Q (.ref it) s->wpAny (model P w) A (pyIter (.ref it)) Q E s
abbrev TI:=St->Hp->(It->Hp->Prop)->Prop
def PIE (X:Cx)(pins:List (Addr×Obj))(σ:St)(tg:Expr)(R:It->Hp->Prop)(itv:Value)(s2:Shared):Prop:=
 ∃ (it:Addr) (fp:List Addr) (tn:Nat->Heap->Prop) (J:It) (H' : Hp),itv = .ref it/\Inv X pins σ H' s2/\Turn X.prog X.w X.K tg J fp it tn/\tn 0 s2.heap/\(∀ b∈fp,zfS X pins H' b)/\R J H'
def PI (X:Cx)(tg iter:Expr)(wi:TI):Prop:=
 ∀ (pins:List (Addr×Obj)) (s:Shared) (σ:St) (H:Hp) (R:It->Hp->Prop),Inv X pins σ H s->wi σ H R->
  wpAny (model X.prog X.w) X.A (eval iter X.env) (λv s1=>wpAny (model X.prog X.w) X.A (pyIter v) (PIE X pins σ tg R) X.xe s1) X.xe s
theorem ziX {M:Model}{A:Around}{E:Value->Shared->Prop}{s:Shared}{tg:Expr}{it:Addr}{u:Value}{o:Obj}{n:String}{vs:Array Value}{Q:Unit->Shared->Prop}(ho:s.heap.get? it=some o)(hc:o.cls = .type n)(hd:o.data = .fields vs)
  (hn:["enumerate", "zip", "dict_itemiterator", "dict_reverseitemiterator", "odict_iterator", "itertools.zip_longest", "itertools.pairwise"].contains n=false) (hQ:Q () s):wpAny M A (letOwnedTupleGo tg (.ref it) u) Q E s:=by
 unfold letOwnedTupleGo
 cases tg <;> first
  | exact wpAny_pure hQ
  | (cases u <;> first
    | exact wpAny_pure hQ
    | (refine wpAny_bind (wpAny_load ho ?_);rw[hc,hd];show wpAny M A (if (["enumerate", "zip", "dict_itemiterator", "dict_reverseitemiterator", "odict_iterator", "itertools.zip_longest", "itertools.pairwise"].contains n&&vs[0]?==some (rawInt _))=true then _ else _) Q E s;rw[if_neg (by intro h;rw[hn,Bool.false_and] at h;cases h)];exact wpAny_pure hQ))
def Itl (K:PySem.W.Frag)(a:Addr):It:=
 ⟨λi H=>∃ xs x,SqL K H a xs/\xs[i]?=some x,λi H x H' => H'=H/\∀ xs,SqL K H a xs->xs[i]?=some x,λi H=>∃ xs,SqL K H a xs/\xs.length<=i⟩
def Itt (K:PySem.W.Frag)(a:Addr):It:=
 ⟨λi H=>∃ xs x,SqT K H a xs/\xs[i]?=some x,λi H x H' => H'=H/\∀ xs,SqT K H a xs->xs[i]?=some x,λi H=>∃ xs,SqT K H a xs/\xs.length<=i⟩
def Itr (lo:Int)(n:Nat):It:=⟨λi _=>i<n,λi H x H' => H'=H/\x = .int (lo+i),λi _=>n<=i⟩
theorem zgd {P:Program}{w:World}{K:PySem.W.Frag}{tg:Expr}(a it:Addr):Turn P w K tg (Itl K a) [it] it (λi h=>h.IsListIter it a i) where
 mem:=by simp
 obj:=λi h st b hb=>by
  have e:b=it:=by simpa using hb
  subst e
  obtain ⟨o,e,c,d⟩:=st
  exact ⟨o,e,λv z=>by rw[d] at z;cases z⟩
 keep:=λi h h' st k=>st.at λo e=>k it (by simp) o e
 item:=by
  intro X hP hw hK hc i pins s σ H E I hf st hg
  subst hP hw hK
  obtain ⟨xs,x,hq,hx⟩:=hg
  obtain ⟨its,rv,p,hz⟩:=I.list hq
  obtain ⟨u,hu,ru⟩:=rv.get hx
  obtain ⟨f0,f1,f2,f3,f4,f5⟩:=hf it (by simp)
  refine wpAny_pyNext_list_item st p.isList (x:=u) (by simpa using hu) λh' st' sb=>?_
  have I1:Inv X pins σ H { s with heap:=h' }:=I.turned (t' := s.toks) (λb o hb e=>(sb.2 b hb).trans e) f0 f1 f3 f4 f5
  obtain ⟨o,e,c,d⟩:=id st'
  exact ⟨u,rfl,ziX (s:={ s with heap:=h' }) e c d (by decide) ⟨x,H,I1,ru,⟨rfl,λys hy=>by rw[I.Ue hy hq];exact hx⟩,st',λb hb=>(hf b hb).1⟩⟩
 done:=by
  intro X hP hw hK hc i pins s σ H E I hf st hg
  subst hP hw hK
  obtain ⟨xs,hq,hx⟩:=hg
  obtain ⟨its,rv,p,hz⟩:=I.list hq
  obtain ⟨f0,f1,f2,f3,f4,f5⟩:=hf it (by simp)
  have hl:=rv.length
  exact wpAny_pyNext_list_end (I.ok.hd hc) st p.isList (by simp;omega) λh' eb=>⟨rfl,I.turned (t' := s.toks) (λb o hb e=>eb b o hb e) f0 f1 f3 f4 f5⟩
 self:=λ_ _ _ _ _ st h=>wpAny_pyIter_listiter st h
theorem zfF {P:Program}{w:World}{K:PySem.W.Frag}{tg:Expr}(a it:Addr):Turn P w K tg (Itt K a) [it] it (λi h=>h.IsTupleIter it a i) where
 mem:=by simp
 obj:=λi h st b hb=>by
  have e:b=it:=by simpa using hb
  subst e
  obtain ⟨o,e,c,d⟩:=st
  exact ⟨o,e,λv z=>by rw[d] at z;cases z⟩
 keep:=λi h h' st k=>st.at λo e=>k it (by simp) o e
 item:=by
  intro X hP hw hK hc i pins s σ H E I hf st hg
  subst hP hw hK
  obtain ⟨xs,x,hq,hx⟩:=hg
  obtain ⟨its,rv,p,hz⟩:=I.tuple hq
  obtain ⟨u,hu,ru⟩:=rv.get hx
  obtain ⟨f0,f1,f2,f3,f4,f5⟩:=hf it (by simp)
  refine wpAny_pyNext_tuple_item st (show s.heap.IsTuple a its.toArray from p) (x:=u) (by simpa using hu) λh' st' sb=>?_
  have I1:Inv X pins σ H { s with heap:=h' }:=I.turned (t' := s.toks) (λb o hb e=>(sb.2 b hb).trans e) f0 f1 f3 f4 f5
  obtain ⟨o,e,c,d⟩:=id st'
  exact ⟨u,rfl,ziX (s:={ s with heap:=h' }) e c d (by decide) ⟨x,H,I1,ru,⟨rfl,λys hy=>by rw[I.J2 hy hq];exact hx⟩,st',λb hb=>(hf b hb).1⟩⟩
 done:=by
  intro X hP hw hK hc i pins s σ H E I hf st hg
  subst hP hw hK
  obtain ⟨xs,hq,hx⟩:=hg
  obtain ⟨its,rv,p,hz⟩:=I.tuple hq
  obtain ⟨f0,f1,f2,f3,f4,f5⟩:=hf it (by simp)
  have hl:=rv.length
  exact wpAny_pyNext_tuple_end (I.ok.hd hc) st (show s.heap.IsTuple a its.toArray from p) (by simp;omega) λh' eb=>⟨rfl,I.turned (t' := s.toks) (λb o hb e=>eb b o hb e) f0 f1 f3 f4 f5⟩
 self:=λ_ _ _ _ _ st h=>wpAny_pyIter_tupleiter st h
theorem zfo {P:Program}{w:World}{K:PySem.W.Frag}{tg:Expr}(it:Addr)(lo:Int)(n:Nat):Turn P w K tg (Itr lo n) [it] it (λi h=>IsRangeIter h it (lo+(i:Nat)*1) ((n:Int)-(i:Nat)) 1) where
 mem:=by simp
 obj:=λi h st b hb=>by
  have e:b=it:=by simpa using hb
  subst e
  exact ⟨_,st,λv z=>by
   have z' : Data.fields _=Data.cell v:=z
   cases z'⟩
 keep:=λi h h' st k=>k it (by simp) _ st
 item:=by
  intro X hP hw hK hc i pins s σ H E I hf st hg
  subst hP hw hK
  obtain ⟨f0,f1,f2,f3,f4,f5⟩:=hf it (by simp)
  have W:=Walks.range (prog:=X.prog) (w:=X.w) (I.ok.hd hc) it lo 1 n
  refine W.item i s _ _ hg st λv h' tk hv st' kk=>?_
  obtain ⟨t,rfl⟩:=hv
  have I1:Inv X pins σ H { s with heap:=h',toks:=tk }:=I.turned (λb o hb e=>kk b o (by simpa using hb) e) f0 f1 f3 f4 f5
  refine ⟨_,rfl,ziX (s:={ s with heap:=h',toks:=tk }) (n:= "range_iterator") st' rfl rfl (by decide) ⟨.int (lo+i),H,I1,⟨t,?_⟩,⟨rfl,rfl⟩,st',λb hb=>(hf b hb).1⟩⟩
  rw[Int.mul_one]
 done:=by
  intro X hP hw hK hc i pins s σ H E I hf st hg
  subst hP hw hK
  obtain ⟨f0,f1,f2,f3,f4,f5⟩:=hf it (by simp)
  exact wpAny_pyNext_range_end (I.ok.hd hc) st (by have:n<=i:=hg;omega) λh' eb=>⟨rfl,I.turned (t' := s.toks) (λb o hb e=>eb b o hb e) f0 f1 f3 f4 f5⟩
 self:=λ_ _ _ _ _ st h=>wpAny_pyIter_rangeiter st h
end L2
namespace L2
open PySem PySem.Spec PyProof.Rows
section
variable {X:Cx}{tg:Expr}
def zni (K:PySem.W.Frag)(tl:TE):TI:=fun σ H R=>tl σ H λx H1=>∃ a,x = .ref a/\(∃ xs,SqL K H1 a xs)/\R (Itl K a) H1
def znU (K:PySem.W.Frag)(tl:TE):TI:=fun σ H R=>tl σ H λx H1=>∃ a,x = .ref a/\(∃ xs,SqT K H1 a xs)/\R (Itt K a) H1
theorem U0 {l:Expr}{tl:TE}(hl:PE X l tl):PI X tg l (zni X.K tl):=by
 intro pins s σ H R I h
 refine thn (hl pins s σ H _ I h) λv s1 ⟨x,H1,I1,r1,q1⟩=>?_
 obtain ⟨a,e,⟨xs,hq⟩,q⟩:=q1
 subst e
 cases r1
 obtain ⟨its,rv,p,hz⟩:=I1.list hq
 refine wpAny_pyIter_list p.isList ?_
 refine ⟨s1.heap.objs.size,[s1.heap.objs.size],_,_,H1,rfl,I1.kept (t' := s1.toks) λb o e=>Heap.get?_push_of_some _ e,zgd a _,⟨_,Heap.get?_push_size _ rfl,rfl,rfl⟩,λb hb=>?_,q⟩
 have e:b=s1.heap.objs.size:=by simpa using hb
 subst e
 exact I1.zjx (Nat.le_refl _) (I1.hok.fresh (Nat.le_refl _))
theorem zbe {l:Expr}{tl:TE}(hl:PE X l tl):PI X tg l (znU X.K tl):=by
 intro pins s σ H R I h
 refine thn (hl pins s σ H _ I h) λv s1 ⟨x,H1,I1,r1,q1⟩=>?_
 obtain ⟨a,e,⟨xs,hq⟩,q⟩:=q1
 subst e
 cases r1
 obtain ⟨its,rv,p,hz⟩:=I1.tuple hq
 refine wpAny_pyIter_tuple (show s1.heap.IsTuple a its.toArray from p) ?_
 refine ⟨s1.heap.objs.size,[s1.heap.objs.size],_,_,H1,rfl,I1.kept (t' := s1.toks) λb o e=>Heap.get?_push_of_some _ e,zfF a _,⟨_,Heap.get?_push_size _ rfl,rfl,rfl⟩,λb hb=>?_,q⟩
 have e:b=s1.heap.objs.size:=by simpa using hb
 subst e
 exact I1.zjx (Nat.le_refl _) (I1.hok.fresh (Nat.le_refl _))
theorem zeQ {pins:List (Addr×Obj)}{σ:St}{H:Hp}{s:Shared}{R:It->Hp->Prop}{E:Value->Shared->Prop}{lo hi:Int}{t u v:Tok}{tk:Nat}(I:Inv X pins σ H s)(h1:-(2 ^ 62)<=lo)(h2:lo<2 ^ 62)(h3:-(2 ^ 62)<=hi)(h4:hi<2 ^ 62)
  (q:R (Itr lo (hi-lo).toNat) H):wpAny (model X.prog X.w) X.A (pyIter (.ref s.heap.objs.size)) (PIE X pins σ tg R) E { s with heap:=s.heap.push { cls:=.type "range",data:=.fields #[.int lo t,.int hi u,.int 1 v] },toks:=tk }:=by
 refine wpAny_pyIter_range (IsRange.new ..) (small_one h1 h2 h3 h4) ?_
 have I1:Inv X pins σ H { s with heap:=s.heap.push { cls:=.type "range",data:=.fields #[.int lo t,.int hi u,.int 1 v] },toks:=tk }:=I.kept λb o e=>Heap.get?_push_of_some _ e
 refine ⟨(s.heap.push { cls:=.type "range",data:=.fields #[.int lo t,.int hi u,.int 1 v] }).objs.size,[(s.heap.push { cls:=.type "range",data:=.fields #[.int lo t,.int hi u,.int 1 v] }).objs.size],_,_,H,rfl,
  I1.kept (t' := tk) λb o e=>Heap.get?_push_of_some _ e,zfo _ lo (hi-lo).toNat,?_,λb hb=>?_,q⟩
 ·have e1:lo+((0:Nat):Int)*1=lo:=by simp
  have e2:(((hi-lo).toNat:Nat):Int)-((0:Nat):Int)=Builtin.Range.rangeSize lo hi 1:=by rw[rangeSize_one];split <;> omega
  show IsRangeIter _ _ (lo+((0:Nat):Int)*1) ((((hi-lo).toNat:Nat):Int)-((0:Nat):Int)) 1
  rw[e1,e2]
  exact Heap.get?_push_size _ rfl
 ·have e:b=(s.heap.push { cls:=.type "range",data:=.fields #[.int lo t,.int hi u,.int 1 v] }).objs.size:=by simpa using hb
  subst e
  exact I1.zjx (Nat.le_refl _) (I1.hok.fresh (Nat.le_refl _))
def zmX (ta:TA):TI:=fun σ H R=>ta σ H λvs H1=>∃ j:Int,vs=[.int j]/\-(2 ^ 62)<=j/\j<2 ^ 62/\R (Itr 0 j.toNat) H1
def zl5 (ta:TA):TI:=fun σ H R=>ta σ H λvs H1=>∃ i j:Int,vs=[.int i,.int j]/\(-(2 ^ 62)<=i/\i<2 ^ 62/\-(2 ^ 62)<=j/\j<2 ^ 62)/\R (Itr i (j-i).toNat) H1
theorem Jd {a:Expr}{ta:TA}{p pos:Pos}(hg:Gl X "range")(hm:X.mg "range" = none)(ha:PA X [a] ta)(hs:starEach [a] X.env=[(false,eval a X.env)]:=by rfl):PI X tg (.Call (.Name "range" p) [a] [] pos) (zmX ta):=by
 intro pins s σ H R I h
 refine Call_ (WW I hg hm boot_range (PyProof.Rows.callWith_type1 (thn (ha pos pins s σ H _ I h) λus s1 ⟨vs,H1,I1,r1,q1⟩=>?_) hs rfl))
 obtain ⟨j,e,q1,q2,q⟩:=q1
 subst e
 cases r1 with
 | cons r rr=>
  cases rr
  obtain ⟨t,rfl⟩:=r
  exact call_range_1 (zeQ I1 (by omega) (by omega) q1 q2 (by simpa using q))
theorem zf2 {a b:Expr}{ta:TA}{p pos:Pos}(hg:Gl X "range")(hm:X.mg "range" = none)(ha:PA X [a,b] ta)(hs:starEach [a,b] X.env=[(false,eval a X.env),(false,eval b X.env)]:=by rfl) (hs2:starEach [b] X.env=[(false,eval b X.env)]:=by rfl):
  PI X tg (.Call (.Name "range" p) [a,b] [] pos) (zl5 ta):=by
 intro pins s σ H R I h
 refine Call_ (WW I hg hm boot_range (PyProof.Rows.callWith_type1 (thn (ha pos pins s σ H _ I h) λus s1 ⟨vs,H1,I1,r1,q1⟩=>?_) (by rw[hs,hs2]) (by rw[hs2];rfl)))
 obtain ⟨i,j,e,⟨q1,q2,q3,q4⟩,q⟩:=q1
 subst e
 cases r1 with
 | cons r rr=>
  cases rr with
  | cons r' rr=>
   cases rr
   obtain ⟨t,rfl⟩:=r
   obtain ⟨t',rfl⟩:=r'
   exact call_range_2 (zeQ I1 q1 q2 q3 q4 q)
def zoQ (wi:TI)(g:TG)(tb:TS):TS:=λD σ H=>wi σ H λJ H1=>∃ W:Nat->Nat->St->Hp->Prop,(∃ m,W 0 m σ H1)/\∀ i m σ H,W i m σ H->
 (J.stop i H/\D.nx σ H)\/(J.go i H/\∃ N:St->Hp->Prop,(∀ σ' H',N σ' H' -> ∃ m',m'<m/\W (i+1) m' σ' H')/\∀ x H',J.yld i H x H' -> g x σ H' fun σ2 H2=>tb { D with nx:=N,ct:=N,bk:=D.nx } σ2 H2)
def VL (fp:List Addr)(h:Heap):List (Addr×Obj):=fp.filterMap λb=>(h.get? b).map λo=>(b,o)
theorem Vt {fp:List Addr}{h:Heap}{b:Addr}{o:Obj}(hb:b∈fp)(e:h.get? b=some o):(b,o)∈VL fp h:=List.mem_filterMap.mpr ⟨b,hb,by rw[e];rfl⟩
theorem zcA {fp:List Addr}{h:Heap}{p:Addr×Obj}(hp:p∈VL fp h):p.1∈fp/\h.get? p.1=some p.2:=by
 obtain ⟨b,hb,e⟩:=List.mem_filterMap.mp hp
 cases q:h.get? b with
 | none=>rw[q] at e;cases e
 | some o=>
  rw[q] at e
  have e' : (b,o)=p:=Option.some.inj e
  subst e'
  exact ⟨hb,q⟩
theorem Inv.pinned {pins:List (Addr×Obj)}{σ:St}{H:Hp}{s:Shared}{fp:List Addr}(I:Inv X pins σ H s)(hf:∀ b∈fp,zfS X pins H b)(ho:∀ b∈fp,∃ o,s.heap.get? b=some o/\∀ v,o.data≠.cell v):Inv X (pins++VL fp s.heap) σ H s:=
 I.Vm λp hp=>(List.mem_append.mp hp).elim (λz=>I.pin p (List.mem_append_right _ z)) λz=>by
  obtain ⟨hb,e⟩:=zcA z
  obtain ⟨f0,f1,f2,_⟩:=hf p.1 hb
  obtain ⟨o,e',d⟩:=ho p.1 hb
  rw[e] at e';cases e'
  exact ⟨e,f0,f1,f2,d⟩
theorem Inv.QK {pins pl:List (Addr×Obj)}{σ:St}{H:Hp}{s:Shared}(I:Inv X (pins++pl) σ H s):Inv X pins σ H s:=I.Vm λp hp=>I.pin p (List.mem_append_right _ (List.mem_append_left _ hp))
theorem Wz {iter:Expr}{body:List Stmt}{wi:TI}{g:TG}{tb:TS}{pos:Pos}(hp:PassesOwn (model X.prog X.w) X.A X.env X.xe)(hc:X.calm=true)(hi:PI X tg iter wi)(hg:PG X tg g)(hb:PSs X body tb)
  (hs:∀ x,foldedSetIterable iter X.env x=pure x:=by intro _;rfl):PS X (.For tg iter body [] pos) (zoQ wi g tb):=by
 intro pins s σ H D I h
 refine wpAny_For (thn (hi pins s σ H _ I h) λv s1 h1=>thn h1 λitv s2 h2=>?_) hs
 obtain ⟨it,fp,tn,J,H2,e,I2,T,st2,f2,W,⟨m0,w0⟩,turn⟩:=h2
 subst e
 have stat:∀ {H' : Hp},(∀ b∈fp,H' b=none)->∀ b∈fp,zfS X pins H' b:=λhn b hb=>⟨hn b hb,(f2 b hb).2⟩
 refine codeAny_forLoop_any (λn s' => ∃ i σ' H',Inv X pins σ' H' s' /\ tn i s'.heap/\(∀ b∈fp,H' b=none)/\W i n σ' H') ?_ m0 ⟨0,σ,H2,I2,st2,λb hb=>(f2 b hb).1,w0⟩
 rintro n s3 ⟨i,σ3,H3,I3,st3,fr3,w3⟩
 rcases turn i n σ3 H3 w3 with ⟨stop,qn⟩ | ⟨go,N,hN,step⟩
 ·refine wpAny_passesOwn hp (thn (T.done X rfl rfl rfl hc i pins s3 σ3 H3 X.xe I3 (stat fr3) st3 stop) λr s4 ⟨hr,I4⟩=>?_)
  subst hr
  exact wpAny_execs_nil ⟨σ3,H3,I4,qn⟩
 ·refine wpAny_passesOwn hp (thn (T.item X rfl rfl rfl hc i pins s3 σ3 H3 X.xe I3 (stat fr3) st3 go) λr s4 ⟨u,hr,h4⟩=>?_)
  subst hr
  refine wpAny_passesOwn hp (thn h4 λ_ s5 ⟨x,H5,I5,r5,y5,st5,fr5⟩=>?_)
  have I5' := I5.pinned (stat fr5) (T.obj _ _ st5)
  refine wpAny_passesOwn hp (thn (hg _ s5 σ3 H5 x u _ I5' r5 (step x H5 y5)) λ_ s6 ⟨σ6,H6,I6,q6⟩=>?_)
  refine wpAny_passesOwn hp (thn (hb _ s6 σ6 H6 _ I6 q6) λf s7 q7=>?_)
  have again:∀ {σ7:St}{H7:Hp},Inv X (pins++VL fp s5.heap) σ7 H7 s7->N σ7 H7->∃ m,m<n/\∃ i σ' H',Inv X pins σ' H' s7/\tn i s7.heap/\(∀ b∈fp,H' b=none)/\W i m σ' H' := λ{σ7 H7} I7 n7=>by
   obtain ⟨m',hm,w7⟩:=hN σ7 H7 n7
   refine ⟨m',hm,i+1,σ7,H7,I7.QK,T.keep _ _ _ st5 λb hb o e=>(I7.pin (b,o) (List.mem_append_right _ (List.mem_append_right _ (Vt hb e)))).1,λb hb=>?_,w7⟩
   obtain ⟨o,e,d⟩:=T.obj _ _ st5 b hb
   exact (I7.pin (b,o) (List.mem_append_right _ (List.mem_append_right _ (Vt hb e)))).2.1
  cases f with
  | next=>obtain ⟨σ7,H7,I7,n7⟩:=q7;exact again I7 n7
  | cont=>obtain ⟨σ7,H7,I7,n7⟩:=q7;exact again I7 n7
  | brk=>obtain ⟨σ7,H7,I7,q7⟩:=q7;exact ⟨σ7,H7,I7.QK,q7⟩
  | ret v=>obtain ⟨x7,σ7,H7,I7,r7,q7⟩:=q7;exact ⟨x7,σ7,H7,I7.QK,r7,q7⟩
end
theorem ziQ {K:PySem.W.Frag}{a:Addr}{xs:List V}{g:TG}{tb:TS}{D:Ends}{σ:St}{H:Hp}(Pv:Nat->St->Hp->Prop)(h0:Pv 0 σ H)(hl:∀ i σ H,i<=xs.length->Pv i σ H->SqL K H a xs)
  (hs:∀ i x σ H,xs[i]?=some x->Pv i σ H->g x σ H fun σ2 H2=>tb { D with nx:=Pv (i+1),ct:=Pv (i+1),bk:=D.nx } σ2 H2) (hd:∀ σ H,Pv xs.length σ H->D.nx σ H):
  ∃ W:Nat->Nat->St->Hp->Prop,(∃ m,W 0 m σ H)/\∀ i m σ H,W i m σ H->
   ((Itl K a).stop i H/\D.nx σ H)\/((Itl K a).go i H/\∃ N:St->Hp->Prop,(∀ σ' H',N σ' H' -> ∃ m',m'<m/\W (i+1) m' σ' H')/\∀ x H',(Itl K a).yld i H x H' -> g x σ H' fun σ2 H2=>tb { D with nx:=N,ct:=N,bk:=D.nx } σ2 H2):=by
 refine ⟨λi m σ H=>m=xs.length-i/\i<=xs.length/\Pv i σ H,⟨xs.length,by simp,Nat.zero_le _,h0⟩,?_⟩
 rintro i m σ H ⟨rfl,hi,p⟩
 have q:=hl i σ H hi p
 by_cases hlt:i<xs.length
 ·refine .inr ⟨⟨xs,xs[i],q,by simp[hlt]⟩,Pv (i+1),fun σ' H' p' => ⟨xs.length-(i+1),by omega,rfl,hlt,p'⟩,λx H' y=>?_⟩
  obtain ⟨e,y⟩:=y
  subst e
  exact hs i x σ _ (y xs q) p
 ·have e:i=xs.length:=by omega
  subst e
  exact .inl ⟨⟨xs,q,Nat.le_refl _⟩,hd σ H p⟩
theorem zlg {K:PySem.W.Frag}{a:Addr}{xs:List V}{g:TG}{tb:TS}{D:Ends}{σ:St}{H:Hp}(Pv:Nat->St->Hp->Prop)(h0:Pv 0 σ H)(hl:∀ i σ H,i<=xs.length->Pv i σ H->SqT K H a xs)
  (hs:∀ i x σ H,xs[i]?=some x->Pv i σ H->g x σ H fun σ2 H2=>tb { D with nx:=Pv (i+1),ct:=Pv (i+1),bk:=D.nx } σ2 H2) (hd:∀ σ H,Pv xs.length σ H->D.nx σ H):
  ∃ W:Nat->Nat->St->Hp->Prop,(∃ m,W 0 m σ H)/\∀ i m σ H,W i m σ H->
   ((Itt K a).stop i H/\D.nx σ H)\/((Itt K a).go i H/\∃ N:St->Hp->Prop,(∀ σ' H',N σ' H' -> ∃ m',m'<m/\W (i+1) m' σ' H')/\∀ x H',(Itt K a).yld i H x H' -> g x σ H' fun σ2 H2=>tb { D with nx:=N,ct:=N,bk:=D.nx } σ2 H2):=by
 refine ⟨λi m σ H=>m=xs.length-i/\i<=xs.length/\Pv i σ H,⟨xs.length,by simp,Nat.zero_le _,h0⟩,?_⟩
 rintro i m σ H ⟨rfl,hi,p⟩
 have q:=hl i σ H hi p
 by_cases hlt:i<xs.length
 ·refine .inr ⟨⟨xs,xs[i],q,by simp[hlt]⟩,Pv (i+1),fun σ' H' p' => ⟨xs.length-(i+1),by omega,rfl,hlt,p'⟩,λx H' y=>?_⟩
  obtain ⟨e,y⟩:=y
  subst e
  exact hs i x σ _ (y xs q) p
 ·have e:i=xs.length:=by omega
  subst e
  exact .inl ⟨⟨xs,q,Nat.le_refl _⟩,hd σ H p⟩
theorem JZ {lo:Int}{n:Nat}{g:TG}{tb:TS}{D:Ends}{σ:St}{H:Hp}(Pv:Nat->St->Hp->Prop)(h0:Pv 0 σ H)
  (hs:∀ i σ H,i<n->Pv i σ H->g (.int (lo+i)) σ H fun σ2 H2=>tb { D with nx:=Pv (i+1),ct:=Pv (i+1),bk:=D.nx } σ2 H2) (hd:∀ σ H,Pv n σ H->D.nx σ H):
  ∃ W:Nat->Nat->St->Hp->Prop,(∃ m,W 0 m σ H)/\∀ i m σ H,W i m σ H->
   ((Itr lo n).stop i H/\D.nx σ H)\/((Itr lo n).go i H/\∃ N:St->Hp->Prop,(∀ σ' H',N σ' H' -> ∃ m',m'<m/\W (i+1) m' σ' H')/\∀ x H',(Itr lo n).yld i H x H' -> g x σ H' fun σ2 H2=>tb { D with nx:=N,ct:=N,bk:=D.nx } σ2 H2):=by
 refine ⟨λi m σ H=>m=n-i/\i<=n/\Pv i σ H,⟨n,by simp,Nat.zero_le _,h0⟩,?_⟩
 rintro i m σ H ⟨rfl,hi,p⟩
 by_cases hlt:i<n
 ·refine .inr ⟨hlt,Pv (i+1),fun σ' H' p' => ⟨n-(i+1),by omega,rfl,hlt,p'⟩,λx H' y=>?_⟩
  obtain ⟨e,y⟩:=y
  subst e y
  exact hs i σ _ hlt p
 ·have e:i=n:=by omega
  subst e
  exact .inl ⟨Nat.le_refl _,hd σ H p⟩
theorem zbq {c:TT}{tb:TS}{D:Ends}{σ:St}{H:Hp}(Pv:St->Hp->Prop)(μ:St->Hp->Nat)(h0:Pv σ H)
  (hs:∀ σ H,Pv σ H->c σ H λb H1=>if b=true then tb { D with nx:=fun σ' H' => Pv σ' H' /\ μ σ' H'<μ σ H,ct:=fun σ' H' => Pv σ' H' /\ μ σ' H'<μ σ H,bk:=D.nx } σ H1 else D.nx σ H1)
  (mono:∀ σ H Q Q',(∀ b H1,Q b H1->Q' b H1)->c σ H Q->c σ H Q'):zi9 c tb D σ H:=by
 refine ⟨λm σ H=>m=μ σ H/\Pv σ H,⟨_,rfl,h0⟩,?_⟩
 rintro m σ H ⟨rfl,p⟩
 refine mono σ H _ _ (λb H1 q=>?_) (hs σ H p)
 cases b with
 | true=>exact ⟨_,fun σ' H' ⟨p',l⟩=>⟨_,l,rfl,p'⟩,q⟩
 | false=>exact q
end L2
namespace L2
open PySem PySem.Spec PyProof.Rows
abbrev R2:=V->V->Hp->VK->Prop
def OpR (X:Cx)(f:Value->Value->Sem Value)(r:R2):Prop:=
 ∀ (pins:List (Addr×Obj)) (s:Shared) (σ:St) (H:Hp) (x y:V) (v u:Value) (Q:VK),Inv X pins σ H s->RelV x v->RelV y u->r x y H Q->
  wpAny (model X.prog X.w) X.A (f v u) (EP X pins σ Q) X.xe s
def UnR (X:Cx)(f:Value->Sem Value)(r:V->Hp->VK->Prop):Prop:=
 ∀ (pins:List (Addr×Obj)) (s:Shared) (σ:St) (H:Hp) (x:V) (v:Value) (Q:VK),Inv X pins σ H s->RelV x v->r x H Q->
  wpAny (model X.prog X.w) X.A (f v) (EP X pins σ Q) X.xe s
def Ut (X:Cx)(f:Value)(r:List V->Hp->VK->Prop):Prop:=
 ∀ (pins:List (Addr×Obj)) (s:Shared) (σ:St) (H:Hp) (xs:List V) (us:List Value) (Q:VK),Inv X pins σ H s->Vals xs us->r xs H Q->
  wpAny (model X.prog X.w) X.A (call f us) (EP X pins σ Q) X.xe s
def tOp (r:R2)(ta tb:TE):TE:=fun σ H Q=>ta σ H λx H1=>tb σ H1 λy H2=>r x y H2 Q
def tUn (r:V->Hp->VK->Prop)(ta:TE):TE:=fun σ H Q=>ta σ H λx H1=>r x H1 Q
def rI (C:Int->Int->Prop)(g:Int->Int->V):R2:=λx y H Q=>∃ i j,x = .int i/\y = .int j/\C i j/\Q (g i j) H
def rI0 (g:Int->Int->V):R2:=λx y H Q=>∃ i j,x = .int i/\y = .int j/\Q (g i j) H
def rU (g:Int->V):V->Hp->VK->Prop:=λx H Q=>∃ i,x = .int i/\Q (g i) H
section
variable {X:Cx}{a b c:Expr}{ta tb tc:TE}{pos:Pos}
theorem zoa (ha:PE X a ta)(hb:PE X b tb){pins:List (Addr×Obj)}{s:Shared}{σ:St}{H:Hp}{R:V->V->Hp->Prop}(I:Inv X pins σ H s)
  (h:ta σ H λx H1=>tb σ H1 λy H2=>R x y H2) {Q:Value->Shared->Prop}{f:Value->Value->Sem Value}
  (hf:∀ v u s2 x y H2,Inv X pins σ H2 s2->RelV x v->RelV y u->R x y H2->wpAny (model X.prog X.w) X.A (f v u) Q X.xe s2):
  wpAny (model X.prog X.w) X.A (eval a X.env) (λv s₁=>wpAny (model X.prog X.w) X.A (eval b X.env) (λu s₂=>wpAny (model X.prog X.w) X.A (f v u) Q X.xe s₂) X.xe s₁) X.xe s:=by
 refine thn (ha pins s σ H _ I h) λv s1 ⟨x,H1,I1,r1,q1⟩=>?_
 refine thn (hb pins s1 σ H1 _ I1 q1) λu s2 ⟨y,H2,I2,r2,q2⟩=>?_
 exact hf v u s2 x y H2 I2 r1 r2 q2
theorem Zw {op:Operator}{r:R2}(ho:OpR X (binaryOp op) r)(ha:PE X a ta)(hb:PE X b tb):PE X (.BinOp a op b pos) (tOp r ta tb):=by
 intro pins s σ H Q I h
 exact wpAny_BinOp (zoa ha hb I h λv u s2 x y H2 I2 rx ry q=>ho pins s2 σ H2 x y v u Q I2 rx ry q)
theorem zkk {op:UnaryOp}{r:V->Hp->VK->Prop}(ho:UnR X (unaryOp op) r)(ha:PE X a ta):PE X (.UnaryOp op a pos) (tUn r ta):=by
 intro pins s σ H Q I h
 exact UnaryOp_ (thn (ha pins s σ H _ I h) λv s1 ⟨x,H1,I1,r1,q1⟩=>ho pins s1 σ H1 x v Q I1 r1 q1)
theorem opI {f:Value->Value->Sem Value}{C:Int->Int->Prop}{g:Int->Int->Int}
  (rule:∀ (i j:Int) (t u:Tok) (s:Shared) (Q:Value->Shared->Prop) (E:Value->Shared->Prop),C i j->Q (.int (g i j) s.toks) { s with toks:=s.toks+1 }->wpAny (model X.prog X.w) X.A (f (.int i t) (.int j u)) Q E s):
  OpR X f (rI C λi j=>.int (g i j)):=by
 intro pins s σ H x y v u Q I rx ry h
 obtain ⟨i,j,rfl,rfl,hc,q⟩:=h
 obtain ⟨t,rfl⟩:=rx
 obtain ⟨t',rfl⟩:=ry
 exact rule i j t t' s _ _ hc ⟨.int (g i j),H,I.tok _,⟨_,rfl⟩,q⟩
theorem zoK {f:Value->Value->Sem Value}{g:Int->Int->Int}
  (rule:∀ (i j:Int) (t u:Tok) (s:Shared) (Q:Value->Shared->Prop) (E:Value->Shared->Prop),Q (.int (g i j) s.toks) { s with toks:=s.toks+1 }->wpAny (model X.prog X.w) X.A (f (.int i t) (.int j u)) Q E s):
  OpR X f (rI0 λi j=>.int (g i j)):=by
 intro pins s σ H x y v u Q I rx ry h
 obtain ⟨i,j,rfl,rfl,q⟩:=h
 obtain ⟨t,rfl⟩:=rx
 obtain ⟨t',rfl⟩:=ry
 exact rule i j t t' s _ _ ⟨.int (g i j),H,I.tok _,⟨_,rfl⟩,q⟩
theorem zou {f:Value->Value->Sem Value}{g:Int->Int->Bool}
  (rule:∀ (i j:Int) (t u:Tok) (s:Shared) (Q:Value->Shared->Prop) (E:Value->Shared->Prop),Q (.bool (g i j)) s->wpAny (model X.prog X.w) X.A (f (.int i t) (.int j u)) Q E s):
  OpR X f (rI0 λi j=>.bl (g i j)):=by
 intro pins s σ H x y v u Q I rx ry h
 obtain ⟨i,j,rfl,rfl,q⟩:=h
 obtain ⟨t,rfl⟩:=rx
 obtain ⟨t',rfl⟩:=ry
 exact rule i j t t' s _ _ ⟨.bl (g i j),H,I,rfl,q⟩
def ziw (i j:Int):Prop:=0<=j/\j<=1000000/\i.natAbs<2 ^ 64
theorem W6:OpR X (binaryOp .Add) (rI0 λi j=>.int (i+j)):=zoK λ_ _ _ _ _ _ _ q=>add_int q
theorem Ja:OpR X (binaryOp .Sub) (rI0 λi j=>.int (i-j)):=zoK λ_ _ _ _ _ _ _ q=>sub_int q
theorem Z0:OpR X (binaryOp .Mod) (rI (λ_ j=>0<j) λi j=>.int (i % j)):=opI λi j _ _ _ _ _ hc q=>by
 have h1:(0:Int)<j:=hc
 exact mod_int' (by omega) (by rw[Int.fmod_eq_emod_of_nonneg i (by omega)];exact q)
theorem za4:OpR X (binaryOp .Pow) (rI ziw λi j=>.int (i ^ j.toNat)):=opI λ_ _ _ _ _ _ _ hc q=>pow_int_small hc.1 hc.2.1 hc.2.2 q
theorem unI {f:Value->Sem Value}{g:Int->Int}
  (rule:∀ (i:Int) (t:Tok) (s:Shared) (Q:Value->Shared->Prop) (E:Value->Shared->Prop),Q (.int (g i) s.toks) { s with toks:=s.toks+1 }->wpAny (model X.prog X.w) X.A (f (.int i t)) Q E s):
  UnR X f (rU λi=>.int (g i)):=by
 intro pins s σ H x v Q I rx h
 obtain ⟨i,rfl,q⟩:=h
 obtain ⟨t,rfl⟩:=rx
 exact rule i t s _ _ ⟨.int (g i),H,I.tok _,⟨_,rfl⟩,q⟩
theorem zgc:UnR X (unaryOp .USub) (rU λi=>.int (-i)):=unI λ_ _ _ _ _ q=>neg_int q
end
def zoR:V->V->Bool
 | .non,.non=>true | .non,.int _=>true | .int _,.non=>true | .non,.bl _=>true | .bl _,.non=>true | .non,.str _=>true | .str _,.non=>true
 | .int _,.int _=>true | .bl _,.bl _=>true | .str _,.str _=>true | .byt _,.byt _=>true
 | .int _,.str _=>true | .str _,.int _=>true | .bl _,.str _=>true | .str _,.bl _=>true
 | _,_=>false
def rEq:R2:=λx y H Q=>zoR x y=true/\Q (.bl (decide (x=y))) H
def rNe:R2:=λx y H Q=>zoR x y=true/\Q (.bl (!decide (x=y))) H
theorem zf9 {i j:Int}:decide (V.int i=V.int j)=(i==j):=by
 rw[Bool.eq_iff_iff]
 simp
theorem zjb {i j:Bool}:decide (V.bl i=V.bl j)=(i==j):=by
 rw[Bool.eq_iff_iff]
 simp
theorem zgQ {i j:Str}:decide (V.str i=V.str j)=(i==j):=by
 rw[Bool.eq_iff_iff]
 simp
theorem zgS {i j:Array UInt8}:decide (V.byt i=V.byt j)=(i.toList==j.toList):=by
 rw[Bool.eq_iff_iff]
 cases i
 cases j
 simp
section
variable {X:Cx}{a b c:Expr}{ta tb tc:TE}{pos:Pos}
theorem Yj {pins:List (Addr×Obj)}{σ:St}{H:Hp}{s:Shared}{Q:VK}{k k' : Bool}(I:Inv X pins σ H s)(q:Q (.bl k) H)(e:k=k'):EP X pins σ Q (.bool k') s:=by
 subst e
 exact ⟨.bl k,H,I,rfl,q⟩
theorem X7:OpR X (compareOp .Eq) rEq:=by
 intro pins s σ H x y v u Q I rx ry h
 obtain ⟨hs,q⟩:=h
 cases x with
 | non=>
  cases rx
  cases y with
  | non=>cases ry;exact PySem.EqNone.eq_none_none (Yj I q (by simp))
  | bl j=>cases ry;exact PySem.EqNone.eq_none_bool (Yj I q (by simp))
  | int j=>obtain ⟨t',rfl⟩:=ry;exact PySem.EqNone.eq_none_int (Yj I q (by simp))
  | str j=>obtain ⟨t',rfl⟩:=ry;exact PySem.EqNone.eq_none_str (Yj I q (by simp))
  | _=>exact absurd (show false=true from hs) Bool.false_ne_true
 | bl i=>
  cases rx
  cases y with
  | non=>cases ry;exact PySem.EqNone.eq_bool_none (Yj I q (by simp))
  | bl j=>cases ry;exact eq_bool (Yj I q zjb)
  | str j=>obtain ⟨t',rfl⟩:=ry;exact PySem.EqMixed.eq_bool_str (Yj I q (by simp))
  | _=>exact absurd (show false=true from hs) Bool.false_ne_true
 | int i=>
  obtain ⟨t,rfl⟩:=rx
  cases y with
  | non=>cases ry;exact PySem.EqNone.eq_int_none (Yj I q (by simp))
  | int j=>obtain ⟨t',rfl⟩:=ry;exact eq_int (Yj I q zf9)
  | str j=>obtain ⟨t',rfl⟩:=ry;exact PySem.EqMixed.eq_int_str (Yj I q (by simp))
  | _=>exact absurd (show false=true from hs) Bool.false_ne_true
 | str i=>
  obtain ⟨t,rfl⟩:=rx
  cases y with
  | non=>cases ry;exact PySem.EqNone.eq_str_none (Yj I q (by simp))
  | bl j=>cases ry;exact PySem.EqMixed.eq_str_bool (Yj I q (by simp))
  | int j=>obtain ⟨t',rfl⟩:=ry;exact PySem.EqMixed.eq_str_int (Yj I q (by simp))
  | str j=>obtain ⟨t',rfl⟩:=ry;exact eq_str (Yj I q zgQ)
  | _=>exact absurd (show false=true from hs) Bool.false_ne_true
 | byt i=>
  obtain ⟨t,rfl⟩:=rx
  cases y with
  | byt j=>obtain ⟨t',rfl⟩:=ry;exact PySem.W.eq_bytes (Yj I q zgS)
  | _=>exact absurd (show false=true from hs) Bool.false_ne_true
 | _=>cases y <;> exact absurd (show false=true from hs) Bool.false_ne_true
theorem ziP:OpR X (compareOp .NotEq) rNe:=by
 intro pins s σ H x y v u Q I rx ry h
 obtain ⟨hs,q⟩:=h
 cases x with
 | non=>
  cases rx
  cases y with
  | non=>cases ry;exact PySem.EqNone.ne_none_none (Yj I q (by simp))
  | bl j=>cases ry;exact PySem.EqNone.ne_none_bool (Yj I q (by simp))
  | int j=>obtain ⟨t',rfl⟩:=ry;exact PySem.EqNone.ne_none_int (Yj I q (by simp))
  | str j=>obtain ⟨t',rfl⟩:=ry;exact PySem.EqNone.ne_none_str (Yj I q (by simp))
  | _=>exact absurd (show false=true from hs) Bool.false_ne_true
 | bl i=>
  cases rx
  cases y with
  | non=>cases ry;exact PySem.EqNone.ne_bool_none (Yj I q (by simp))
  | bl j=>cases ry;exact ne_bool (Yj I q (congrArg not zjb))
  | str j=>obtain ⟨t',rfl⟩:=ry;exact PySem.EqMixed.ne_bool_str (Yj I q (by simp))
  | _=>exact absurd (show false=true from hs) Bool.false_ne_true
 | int i=>
  obtain ⟨t,rfl⟩:=rx
  cases y with
  | non=>cases ry;exact PySem.EqNone.ne_int_none (Yj I q (by simp))
  | int j=>obtain ⟨t',rfl⟩:=ry;exact ne_int (Yj I q (congrArg not zf9))
  | str j=>obtain ⟨t',rfl⟩:=ry;exact PySem.EqMixed.ne_int_str (Yj I q (by simp))
  | _=>exact absurd (show false=true from hs) Bool.false_ne_true
 | str i=>
  obtain ⟨t,rfl⟩:=rx
  cases y with
  | non=>cases ry;exact PySem.EqNone.ne_str_none (Yj I q (by simp))
  | bl j=>cases ry;exact PySem.EqMixed.ne_str_bool (Yj I q (by simp))
  | int j=>obtain ⟨t',rfl⟩:=ry;exact PySem.EqMixed.ne_str_int (Yj I q (by simp))
  | str j=>obtain ⟨t',rfl⟩:=ry;exact ne_str (Yj I q (congrArg not zgQ))
  | _=>exact absurd (show false=true from hs) Bool.false_ne_true
 | byt i=>
  obtain ⟨t,rfl⟩:=rx
  cases y with
  | byt j=>obtain ⟨t',rfl⟩:=ry;exact PySem.W.ne_bytes (Yj I q (congrArg not zgS))
  | _=>exact absurd (show false=true from hs) Bool.false_ne_true
 | _=>cases y <;> exact absurd (show false=true from hs) Bool.false_ne_true
theorem V3:OpR X (compareOp .Lt) (rI0 λi j=>.bl (decide (i<j))):=zou λ_ _ _ _ _ _ _ q=>lt_int q
theorem zoc:OpR X (compareOp .LtE) (rI0 λi j=>.bl (decide (i<=j))):=zou λ_ _ _ _ _ _ _ q=>le_int q
theorem zm6:OpR X (compareOp .Gt) (rI0 λi j=>.bl (decide (j<i))):=zou λ_ _ _ _ _ _ _ q=>gt_int q
theorem zjk:OpR X (compareOp .Is) (λx y H Q=>y = .non/\Q (.bl (decide (x = .non))) H):=by
 intro pins s σ H x y v u Q I rx ry h
 obtain ⟨rfl,q⟩:=h
 cases ry
 refine is_none_gen (Yj I q ?_)
 cases x <;> first
  | (cases rx;rfl)
  | (obtain ⟨t,rfl⟩:=rx;rfl)
theorem zk2:OpR X (compareOp .IsNot) (λx y H Q=>y = .non/\Q (.bl (!decide (x = .non))) H):=by
 intro pins s σ H x y v u Q I rx ry h
 obtain ⟨rfl,q⟩:=h
 cases ry
 refine isnot_none_gen (Yj I q ?_)
 cases x <;> first
  | (cases rx;rfl)
  | (obtain ⟨t,rfl⟩:=rx;rfl)
theorem ZR (b:Expr){op:CmpOp}(h:op≠.In:=by decide) (h2:op≠.NotIn:=by decide):behindInMarks op b=false:=by
 have e1:(op==CmpOp.In)=false:=by cases op <;> first | rfl | exact absurd rfl h
 have e2:(op==CmpOp.NotIn)=false:=by cases op <;> first | rfl | exact absurd rfl h2
 cases b <;> simp[behindInMarks,e1,e2]
theorem Vj {op:CmpOp}{r:R2}(ho:OpR X (compareOp op) r)(ha:PE X a ta)(hb:PE X b tb)(hm:behindInMarks op b=false):PE X (.Compare a [op] [b] pos) (tOp r ta tb):=by
 intro pins s σ H Q I h
 exact wpAny_Compare1 (zoa ha hb I h λv u s2 x y H2 I2 rx ry q=>ho pins s2 σ H2 x y v u Q I2 rx ry q) hm
def zhy (t:TE):TT:=fun σ H Q=>t σ H λx H' => ∃ k,x = .bl k/\Q k H'
theorem ZF {op:CmpOp}{r:R2}(ho:OpR X (compareOp op) r)(ha:PE X a ta)(hb:PE X b tb)(hm:behindInMarks op b=false):PT X (.Compare a [op] [b] pos) (zhy (tOp r ta tb)):=by
 intro pins s σ H Q I h
 refine wpAny_isTrue_Compare1 (thn (ha pins s σ H _ I h) λv s1 ⟨x,H1,I1,r1,q1⟩=>thn (hb pins s1 σ H1 _ I1 q1) λu s2 ⟨y,H2,I2,r2,q2⟩=>
  thn (ho pins s2 σ H2 x y v u _ I2 r1 r2 q2) λc s3 ⟨z,H3,I3,r3,k,e,q3⟩=>?_) hm
 subst e
 cases r3
 exact wpAny_truthy_bool ⟨H3,I3,q3⟩
theorem zc1:(sizeLine:Nat)<2 ^ 63:=by rw[sizeLine_eq];decide
theorem Vu:OpR X (binaryOp .Add) (λx y H Q=>∃ i j,x = .str i/\y = .str j/\i.length+j.length<=sizeLine/\Q (.str (i++j)) H):=by
 intro pins s σ H x y v u Q I rx ry h
 obtain ⟨i,j,rfl,rfl,hz,q⟩:=h
 obtain ⟨t,rfl⟩:=rx
 obtain ⟨t',rfl⟩:=ry
 exact add_str (λt' tk=>⟨.str (i++j),H,I.tok _,⟨_,rfl⟩,q⟩) hz
theorem vals1 {x:V}{us:List Value}(r:Vals [x] us):∃ u,us=[u]/\RelV x u:=by
 cases r with
 | cons r1 r2=>cases r2;exact ⟨_,rfl,r1⟩
theorem vals2 {x y:V}{us:List Value}(r:Vals [x,y] us):∃ u w',us=[u,w']/\RelV x u/\RelV y w' := by
 cases r with
 | cons r1 r2=>
  cases r2 with
  | cons r3 r4=>cases r4;exact ⟨_,_,rfl,r1,r3⟩
end
end L2
namespace L2
open PySem PySem.Spec PyProof.Rows
structure zoq (h:Heap)(x dx C:Addr)(mA:Str->Option Value):Prop where
 obj:h.get? x=some (PySem.W.instObj C dx)
 ns:h.Ns1 dx mA
 ne:dx≠x
theorem zgJ {h:Heap}{dx:Addr}{mA:Str->Option Value}(n:h.Ns1 dx mA):∃ od,h.get? dx=some od/\∀ name,PySem.W.lookIn name od=some (mA name):=by
 obtain ⟨o,es,ep,ho,hd,hk,_,hm⟩:=n
 refine ⟨o,ho,λname=>?_⟩
 have e:=hm name
 unfold nsFind findBy at e
 rw[← Array.find?_toList] at e
 unfold PySem.W.lookIn
 rw[hd]
 dsimp only
 split
 ·rename_i y q
  rw[q] at e
  exact congrArg some e
 ·rename_i q
  rw[q] at e
  have a:es.toList.any (·.refKey)=false:=by
   rw[List.any_eq_false]
   intro y hy
   obtain ⟨z,t,hkey⟩:=hk y (Array.mem_toList_iff.mp hy)
   simp[DictEntry.refKey,hkey]
  have a' : ¬ es.toList.any (·.refKey)=true:=by rw[a];exact Bool.false_ne_true
  rw[if_neg a']
  exact congrArg some e
theorem zoq.look {h:Heap}{x dx C:Addr}{mA:Str->Option Value}(I:zoq h x dx C mA):∃ od,PySem.W.InstAt h x (PySem.W.instObj C dx) C (some od)/\∀ name,PySem.W.lookIn name od=some (mA name):=
 let ⟨od,ho,hl⟩:=zgJ I.ns
 ⟨od,⟨I.obj,rfl,rfl,ho⟩,hl⟩
section
variable {prog:Program}{w:World}{A:Around}{E:Value->Shared->Prop}{s:Shared}{K:PySem.W.Frag}{x dx C f:Addr}{mA:Str->Option Value}{name:Str}{v:Value}
end
section
variable {P:Program}{w:World}{H H' : Hp}{h h' : Heap}{a C dx:Addr}{fs fs' : List (Str×V)}
theorem zj6 (hok:HOk P w H h)(e:H a=some (.ins C dx fs)):∃ mA,zoq h a dx C mA/\(∀ f,znZ (fs.lookup f) (mA f))/\PySem.Within mA (fs.map (·.1))/\fs.length<=1000/\H dx=some (.own a):=by
 obtain ⟨d,z,ne,ob,mA,n,r,q⟩:=(show YJ P w H h a (.ins C dx fs) from hok a _ e)
 exact ⟨mA,⟨ob,n,ne⟩,r,q,z,d⟩
end
structure Cls (K:PySem.W.Frag)(C:Addr):Prop where
 pg:PySem.W.plainGet K C Str.empty=true
 hd:PySem.W.hasDictIn K C=true
 po:PySem.W.plainOver K C=true
 sa:PySem.W.findIn K (.ref C) "__setattr__" = some (some (.builtin "object.__setattr__"))
theorem Cls.get {K:PySem.W.Frag}{C:Addr}(c:Cls K C)(f:Str):PySem.W.plainGet K C f=true:=c.pg
section
variable {X:Cx}{pins:List (Addr×Obj)}{σ:St}{H:Hp}{s:Shared}{a C dx:Addr}{fs:List (Str×V)}{f:Str}{v:V}{A:Around}{E:Value->Shared->Prop}
end
section
variable {X:Cx}{o e value:Expr}{f:Str}{pos pos' tpos:Pos}{ta tv:TE}
end
section
variable {X:Cx}{pins:List (Addr×Obj)}{σ:St}{H:Hp}{s:Shared}{A:Around}{E:Value->Shared->Prop}{Q:Value->Shared->Prop}{c:Value}{b:Bool}
inductive zfQ (K:PySem.W.Frag) (H:Hp):V->Value->Prop where
 | non:zfQ K H .non (.type "NoneType")
 | bl (x:Bool):zfQ K H (.bl x) (.type "bool")
 | int (i:Int):zfQ K H (.int i) (.type "int")
 | str (x:Str):zfQ K H (.str x) (.type "str")
 | flt (x:UInt64):zfQ K H (.flt x) (.type "float")
 | lst {a:Addr}{xs:List V}(e:H a=some (.lst xs)):zfQ K H (.ref a) (.type "list")
 | frz {a:Addr}{o:Obj}{xs:List V}(e:H a=some (.frz o (.lst xs))):zfQ K H (.ref a) (.type "list")
 | tup {a:Addr}{xs:List V}(e:H a=some (.tup xs)):zfQ K H (.ref a) (.type "tuple")
 | dK {a:Addr}{kvs:List (Key×V)}(e:H a=some (.dK kvs)):zfQ K H (.ref a) (.type "dict")
 | dT {a:Addr}{kvs:List (List Key×V)}(e:H a=some (.dT kvs)):zfQ K H (.ref a) (.type "dict")
 | ins {a C dx:Addr}{fs:List (Str×V)}(e:H a=some (.ins C dx fs)) (cl:Cls K C) (ha:PySem.W.findIn K (.ref C) "__class__" = some (some (.builtin "object.__class__")))
   (hn:PySem.W.specialIn K (.builtin "object.__class__") "__get__" = some (some (.builtin "getset_descriptor.__get__"))) (htk:PySem.W.takesIn K (.builtin "object.__class__")=some true)
   (hm:PySem.W.mroIn K C (.type "object")=some true):zfQ K H (.ref a) (.ref C)
theorem Q4 {x:V}{u t:Value}(I:Inv X pins σ H s)(rx:RelV x u)(ty:zfQ X.K H x t)(e:PySem.W.kitOne X.K t c=some b)(h:∀ tk,Q (.bool b) { s with toks:=tk }):
  wpAny (model X.prog X.w) A (call (.builtin "isinstance") [u,c]) Q E s:=by
 cases ty with
 | non=>cases (show u=Value.none from rx);exact PySem.W.kia_one PySem.W.kitx_none I.kIn True.intro e (λz=>nomatch z) h
 | bl y=>cases (show u=Value.bool y from rx);exact PySem.W.kia_one PySem.W.kitx_bool I.kIn True.intro e (λz=>nomatch z) h
 | int i=>obtain ⟨t,q⟩:=(show ∃ t,u=Value.int i t from rx);cases q;exact PySem.W.kia_one PySem.W.kitx_int I.kIn True.intro e (λz=>nomatch z) h
 | str y=>obtain ⟨t,q⟩:=(show ∃ t,u=Value.str y t from rx);cases q;exact PySem.W.kia_one PySem.W.kitx_str I.kIn True.intro e (λz=>nomatch z) h
 | flt y=>obtain ⟨t,q⟩:=(show ∃ t,u=Value.float y t from rx);cases q;exact PySem.W.kia_one PySem.W.kitx_float I.kIn True.intro e (λz=>nomatch z) h
 | @lst a xs ea=>
  cases (show u=Value.ref a from rx)
  obtain ⟨_,_,n,_,h1⟩:=(show YJ X.prog X.w H s.heap a (.lst xs) from I.hok a _ ea)
  exact PySem.W.kia_one PySem.W.kitx_list I.kIn ⟨_,h1,rfl⟩ e (λz=>nomatch z) h
 | @frz a ob xs ea=>
  cases (show u=Value.ref a from rx)
  obtain ⟨_,_,_,n,_,h1⟩:=(show YJ X.prog X.w H s.heap a (.frz ob (.lst xs)) from I.hok a _ ea)
  exact PySem.W.kia_one PySem.W.kitx_list I.kIn ⟨_,h1,rfl⟩ e (λz=>nomatch z) h
 | @tup a xs ea=>
  cases (show u=Value.ref a from rx)
  obtain ⟨_,_,_,p,_⟩:=(show YJ X.prog X.w H s.heap a (.tup xs) from I.hok a _ ea)
  obtain ⟨o,h1,h2,_⟩:=p
  exact PySem.W.kia_one PySem.W.kitx_tuple I.kIn ⟨o,h1,h2⟩ e (λz=>nomatch z) h
 | @dK a kvs ea=>
  cases (show u=Value.ref a from rx)
  obtain ⟨_,_,vs,_,p⟩:=(show YJ X.prog X.w H s.heap a (.dK kvs) from I.hok a _ ea)
  obtain ⟨o,es,ep,h1,h2,_⟩:=p
  exact PySem.W.kia_one PySem.W.kitx_dict I.kIn ⟨o,h1,h2.1⟩ e (λz=>nomatch z) h
 | @dT a kvs ea=>
  cases (show u=Value.ref a from rx)
  obtain ⟨_,_,xs,_,o,es,ep,h1,h2,_⟩:=(show YJ X.prog X.w H s.heap a (.dT kvs) from I.hok a _ ea)
  exact PySem.W.kia_one PySem.W.kitx_dict I.kIn ⟨o,h1,h2.1⟩ e (λz=>nomatch z) h
 | @ins a C dx fs ea cl ha hn htk hm=>
  cases (show u=Value.ref a from rx)
  obtain ⟨mA,O,_⟩:=zj6 I.hok ea
  obtain ⟨od,J,_⟩:=O.look
  exact PySem.W.kia_one (PySem.W.kitx_own (cl.get _) cl.hd ha hn htk hm) I.kIn J e (λz=>nomatch z) h
end
end L2
namespace L2
open PySem PySem.Spec PyProof.Rows
structure Wx (k:Nat)(A:Around):Prop where
 hd:A.handled=none
 dp:A.depth+3*k+5<recursionLimit
 un:A.units+16*k+200<cLine
theorem Wx.mono {j k:Nat}{A:Around}(r:Wx k A)(h:j<=k):Wx j A:=⟨r.hd,by have:=r.dp;omega,by have:=r.un;omega⟩
theorem Wx.deeper {k:Nat}{A:Around}(r:Wx (k+1) A)(env:Env):Wx k (A.deeper env):=
 ⟨r.hd,by have:=r.dp;show A.depth+1+3*k+5<_;omega,by have:=r.un;show A.units+3+16*k+200<_;omega⟩
theorem Wx.in1 {k:Nat}{A:Around}(r:Wx (k+1) A):Wx k A.in1:=
 ⟨r.hd,by have:=r.dp;show A.depth+3*k+5<_;omega,by have:=r.un;show A.units+1+16*k+200<_;omega⟩
theorem Wx.depth {k:Nat}{A:Around}(r:Wx k A):A.depth<recursionLimit:=by have:=r.dp;omega
theorem Wx.units {k:Nat}{A:Around}(r:Wx k A):A.units+64<cLine:=by have:=r.un;omega
def JH:TA:=λ_ H Q=>Q [] H
def ZS (ta:TE)(tr:TA):TA:=fun σ H Q=>ta σ H λx H1=>tr σ H1 λxs H2=>Q (x::xs) H2
section
variable {X:Cx}{e:Expr}{es:List Expr}{te:TE}{t:TA}{pos:Pos}
theorem Zf:PA X [] JH:=λ_ _ _ _ H Q I h=>Calls.spliced_nil ⟨[],H,I,.nil,h⟩
theorem Za (ha:PE X e te)(hr:PA X es t)(hs:starEach (e::es) X.env=(false,eval e X.env)::starEach es X.env:=by rfl):PA X (e::es) (ZS te t):=by
 intro pos pins s σ H Q I h
 rw[hs]
 show wpAny _ _ (spliced ((false,eval e X.env)::backTo pos (starEach es X.env))) _ _ s
 refine Calls.spliced_cons (thn (ha pins s σ H _ I h) λu s1 ⟨x,H1,I1,r1,q1⟩=>?_)
 exact thn (hr pos pins s1 σ H1 _ I1 q1) λus s2 ⟨xs,H2,I2,r2,q2⟩=>⟨x::xs,H2,I2,.cons r1 r2,q2⟩
def zdn (t:TA):TE:=fun σ H Q=>t σ H λxs H1=>xs.length<=sizeLine/\∀ p,H1 p=none->Q (.ref p) (upd H1 p (.tup xs))
def zhK (t:TA):TE:=fun σ H Q=>t σ H λxs H1=>xs.length<=sizeLine/\∀ p,H1 p=none->Q (.ref p) (upd H1 p (.lst xs))
theorem Yg {x1}(h:PA X es t):PE X (.Tuple es x1 pos) (zdn t):=by
 intro pins s σ H Q I hq
 refine wpAny_Tuple_spliced (thn (h pos pins s σ H _ I hq) λus s1 ⟨xs,H1,I1,r,z,q⟩=>⟨by rw[← r.length];exact z,?_⟩)
 have hf:H1 s1.heap.objs.size=none:=I1.hok.fresh (Nat.le_refl _)
 refine ⟨.ref s1.heap.objs.size,upd H1 s1.heap.objs.size (.tup xs),I1.laid (t' := s1.toks) (λb u e=>Heap.get?_push_of_some _ e) (Nat.le_refl _) ?_,rfl,q _ hf⟩
 exact ⟨z,us,r,⟨_,Heap.get?_push_size _ rfl,rfl,_,rfl⟩,_,Heap.get?_push_size _ rfl,rfl⟩
theorem Xn (h:PA X es t):PE X (.List es pos) (zhK t):=by
 intro pins s σ H Q I hq
 refine wpAny_List_spliced (thn (h pos pins s σ H _ I hq) λus s1 ⟨xs,H1,I1,r,z,q⟩=>⟨by rw[← r.length];exact z,?_⟩)
 have hf:H1 s1.heap.objs.size=none:=I1.hok.fresh (Nat.le_refl _)
 refine ⟨.ref s1.heap.objs.size,upd H1 s1.heap.objs.size (.lst xs),I1.laid (t' := s1.toks) (λb u e=>Heap.get?_push_of_some _ e) (Nat.le_refl _) ?_,rfl,q _ hf⟩
 exact ⟨z,us,0,r,Heap.get?_push_size _ rfl⟩
end
abbrev Sp:=List V->Hp->VK->XK->Prop
abbrev CXT:=List Env->Hp->Shared->XK->Value->Shared->Prop
structure zfU (P:Program)(w:World)(K:PySem.W.Frag)(mg:Str->Option Value)(base:Heap)(A:Around)(outer:List Env)(s:Shared)(H:Hp):Prop where
 frames:A.frames=some outer
 mod:Mod K mg base
 bs:∀ b o,base.get? b=some o->s.heap.get? b=some o/\H b=none
 bsz:base.objs.size<=s.heap.objs.size
 zdu:s.heap.FunFrames base outer
 frf:∀ b∈frs outer,H b=none
 hok:HOk P w H s.heap
 bare:AllBare s.gens
def CE (outer:List Env)(P:Program)(w:World)(H:Hp)(s:Shared)(Q:VK)(u:Value)(s' : Shared):Prop:=
 ∃ v H',s'.os=s.os/\AllBare s'.gens/\Un (frs outer) [] H H' s.heap s'.heap/\HOk P w H' s'.heap/\RelV v u/\Q v H'
def CR (CX:CXT)(outer:List Env)(P:Program)(w:World)(H:Hp)(s:Shared)(Q:VK)(E:XK)(r:Result)(s' : Shared):Prop:=
 match r with
 | .ok (.ret u)=>CE outer P w H s Q u s'
 | .ok _=>False
 | .error e=>CX outer H s E e s'
structure Yi (P:Program)(w:World)(K:PySem.W.Frag)(mg:Str->Option Value)(base:Heap)(CX:CXT)(k:Nat)(f:Addr)(fd:FuncData)(ps:List Str)(sp:Sp):Prop where
 len:∀ vs H Q E,sp vs H Q E->vs.length=ps.length
 run:∀ (A:Around) (outer:List Env) (s:Shared) (H:Hp) (args:Args) (us:List Value) (vs:List V) (Q:VK) (E:XK),Wx k A->zfU P w K mg base A outer s H->BindsTo s fd args (ps.zip us)->Vals vs us->sp vs H Q E->
  codeAny (model P w) A (.call (.ref f) args) (CR CX outer P w H s Q E) s
theorem Yi.mono {P:Program}{w:World}{K:PySem.W.Frag}{mg:Str->Option Value}{base:Heap}{CX:CXT}{j k:Nat}{f:Addr}{fd:FuncData}{ps:List Str}{sp:Sp}(F:Yi P w K mg base CX j f fd ps sp)(h:j<=k):
  Yi P w K mg base CX k f fd ps sp:=⟨F.len,λA outer s H args us vs Q E hr=>F.run A outer s H args us vs Q E (hr.mono h)⟩
section
variable {X:Cx}{pins:List (Addr×Obj)}{σ:St}{H:Hp}{s s' : Shared}
theorem Inv.env0 (I:Inv X pins σ H s):zfU X.prog X.w X.K X.mg X.base X.A X.stack s H:=
 ⟨I.ok.frames,I.ok.mod,I.bs,Nat.le_trans I.ok.bsz I.sz,I.stack,I.zgY,I.hok,I.bare⟩
theorem Inv.after {Q:VK}{u:Value}(I:Inv X pins σ H s)(h:CE X.stack X.prog X.w H s Q u s'):EP X pins σ Q u s' := by
 obtain ⟨v,H',os,bare,un,hok,r,q⟩:=h
 obtain ⟨hh,g,d,t,os'⟩:=s'
 obtain rfl:os'=s.os:=os
 exact ⟨v,H',I.call (h' := hh) (g' := g) (d' := d) (t' := t) (ch:=[]) un hok bare (λb z=>absurd z (by simp)),r,q⟩
end
def V6 (sp:Sp)(dvs:List V)(E:XK)(t:TA):TE:=fun σ H Q=>t σ H λvs H1=>sp (vs++dvs) H1 Q E
def Binds (K:PySem.W.Frag)(fd:FuncData)(ps:List Str)(ds:List Value):Prop:=
 ∀ (s:Shared) (us:List Value),K.In s.heap->(us++ds).length=ps.length->BindsTo s fd ⟨us,[]⟩ (ps.zip (us++ds))
theorem Binds.all {K:PySem.W.Frag}{fd:FuncData}{ps:List Str}(h:∀ us:List Value,us.length=ps.length->bindArgs fd ⟨us,[]⟩=pure (ps.zip us)):Binds K fd ps []:=λs us _ hl=>by
 rw[List.append_nil] at hl ⊢
 exact .of_eq (h us hl)
def zgG (CX:CXT)(X:Cx)(E:XK):Prop:=∀ (pins:List (Addr×Obj)) (σ:St) (H:Hp) (s:Shared) (e:Value) (s' : Shared),Inv X pins σ H s->CX X.stack H s E e s' -> X.xe e s'
section
variable {X:Cx}{CX:CXT}{k:Nat}{f C:Addr}{fd:FuncData}{ps:List Str}{sp:Sp}{dvs:List V}{ds:List Value}{E:XK}{x m:Str}{p pos apos:Pos}{e o:Expr}{es:List Expr}{ta:TE}{t:TA}
theorem zmd {pins:List (Addr×Obj)}{σ:St}{H:Hp}{s:Shared}{Q:VK}{us:List Value}{vs:List V}(F:Yi X.prog X.w X.K X.mg X.base CX k f fd ps sp)(hr:Wx k X.A)(hb:Binds X.K fd ps ds)(hd:Vals dvs ds)(hx:zgG CX X E)
  (I:Inv X pins σ H s) (r:Vals vs us) (h:sp (vs++dvs) H Q E):wpAny (model X.prog X.w) X.A (call (.ref f) us) (EP X pins σ Q) X.xe s:=by
 have r2:Vals (vs++dvs) (us++ds):=r.append hd
 have hl:(us++ds).length=ps.length:=by rw[← r2.length];exact F.len _ _ _ _ h
 refine wpAny_call (codeAny_mono (F.run X.A X.stack s H ⟨us,[]⟩ (us++ds) (vs++dvs) Q E hr I.env0 (hb s us I.kIn hl) r2 h) λr s' hq=>?_)
 cases r with
 | error e=>exact hx pins σ H s e s' I hq
 | ok fl=>
  cases fl with
  | ret u=>exact I.after hq
  | next=>exact False.elim hq
  | brk=>exact False.elim hq
  | cont=>exact False.elim hq
theorem Zx (F:Yi X.prog X.w X.K X.mg X.base CX k f fd ps sp)(hr:Wx k X.A)(hg:Gl X x)(hm:X.mg x=some (.ref f))(hk:PySem.W.keepIn X.K (.ref f)=true)(hb:Binds X.K fd ps ds)(hd:Vals dvs ds)(hx:zgG CX X E)
  (ha:PA X (e::es) t) (hdb:(x==("__debug__" : Str))=false:=by decide) (he:starEach (e::es) X.env=(false,eval e X.env)::starEach es X.env:=by rfl) (hpl:(backTo pos (starEach es X.env)).any (·.1)=false:=by rfl):
  PE X (.Call (.Name x p) (e::es) [] pos) (V6 sp dvs E t):=by
 intro pins s σ H Q I h
 refine wpAny_Call_Name_kw (U6 I hg hm ?_ hdb)
 refine PySem.W.callWith_K (h₀:=X.base) I.ok.mod.kin hk (thn (ha pos pins s σ H _ I h) λus s1 ⟨vs,H1,I1,r,q⟩=>⟨I1.kIn,?_⟩) he hpl
 exact zmd F hr hb hd hx I1 r q
end
def PK (X:Cx)(kws:List Keyword)(t:TA):Prop:=
 ∀ (pos:Pos) (pins:List (Addr×Obj)) (s:Shared) (σ:St) (H:Hp) (Q:List V->Hp->Prop),Inv X pins σ H s->t σ H Q->wpAny (model X.prog X.w) X.A (evalAll ((backToKw pos (keywordEach kws X.env)).map (·.2))) (AP X pins σ Q) X.xe s
section
variable {X:Cx}{CX:CXT}{k:Nat}{f C:Addr}{fd:FuncData}{ps ks:List Str}{sp:Sp}{E:XK}{x m:Str}{p pos apos kpos:Pos}{e o:Expr}{es:List Expr}{kws:List Keyword}{te ta:TE}{t tk:TA}{nm:Option Str}
theorem znu:PK X [] JH:=λ_ _ _ _ H Q I h=>wpAny_evalAll_nil ⟨[],H,I,.nil,h⟩
theorem zkJ (ha:PE X e te)(hr:PK X kws t):PK X (⟨nm,e,kpos⟩::kws) (ZS te t):=by
 intro pos pins s σ H Q I h
 show wpAny _ _ (evalAll ((do let v ← eval e X.env;standAt pos;pure v)::(backToKw pos (keywordEach kws X.env)).map (·.2))) _ _ s
 refine wpAny_evalAll_cons (wpAny_bind (thn (ha pins s σ H _ I h) λu s1 ⟨x,H1,I1,r1,q1⟩=>wpAny_bind (wpAny_standAt (wpAny_pure ?_))))
 exact thn (hr pos pins s1 σ H1 _ I1 q1) λus s2 ⟨xs,H2,I2,r2,q2⟩=>⟨x::xs,H2,I2,.cons r1 r2,q2⟩
variable {g:List Value->List Value->List Value}{gV:List V->List V->List V}
end
structure ZM (N P:List Str)(sc:Scope):Prop where
 kind:sc.kind = .function
 co:sc.isCoroutine=false
 gen:sc.isGenerator=false
 nd:N.Nodup
 pre:N.take P.length=P
 par:∀ x∈P,sc.names.lookup x=some .local\/sc.names.lookup x=some .cell
 nofree:∀ y∈sc.names,y.2≠.free
theorem zde {kindOf:Str->Option NameKind}{x:Str}:∀ {binds:List (Str×Value)}{m:Str->Option Value},(∀ v,(x,v)∉binds)->bindL kindOf binds m x=m x
 | [],_,_=>rfl
 | (n,v)::r,m,h=>by
  unfold bindL
  rw[zde λw hw=>h w (List.mem_cons_of_mem _ hw)]
  split
  ·have:x≠n:=by rintro rfl;exact h v List.mem_cons_self
   simp[this]
  ·rfl
theorem zda {kindOf:Str->Option NameKind}{x:Str}:∀ {binds:List (Str×Value)}{m:Str->Option Value},(∀ v,(x,v)∉binds)->bindC kindOf binds m x=m x
 | [],_,_=>rfl
 | (n,v)::r,m,h=>by
  unfold bindC
  rw[zda λw hw=>h w (List.mem_cons_of_mem _ hw)]
  split
  ·rfl
  ·have:x≠n:=by rintro rfl;exact h v List.mem_cons_self
   simp[this]
theorem zaj {kindOf:Str->Option NameKind}{x:Str}{v:Value}:∀ {P:List Str}{vs:List Value}{i:Nat}{m:Str->Option Value},P.Nodup->P[i]?=some x->vs[i]?=some v->kindOf x=some .local->
  bindL kindOf (P.zip vs) m x=some v
 | [],_,_,_,_,h,_,_=>by simp at h
 | _::_,[],_,_,_,_,h,_=>by simp at h
 | p::P,w::vs,0,m,nd,h1,h2,hk=>by
  simp at h1 h2;subst h1;subst h2
  show bindL kindOf ((p,w)::P.zip vs) m p=_
  unfold bindL
  rw[zde λv hv=>(List.nodup_cons.mp nd).1 (List.of_mem_zip hv).1,if_pos hk]
  simp
 | p::P,w::vs,i+1,m,nd,h1,h2,hk=>by
  show bindL kindOf ((p,w)::P.zip vs) m x=_
  unfold bindL
  exact zaj (i:=i) (List.nodup_cons.mp nd).2 (by simpa using h1) (by simpa using h2) hk
theorem zaz {kindOf:Str->Option NameKind}{x:Str}{v:Value}:∀ {P:List Str}{vs:List Value}{i:Nat}{m:Str->Option Value},P.Nodup->P[i]?=some x->vs[i]?=some v->kindOf x≠some .local->
  bindC kindOf (P.zip vs) m x=some v
 | [],_,_,_,_,h,_,_=>by simp at h
 | _::_,[],_,_,_,_,h,_=>by simp at h
 | p::P,w::vs,0,m,nd,h1,h2,hk=>by
  simp at h1 h2;subst h1;subst h2
  show bindC kindOf ((p,w)::P.zip vs) m p=_
  unfold bindC
  rw[zda λv hv=>(List.nodup_cons.mp nd).1 (List.of_mem_zip hv).1,if_neg hk]
  simp
 | p::P,w::vs,i+1,m,nd,h1,h2,hk=>by
  show bindC kindOf ((p,w)::P.zip vs) m x=_
  unfold bindC
  exact zaz (i:=i) (List.nodup_cons.mp nd).2 (by simpa using h1) (by simpa using h2) hk
def start (N:List Str)(vs:List V):St:=vs.map some++List.replicate (N.length-vs.length) none
def zfR (CX:CXT)(P:Program)(w:World)(K:PySem.W.Frag)(mg:Str->Option Value)(base:Heap)(N:List Str)(qual:Str)(scope:Scope)(f:Addr)(cd:Value)(A:Around)(outer:List Env)(s:Shared)(H:Hp)(E:XK):Cx where
 prog:=P
 w:=w
 K:=K
 mg:=mg
 base:=base
 A:=A.deeper (envOfC qual scope s.heap.objs.size f cd)
 N:=N
 s₀:=s
 H₀:=H
 env:=envOfC qual scope s.heap.objs.size f cd
 outer:=outer
 stack:=envOfC qual scope s.heap.objs.size f cd::outer
 ex:=[]
 calm:=true
 fn:=λ_=>true
 pn:=[]
 xe:=λe s' => wpAny (model P w) (A.deeper (envOfC qual scope s.heap.objs.size f cd)) (leaving (envOfC qual scope s.heap.objs.size f cd) e) (λ_ s'' => CX outer H s E e s'') (λe' s'' => CX outer H s E e' s'') s'
theorem Ug {sc:Scope}{n:Nat}{x:Str}(h:sc.names.lookup x=some .cell):∃ c,(cellsFrom n sc.names []).lookup x=some c:=by
 have q:=PySem.W.cellsFrom_some sc.names n [] (.inl h)
 exact Option.isSome_iff_exists.mp q
theorem zcm {CX:CXT}{P:Program}{w:World}{K:PySem.W.Frag}{mg:Str->Option Value}{base:Heap}{N ps:List Str}{qual:Str}{scope:Scope}{f:Addr}{cd:Value}{A:Around}{outer:List Env}{s s1:Shared}{H:Hp}{E:XK}{us:List Value}{vs:List V}
  (S:ZM N ps scope) (hd:A.handled=none) (e0:zfU P w K mg base A outer s H) (hl:vs.length=ps.length) (r:Vals vs us)
  (x:InCallC s s.heap.objs.size (bindL (envOfC qual scope s.heap.objs.size f cd).kindOf (ps.zip us) λ_=>none) (cellsFrom (s.heap.objs.size+1) scope.names []) (bindC (envOfC qual scope s.heap.objs.size f cd).kindOf (ps.zip us) λ_=>none) s1):
  Inv (zfR CX P w K mg base N qual scope f cd A outer s H E) [] (start N vs) H s1:=by
 have hpl:ps.length<=N.length:=by have:=congrArg List.length S.pre;rw[List.length_take] at this;omega
 obtain ⟨h1,tk,rfl,hk⟩:=x.done
 have noA:∀ b:Addr,b∉(zfR CX P w K mg base N qual scope f cd A outer s H E).ex:=λb z=>absurd (show b∈([]:List Addr) from z) (by simp)
 refine ⟨⟨e0.mod,S.kind,rfl,rfl,Nat.le_refl _,λy z c h1 h2=>?_,λy hy=>?_,λy c _ h=>?_,λ_=>hd,Around.frames_deeper e0.frames,.inr ⟨rfl,rfl⟩,λb z=>absurd z (noA b),e0.bs,e0.bsz,λb _ _=>noA b,λb z=>absurd z (noA b),e0.zdu,e0.frf⟩,
  rfl,e0.bare,Un.kept hk,⟨_,x.toInCall.ns,λi y v h1 h2 h3=>?_⟩,λy c h=>⟨_,x.cell y c h⟩,e0.hok.fresh (Nat.le_refl _),λy c h=>?_,λp hp=>absurd (show p∈([]:List (Addr×Obj)) from hp) (by simp),e0.hok.kept hk,?_⟩
 ·exact name_of_addr x.apart (PySem.mem_of_lookup h1) (PySem.mem_of_lookup h2)
 ·have hy:scope.names.lookup y=some .cell\/scope.names.lookup y=some .free:=hy
  rcases hy with hy | hy
  ·exact Ug hy
  ·exact absurd rfl (S.nofree _ (PySem.mem_of_lookup hy))
 ·exact Nat.le_of_lt (x.above y c (PySem.mem_of_lookup h))
 ·have hi:i<vs.length:=by
   unfold start at h2
   by_cases hi:i<vs.length
   ·exact hi
   ·rw[List.getElem?_append_right (by simpa using hi)] at h2
    rw[List.getElem?_replicate] at h2
    split at h2 <;> cases h2
  have ha:vs[i]?=some v:=by
   unfold start at h2
   rw[List.getElem?_append_left (by simpa using hi),List.getElem?_map] at h2
   cases e:vs[i]? with
   | none=>rw[e] at h2;cases h2
   | some a=>rw[e] at h2;cases h2;rfl
  obtain ⟨u,hu,rv⟩:=r.get ha
  have hp:ps[i]?=some y:=by
   rw[← S.pre,List.getElem?_take_of_lt (by omega)];exact h1
  have ndP:ps.Nodup:=by rw[← S.pre];exact S.nd.sublist (List.take_sublist _ _)
  refine ⟨u,rv,?_⟩
  rcases S.par y (List.mem_of_getElem? hp) with k | k
  ·exact .inl ⟨k,zaj ndP hp hu k⟩
  ·obtain ⟨c,e⟩:=Ug (n:=s.heap.objs.size+1) k
   refine .inr ⟨.inl k,c,e,?_⟩
   have q:=x.cell y c e
   rw[zaz ndP hp hu (by show scope.names.lookup y≠_;rw[k];decide)] at q
   exact q
 ·exact e0.hok.fresh (Nat.le_of_lt (x.above y c (PySem.mem_of_lookup h)))
 ·unfold start
  show _=N.length
  rw[List.length_append,List.length_map,List.length_replicate]
  omega
theorem zlV {CX:CXT}{P:Program}{w:World}{K:PySem.W.Frag}{mg:Str->Option Value}{base:Heap}{k:Nat}{f:Addr}{name qual:Str}{params:Arguments}{body:List Stmt}{scope:Scope}{dV kV doc pm cdv ct oc:Value}{an od:Option Addr}
  {osl:Array (Option Value)}{N ps:List Str}{sp:Sp}(lk:K.lookup f=some ⟨oc,od,.func (PySem.W.fnOf name qual params body scope dV kV doc pm an cdv ct),osl⟩) (hcd:PySem.W.codeIn K cdv qual=true) (S:ZM N ps scope)
  (len:∀ vs H Q E,sp vs H Q E->vs.length=ps.length)
  (hbody:∀ (A:Around) (outer:List Env) (s:Shared) (H:Hp) (vs:List V) (Q:VK) (E:XK),Wx k (A.deeper (envOfC qual scope s.heap.objs.size f cdv))->sp vs H Q E->
   ∃ t,PSs (zfR CX P w K mg base N qual scope f cdv A outer s H E) body t/\t { nx:=λ_ H' => Q .non H',rt:=Q } (start N vs) H):
  Yi P w K mg base CX (k+1) f (PySem.W.fnOf name qual params body scope dV kV doc pm an cdv ct) ps sp:=by
 refine ⟨len,λA outer s H args us vs Q E hr e0 hb r hsp=>?_⟩
 have hl:=len _ _ _ _ hsp
 have KX:K.In s.heap:=e0.mod.kin.keeps λb o e=>(e0.bs b o e).1
 have lim:s.heap.NoLimit:=e0.mod.nolimit.keeps λb o e=>(e0.bs b o e).1
 have hkind:∀ y∈ps.zip us,scope.names.lookup y.1=some .local\/(scope.names.lookup y.1=some .cell/\((cellsFrom (s.heap.objs.size+1) scope.names []).lookup y.1).isSome=true):=λ⟨n,v⟩ hy=>by
  rcases S.par n (List.of_mem_zip hy).1 with q | q
  ·exact .inl q
  ·exact .inr ⟨q,PySem.W.cellsFrom_some _ _ _ (.inl q)⟩
 refine codeAny_call_function hr.depth (KX _ _ lk) rfl S.co S.gen rfl (PySem.W.codeRec_of KX hcd) (hb _ _ _ _ ?_)
 refine wpAny_newFunctionEnv_cells S.kind hkind λenv he s1 x=>?_
 subst he
 refine ⟨lim.keeps x.toInCall.keep,codeAny_func ?_⟩
 obtain ⟨t,ht,hq⟩:=hbody A outer s H vs Q E (hr.deeper _) hsp
 have I:Inv (zfR CX P w K mg base N qual scope f cdv A outer s H E) [] (start N vs) H s1:=zcm S hr.hd e0 hl r x
 refine wpAny_mono (ht [] s1 (start N vs) H _ I hq) (λfl s' hs=>?_) λe s' hs=>hs
 have fin:∀ {σ' : St} {H' : Hp} {v:V}{u:Value},Inv (zfR CX P w K mg base N qual scope f cdv A outer s H E) [] σ' H' s' -> RelV v u->Q v H' -> CE outer P w H s Q u s' :=
  λ{σ' H' v u} J rv q=>⟨v,H',J.os,J.bare,J.base,J.hok,rv,q⟩
 cases fl with
 | ret u=>
  obtain ⟨v,σ',H',J,rv,q⟩:=hs
  exact fin J rv q
 | next=>
  obtain ⟨σ',H',J,q⟩:=hs
  exact fin (v:=V.non) (u:=Value.none) J rfl q
 | brk=>
  obtain ⟨_,_,_,q⟩:=hs
  exact False.elim q
 | cont=>
  obtain ⟨_,_,_,q⟩:=hs
  exact False.elim q
end L2
namespace L2
open PySem PySem.Spec PyProof.Rows
section
variable {X:Cx}{x:Str}{p pos:Pos}{e:Expr}{es:List Expr}{t:TA}{id T:String}{r:List V->Hp->VK->Prop}
def tCB (r:List V->Hp->VK->Prop)(t:TA):TE:=fun σ H Q=>t σ H λvs H1=>r vs H1 Q
theorem Yd (hc:Ut X (.builtin id) r)(hg:Gl X x)(hm:X.mg x=none)(hv:bootBuiltins x=some (.builtin id))(ha:PA X (e::es) t)(hn:x≠ "__name__" := by decide) (hdb:(x==("__debug__" : Str))=false:=by decide)
  (he:starEach (e::es) X.env=(false,eval e X.env)::starEach es X.env:=by rfl) (hpl:(backTo pos (starEach es X.env)).any (·.1)=false:=by rfl):PE X (.Call (.Name x p) (e::es) [] pos) (tCB r t):=by
 intro pins s σ H Q I h
 refine wpAny_Call_Name_kw (WW I hg hm hv ?_ hn hdb)
 exact PyProof.Rows.callWith_builtin1 (thn (ha pos pins s σ H _ I h) λus s1 ⟨vs,H1,I1,r1,q1⟩=>hc pins s1 σ H1 vs us Q I1 r1 q1) he hpl
theorem Xc (hc:Ut X (.type T) r)(hg:Gl X x)(hm:X.mg x=none)(hv:bootBuiltins x=some (.type T))(ha:PA X (e::es) t)(hn:x≠ "__name__" := by decide) (hdb:(x==("__debug__" : Str))=false:=by decide)
  (he:starEach (e::es) X.env=(false,eval e X.env)::starEach es X.env:=by rfl) (hpl:(backTo pos (starEach es X.env)).any (·.1)=false:=by rfl):PE X (.Call (.Name x p) (e::es) [] pos) (tCB r t):=by
 intro pins s σ H Q I h
 refine wpAny_Call_Name_kw (WW I hg hm hv ?_ hn hdb)
 exact PyProof.Rows.callWith_type1 (thn (ha pos pins s σ H _ I h) λus s1 ⟨vs,H1,I1,r1,q1⟩=>hc pins s1 σ H1 vs us Q I1 r1 q1) he hpl
end
end L2
namespace HT
open PySem PyProof.Rows
def lexLt:List Int->List Int->Bool
 | [],[]=>false
 | [],_::_=>true
 | _::_,[]=>false
 | x::xs,y::ys=>if x=y then lexLt xs ys else decide (x<y)
theorem zaU (x y:Int)(xs ys:List Int):lexLt (x::xs) (y::ys)=if x=y then lexLt xs ys else decide (x<y):=rfl
theorem zbv:lexLt [] []=false:=rfl
theorem zaR (y:Int)(ys:List Int):lexLt [] (y::ys)=true:=rfl
theorem zaL (x:Int)(xs:List Int):lexLt (x::xs) []=false:=rfl
theorem zh4 (A:Around)(s:Shared)(a:Int)(t:Tok)(c:Int)(u:Tok):∃ e,SeqAt.EqAt A s (.int a t) (.int c u) e/\(e=true↔a=c):=
 ⟨(a==c),SeqAt.EqAt.int_int a t c u,by simp⟩
theorem ziV (A:Around)(s:Shared)(a:Int)(t:Tok)(c:Int)(u:Tok)(prog:Program)(w:World)(E:Value->Shared->Prop)(Q:Value->Shared->Prop)(h:Q (.bool (decide (a<c))) s):
  wpAny (model prog w) A (richCompare .Lt (.int a t) (.int c u)) Q E s:=
 (PyProof.Rows.lt_int h:wpAny (model prog w) A (compareOp .Lt (.int a t) (.int c u)) Q E s)
section
open PySem.SeqAt
open PySem.AutoSeq1 (wpAny_loadPart')
open PySem.MeetsSeq PySem.MeetsSeq2 PySem.MeetsSeq3
theorem zbO (l b:Addr)(items items2:Array Value)(n n2:Nat)(dd dd2:Option Addr)(sl sl2:Array (Option Value))(ns ms:List Int)(hi:IntsAre items.toList ns)(hj:IntsAre items2.toList ms):
  Meets (Builtin.«tuple.__lt__» ⟨[.ref l,.ref b],[]⟩)
   (λ_ R s=>s.heap.get? l=some { cls:=.type "tuple",dict:=dd,data:=.seq items n,slots:=sl }/\s.heap.get? b=some { cls:=.type "tuple",dict:=dd2,data:=.seq items2 n2,slots:=sl2 }/\
    R (.ok (.ret (.bool (lexLt ns ms)))) s):=
 .of_wp λprog w A R s h=>by
  obtain ⟨hp,g,d,tk,os⟩:=s;obtain ⟨hl,hb,h⟩:=h
  have f2:=AutoSeq1.sub_tuple_tuple
  have z1:items.size=ns.length:=by rw[← hi.length];simp
  have z2:items2.size=ms.length:=by rw[← hj.length];simp
  wp_walk using wpAny_loadPart' hl,wpAny_loadPart' hb,wpAny_forIn_list _ (λrest b s' => b.1=none/\s'=⟨hp,g,d,tk,os⟩/\∃ (vs ws:List Value) (ns' ms' : List Int),rest=vs.zip ws/\
   IntsAre vs ns' /\ IntsAre ws ms' /\ ns'.length+items2.size=ms'.length+items.size/\R (.ok (.ret (.bool (lexLt ns' ms')))) ⟨hp,g,d,tk,os⟩) _
  case turn=>
   rintro ⟨y,x⟩ rest b s' ⟨hb',rfl,vs,ws,ns',ms',hz,hvi,hwi,hlen,hR⟩
   cases hvi with
   | nil=>rw[List.zip_nil_left] at hz;cases hz
   | cons a t hvi' =>
    cases hwi with
    | nil=>rw[List.zip_nil_right] at hz;cases hz
    | cons c u hwi' =>
     rw[List.zip_cons_cons] at hz
     injection hz with hyx hrest
     injection hyx with hy hx
     subst hy hx
     rw[zaU] at hR
     simp only[List.length_cons] at hlen
     obtain ⟨e,he,hiff⟩:=zh4 A.in1 ⟨hp,g,d,tk,os⟩ a t c u
     refine wpAny_bind (he prog w _ _ ?_)
     cases e with
     | true=>
      rw[if_pos (hiff.mp rfl)] at hR
      wp_walk
      exact ⟨rfl,rfl,_,_,_,_,hrest,hvi',hwi',by omega,hR⟩
     | false=>
      rw[if_neg (λq=>absurd (hiff.mpr q) Bool.false_ne_true)] at hR
      have hri:=ziV A.in1 ⟨hp,g,d,tk,os⟩ a t c u prog w
      wp_walk using hri
      exact ⟨_,rfl,by simpa using hR⟩
  case fin=>
   rintro ⟨b1,b2⟩ s' ⟨hb',rfl,vs,ws,ns',ms',hz,hvi,hwi,hlen,hR⟩
   simp only at hb'
   subst hb'
   have hv:lexLt ns' ms'=decide (items.size<items2.size):=by
    cases hvi with
    | nil=>
     cases hwi with
     | nil=>
      simp only[List.length_nil] at hlen
      rw[zbv]
      exact (decide_eq_false (by omega)).symm
     | cons c u hw=>
      simp only[List.length_nil,List.length_cons] at hlen
      rw[zaR]
      exact (decide_eq_true (by omega)).symm
    | cons a t hv=>
     cases hwi with
     | nil=>
      simp only[List.length_nil,List.length_cons] at hlen
      rw[zaL]
      exact (decide_eq_false (by omega)).symm
     | cons c u hw=>
      rw[List.zip_cons_cons] at hz
      cases hz
   rw[hv] at hR
   wp_walk
   exact ⟨_,rfl,by simpa [Builtin.Tuple.tupleCompareSizes] using hR⟩
  case h=>
   exact ⟨rfl,rfl,items.toList,items2.toList,ns,ms,rfl,hi,hj,by omega,h⟩
end
section
variable {prog:Program}{w:World}{A:Around}{E:Value->Shared->Prop}{s:Shared}
theorem zfD {l b:Addr}{items items2:Array Value}{ns ms:List Int}{Q:Value->Shared->Prop}(hl:IsTup s.heap l items)(hb:IsTup s.heap b items2)(hi:IntsAre items.toList ns)(hj:IntsAre items2.toList ms)
  (hu:A.units<cLine) (h:Q (.bool (lexLt ns ms)) s):wpAny (model prog w) A (compareOp .Lt (.ref l) (.ref b)) Q E s:=by
 obtain ⟨⟨cls,dd,data,sl⟩,ho,hc,n,hd⟩:=id hl
 obtain ⟨⟨cls2,dd2,data2,sl2⟩,ho2,hc2,n2,hd2⟩:=id hb
 simp only at hc hd hc2 hd2
 subst hc hd hc2 hd2
 exact richCompare_meets_room (op:=.Lt) ⟨_,ho,rfl⟩ ⟨_,ho2,rfl⟩ PySem.F.slot_tuple_lt PySem.F.entry_tuple_lt (PySem.F.args_tuple_lt_2 _ _) (zbO l b items items2 n n2 dd dd2 sl sl2 ns ms hi hj)
  ⟨ho,ho2,show Value.bool (lexLt ns ms)≠Value.notImplemented/\Q (.bool (lexLt ns ms)) s from ⟨(λx=>nomatch x),h⟩⟩ hu
theorem zky {t b:Addr}{vs ws:List Value}{Q:Value->Shared->Prop}(ht:IsTup s.heap t vs.toArray)(hb:IsTup s.heap b ws.toArray)(hv:vs≠[])
  (h1:ws=[]->Q (.ref t) s) (h2:ws≠[]->Q (.ref s.heap.objs.size) { s with heap:=s.heap.push { cls:=.type "tuple",data:=.seq (vs++ws).toArray } })
  (hsz:vs.length+ws.length<=sizeLine):wpAny (model prog w) A (binaryOp .Add (.ref t) (.ref b)) Q E s:=by
 obtain ⟨⟨cls,dd,data,sl⟩,ho,hc,n,hd⟩:=id ht
 obtain ⟨⟨cls2,dd2,data2,sl2⟩,ho2,hc2,n2,hd2⟩:=id hb
 simp only at hc hd hc2 hd2
 subst hc hd hc2 hd2
 have e:vs.toArray++ws.toArray=(vs++ws).toArray:=by simp
 by_cases hw:ws=[]
 ·exact concat_meets ⟨_,ho,rfl⟩ ⟨_,ho2,rfl⟩ noFill_tuple_add seq_tuple_add PySem.F.slot_tuple_add PySem.F.entry_tuple_add (PySem.F.args_tuple_add_2 _ _)
   (tuple_addW1 t b vs.toArray ws.toArray n n2 dd dd2 sl sl2 (by simpa using hv) (by simp[hw])) ⟨ho,ho2,h1 hw⟩
 ·refine concat_meets ⟨_,ho,rfl⟩ ⟨_,ho2,rfl⟩ noFill_tuple_add seq_tuple_add PySem.F.slot_tuple_add PySem.F.entry_tuple_add (PySem.F.args_tuple_add_2 _ _)
   (tuple_addW2 t b vs.toArray ws.toArray n n2 dd dd2 sl sl2 (by simpa using hv) (by simpa using hw) (by rw[List.size_toArray,List.size_toArray];exact hsz)) ⟨ho,ho2,?_⟩
  rw[e]
  exact h2 hw
def sIx (n d:Nat):Option Int->Nat
 | none=>d
 | some v=>if v<0 then (v+(n:Int)).toNat else min v.toNat n
theorem zbZ (n d:Nat):sIx n d none=d:=rfl
theorem zgB (n d k:Nat):sIx n d (some (k:Int))=min k n:=by
 show (if (k:Int)<0 then ((k:Int)+(n:Int)).toNat else min (k:Int).toNat n)=min k n
 rw[if_neg (by omega),Int.toNat_natCast]
theorem zmY (n d:Nat)(hd:d<=n)(o:Option Int):sIx n d o<=n:=by
 cases o with
 | none=>exact hd
 | some v=>
  show (if v<0 then (v+(n:Int)).toNat else min v.toNat n)<=n
  by_cases hv:v<0
  ·rw[if_pos hv];omega
  ·rw[if_neg hv];exact Nat.min_le_right _ _
theorem zgD (v:Int)(n d:Nat):(if v<0 then max (v+(n:Int)) 0 else min v (n:Int))=((sIx n d (some v):Nat):Int):=by
 show (if v<0 then max (v+(n:Int)) 0 else min v (n:Int))=(((if v<0 then (v+(n:Int)).toNat else min v.toNat n):Nat):Int)
 by_cases hv:v<0
 ·simp only[if_pos hv];omega
 ·simp only[if_neg hv];omega
theorem zfb (lo hi:Option Int)(n:Nat):Builtin.Slice.sliceAdjust lo hi 1 (n:Int)=(((sIx n 0 lo:Nat):Int),((sIx n n hi:Nat):Int)):=by
 have h1:¬ ((1:Int)<0):=by omega
 unfold Builtin.Slice.sliceAdjust
 simp only[h1,if_false]
 refine Prod.ext ?_ ?_
 ·cases lo with
  | none=>rfl
  | some v=>exact zgD v n 0
 ·cases hi with
  | none=>rfl
  | some v=>exact zgD v n n
theorem zfc (i j:Nat):Builtin.Slice.slicePlaces (i:Int) (j:Int) 1=j-i:=by
 unfold Builtin.Slice.slicePlaces
 have h1:(1:Int)>0:=by omega
 simp only[h1,if_true,Int.ediv_one]
 split <;> omega
theorem za0 {v:Value}{o:Option Int}{Q:Option Int->Shared->Prop}(p:IsPart v o)(h:Q o s):wpAny (model prog w) A (Builtin.Slice.slicePartIndex v) Q E s:=by
 cases p with
 | none=>exact slicePart_none h
 | int i t=>exact slicePart_int h
theorem JC {sl:Addr}{vl vu:Value}{lo hi:Option Int}{n:Nat}{Q:Int×Int×Nat->Shared->Prop}(hs:s.heap.IsSliceOf sl vl vu .none)(pl:IsPart vl lo)(pu:IsPart vu hi)
  (h:Q (((sIx n 0 lo:Nat):Int),1,sIx n n hi-sIx n 0 lo) s):wpAny (model prog w) A (Builtin.Slice.sliceApplied (.ref sl) (pure (n:Int))) Q E s:=by
 obtain ⟨os,hos,hcs,hds⟩:=id hs
 unfold Builtin.Slice.sliceApplied Builtin.Slice.sliceFields
 refine wpAny_bind (wpAny_bind (wpAny_field hos hds (x:=vl) rfl (wpAny_bind (wpAny_field hos hds (x:=vu) rfl (wpAny_bind (wpAny_field hos hds (x:=.none) rfl (wpAny_pure ?_)))))))
 refine wpAny_bind (slicePart_none ?_)
 show wpAny _ _ (if ((1:Int)==0)=true then _ else _) _ _ s
 rw[if_neg (by decide)]
 refine wpAny_bind (za0 pl (wpAny_bind (za0 pu (wpAny_bind (wpAny_pure ?_)))))
 show wpAny _ _ (match Builtin.Slice.sliceAdjust lo hi 1 (n:Int) with | (lo,hi)=>pure (lo,(1:Int),Builtin.Slice.slicePlaces lo hi 1)) _ _ s
 rw[zfb lo hi n]
 show wpAny _ _ (pure (((sIx n 0 lo:Nat):Int),(1:Int),Builtin.Slice.slicePlaces ((sIx n 0 lo:Nat):Int) ((sIx n n hi:Nat):Int) 1)) _ _ s
 rw[zfc]
 exact wpAny_pure h
theorem zhS (xs:Array Value)(i k:Nat):((List.range k).filterMap λ(m:Nat)=>xs[((i:Int)+(m:Int)*1).toNat]?).toArray=((xs.toList.drop i).take k).toArray:=by
 have e:(λ(m:Nat)=>xs[((i:Int)+(m:Int)*1).toNat]?)=λm=>xs[i+m]?:=by
  funext m
  have:((i:Int)+(m:Int)*1).toNat=i+m:=by omega
  rw[this]
 rw[e]
 have:=pick_run xs i k
 rw[List.filterMap_map] at this
 have e2:((λx=>xs[x]?)∘λx=>i+x)=λm=>xs[i+m]?:=rfl
 rw[e2] at this
 rw[this]
theorem Vf {t sl:Addr}{items:Array Value}{vl vu:Value}{lo hi:Option Int}{Q:Value->Shared->Prop}(ht:IsTup s.heap t items)(hs:s.heap.IsSliceOf sl vl vu .none)(pl:IsPart vl lo)(pu:IsPart vu hi)
  (hw:¬ (sIx items.size 0 lo=0/\sIx items.size items.size hi=items.size))
  (h:Q (.ref s.heap.objs.size) { s with heap:=s.heap.push { cls:=.type "tuple",data:=.seq ((items.toList.drop (sIx items.size 0 lo)).take (sIx items.size items.size hi-sIx items.size 0 lo)).toArray } })
  (hsz:items.size<=sizeLine):wpAny (model prog w) A (getItem (.ref t) (.ref sl)) Q E s:=by
 have htake:sizeOk (.seq ((items.toList.drop (sIx items.size 0 lo)).take (sIx items.size items.size hi-sIx items.size 0 lo)).toArray):=by
  show ((items.toList.drop (sIx items.size 0 lo)).take (sIx items.size items.size hi-sIx items.size 0 lo)).toArray.size<=sizeLine
  rw[List.size_toArray,List.length_take,List.length_drop,Array.length_toList]
  omega
 have hj:sIx items.size items.size hi<=items.size:=zmY _ _ (Nat.le_refl _) hi
 obtain ⟨os,hos,hcs,hds⟩:=id hs
 have hTs:s.TypeIs (.ref sl) "slice" := ⟨os,hos,hcs⟩
 unfold getItem
 try with_reducible refine wpAny_holding ?_
 first | refine wpAny_bind (wpAny_pure ?_) | skip
 refine wpAny_bind (wpAny_sequenceKey ht.typeIs (by decide) ?_)
 refine wpAny_bind (wpAny_callSpecial?_slot (name:=Str.ofString "__getitem__") ht.typeIs PyProof.Rows.slot_tuple_getitem
  (wpAny_call_entry PyProof.Rows.slot_tuple_getitem ht.typeIs entry_tuple_getitem ?_ (args_tuple_getitem _ _)))
 show wpAny _ _ (Builtin.Tuple.tupleItemsOf (.ref t) >>= _) _ _ s
 refine wpAny_bind (tupleItemsOf_ ht ?_)
 refine wpAny_bind (wpAny_typeOf hTs ?_)
 rw[if_pos (by decide)]
 refine wpAny_bind (JC hs pl pu ?_)
 have hno:¬ ((((sIx items.size 0 lo:Nat):Int)==0&&(1:Int)==1&&(sIx items.size items.size hi-sIx items.size 0 lo)==items.size)=true):=by
  intro q
  rw[Bool.and_eq_true,Bool.and_eq_true] at q
  have q1:((sIx items.size 0 lo:Nat):Int)=0:=eq_of_beq q.1.1
  have q2:sIx items.size items.size hi-sIx items.size 0 lo=items.size:=eq_of_beq q.2
  exact hw ⟨by omega,by omega⟩
 show wpAny _ _ (if (((sIx items.size 0 lo:Nat):Int)==0&&(1:Int)==1&&(sIx items.size items.size hi-sIx items.size 0 lo)==items.size)=true then _ else _) _ _ s
 rw[if_neg hno,zhS]
 first
  | exact wpAny_bind (m:=Builtin.Tuple.tupleExact _) (wpAny_newObj_type (wpAny_pure ⟨_,rfl,wpAny_pure h⟩) htake)
  | exact wpAny_bind (m:=Builtin.Tuple.tupleExact _) (wpAny_newObj_type (wpAny_bind (wpAny_pure (wpAny_pure ⟨_,rfl,wpAny_pure h⟩))) htake)
  | exact wpAny_bind (wpAny_bind (m:=Builtin.Tuple.tupleExact _) (wpAny_newObj_type (wpAny_pure (wpAny_pure ⟨_,rfl,wpAny_pure h⟩)) htake))
  | exact wpAny_bind (wpAny_bind (m:=Builtin.Tuple.tupleExact _) (wpAny_newObj_type (wpAny_pure ⟨_,rfl,wpAny_pure h⟩) htake))
end
end HT
namespace L2
open PySem PySem.Spec PyProof.Rows
abbrev TO:=St->Hp->(Option Int->Hp->Prop)->Prop
def PO (X:Cx)(e:Option Expr)(t:TO):Prop:=
 ∀ (pins:List (Addr×Obj)) (s:Shared) (σ:St) (H:Hp) (Q:Option Int->Hp->Prop),Inv X pins σ H s->t σ H Q->
  wpAny (model X.prog X.w) X.A (evalPart e X.env) (λu s' => ∃ o H',Inv X pins σ H' s' /\ IsPart u o/\Q o H') X.xe s
def zdO:TO:=λ_ H Q=>Q none H
def zkr (t:TE):TO:=fun σ H Q=>t σ H λx H1=>∃ i,x = .int i/\Q (some i) H1
section
variable {X:Cx}{e:Expr}{te:TE}{lo hi:Option Expr}{tl th:TO}{pos p2:Pos}
theorem zb6:PO X none zdO:=by
 intro pins s σ H Q I h
 rw[evalPart_none]
 exact wpAny_pure ⟨none,H,I,.none,h⟩
theorem zbt (h:PE X e te):PO X (some e) (zkr te):=by
 intro pins s σ H Q I hw
 rw[evalPart_some]
 refine thn (h pins s σ H _ I hw) λu s1 ⟨x,H1,I1,r1,q1⟩=>?_
 obtain ⟨i,rfl,q⟩:=q1
 obtain ⟨t,rfl⟩:=r1
 exact ⟨some i,H1,I1,.int i t,q⟩
def SlR (X:Cx)(r:V->Option Int->Option Int->Hp->VK->Prop):Prop:=
 ∀ (pins:List (Addr×Obj)) (s:Shared) (σ:St) (H:Hp) (x:V) (v vl vu:Value) (lo hi:Option Int) (sl:Addr) (Q:VK),Inv X pins σ H s->RelV x v->s.heap.IsSliceOf sl vl vu .none->IsPart vl lo->IsPart vu hi->r x lo hi H Q->
  ∃ T id,typeLookup (.type T) "__getitem__" = pure (some (.builtin id))/\s.TypeIs v T/\wpAny (model X.prog X.w) X.A (getItem v (.ref sl)) (EP X pins σ Q) X.xe s
def tSl (r:V->Option Int->Option Int->Hp->VK->Prop)(te:TE)(tl th:TO):TE:=fun σ H Q=>te σ H λx H1=>tl σ H1 λl H2=>th σ H2 λu H3=>r x l u H3 Q
theorem Uj {r:V->Option Int->Option Int->Hp->VK->Prop}(hr:SlR X r)(he:PE X e te)(hl:PO X lo tl)(hu:PO X hi th):PE X (.Subscript e (.Slice lo hi none p2) pos) (tSl r te tl th):=by
 intro pins s σ H Q I h
 refine Subscript_ (thn (he pins s σ H _ I h) λv s1 ⟨x,H1,I1,r1,q1⟩=>?_)
 refine wpAny_Slice (thn (hl pins s1 σ H1 _ I1 q1) λvl s2 ⟨l,H2,I2,pl,q2⟩=>thn (hu pins s2 σ H2 _ I2 q2) λvu s3 ⟨u,H3,I3,pu,q3⟩=>?_)
 rw[evalPart_none]
 refine wpAny_pure ?_
 have I4:Inv X pins σ H3 { s3 with heap:=s3.heap.push { cls:=.type "slice",data:=.fields #[vl,vu,.none] } }:=I3.kept (t' := s3.toks) λb ob q=>Heap.get?_push_of_some _ q
 obtain ⟨T,id,hT,ht,hg⟩:=hr pins { s3 with heap:=s3.heap.push { cls:=.type "slice",data:=.fields #[vl,vu,.none] } } σ H3 x v vl vu l u s3.heap.objs.size Q I4 r1 (Heap.IsSliceOf.new ..) pl pu q3
 show wpAny (model X.prog X.w) X.A (subscriptTail e (.Slice lo hi none p2) v (.ref s3.heap.objs.size)) (EP X pins σ Q) X.xe { s3 with heap:=s3.heap.push { cls:=.type "slice",data:=.fields #[vl,vu,.none] } }
 exact tail_any (ops:=[.ref s3.heap.objs.size,v]) ht hT hg (by with_unfolding_all rfl)
def zhv (xs:List V)(lo hi:Option Int):List V:=(xs.drop (HT.sIx xs.length 0 lo)).take (HT.sIx xs.length xs.length hi-HT.sIx xs.length 0 lo)
theorem zat (xs:List V)(lo hi:Option Int):(zhv xs lo hi).length<=xs.length:=by
 unfold zhv
 rw[List.length_take,List.length_drop]
 omega
def zo4 (K:PySem.W.Frag):V->Option Int->Option Int->Hp->VK->Prop:=λx lo hi H Q=>∃ a xs,x = .ref a/\SqT K H a xs/\
 ¬ (HT.sIx xs.length 0 lo=0/\HT.sIx xs.length xs.length hi=xs.length)/\∀ p,H p=none->Q (.ref p) (upd H p (.tup (zhv xs lo hi)))
theorem znj:SlR X (zo4 X.K):=by
 intro pins s σ H x v vl vu lo hi sl Q I rx hs pl pu h
 obtain ⟨a,xs,rfl,hx,hw,q⟩:=h
 cases rx
 obtain ⟨its,r,ht,hz⟩:=I.tuple hx
 have hlen:its.toArray.size=xs.length:=by rw[List.size_toArray];exact r.length.symm
 refine ⟨"tuple",_,PyProof.Rows.slot_tuple_getitem.lookup,ht.typeIs,?_⟩
 refine HT.Vf ht hs pl pu (by rw[hlen];exact hw) ?_ (by rw[hlen];exact hz)
 rw[hlen]
 refine ⟨.ref s.heap.objs.size,_,I.laid (t' := s.toks) (o:=.tup (zhv xs lo hi)) (λb ob q=>Heap.get?_push_of_some _ q) (Nat.le_refl _) ?_,rfl,q _ (I.hok.fresh (Nat.le_refl _))⟩
 exact ⟨Nat.le_trans (zat xs lo hi) hz,_,(r.drop (HT.sIx xs.length 0 lo)).take (HT.sIx xs.length xs.length hi-HT.sIx xs.length 0 lo),IsTup.new _ _,_,Heap.get?_push_size _ rfl,rfl⟩
def ze1 (K:PySem.W.Frag):R2:=λx y H Q=>∃ a b xs ys,x = .ref a/\y = .ref b/\SqT K H a xs/\SqT K H b ys/\xs≠[]/\xs.length+ys.length<=sizeLine/\
 (ys=[]->Q (.ref a) H)/\(ys≠[]->∀ p,H p=none->Q (.ref p) (upd H p (.tup (xs++ys))))
theorem Vals.zdA {xs:List V}{us:List Value}(r:Vals xs us):us=[]↔xs=[]:=by
 cases r with
 | nil=>simp
 | cons _ _=>simp
theorem zlp:OpR X (binaryOp .Add) (ze1 X.K):=by
 intro pins s σ H x y v u Q I rx ry h
 obtain ⟨a,b,xs,ys,rfl,rfl,ha,hb,hx,hz,q1,q2⟩:=h
 cases rx
 cases ry
 obtain ⟨its,r1,p1,_⟩:=I.tuple ha
 obtain ⟨its2,r2,p2,_⟩:=I.tuple hb
 refine HT.zky p1 p2 (λz=>hx (r1.zdA.mp z)) (λz=>⟨.ref a,H,I,rfl,q1 (r2.zdA.mp z)⟩) (λz=>?_) (by rw[← r1.length,← r2.length];exact hz)
 refine ⟨.ref s.heap.objs.size,_,I.laid (t' := s.toks) (o:=.tup (xs++ys)) (λb ob q=>Heap.get?_push_of_some _ q) (Nat.le_refl _) ?_,rfl,q2 (λw=>z (r2.zdA.mpr w)) _ (I.hok.fresh (Nat.le_refl _))⟩
 exact ⟨by rw[List.length_append];exact hz,_,r1.append r2,IsTup.new _ _,_,Heap.get?_push_size _ rfl,rfl⟩
end
end L2
namespace L2
open PySem PySem.Spec PyProof.Rows
def ixN (n:Nat)(i:Int):Option Nat:=if 0<=i then (if i<n then some i.toNat else none) else if -(n:Int)<=i then some (i+n).toNat else none
def atI {α:Type}(xs:List α)(i:Int):Option α:=(ixN xs.length i).bind λj=>xs[j]?
theorem zhx {n:Nat}{i:Int}{j:Nat}(h:ixN n i=some j):seqIndex? i n=some j/\j<n/\-(n:Int)<=i/\i<n:=by
 unfold ixN at h
 by_cases h0:0<=i
 ·rw[if_pos h0] at h
  by_cases h1:i<n
  ·rw[if_pos h1] at h
   have e:i.toNat=j:=Option.some.inj h
   exact ⟨by rw[seqIndex_of h0 h1,e],by omega,by omega,h1⟩
  ·rw[if_neg h1] at h;cases h
 ·rw[if_neg h0] at h
  by_cases h1:-(n:Int)<=i
  ·rw[if_pos h1] at h
   have e:(i+n).toNat=j:=Option.some.inj h
   exact ⟨by rw[seqIndex_neg (by omega) h1,e],by omega,h1,by omega⟩
  ·rw[if_neg h1] at h;cases h
theorem zdG {α:Type}{xs:List α}{i:Int}{v:α}(h:atI xs i=some v):∃ j,seqIndex? i xs.length=some j/\xs[j]?=some v/\j<xs.length/\-(xs.length:Int)<=i/\i<xs.length:=by
 unfold atI at h
 cases e:ixN xs.length i with
 | none=>rw[e] at h;cases h
 | some j=>
  rw[e] at h
  obtain ⟨h1,h2,h3,h4⟩:=zhx e
  exact ⟨j,h1,h,h2,h3,h4⟩
theorem zgI {α:Type}{xs:List α}{j:Nat}{v:α}(h:xs[j]?=some v):atI xs (j:Int)=some v:=by
 have hj:j<xs.length:=(List.getElem?_eq_some_iff.mp h).1
 have e:ixN xs.length (j:Int)=some j:=by
  unfold ixN
  rw[if_pos (by omega),if_pos (by omega)];simp
 unfold atI;rw[e];exact h
def zkC (b:Expr):Prop:=∀ o i,subscripted b false o i=operate [o,i] (getItem o i)
def IxR (X:Cx)(r:R2):Prop:=
 ∀ (value slice:Expr) (pins:List (Addr×Obj)) (s:Shared) (σ:St) (H:Hp) (x y:V) (v u:Value) (Q:VK),Inv X pins σ H s->RelV x v->RelV y u->r x y H Q->
  subscripted slice false v u=operate [v,u] (getItem v u)->wpAny (model X.prog X.w) X.A (subscriptTail value slice v u) (EP X pins σ Q) X.xe s
def MtR (X:Cx)(id:String)(r:V->List V->Hp->VK->Prop):Prop:=
 ∀ (pins:List (Addr×Obj)) (s:Shared) (σ:St) (H:Hp) (x:V) (xs:List V) (v:Value) (us:List Value) (Q:VK),Inv X pins σ H s->RelV x v->Vals xs us->r x xs H Q->
  wpAny (model X.prog X.w) X.A (call (.builtin id) (v::us)) (EP X pins σ Q) X.xe s
section
variable {X:Cx}{a b:Expr}{ta tb:TE}{pos:Pos}
theorem ZZ {r:R2}(hr:IxR X r)(ha:PE X a ta)(hb:PE X b tb)(hs:zkC b):PE X (.Subscript a b pos) (tOp r ta tb):=by
 intro pins s σ H Q I h
 exact Subscript_ (zoa ha hb I h λv u s2 x y H2 I2 rx ry q=>hr a b pins s2 σ H2 x y v u Q I2 rx ry q (hs _ _))
def zeA (K:PySem.W.Frag):R2:=λx y H Q=>∃ p xs i v,x = .ref p/\y = .int i/\SqL K H p xs/\atI xs i=some v/\Q v H
def zlL (K:PySem.W.Frag):R2:=λx y H Q=>∃ p xs i v,x = .ref p/\y = .int i/\SqT K H p xs/\atI xs i=some v/\Q v H
def zoy:R2:=λx y H Q=>∃ z i c,x = .str z/\y = .int i/\z.length<=sizeLine/\atI z.cps.toList i=some c/\Q (.str ⟨#[c]⟩) H
theorem zkX:IxR X (zeA X.K):=by
 intro value slice pins s σ H x y v u Q I rx ry h hs
 obtain ⟨p,xs,i,z,rfl,rfl,hq,he,q⟩:=h
 cases rx
 obtain ⟨t,rfl⟩:=ry
 obtain ⟨its,r,pl,hz⟩:=I.list hq
 obtain ⟨j,h1,h2,h3,h4,h5⟩:=zdG he
 obtain ⟨w,ew,rw'⟩:=r.get h2
 have hl:=r.length
 have hn:=zc1
 have fin:EP X pins σ Q w s:=⟨z,H,I,rw',q⟩
 by_cases h0:0<=i
 ·have hj:i.toNat=j:=by
   rw[seqIndex_of h0 h5] at h1
   exact Option.some.inj h1
  exact item_listR pl.isList h0 (by omega) (by rw[hj];simpa using ew) fin hs
 ·have hj:(i+(its.toArray.size:Int)).toNat=j:=by
   rw[seqIndex_neg (by omega) h4] at h1
   rw[List.size_toArray,← hl]
   exact Option.some.inj h1
  exact subscriptTail_builtinR (x:=w) pl.isList.typeIs slot_list_getitem.lookup
   (wpAny_getItem_list_neg (Q:=λr s' => r=w/\EP X pins σ Q r s') pl.isList (by omega) (by rw[List.size_toArray] <;> omega) (by omega) (by rw[hj];simpa using ew) ⟨rfl,fin⟩) hs
theorem zmb:IxR X (zlL X.K):=by
 intro value slice pins s σ H x y v u Q I rx ry h hs
 obtain ⟨p,xs,i,z,rfl,rfl,hq,he,q⟩:=h
 cases rx
 obtain ⟨t,rfl⟩:=ry
 obtain ⟨its,r,pl,hz⟩:=I.tuple hq
 obtain ⟨j,h1,h2,h3,h4,h5⟩:=zdG he
 obtain ⟨w,ew,rw'⟩:=r.get h2
 have hl:=r.length
 have hn:=zc1
 have fin:EP X pins σ Q w s:=⟨z,H,I,rw',q⟩
 exact subscriptTail_builtinR (x:=w) pl.typeIs slot_tuple_getitem.lookup
  (getItem_tuple (j:=j) (Q:=λr s' => r=w/\EP X pins σ Q r s') pl (by omega) (by omega) (by rw[List.size_toArray,← hl];exact h1) (by simpa using ew) ⟨rfl,fin⟩) hs
theorem zjp:IxR X zoy:=by
 intro value slice pins s σ H x y v u Q I rx ry h hs
 obtain ⟨z,i,c,rfl,rfl,hz,he,q⟩:=h
 obtain ⟨t,rfl⟩:=rx
 obtain ⟨t',rfl⟩:=ry
 obtain ⟨j,h1,h2,h3,h4,h5⟩:=zdG he
 have hl:z.cps.toList.length=z.length:=by simp[Str.length]
 rw[hl] at h1 h4 h5
 have hn:=zc1
 exact tail_any (typeIs_str s z t) slot_str_getitem.lookup (getItem_str (c:=c) (by
  have e1:decide (i < -(2 ^ 63:Int))=false:=decide_eq_false (by omega)
  have e2:decide (i ≥ 2 ^ 63)=false:=decide_eq_false (by omega)
  rw[e1,e2,Bool.or_false]) (by rw[h1];simpa using h2) ⟨.str ⟨#[c]⟩,H,I.tok _,⟨_,rfl⟩,q⟩) hs
theorem zfx (its:List Value)(n j:Nat)(u:Value):Obj.mapSeq (·.setIfInBounds j u) { cls:=.type "list",data:=.seq its.toArray n }={ cls:=.type "list",data:=.seq (its.set j u).toArray n }:=by
 simp[Obj.mapSeq]
theorem Inv.lst {pins:List (Addr×Obj)}{σ:St}{H:Hp}{s:Shared}{p:Addr}{xs:List V}(I:Inv X pins σ H s)(h:H p=some (.lst xs)):
  ∃ (its:List Value) (n:Nat),Vals xs its/\s.heap.get? p=some { cls:=.type "list",data:=.seq its.toArray n }/\xs.length<=sizeLine:=by
 obtain ⟨z,its,n,r,e⟩:=I.hok p _ h
 exact ⟨its,n,r,e,z⟩
theorem Inv.zm9 {pins:List (Addr×Obj)}{σ:St}{H:Hp}{s:Shared}{p:Addr}{xs ys:List V}{its its' : List Value}{n n' : Nat}{f:Obj->Obj}(I:Inv X pins σ H s)(h:H p=some (.lst xs))
  (ho:s.heap.get? p=some { cls:=.type "list",data:=.seq its.toArray n }) (hf:f { cls:=.type "list",data:=.seq its.toArray n }={ cls:=.type "list",data:=.seq its'.toArray n' }) (r:Vals ys its') (hz:ys.length<=sizeLine) (t:Nat):
  Inv X pins σ (upd H p (.lst ys)) { s with heap:=s.heap.update p f,toks:=t }:=by
 have e:(s.heap.update p f).get? p=some { cls:=.type "list",data:=.seq its'.toArray n' }:=by
  rw[Heap.get?_update_self f ho (by rw[hf] <;> rfl),hf]
 refine I.write (x:=p) (e:=p) (by rw[h];trivial) (.inl rfl) (λb u hb q=>(Heap.get?_update_other _ _ (Ne.symm hb)).trans q) ⟨_,e⟩ ?_
 exact ⟨hz,its',n',r,e⟩
def znY:V->V->V->Hp->(Hp->Prop)->Prop:=λo i v H Q=>∃ p xs k j,o = .ref p/\i = .int k/\H p=some (.lst xs)/\ixN xs.length k=some j/\Q (upd H p (.lst (xs.set j v)))
theorem set_list:zoI X znY:=by
 intro pins s σ H o i v ov iv u Q I ro ri rv h
 obtain ⟨p,xs,k,j,rfl,rfl,hp,hj,q⟩:=h
 cases ro
 obtain ⟨t,rfl⟩:=ri
 obtain ⟨its,n,r,ho,hz⟩:=I.lst hp
 obtain ⟨h1,h2,h3,h4⟩:=zhx hj
 have hl:=r.length
 have hn:=zc1
 have I' : Inv X pins σ (upd H p (.lst (xs.set j v))) { s with heap:=s.heap.update p (Obj.mapSeq (·.setIfInBounds j u)) }:=
  I.zm9 hp ho (zfx its n j u) (r.set rv j) (by rw[List.length_set];exact hz) s.toks
 by_cases h0:0<=k
 ·have hk:k.toNat=j:=by
   rw[seqIndex_of h0 h4] at h1
   exact Option.some.inj h1
  exact PySem.W.ki_setAt ho h0 (by omega) (by rw[List.size_toArray,← hl];exact h4) (by rw[hk];exact ⟨_,I',q⟩)
 ·have hk:(k+(its.toArray.size:Int)).toNat=j:=by
   rw[seqIndex_neg (by omega) h3] at h1
   rw[List.size_toArray,← hl]
   exact Option.some.inj h1
  exact PySem.W.ki_setBack ho (by omega) (by rw[List.size_toArray,← hl];exact h3) (by omega) (by rw[hk];exact ⟨_,I',q⟩)
theorem zck (lo hi:Option Int)(n:Nat):(sliceBounds lo hi none n).1=((HT.sIx n 0 lo:Nat):Int)/\(sliceBounds lo hi none n).2.1=((HT.sIx n n hi:Nat):Int)/\(sliceBounds lo hi none n).2.2=1:=by
 refine ⟨?_,?_,rfl⟩
 ·cases lo with
  | none=>simp[sliceBounds,HT.sIx]
  | some i=>
   simp only[sliceBounds,HT.sIx,Option.getD_none,show (1:Int)>0 by decide,if_true]
   by_cases h:i<0
   ·simp only[h,if_true] <;> omega
   ·simp only[h,if_false] <;> omega
 ·cases hi with
  | none=>simp[sliceBounds,HT.sIx]
  | some i=>
   simp only[sliceBounds,HT.sIx,Option.getD_none,show (1:Int)>0 by decide,if_true]
   by_cases h:i<0
   ·simp only[h,if_true] <;> omega
   ·simp only[h,if_false] <;> omega
theorem zb5 (its:List Value)(lo hi:Option Int):slicePick its.toArray lo hi none=((its.drop (HT.sIx its.length 0 lo)).take (HT.sIx its.length its.length hi-HT.sIx its.length 0 lo)).toArray:=by
 obtain ⟨h1,h2,h3⟩:=zck lo hi its.toArray.size
 unfold slicePick
 rw[h1,h2,h3]
 simp only[sliceRange_one,pick_run,List.size_toArray] <;> rfl
def znk (K:PySem.W.Frag):V->Option Int->Option Int->Hp->VK->Prop:=λx lo hi H Q=>∃ a xs,x = .ref a/\SqL K H a xs/\∀ p,H p=none->Q (.ref p) (upd H p (.lst (zhv xs lo hi)))
theorem zj7:SlR X (znk X.K):=by
 intro pins s σ H x v vl vu lo hi sl Q I rx hs pl pu h
 obtain ⟨a,xs,rfl,hx,q⟩:=h
 cases rx
 obtain ⟨its,r,ht,hz⟩:=I.list hx
 have hlen:=r.length
 refine ⟨"list",_,slot_list_getitem.lookup,ht.isList.typeIs,?_⟩
 refine wpAny_getItem_list_slice ht.isList hs pl pu .none (by simp) ?_ (by rw[List.size_toArray] <;> omega)
 rw[zb5,← hlen]
 refine ⟨.ref s.heap.objs.size,_,I.laid (t' := s.toks) (o:=.lst (zhv xs lo hi)) (λb ob q=>Heap.get?_push_of_some _ q) (Nat.le_refl _) ?_,rfl,q _ (I.hok.fresh (Nat.le_refl _))⟩
 exact ⟨Nat.le_trans (zat xs lo hi) hz,_,0,(r.drop (HT.sIx xs.length 0 lo)).take (HT.sIx xs.length xs.length hi-HT.sIx xs.length 0 lo),Heap.get?_push_size _ rfl⟩
def zbx:V->Bool
 | .non=>true
 | .bl _=>true
 | .int _=>true
 | .str _=>true
 | _=>false
def eqV:V->V->Bool
 | .non,.non=>true
 | .bl a,.bl b=>a==b
 | .bl a,.int b=>(if a then 1 else 0)==b
 | .int a,.bl b=>a==(if b then 1 else 0)
 | .int a,.int b=>a==b
 | .str a,.str b=>a==b
 | _,_=>false
theorem zmt {A:Around}{s:Shared}{y x:V}{u v:Value}(ry:RelV y u)(rx:RelV x v)(fy:zbx y=true)(fx:zbx x=true):SeqAt.EqAt A s u v (eqV y x):=by
 cases y with
 | non=>
  cases ry
  cases x with
  | non=>cases rx;exact SeqAt.EqAt.same _
  | bl b=>cases rx;exact SeqAt.EqAt.none_bool b
  | int b=>obtain ⟨t,rfl⟩:=rx;exact SeqAt.EqAt.none_int b t
  | str b=>obtain ⟨t,rfl⟩:=rx;exact SeqAt.EqAt.none_str b t
  | _=>exact absurd (show false=true from fx) Bool.false_ne_true
 | bl a=>
  cases ry
  cases x with
  | non=>cases rx;exact SeqAt.EqAt.bool_none a
  | bl b=>cases rx;exact SeqAt.EqAt.bool_bool a b
  | int b=>obtain ⟨t,rfl⟩:=rx;exact SeqAt.EqAt.bool_int a b t
  | str b=>obtain ⟨t,rfl⟩:=rx;exact SeqAt.EqAt.bool_str a b t
  | _=>exact absurd (show false=true from fx) Bool.false_ne_true
 | int a=>
  obtain ⟨t',rfl⟩:=ry
  cases x with
  | non=>cases rx;exact SeqAt.EqAt.int_none a t'
  | bl b=>cases rx;exact SeqAt.EqAt.int_bool a t' b
  | int b=>obtain ⟨t,rfl⟩:=rx;exact SeqAt.EqAt.int_int a t' b t
  | str b=>obtain ⟨t,rfl⟩:=rx;exact SeqAt.EqAt.int_str a t' b t
  | _=>exact absurd (show false=true from fx) Bool.false_ne_true
 | str a=>
  obtain ⟨t',rfl⟩:=ry
  cases x with
  | non=>cases rx;exact SeqAt.EqAt.str_none a t'
  | bl b=>cases rx;exact SeqAt.EqAt.str_bool a t' b
  | int b=>obtain ⟨t,rfl⟩:=rx;exact SeqAt.EqAt.str_int a t' b t
  | str b=>obtain ⟨t,rfl⟩:=rx;exact SeqAt.EqAt.str_str a t' b t
  | _=>exact absurd (show false=true from fx) Bool.false_ne_true
 | _=>exact absurd (show false=true from fy) Bool.false_ne_true
def eqU (x:V)(u:Value):Bool:=match u with
 | .none=>eqV .non x
 | .bool b=>eqV (.bl b) x
 | .int i _=>eqV (.int i) x
 | .str z _=>eqV (.str z) x
 | _=>false
theorem zjV {x y:V}{u:Value}(r:RelV y u)(f:zbx y=true):eqU x u=eqV y x:=by
 cases y with
 | non=>cases r;rfl
 | bl b=>cases r;rfl
 | int i=>obtain ⟨t,rfl⟩:=r;rfl
 | str z=>obtain ⟨t,rfl⟩:=r;rfl
 | _=>exact absurd (show false=true from f) Bool.false_ne_true
theorem zdW {x:V}:∀ {xs:List V}{us:List Value},Vals xs us->xs.all zbx=true->us.any (eqU x)=xs.any λy=>eqV y x
 | _,_,.nil,_=>rfl
 | y::xs,u::us,.cons r t,f=>by
  rw[List.all_cons,Bool.and_eq_true] at f
  rw[List.any_cons,List.any_cons,zjV r f.1,zdW t f.2]
theorem zbM {A:Around}{s:Shared}{x:V}{v:Value}(rx:RelV x v)(fx:zbx x=true):∀ {xs:List V}{us:List Value},Vals xs us->xs.all zbx=true->∀ u∈us,SeqAt.EqAt A s u v (eqU x u)
 | _,_,.nil,_=>λu hu=>by cases hu
 | y::xs,u::us,.cons r t,f=>λu' hu=>by
  rw[List.all_cons,Bool.and_eq_true] at f
  rcases List.mem_cons.mp hu with rfl | hu
  ·rw[zjV r f.1];exact zmt r rx f.1 fx
  ·exact zbM rx fx t f.2 u' hu
def inV (x:V)(xs:List V):Bool:=xs.any λy=>eqV y x
def rIn (K:PySem.W.Frag)(neg:Bool):R2:=λx y H Q=>∃ p xs,y = .ref p/\(SqL K H p xs\/SqT K H p xs)/\zbx x=true/\xs.all zbx=true/\Q (.bl (if neg then !inV x xs else inV x xs)) H
theorem zcd:OpR X (compareOp .In) (rIn X.K false):=by
 intro pins s σ H x y v u Q I rx ry h
 obtain ⟨p,xs,rfl,hq,fx,fs,q⟩:=h
 cases ry
 rcases hq with hq | hq
 ·obtain ⟨its,r,pl,hz⟩:=I.list hq
  refine SeqAt.in_listAt (eqU x) pl.isList (λw hw=>zbM rx fx r fs w (by simpa using hw)) ⟨.bl _,H,I,rfl,?_⟩
  rw[show its.toArray.any (eqU x)=its.any (eqU x) by simp,zdW r fs]
  exact q
 ·obtain ⟨its,r,pl,hz⟩:=I.tuple hq
  refine SeqAt.in_tupleAt (eqU x) pl (λw hw=>zbM rx fx r fs w (by simpa using hw)) ⟨.bl _,H,I,rfl,?_⟩
  rw[show its.toArray.any (eqU x)=its.any (eqU x) by simp,zdW r fs]
  exact q
theorem zcy:Ut X (.builtin "len") (λxs H Q=>∃ p ys,xs=[.ref p]/\(SqL X.K H p ys\/SqT X.K H p ys)/\Q (.int ys.length) H):=by
 intro pins s σ H xs us Q I r h
 obtain ⟨p,ys,rfl,hq,q⟩:=h
 obtain ⟨u,rfl,rx⟩:=vals1 r
 cases rx
 have hn:=zc1
 rcases hq with hq | hq
 ·obtain ⟨its,r',pl,hz⟩:=I.list hq
  have hlen:=r'.length
  exact Calls.call_len_list pl.isList (by simp only[List.size_toArray] <;> omega) ⟨.int ys.length,H,I.tok _,⟨s.toks+1,by rw[List.size_toArray,hlen]⟩,q⟩
 ·obtain ⟨its,r',pl,hz⟩:=I.tuple hq
  have hlen:=r'.length
  exact len_tuple pl (by simp only[List.size_toArray] <;> omega) ⟨.int ys.length,H,I.tok _,⟨s.toks+1,by rw[List.size_toArray,hlen]⟩,q⟩
theorem zcL:Ut X (.type "list") (λxs H Q=>∃ p ys,xs=[.ref p]/\(SqL X.K H p ys\/SqT X.K H p ys)/\∀ l,H l=none->Q (.ref l) (upd H l (.lst ys))):=by
 intro pins s σ H xs us Q I r h
 obtain ⟨p,ys,rfl,hq,q⟩:=h
 obtain ⟨u,rfl,rx⟩:=vals1 r
 cases rx
 have fin:∀ (its:List Value),Vals ys its->ys.length<=sizeLine->∀ (h' : Heap) (c' : Nat),(∀ b o',s.heap.get? b=some o' -> h'.get? b=some o')->
   h'.get? s.heap.objs.size=some { cls:=.type "list",dict:=none,data:=.seq its.toArray c',slots:=#[] }->EP X pins σ Q (.ref s.heap.objs.size) { s with heap:=h' }:=λits r' hz h' c' kp e=>
  ⟨.ref s.heap.objs.size,_,I.laid (t' := s.toks) kp (Nat.le_refl _) (show YJ X.prog X.w _ h' _ (.lst ys) from ⟨hz,its,c',r',e⟩),rfl,q _ (I.hok.fresh (Nat.le_refl _))⟩
 rcases hq with hq | hq
 ·obtain ⟨its,r',pl,hz⟩:=I.list hq
  have hlen:=r'.length
  obtain ⟨o,ho,hc,n,hd⟩:=pl.isList
  exact call_list_seq p (.inl rfl) ho hc hd (λh' c' kp e=>fin its r' hz h' c' kp e) (by simp only[List.size_toArray] <;> omega)
 ·obtain ⟨its,r',pl,hz⟩:=I.tuple hq
  have hlen:=r'.length
  obtain ⟨o,ho,hc,n,hd⟩:=pl
  exact call_list_seq p (.inr rfl) ho hc hd (λh' c' kp e=>fin its r' hz h' c' kp e) (by simp only[List.size_toArray] <;> omega)
theorem zbE:Ut X (.type "tuple") (λxs H Q=>∃ p ys,xs=[.ref p]/\((SqL X.K H p ys/\∀ l,H l=none->Q (.ref l) (upd H l (.tup ys)))\/(SqT X.K H p ys/\Q (.ref p) H))):=by
 intro pins s σ H xs us Q I r h
 obtain ⟨p,ys,rfl,h⟩:=h
 obtain ⟨u,rfl,rx⟩:=vals1 r
 cases rx
 rcases h with ⟨hq,q⟩ | ⟨hq,q⟩
 ·obtain ⟨its,r',pl,hz⟩:=I.list hq
  have hlen:=r'.length
  refine call_tuple_list pl.isList (λh' kp=>?_) (by simp only[List.size_toArray] <;> omega)
  have I1:Inv X pins σ H { s with heap:=h' }:=I.kept (t' := s.toks) kp
  have I2:Inv X pins σ (upd H h'.objs.size (.tup ys)) { s with heap:=h'.push { cls:=.type "tuple",data:=.seq its.toArray } }:=
   I1.laid (t' := s.toks) (λb o e=>Heap.get?_push_of_some _ e) (Nat.le_refl _) (show YJ X.prog X.w _ _ _ (.tup ys) from ⟨hz,its,r',IsTup.new _ _,_,Heap.get?_push_size _ rfl,rfl⟩)
  exact ⟨.ref h'.objs.size,_,I2,rfl,q _ (I1.hok.fresh (Nat.le_refl _))⟩
 ·obtain ⟨its,r',pl,hz⟩:=I.tuple hq
  exact call_tuple_same pl ⟨.ref p,H,I,rfl,q⟩
def tyV (K:PySem.W.Frag)(T:String)(x:V)(H:Hp):Prop:=match x with
 | .str _=>T = "str"
 | .int _=>T = "int"
 | .ref p=>(T = "list" /\ ∃ xs,SqL K H p xs)\/(T = "tuple" /\ ∃ o,K.lookup p=some o/\o.cls = .type "tuple" /\ o.dict=none)\/
   (T = "dict" /\ ((∃ kvs,H p=some (.dK kvs))\/∃ kvs,H p=some (.dT kvs)))\/(T = "set" /\ ∃ S n,H p=some (.set S n))
 | _=>False
theorem zjv {pins:List (Addr×Obj)}{σ:St}{H:Hp}{s:Shared}{T:String}{x:V}{v:Value}(I:Inv X pins σ H s)(r:RelV x v)(ty:tyV X.K T x H):
  s.TypeIs v T/\∀ a,v = .ref a->∃ ob,s.heap.get? a=some ob/\ob.dict=none:=by
 cases x with
 | str z=>
  obtain ⟨t,rfl⟩:=r
  cases (show T = "str" from ty)
  exact ⟨typeIs_str s z t,λ_ e=>nomatch e⟩
 | int i=>
  obtain ⟨t,rfl⟩:=r
  cases (show T = "int" from ty)
  exact ⟨typeIs_int s i t,λ_ e=>nomatch e⟩
 | ref p=>
  cases r
  rcases ty with ⟨rfl,xs,hq⟩ | ⟨rfl,o,hk,hc,hd⟩ | ⟨rfl,hk⟩ | ⟨rfl,S,n,hk⟩
  ·obtain ⟨its,_,pl,_⟩:=I.list hq
   refine ⟨pl.isList.typeIs,λa e=>?_⟩
   cases e
   obtain ⟨o,n,e,c,hd,_⟩:=pl
   exact ⟨o,e,hd⟩
  ·refine ⟨⟨o,I.kIn p o hk,hc⟩,λa e=>?_⟩
   cases e
   exact ⟨o,I.kIn _ o hk,hd⟩
  ·have z:∃ o,s.heap.get? p=some o/\o.ExactDict:=by
    rcases hk with ⟨kvs,hk⟩ | ⟨kvs,hk⟩
    ·obtain ⟨_,_,_,_,o,_,_,e,ex,_⟩:=I.hok p _ hk
     exact ⟨o,e,ex⟩
    ·obtain ⟨_,_,_,_,o,_,_,e,ex,_⟩:=I.hok p _ hk
     exact ⟨o,e,ex⟩
   obtain ⟨o,e,ex⟩:=z
   refine ⟨⟨o,e,ex.1⟩,λa e2=>?_⟩
   cases e2
   exact ⟨o,e,ex.2.1⟩
  ·obtain ⟨o,_,_,_,e,ex,_⟩:=I.hok p _ hk
   refine ⟨⟨o,e,ex.1⟩,λa e2=>?_⟩
   cases e2
   exact ⟨o,e,ex.2.1⟩
 | _=>exact False.elim ty
def zpb (K:PySem.W.Frag)(T:String)(r:V->List V->Hp->VK->Prop)(to:TE):TE:=fun σ H Q=>to σ H λx H1=>tyV K T x H1/\r x [] H1 Q
def tBM (K:PySem.W.Frag)(T:String)(r:V->List V->Hp->VK->Prop)(to:TE)(t:TA):TE:=fun σ H Q=>to σ H λx H1=>tyV K T x H1/\t σ H1 λxs H2=>r x xs H2 Q
variable {o e:Expr}{es:List Expr}{to:TE}{t:TA}{name:Str}{apos cpos:Pos}{T id:String}{r:V->List V->Hp->VK->Prop}
theorem zmR (pa:PlainAttrs T)(slot:Slot T name id)(hty:typeOf (.builtin id)=pure (.type "method_descriptor"))(hm:MtR X id r)(ho:PE X o to)
  (hbase:attributeBase o name X.env (eval o X.env)=eval o X.env:=by rfl) (hline:(apos.endLine==cpos.line)=true:=by rfl):PE X (.Call (.Attribute o name apos) [] [] cpos) (zpb X.K T r to):=by
 intro pins s σ H Q I h
 refine wpAny_Call_method0_late hbase hline (thn (ho pins s σ H _ I h) λv s1 ⟨x,H1,I1,r1,ty,q1⟩=>?_)
 obtain ⟨h1,h2⟩:=zjv I1 r1 ty
 exact ⟨T,id,pa,slot,hty,h1,h2,Calls.callWith_builtin rfl (PySem.evalArgs_none (hm pins s1 σ H1 x [] v [] Q I1 r1 .nil q1))⟩
theorem zaM (pa:PlainAttrs T)(slot:Slot T name id)(hty:typeOf (.builtin id)=pure (.type "method_descriptor"))(hm:MtR X id r)(ho:PE X o to)(ha:PA X (e::es) t)
  (hbase:attributeBase o name X.env (eval o X.env)=eval o X.env:=by rfl)
  (hfew:((backTo cpos (starEach (e::es) X.env)).all (λx=>!x.1)&&(backToKw cpos (keywordEach [] X.env)).all (λx=>x.1.isSome)
   && decide ((e::es).length+([]:List Keyword).length+(if ([]:List Keyword).isEmpty then 0 else 1)<30))=true:=by rfl)
  (hline:(apos.endLine==cpos.line)=true:=by rfl) (hs:starEach (e::es) X.env=(false,eval e X.env)::starEach es X.env:=by rfl) (hplain:(backTo cpos (starEach es X.env)).any (·.1)=false:=by rfl):
  PE X (.Call (.Attribute o name apos) (e::es) [] cpos) (tBM X.K T r to t):=by
 intro pins s σ H Q I h
 refine wpAny_Call_method_late hbase hfew hline rfl (thn (ho pins s σ H _ I h) λv s1 ⟨x,H1,I1,r1,ty,q1⟩=>?_)
 obtain ⟨h1,h2⟩:=zjv I1 r1 ty
 refine ⟨T,id,pa,slot,hty,h1,h2,?_⟩
 have hA:=ha cpos pins s1 σ H1 _ I1 q1
 rw[hs] at hA ⊢
 refine Calls.callWith_builtin (by show (false||(backTo cpos (starEach es X.env)).any (·.1))=false;rw[hplain] <;> rfl) (Calls.evalArgs_plain ?_)
 exact thn hA λus s2 ⟨vs,H2,I2,r2,q2⟩=>hm pins s2 σ H2 x vs v us Q I2 r1 r2 q2
end
end L2
namespace L2
open PySem PySem.Spec PyProof.Rows
def MtM (X:Cx)(id:String)(r:V->List V->Hp->VK->Prop):Prop:=
 ∀ (pins:List (Addr×Obj)) (s:Shared) (σ:St) (H:Hp) (x:V) (xs:List V) (v:Value) (us:List Value) (Q:VK),Inv X pins σ H s->RelV x v->Vals xs us->r x xs H Q->
  wpAny (model X.prog X.w) X.A (call (.builtin id) (v::us)) (EP X pins σ Q) X.xe s
theorem Vals.one:∀ {x:V}{us:List Value},Vals [x] us->∃ u,us=[u]/\RelV x u
 | _,_,.cons r .nil=>⟨_,rfl,r⟩
theorem Vals.two:∀ {x y:V}{us:List Value},Vals [x,y] us->∃ u v,us=[u,v]/\RelV x u/\RelV y v
 | _,_,_,.cons r (.cons q .nil)=>⟨_,_,rfl,r,q⟩
theorem Vals.zero:∀ {us:List Value},Vals [] us->us=[]
 | _,.nil=>rfl
theorem Vals.dropLast {xs:List V}{us:List Value}(h:Vals xs us):Vals xs.dropLast us.dropLast:=by
 induction h with
 | nil=>exact .nil
 | cons r t ih=>
  cases t with
  | nil=>exact .nil
  | cons q t' => exact .cons r ih
theorem Vals.eraseIdx:∀ {xs:List V}{us:List Value}(i:Nat),Vals xs us->Vals (xs.eraseIdx i) (us.eraseIdx i)
 | _,_,_,.nil=>.nil
 | _,_,0,.cons _ t=>t
 | _,_,i+1,.cons r t=>.cons r (Vals.eraseIdx i t)
theorem Vals.reverse {xs:List V}{us:List Value}(h:Vals xs us):Vals xs.reverse us.reverse:=by
 induction h with
 | nil=>exact .nil
 | cons r t ih=>rw[List.reverse_cons,List.reverse_cons];exact Vals.append ih (.cons r .nil)
theorem Vals.rep {xs:List V}{us:List Value}(h:Vals xs us):∀ k:Nat,Vals (List.replicate k xs).flatten (List.replicate k us).flatten
 | 0=>.nil
 | k+1=>by
  rw[List.replicate_succ,List.replicate_succ,List.flatten_cons,List.flatten_cons]
  exact Vals.append h (Vals.rep h k)
theorem zfB {α:Type}(l:List α):l.eraseIdx (l.length-1)=l.dropLast:=by
 induction l with
 | nil=>rfl
 | cons a r ih=>
  cases r with
  | nil=>rfl
  | cons b r=>
   have e:(a::b::r).length-1=((b::r).length-1)+1:=by
    have h1:(a::b::r).length=r.length+2:=rfl
    have h2:(b::r).length=r.length+1:=rfl
    omega
   rw[e,List.eraseIdx_cons_succ,ih]
   all_goals rfl
theorem zcq {α:Type}:∀ (l:List α)(i:Nat),(l.eraseIdx i).length<=l.length
 | [],_=>Nat.le_refl _
 | _::_,0=>Nat.le_succ _
 | _::r,i+1=>Nat.succ_le_succ (zcq r i)
theorem foldl_rep (its:List Value):∀ (k:Nat)(acc:List Value),
  List.foldl (λx1 x2=>x1++x2) acc.toArray (List.replicate k its.toArray)=(acc++(List.replicate k its).flatten).toArray
 | 0,acc=>by simp
 | k+1,acc=>by
  have e:acc.toArray++its.toArray=(acc++its).toArray:=by simp
  have e2:(acc++its)++(List.replicate k its).flatten=acc++(List.replicate (k+1) its).flatten:=by
   rw[List.replicate_succ,List.flatten_cons,List.append_assoc]
  rw[← e2,← foldl_rep its k (acc++its),← e,List.replicate_succ,List.foldl_cons]
section
variable {X:Cx}{pins:List (Addr×Obj)}{σ:St}{H:Hp}{s:Shared}{l b:Addr}{xs ys zs:List V}
theorem Inv.zlG {its its' : List Value}{n:Nat}{f:Array Value->Array Value}{t' : Nat}(I:Inv X pins σ H s)(hH:H l=some (.lst xs))
  (e:s.heap.get? l=some { cls:=.type "list",data:=.seq its.toArray n }) (hf:f its.toArray=its'.toArray) (hv:Vals ys its') (hz:ys.length<=sizeLine):
  Inv X pins σ (upd H l (.lst ys)) { s with heap:=s.heap.update l (Obj.mapSeq f),toks:=t' }:=by
 have q:=PySem.IsL.update e f
 rw[hf] at q
 refine I.write (x:=l) (e:=l) (by rw[hH];exact trivial) (.inl rfl) (λb' u hb hu=>(Heap.get?_update_other s.heap (Obj.mapSeq f) (Ne.symm hb)).trans hu) ⟨_,q⟩ ?_
 exact ⟨hz,its',_,hv,q⟩
theorem Inv.zob {its:List Value}{t' : Nat}(I:Inv X pins σ H s)(hv:Vals ys its)(hz:ys.length<=sizeLine):
  Inv X pins σ (upd H s.heap.objs.size (.lst ys)) { s with heap:=s.heap.push { cls:=.type "list",data:=.seq its.toArray },toks:=t' }:=
 I.laid (λ_ _ q=>Heap.get?_push_of_some _ q) (Nat.le_refl _) ⟨hz,its,0,hv,Heap.get?_push_size _ rfl⟩
theorem Inv.fresh (I:Inv X pins σ H s):H s.heap.objs.size=none:=I.hok.fresh (Nat.le_refl _)
theorem Inv.zir (I:Inv X pins σ H s)(hH:H l=some (.lst xs)):xs.length<=sizeLine/\∃ (its:List Value)(n:Nat),Vals xs its/\xs.length=its.length/\s.heap.get? l=some { cls:=.type "list",data:=.seq its.toArray n }:=by
 obtain ⟨z,its,n,r,e⟩:=I.hok l _ hH
 exact ⟨z,its,n,r,r.length,e⟩
theorem zix {n:Nat}(h:n<=sizeLine):Builtin.List.listTooLong n=false:=by
 unfold Builtin.List.listTooLong
 exact decide_eq_false (by omega)
end
section
variable {X:Cx}
def zkR:V->List V->Hp->VK->Prop:=λx vs H Q=>∃ l xs y,x = .ref l/\vs=[y]/\H l=some (.lst xs)/\xs.length<sizeLine/\Q .non (upd H l (.lst (xs++[y])))
theorem Wm:MtM X "list.append" zkR:=by
 intro pins s σ H x vs v us Q I rx rv h
 obtain ⟨l,xs,y,rfl,rfl,hH,hz,q⟩:=h
 cases rx
 obtain ⟨u,rfl,ru⟩:=rv.one
 obtain ⟨z,its,n,r,hl,e⟩:=I.zir hH
 refine call_meets F.slot_list_append ⟨_,e,rfl⟩ F.entry_list_append (F.args_list_append_2 _ _) (PySem.list_append l its.toArray n u (by rw[List.size_toArray];omega)) ⟨e,?_⟩
 refine ⟨.non,_,I.zlG (its' := its++[u]) hH e (by simp) (r.append (.cons ru .nil)) ?_,rfl,q⟩
 rw[List.length_append,List.length_singleton]
 omega
def zpa:V->List V->Hp->VK->Prop:=λx vs H Q=>∃ l xs y,x = .ref l/\vs=[]/\H l=some (.lst xs)/\xs[xs.length-1]?=some y/\Q y (upd H l (.lst xs.dropLast))
theorem znC:MtM X "list.pop" zpa:=by
 intro pins s σ H x vs v us Q I rx rv h
 obtain ⟨l,xs,y,rfl,rfl,hH,hy,q⟩:=h
 cases rx
 have hus:=rv.zero
 subst hus
 obtain ⟨z,its,n,r,hl,e⟩:=I.zir hH
 obtain ⟨u,hu,ru⟩:=r.get hy
 have hy' : its.toArray[its.toArray.size-1]?=some u:=by
  show its.toArray[its.length-1]?=some u
  rw[← Array.getElem?_toList,← hl]
  exact hu
 refine call_meets F.slot_list_pop ⟨_,e,rfl⟩ F.entry_list_pop (F.args_list_pop_1 _) (MeetsSeq.list_pop_last l its.toArray n u hy' (by rw[List.size_toArray];omega)) ⟨e,?_⟩
 refine ⟨y,_,I.zlG (its' := its.dropLast) hH e ?_ r.dropLast ?_,ru,q⟩
 ·show its.toArray.eraseIdxIfInBounds (its.toArray.size-1)=its.dropLast.toArray
  rw[List.size_toArray,List.eraseIdxIfInBounds_toArray,zfB]
 ·rw[List.length_dropLast]
  omega
def zlQ:V->List V->Hp->VK->Prop:=λx vs H Q=>∃ l xs i k y,x = .ref l/\vs=[.int i]/\H l=some (.lst xs)/\-(2 ^ 63)<=i/\i<2 ^ 63/\seqIndex? i xs.length=some k/\xs[k]?=some y/\Q y (upd H l (.lst (xs.eraseIdx k)))
theorem ziW:MtM X "list.pop" zlQ:=by
 intro pins s σ H x vs v us Q I rx rv h
 obtain ⟨l,xs,i,k,y,rfl,rfl,hH,h1,h2,hk,hy,q⟩:=h
 cases rx
 obtain ⟨u,rfl,ru⟩:=rv.one
 obtain ⟨t,rfl⟩:=ru
 obtain ⟨z,its,n,r,hl,e⟩:=I.zir hH
 obtain ⟨w,hw,rw'⟩:=r.get hy
 refine call_meets F.slot_list_pop ⟨_,e,rfl⟩ F.entry_list_pop (F.args_list_pop_2 _ _)
  (MeetsSeq.list_pop_at l its.toArray n i t k w (fitsIndex_both h1 h2) (by rw[List.size_toArray,← hl];exact hk) (by rw[← Array.getElem?_toList];exact hw) (by rw[List.size_toArray];omega)) ⟨e,?_⟩
 refine ⟨y,_,I.zlG (its' := its.eraseIdx k) hH e ?_ (r.eraseIdx k) ?_,rw',q⟩
 ·show its.toArray.eraseIdxIfInBounds k=(its.eraseIdx k).toArray
  rw[List.eraseIdxIfInBounds_toArray]
 ·have:=zcq xs k
  omega
def zot:R2:=λx y H Q=>∃ l b xs zs,x = .ref l/\y = .ref b/\H l=some (.lst xs)/\H b=some (.lst zs)/\xs.length+zs.length<=sizeLine/\∀ p,H p=none->Q (.ref p) (upd H p (.lst (xs++zs)))
theorem zgq:OpR X (binaryOp .Add) zot:=by
 intro pins s σ H x y v u Q I rx ry h
 obtain ⟨l,b,xs,zs,rfl,rfl,hH,hB,hz,q⟩:=h
 cases rx
 cases ry
 obtain ⟨z,its,n,r,hl,e⟩:=I.zir hH
 obtain ⟨z2,its2,n2,r2,hl2,e2⟩:=I.zir hB
 refine PySem.P.add_list e e2 ?_ (by rw[List.size_toArray,List.size_toArray];omega)
 have ea:its.toArray++its2.toArray=(its++its2).toArray:=by simp
 rw[ea]
 exact ⟨.ref _,_,I.zob (t' := s.toks) (r.append r2) (by rw[List.length_append];omega),rfl,q _ I.fresh⟩
def zpc:R2:=λx y H Q=>∃ l k xs,x = .ref l/\y = .int k/\H l=some (.lst xs)/\-(2 ^ 63)<=k/\k<2 ^ 63/\xs.length*k.toNat<=sizeLine/\
 ∀ p,H p=none->Q (.ref p) (upd H p (.lst (List.replicate k.toNat xs).flatten))
theorem len_rep {α:Type}(xs:List α)(k:Nat):(List.replicate k xs).flatten.length=k*xs.length:=by
 induction k with
 | zero=>simp
 | succ k ih=>rw[List.replicate_succ,List.flatten_cons,List.length_append,ih,Nat.succ_mul,Nat.add_comm]
theorem znm:OpR X (binaryOp .Mult) zpc:=by
 intro pins s σ H x y v u Q I rx ry h
 obtain ⟨l,k,xs,rfl,rfl,hH,h1,h2,hz,q⟩:=h
 cases rx
 obtain ⟨t,rfl⟩:=ry
 obtain ⟨z,its,n,r,hl,e⟩:=I.zir hH
 have hlen:its.toArray.size*k.toNat<=sizeLine:=by rw[List.size_toArray,← hl];exact hz
 have hcap:¬ its.toArray.size*k.toNat>(2 ^ 63-1) / 8:=by
  have:(sizeLine:Nat)<=(2 ^ 63-1) / 8:=by decide
  omega
 have hfit:¬ (!Builtin.List.listFitsIndex k)=true:=by
  rw[fitsIndex_both h1 h2]
  exact Bool.false_ne_true
 have hlong:¬ Builtin.List.listTooLong (its.toArray.size*k.toNat)=true:=by
  rw[zix hlen]
  exact Bool.false_ne_true
 have hnew:List.foldl (λx1 x2=>x1++x2) #[] (List.replicate (if its.toArray.isEmpty=true then 0 else k.toNat) its.toArray)=(List.replicate k.toNat its).flatten.toArray:=by
  have f0:∀ m:Nat,List.foldl (λx1 x2=>x1++x2) #[] (List.replicate m its.toArray)=(List.replicate m its).flatten.toArray:=λm=>by
   have:=foldl_rep its m []
   rw[List.nil_append] at this
   exact this
  rw[f0]
  cases its with
  | nil=>simp
  | cons a r' => rw[if_neg (by simp)]
 refine wpAny_binaryOp_repeat_ref (T:= "list") (U:= "int") (by decide) ⟨_,e,rfl⟩ (λs' => typeIs_int s' k t) noFill_list_mul F.fills_int_mul F.slot_int_rmul repeat_list F.slot_int_index.lookup
  (call_meets F.slot_int_rmul (typeIs_int s k t) F.entry_int_rmul (F.args_int_rmul_2 _ _) (int___rmul___int_list k t l its.toArray n)
   ⟨e,rfl,⟨_,e,rfl⟩,call_meets F.slot_list_mul ⟨_,e,rfl⟩ F.entry_list_mul (F.args_list_mul_2 _ _) (AutoListH.list___mul___list_int_3 l its.toArray n k t hfit hcap hlong) ⟨e,?_⟩⟩)
 rw[hnew]
 exact ⟨.ref _,_,I.zob (t' := s.toks) (r.rep k.toNat) (by rw[len_rep,Nat.mul_comm];exact hz),rfl,q _ I.fresh⟩
end
section
variable {prog:Program}{w:World}{A:Around}{E:Value->Shared->Prop}{s:Shared}
set_option maxRecDepth 100000 in
end
section
variable {X:Cx}
end
end L2
namespace Att
open PySem PySem.W PySem.Calls PyProof.Rows
theorem zao {P:Params}{h:Heap}:∀ (ns:List Int)(vs:List Value),WellAll P h vs (ns.map WData.int)->IntsAre vs ns:=by
 intro ns
 induction ns with
 | nil=>
  intro vs w
  rw[List.map_nil] at w
  cases w
  exact .nil
 | cons n ns ih=>
  intro vs w
  rw[List.map_cons] at w
  cases w with
  | cons a b=>
   cases a
   exact .cons _ _ (ih _ b)
theorem zf7 {l:OpenLaw}{n:Nat}(hn:l.most=some n){P:Params}{h:Heap}{args:List WData}{vals:List Value}
  (hpre:l.row.toRowW.claim.pre args=true) (hwl:WellAll P h vals args):
  ∃ a vs ns,vals=[Value.ref a]/\args=[WData.list (ns.map WData.int)]/\h.get? a=some { cls:=.type "list",data:=.seq vs.toArray }/\IntsAre vs ns/\ns.length<=n:=by
 have hsh:WShape.hasAll [] args [.list .int]=true:=(pre_splitW hpre).1
 have hc:l.pre.holds [] { args:=args }=true:=(pre_splitW hpre).2
 obtain ⟨d,r,rfl,h1,h2⟩:=hasAllW_cons hsh
 obtain rfl:=hasAllW_nil h2
 obtain ⟨xs,rfl,h3⟩:=hasW_list h1
 obtain ⟨ns,rfl⟩:=items_int h3
 have hlen:ns.length<=n:=by
  unfold OpenLaw.pre at hc
  have h4:(WTm.not (.lt (.lit (.int (n:Int))) (.len (.arg 0)))).holds [] { args:=[.list (ns.map .int)] }=true:=by
   have h4:=(holds_andW hc).1
   rw[hn] at h4
   exact h4
  have h5:=condW_of h4 (w_not (w_lt w_lit (w_len_list (w_arg rfl))))
  rw[List.length_map] at h5
  refine Nat.le_of_not_lt λq=>?_
  have q' : (n:Int)<((ns.length:Nat):Int):=by omega
  first
   | (rw[decide_eq_true q'] at h5;exact absurd h5 (by decide))
   | (simp at h5;omega)
 cases hwl with
 | cons w1 w2=>
  cases w2
  cases w1 with
  | list ho hall=>exact ⟨_,_,ns,rfl,rfl,ho,zao ns _ hall,hlen⟩
theorem zhd (l:OpenLaw)(args:List WData):l.row.toRowW.claim.post args (.bool true) args=true:=
 postW_of (r:=l.row.toRowW) (X:=(true==true))
  (show WShape.has [] (.bool true) .bool=true by first | rfl | decide | simp[WShape.has,WShape.arms,WShape.armsAll])
  (show (WTm.eq .res (.lit (.bool true))).value [] { args:=args,res:=some (.bool true),after:=args }=some (.bool (true==true)) from w_eq_bool (w_res rfl) w_lit) rfl
theorem zdr {l:OpenLaw}{n:Nat}{q:Program}{loose:List Str}{XP:(Str->Option Value)->Heap->Prop}{YP:World->Heap->Prop}{d:DefRec}
  (hn:l.most=some n) (hdf:d.params.defaults=[])
  (call:∀ (w:World) (s₀ s₁:Shared) (mg mb:Str->Option Value) (fa:Addr) (o:Obj) (pm cd doc:Value) (a:Addr) (vs:List Value) (ns:List Int),
   Ground q loose [] XP w s₀ mg mb s₁.heap->YP w s₁.heap->
   s₁.heap.get? fa=some o->o.data = .func (docDef d.name d.params d.body d.scope pm cd doc)->s₁.heap.CodeRec cd d.name->mg d.name=some (.ref fa)->
   s₁.heap.get? a=some { cls:=.type "list",data:=.seq vs.toArray }->IntsAre vs ns->ns.length<=n->s₁.gens = #[]->
   codeAny (model l.prog w) callerA (.call (.ref fa) ⟨[.ref a],[]⟩) (λr s' => r = .ok (.ret (.bool true))/\OldK s₁.heap s'.heap/\s'.os=s₁.os/\AllBare s'.gens) s₁):
  WalkO q loose XP YP l.row.toRowW d [] (λf vs=>PySem.call f vs):=by
 intro w s₀ s₁ mg mb G Y fa o pm cd doc dV kV ho hd hcd hD hmg hg args vals as hpre hlay hrd hwl hlo
 obtain rfl:dV = .none:=Dflts.none hD hdf
 obtain rfl:kV = .none:=Dflts.noKw hD
 obtain ⟨a,vs,ns,rfl,rfl,hobj,hints,hlen⟩:=zf7 hn hpre hwl
 refine enter_call (codeAny_mono (call w s₀ s₁ mg mb fa o pm cd doc a vs ns G Y ho (fd_plain hd) hcd hmg hobj hints hlen hg) λr s' hq=>?_)
 obtain ⟨rfl,h2,h3,h4⟩:=hq
 exact ⟨.inl ⟨.bool true,.bool true,[],rfl,λ_=>rfl,.bool true,zhd l _,λ_=>⟨List.Pairwise.nil,λ_ hm=>(nomatch hm)⟩⟩,h2,h3,h4⟩
section
variable {prog:Program}{w:World}{A:Around}{E:Value->Shared->Prop}{s:Shared}{K:Frag}
end
end Att
namespace L2
open PySem PySem.Spec PyProof.Rows
theorem zcg:∀ {vs:List Value}{ns:List Int},IntsAre vs ns->Vals (ns.map V.int) vs
 | _,_,.nil=>.nil
 | _,_,.cons n t h=>.cons ⟨t,rfl⟩ (zcg h)
end L2
namespace L2
open PySem PySem.Spec PyProof.Rows
end L2
namespace L2
open PySem PySem.Spec PyProof.Rows
def Qd (s:Stmt):Arguments:=match s with
 | .FunctionDef _ a _ _ _ _ _ _ _ _=>a
 | _=>{ posonlyargs:=[],args:=[],vararg:=none,kwonlyargs:=[],kw_defaults:=[],kwarg:=none,defaults:=[] }
def Y5 (s:Stmt):List Stmt:=match s with
 | .FunctionDef _ _ b _ _ _ _ _ _ _=>b
 | _=>[]
def Zm (s:Stmt):Scope:=match s with
 | .FunctionDef _ _ _ _ _ _ sc _ _ _=>sc
 | _=>{ kind:=.function,names:=[],isGenerator:=false,isCoroutine:=false }
abbrev CX0:CXT:=λ_ _ _ _ _ _=>False
abbrev E0:XK:=λ_ _ _=>False
theorem Z3 {X:Cx}:zgG CX0 X E0:=λ_ _ _ _ _ _ _ h=>h.elim
structure Fun (K:PySem.W.Frag)(x qual:Str)(st:Stmt)(f:Addr)(fd:FuncData):Prop where
 ex:∃ (oc:Value) (od:Option Addr) (kV doc pm:Value) (an:Option Addr) (cdv ct:Value) (osl:Array (Option Value)),
  fd=PySem.W.fnOf x qual (Qd st) (Y5 st) (Zm st) .none kV doc pm an cdv ct/\K.lookup f=some ⟨oc,od,.func fd,osl⟩/\PySem.W.codeIn K cdv qual=true
 kp:PySem.W.keepIn K (.ref f)=true
section
variable {P:Program}{w:World}{K:PySem.W.Frag}{mg:Str->Option Value}{base:Heap}
theorem Fun.ok {x qual:Str}{st:Stmt}{f:Addr}{fd:FuncData}{N ps:List Str}{k:Nat}{sp:Sp}(F:Fun K x qual st f fd)(S:ZM N ps (Zm st))(len:∀ vs H Q E,sp vs H Q E->vs.length=ps.length)
  (hbody:∀ (cdv:Value) (A:Around) (outer:List Env) (s:Shared) (H:Hp) (vs:List V) (Q:VK) (E:XK),Wx k (A.deeper (envOfC qual (Zm st) s.heap.objs.size f cdv))->sp vs H Q E->
   ∃ t,PSs (zfR CX0 P w K mg base N qual (Zm st) f cdv A outer s H E).nox (Y5 st) t/\t { nx:=λ_ H' => Q .non H',rt:=Q } (start N vs) H):Yi P w K mg base CX0 (k+1) f fd ps sp:=by
 obtain ⟨oc,od,kV,doc,pm,an,cdv,ct,osl,rfl,lk,hcd⟩:=F.ex
 refine zlV lk hcd S len λA outer s H vs Q E hr hsp=>?_
 obtain ⟨t,h,q⟩:=hbody cdv A outer s H vs Q E hr hsp
 exact ⟨t,h.nox,q⟩
theorem Fun.binds {x qual:Str}{st:Stmt}{f:Addr}{fd:FuncData}{ps:List Str}(F:Fun K x qual st f fd)
  (h:∀ (kV doc pm:Value) (an:Option Addr) (cdv ct:Value) (us:List Value),us.length=ps.length->bindArgs (PySem.W.fnOf x qual (Qd st) (Y5 st) (Zm st) .none kV doc pm an cdv ct) ⟨us,[]⟩=pure (ps.zip us)):Binds K fd ps []:=by
 obtain ⟨oc,od,kV,doc,pm,an,cdv,ct,osl,rfl,lk,hcd⟩:=F.ex
 exact .all (h kV doc pm an cdv ct)
theorem ZC {x qual:Str}{st:Stmt}{f:Addr}{oc:Value}{od an:Option Addr}{osl:Array (Option Value)}{kV doc pm cdv ct:Value}(l:K.lookup f=some ⟨oc,od,.func (PySem.W.fnOf x qual (Qd st) (Y5 st) (Zm st) .none kV doc pm an cdv ct),osl⟩)
  (c:PySem.W.codeIn K cdv qual=true) (k:PySem.W.keepIn K (.ref f)=true):Fun K x qual st f (PySem.W.fnOf x qual (Qd st) (Y5 st) (Zm st) .none kV doc pm an cdv ct):=⟨⟨oc,od,kV,doc,pm,an,cdv,ct,osl,rfl,l,c⟩,k⟩
end
section
variable {X:Cx}
theorem pv (i:Nat){x:Str}{pos:Pos}(hN:X.N[i]?=some x:=by rfl) (hv:Vis X.env.scope x:=by first | exact Or.inl rfl | exact Or.inr (Or.inl rfl) | exact Or.inr (Or.inr rfl)) (hd:(x==("__debug__" : Str))=false:=by decide)
  (hcd:(x==("__classdict__" : Str))=false:=by decide):PE X (.Name x pos) (Xq i):=zht hN hv hd hcd
end
theorem zlH {A B:Prop}(h:B):if false=true then A else B:=by
 rw[if_neg Bool.false_ne_true]
 exact h
theorem zlJ {A B:Prop}(h:A):if true=true then A else B:=by
 rw[if_pos rfl]
 exact h
theorem zoC {c A B:Prop}[Decidable c](h1:c->A)(h2:¬ c->B):if c then A else B:=by
 by_cases h:c
 ·rw[if_pos h]
  exact h1 h
 ·rw[if_neg h]
  exact h2 h
def ZL (H H' : Hp):Prop:=∀ b o,H b=some o->H' b=some o
theorem ZL.refl (H:Hp):ZL H H:=λ_ _ h=>h
theorem ZL.trans {H H1 H2:Hp}(a:ZL H H1)(b:ZL H1 H2):ZL H H2:=λc o h=>b c o (a c o h)
theorem ZL.free {H H' : Hp}(e:ZL H H'){l:Addr}(h:H' l=Option.none):H l=Option.none:=by
 cases q:H l with
 | none=>rfl
 | some o=>
  rw[e l o q] at h
  cases h
theorem ZL.seq {K:PySem.W.Frag}{H H' : Hp}{a:Addr}{xs:List V}(e:ZL H H')(h:SqL K H a xs):SqL K H' a xs:=by
 rcases h with (h | ⟨o,h⟩) | h
 ·exact .inl (.inl (e _ _ h))
 ·exact .inl (.inr ⟨o,e _ _ h⟩)
 ·exact .inr h
end L2
set_option maxHeartbeats 4000000
namespace L2
open PySem PySem.Spec PyProof.Rows
section
variable {X:Cx}
def V5 (i j:Int):Prop:=i.natAbs<2 ^ 4000/\j.natAbs<2 ^ 4000
theorem V5.ok {i j:Int}(h:V5 i j):IntMulOk i j:=
 IntMulOk.of_le (m:=4000) (n:=4000) (intBits_le_iff.mpr h.1) (intBits_le_iff.mpr h.2) (by decide)
theorem Y9:OpR X (binaryOp .Mult) (rI V5 λi j=>.int (i*j)):=opI λ_ _ _ _ _ _ _ hc q=>mul_int q hc.ok
def zn5 (i j:Int):Prop:=j≠0/\j.natAbs<2 ^ 4000
theorem zo6 {i j:Int}(h:zn5 i j):Builtin.divisionGoesByPylong i j=false:=by
 refine PyProof.noPylong_of_log2 ?_
 have h0:j.natAbs≠0:=by have:=h.1;omega
 have:=(Nat.log2_lt h0).mpr h.2
 omega
def Uw (i j:Int):Prop:=0<j/\j.natAbs<2 ^ 4000
theorem YF:OpR X (binaryOp .FloorDiv) (rI Uw λi j=>.int (i / j)):=opI λi j _ _ _ _ _ hc q=>by
 refine floordiv_int (by have:=hc.1;omega) ?_ (.inl (zo6 ⟨by have:=hc.1;omega,hc.2⟩))
 rw[Int.fdiv_eq_ediv_of_nonneg i (by have:=hc.1;omega)]
 exact q
end
end L2
namespace L2
open PySem PySem.Spec PyProof.Rows
def Jl (env:Env):List (Str×NameKind)->List (Str×Addr)->List (Str×Addr)
 | [],acc=>acc
 | (n,k)::r,acc=>Jl env r (if (k==NameKind.free)=true then (n,(env.cells.lookup n).getD 0)::acc else acc)
theorem zfl {env:Env}:∀ (names:List (Str×NameKind))(acc:List (Str×Addr)),(∀ p∈names,p.2 = .free->∃ c,env.cells.lookup p.1=some c)->
  (forIn names acc λ(x:Str×NameKind) (cs:List (Str×Addr))=>(match x with
   | (name,kind)=>if (kind==NameKind.free)=true then (do let __do_lift ← cellOf env name;pure (ForInStep.yield ((name,__do_lift)::cs))) else pure (ForInStep.yield cs):Sem (ForInStep (List (Str×Addr)))))=pure (Jl env names acc):=by
 intro names
 induction names with
 | nil=>intro acc _;rfl
 | cons p r ih=>
  intro acc h
  obtain ⟨n,k⟩:=p
  rw[List.forIn_cons]
  have hr:=λacc=>ih acc λq hq=>h q (List.mem_cons_of_mem _ hq)
  by_cases hk:k = .free
  ·subst hk
   obtain ⟨c,hc⟩:=h (n,.free) List.mem_cons_self rfl
   have e:cellOf env n=pure c:=by unfold cellOf;rw[hc]
   simp only[beq_self_eq_true,if_true,e,pure_bind]
   rw[hr]
   simp only[Jl,beq_self_eq_true,if_true,hc,Option.getD_some]
  ·have hb:(k==NameKind.free)=false:=by simpa using hk
   simp only[hb,Bool.false_eq_true,if_false,pure_bind]
   rw[hr]
   simp only[Jl,hb,Bool.false_eq_true,if_false]
theorem Wa {env:Env}{scope:Scope}(h:∀ p∈scope.names,p.2 = .free->∃ c,env.cells.lookup p.1=some c):closureFor scope env=pure (Jl env scope.names []):=by
 unfold closureFor
 have e:=zfl (env:=env) scope.names [] h
 simp only[e,pure_bind]
theorem Uq {env:Env}{y:Str}{c:Addr}:∀ {names:List (Str×NameKind)}{acc:List (Str×Addr)},(∀ p∈names,p.2 = .free->∃ c,env.cells.lookup p.1=some c)->(∀ y c,acc.lookup y=some c->env.cells.lookup y=some c)->
  (Jl env names acc).lookup y=some c->env.cells.lookup y=some c
 | [],_,_,ha,e=>ha _ _ e
 | (n,k)::r,acc,h,ha,e=>by
  refine Uq (names:=r) (λp hp=>h p (List.mem_cons_of_mem _ hp)) (λy c q=>?_) e
  by_cases hk:(k==NameKind.free)=true
  ·rw[if_pos hk] at q
   obtain ⟨c',hc'⟩:=h (n,k) List.mem_cons_self (by simpa using hk)
   rw[List.lookup_cons] at q
   cases hy:y==n with
   | true=>
    rw[hy] at q
    have hy' : y=n:=by simpa using hy
    subst hy'
    rw[hc'] at q
    cases q
    exact hc'
   | false=>
    rw[hy] at q
    exact ha y c q
  ·rw[if_neg hk] at q
   exact ha y c q
theorem zeL {env:Env}{y:Str}:∀ {names:List (Str×NameKind)}{acc:List (Str×Addr)},(acc.lookup y).isSome=true->((Jl env names acc).lookup y).isSome=true
 | [],_,h=>h
 | (n,k)::r,acc,h=>by
  refine zeL (names:=r) ?_
  split
  ·rw[List.lookup_cons]
   split
   ·rfl
   ·exact h
  ·exact h
theorem WR {env:Env}{y:Str}:∀ {names:List (Str×NameKind)}{acc:List (Str×Addr)},(y,NameKind.free)∈names->((Jl env names acc).lookup y).isSome=true
 | (n,k)::r,acc,h=>by
  rcases List.mem_cons.mp h with e | h
  ·cases e
   refine zeL (names:=r) ?_
   rw[if_pos (by simp),List.lookup_cons]
   simp
  ·exact WR (names:=r) h
abbrev Xo (X:Cx)(scope:Scope)(Nc:List Str)(C:Addr)(s0:Shared)(H0:Hp)(ex:List Addr):Cx:=
 { X with N:=Nc,s₀:=s0,H₀:=H0,env:=compEnvC scope (Jl X.env scope.names []) C X.env,outer:=X.stack,ex:=ex,fn:=λ_=>false,pn:=[],xe:=λ_ _=>False }
structure Xz (fr sc:Scope)(x:Str)(cap:List Str):Prop where
 kind:sc.kind = .function
 cell:∀ p∈sc.names,p.2≠.cell
 names:∀ p∈sc.names,p.2 = .local->sc.names.lookup p.1=some .local
 tgt:sc.names.lookup x=some .local
 free:∀ p∈sc.names,p.2 = .free->fr.names.lookup p.1=some .cell
 caps:∀ y∈cap,(y,NameKind.free)∈sc.names
 nd:(x::cap).Nodup
 noboth:∀ y∈cap,sc.names.lookup y≠some .local
theorem Ux {sc:Scope}{env:Env}{y:Str}{k:NameKind}(h:(y,k)∈(relabel sc env).names):∃ k',(y,k')∈sc.names/\(k=k' \/ (k' = .free/\k = .cell)):=by
 unfold relabel at h
 obtain ⟨⟨n,k'⟩,hm,e⟩:=List.mem_map.mp h
 by_cases hc:(k'==NameKind.free&&env.scope.kind == .function&&env.kindOf n==some .cell)=true
 ·have e:(n,NameKind.cell)=(y,k):=by simpa [hc] using e
  cases e
  refine ⟨k',hm,.inr ⟨?_,rfl⟩⟩
  rw[Bool.and_eq_true,Bool.and_eq_true] at hc
  simpa using hc.1.1
 ·have e:(n,k')=(y,k):=by simpa [hc] using e
  cases e
  exact ⟨k,hm,.inl rfl⟩
section
variable {X:Cx}{pins:List (Addr×Obj)}{σ:St}{H:Hp}{s:Shared}{sc:Scope}{x:Str}{cap:List Str}
theorem Xz.cells (S:Xz X.env.scope sc x cap)(ok:X.Ok):∀ p∈sc.names,p.2 = .free->∃ c,X.env.cells.lookup p.1=some c:=
 λp hp e=>ok.has p.1 (.inl (S.free p hp e))
theorem Xz.sub (S:Xz X.env.scope sc x cap)(ok:X.Ok){y:Str}{c:Addr}(h:(Jl X.env sc.names []).lookup y=some c):X.env.cells.lookup y=some c:=
 Uq (S.cells ok) (λ_ _ z=>by simp at z) h
theorem zfT {a b:Addr}(h:a<b):a≠b:=Nat.ne_of_lt h
theorem zph {a b:Addr}(h:b<a):a≠b:=Nat.ne_of_gt h
def Jm (σ:St)(js:List Nat):St:=js.map λj=>(σ[j]?).join
theorem zii (S:Xz X.env.scope sc x cap){js:List Nat}(hjs:js.map (λj=>X.N[j]?)=cap.map some)(I:Inv X pins σ H s){fp:List Addr}(hf:∀ b∈fp,zfS X pins H b)(hlt:∀ b∈fp,b<s.heap.objs.size)
  {h1:Heap}{tk:Nat}{D C:Addr}{oD:Obj}{m:Str->Option Value}(hD:D=s.heap.objs.size) (hC:C=s.heap.objs.size+1) (keep:∀ b o,s.heap.get? b=some o->h1.get? b=some o) (hoD:h1.get? D=some oD) (hnc:∀ v,oD.data≠.cell v) (hns:h1.Ns C m):
  Inv (Xo X sc (x::cap) C s H fp) [(D,oD)] (none::Jm σ js) H { s with heap:=h1,toks:=tk }:=by
 subst hD hC
 have lenJ:js.length=cap.length:=by have:=congrArg List.length hjs;simpa using this
 have ok:=I.ok
 refine ⟨⟨ok.mod,S.kind,ok.glob,ok.blt,?_,λy z c h1 h2=>ok.inj y z c (S.sub ok h1) (S.sub ok h2),λy hy=>?_,(λy c h=>Bool.noConfusion h),ok.hd,ok.frames,.inl rfl,λb hb=>⟨?_,λy c e=>(hf b hb).2.2.2.2.1 y c (S.sub ok e)⟩,I.bs,Nat.le_trans ok.bsz I.sz,λb o e hb=>?_,λb hb hb' => ?_,I.stack,I.zgY⟩,
  rfl,I.bare,Un.kept keep,⟨m,hns,λi y v e1 e2 e3=>?_⟩,λy c e=>?_,I.hok.fresh (Nat.le_succ _),λy c e=>I.freeC y c (S.sub ok e),λp hp=>?_,I.hok.kept keep,?_⟩
 ·exact Nat.le_succ _
 ·have hy' : ∃ k,(y,k)∈(relabel sc X.env).names/\(k = .cell\/k = .free):=by
   rcases hy with hy | hy
   ·exact ⟨_,PySem.mem_of_lookup hy,.inl rfl⟩
   ·exact ⟨_,PySem.mem_of_lookup hy,.inr rfl⟩
  obtain ⟨k,hm,hk⟩:=hy'
  obtain ⟨k',hm',hk'⟩:=Ux hm
  have hfree:k' = .free:=by
   rcases hk' with e | ⟨e,_⟩
   ·subst e
    rcases hk with e | e
    ·exact absurd e (S.cell _ hm')
    ·exact e
   ·exact e
  subst hfree
  exact Option.isSome_iff_exists.mp (WR hm')
 ·exact zfT (Nat.lt_succ_of_lt (hlt b hb))
 ·obtain ⟨_,_,_,z,_⟩:=hf b hb
  rcases z with z | z
  ·exact ok.noex b o e z
  ·have:=Heap.lt_size (ok.bs b o e).1
   exact absurd (Nat.lt_of_lt_of_le this z) (Nat.lt_irrefl _)
 ·obtain ⟨_,z1,z2,_⟩:=hf b hb
  rcases List.mem_cons.mp (I.zf4 b hb') with z | z
  ·exact z1 z
  ·exact z2 z
 ·cases i with
  | zero=>
   have e2' : (none:Option V)=some v:=by simpa using e2
   cases e2'
  | succ i=>
   have e1' : cap[i]?=some y:=by simpa using e1
   have e2' : (Jm σ js)[i]?=some (some v):=by simpa using e2
   have hy:y∈cap:=List.mem_of_getElem? e1'
   unfold Jm at e2'
   rw[List.getElem?_map] at e2'
   cases ej:js[i]? with
   | none=>rw[ej] at e2';cases e2'
   | some j=>
    rw[ej] at e2'
    have e2'' : (σ[j]?).join=some v:=Option.some.inj e2'
    have eN:X.N[j]?=some y:=by
     have:=congrArg (λl=>l[i]?) hjs
     simp only[List.getElem?_map,ej,e1',Option.map_some] at this
     exact Option.some.inj this
    have eσ:σ[j]?=some (some v):=by
     cases q:σ[j]? with
     | none=>rw[q] at e2'';cases e2''
     | some w' =>
      rw[q] at e2''
      have:w'=some v:=by simpa using e2''
      rw[this]
    have kc:X.env.scope.names.lookup y=some .cell:=S.free (y,.free) (S.caps y hy) rfl
    obtain ⟨m0,hn0,hl0⟩:=I.loc
    obtain ⟨u,ru,lk⟩:=hl0 j y v eN eσ (.inr (.inl kc))
    refine ⟨u,ru,?_⟩
    rcases lk with ⟨k,_⟩ | ⟨_,c,ec,hc⟩
    ·have k' : X.env.scope.names.lookup y=some .local:=k
     rw[kc] at k';cases k'
    ·obtain ⟨c',hc'⟩:=Option.isSome_iff_exists.mp (WR (env:=X.env) (acc:=[]) (S.caps y hy))
     have hcc:c'=c:=Option.some.inj ((S.sub ok hc').symm.trans ec)
     subst hcc
     refine .inr ⟨?_,c',hc',?_⟩
     ·rcases e3 with e3 | e3 | e3
      ·exfalso
       have hm:=PySem.mem_of_lookup e3
       obtain ⟨k',hm',hk'⟩:=Ux hm
       rcases hk' with e | ⟨_,e⟩
       ·subst e
        exact S.noboth y hy (S.names _ hm' rfl)
       ·cases e
      ·exact .inl e3
      ·exact .inr e3
     ·obtain ⟨o,ho,hd⟩:=hc
      exact ⟨o,keep _ o ho,hd⟩
 ·obtain ⟨v,o,ho,hd⟩:=I.cell y c (S.sub ok e)
  exact ⟨v,o,keep _ o ho,hd⟩
 ·have hp' : p=(s.heap.objs.size,oD):=by simpa using hp
  subst hp'
  refine ⟨hoD,I.hok.fresh (Nat.le_refl _),zfT (Nat.lt_succ_self _),λhb=>?_,hnc⟩
  obtain ⟨_,o,ho,_⟩:=I.stack.mem hb
  exact Nat.lt_irrefl _ (Heap.lt_size ho)
 ·show (none::Jm σ js).length=(x::cap).length
  unfold Jm
  simp[lenJ]
theorem zet (S:Xz X.env.scope sc x cap)(I:Inv X pins σ H s){fp:List Addr}(hf:∀ b∈fp,zfS X pins H b){D C:Addr}{pn' : List (Addr×Obj)}{σ' : St}{H' : Hp}{s' : Shared}{ys:List V}{its:List Value}{k:Nat}{h' : Heap}
  (hD:D=s.heap.objs.size) (hC:C=s.heap.objs.size+1) (J:Inv (Xo X sc (x::cap) C s H fp) pn' σ' H' s') (hnD:H' D=none) (hoD:s'.heap.get? D=some { cls:=.type "list",data:=.seq its.toArray k }) (rv:Vals ys its) (hz:ys.length<=sizeLine)
  (hs:Heap.SameBut C s'.heap h'):Inv X pins σ (upd H' D (.lst ys)) { s' with heap:=h' }:=by
 subst hD hC
 have base:Un (frs X.stack) fp H H' s.heap s'.heap:=J.base
 have hnC:H' (s.heap.objs.size+1)=none:=J.free
 have neC:∀ {b:Addr}{o:Obj},s.heap.get? b=some o->b≠s.heap.objs.size+1:=λe=>zfT (Nat.lt_succ_of_lt (Heap.lt_size e))
 have neD:∀ {b:Addr}{o:Obj},s.heap.get? b=some o->b≠s.heap.objs.size:=λe=>zfT (Heap.lt_size e)
 have neDH:∀ {b:Addr}{o:HO},H b=some o->b≠s.heap.objs.size:=λe=>zfT (I.hok.lt e)
 refine I.call' (s' := { s' with heap:=h' }) (ch:=fp) J.os ⟨λb o e n hb hx=>?_,λb o e n hb hx=>?_,λb o e n hx=>?_,λb o e hx=>?_,λb xs e=>?_,λb o u e=>?_,λb ps e=>?_⟩ (λb u e=>?_) J.bare λb hb=>?_
 ·exact (hs.2 b (neC e)).trans (base.keep b o e n hb hx)
 ·obtain ⟨sl,q⟩:=base.slot b o e n hb hx
  exact ⟨sl,(hs.2 b (neC e)).trans q⟩
 ·rw[Zq (neD e)];exact base.free b o e n hx
 ·obtain ⟨o',q⟩:=base.there b o e hx
  exact ⟨o',(hs.2 b (neC e)).trans q⟩
 ·rw[Zq (neDH e)];exact base.tups b xs e
 ·rw[Zq (neDH e)];exact base.frzs b o u e
 ·rw[Zq (neDH e)];exact base.tbls b ps e
 ·by_cases hb:b=s.heap.objs.size
  ·subst hb
   rw[Zh] at e
   cases e
   exact ⟨hz,its,k,rv,(hs.2 _ (zfT (Nat.lt_succ_self _))).trans hoD⟩
  ·rw[Zq hb] at e
   have J' : YJ X.prog X.w H' s'.heap b u:=J.hok b u e
   refine J'.stay (λc v hc q=>(hs.2 c ?_).trans q) (λc q=>?_) (λc xs q=>?_) λc o u q=>?_
   ·rintro rfl
    rcases hc with rfl | hc
    ·rw[hnC] at e;cases e
    ·rw[hnC] at hc;cases hc
   ·rw[Zq (Zn q hnD)];exact q
   ·rw[Zq (Zn q hnD)];exact q
   ·rw[Zq (Zn q hnD)];exact q
 ·obtain ⟨_,z1,_,z3,z4,z5⟩:=hf b hb
  exact ⟨z3,z1,z4,z5⟩
def PIf (X:Cx)(ifs:List Expr)(t:TT):Prop:=
 ∀ (pins:List (Addr×Obj)) (s:Shared) (σ:St) (H:Hp) (Q:Bool->Hp->Prop),Inv X pins σ H s->t σ H Q->
  wpAny (model X.prog X.w) X.A (forIn ifs true λc r=>if r=true then do let ok ← isTrue c X.env (eval c X.env);pure (ForInStep.yield ok) else pure (ForInStep.yield r)) (TP X pins σ Q) X.xe s
def zc6:TT:=λ_ H Q=>Q true H
theorem ziA {σ:St}{H:Hp}{A B:Hp->Prop}(h:A H):zc6 σ H (λb H2=>if b=true then A H2 else B H2):=by
 unfold zc6
 exact zlJ h
theorem Jv {X:Cx}:PIf X [] zc6:=λ_ _ _ H _ I h=>wpAny_tests_nil ⟨H,I,h⟩
theorem zkn {X:Cx}{c:Expr}{t:TT}(h:PT X c t):PIf X [c] t:=λpins s σ H Q I q=>wpAny_tests_one (h pins s σ H Q I q)
end
section
variable {prog:Program}{w:World}{A:Around}{R:Result->Shared->Prop}{s:Shared}
theorem ze8 {elt target iter:Expr}{ifs:List Expr}{scope:Scope}{pos:Pos}{it acc:Value}{env:Env}(J:Nat->Shared->Prop)
  (turn:∀ n s,J n s->wpAny (model prog w) A (pyNext it) (λr s₁=>match r with
   | none=>R (.ok .next) s₁
   | some v=>wpAny (model prog w) A (letOwnedTupleGo target it v) (λ_ s₂=>wpAny (model prog w) A (assign target env v) (λ_ s₃=>
     wpAny (model prog w) A (forIn ifs true λc r=>if r=true then do let ok ← isTrue c env (eval c env);pure (ForInStep.yield ok) else pure (ForInStep.yield r)) (λok s₄=>
      if ok=true then wpAny (model prog w) A (eval elt env) (λx s₅=>
       wpAny (model prog w) A (call (.builtin "list.append") [acc,x]) (λ_ s₆=>∃ m,m<n/\J m s₆) (λ_ _=>False) s₅) (λ_ _=>False) s₄
      else ∃ m,m<n/\J m s₄) (λ_ _=>False) s₃) (λ_ _=>False) s₂) (λ_ _=>False) s₁) (λ_ _=>False) s)
  (n:Nat) (h:J n s):codeAny (model prog w) A (.compLoop (.ListComp elt [⟨target,iter,ifs,0⟩] scope pos) 0 it acc env) R s:=by
 refine codeAny_loop rfl J (λn s hJ=>?_) n h
 show wpAny _ A ((compTurn (.ListComp elt [⟨target,iter,ifs,0⟩] scope pos) 0 it acc env).onRaise (λx=>do noteFrame x env;theTreesLotGoes x)) _ _ s
 refine wpAny_noted ?_
 rw[compTurn_list]
 refine wpAny_bind (wpAny_standAt (wpAny_bind (wpAny_mono (turn n s hJ) (λr s₁ h₁=>?_) λ_ _ z=>z.elim)))
 cases r with
 | none=>exact wpAny_pure h₁
 | some v=>
  refine wpAny_bind (wpAny_mono h₁ (λ_ s₂ h₂=>?_) λ_ _ z=>z.elim)
  refine wpAny_bind (wpAny_mono h₂ (λ_ s₃ h₃=>wpAny_bind (wpAny_mono h₃ (λok s₄ h₄=>?_) λ_ _ z=>z.elim)) λ_ _ z=>z.elim)
  cases ok with
  | false=>exact wpAny_pure ⟨rfl,h₄⟩
  | true=>
   exact wpAny_bind (wpAny_bind (wpAny_mono h₄ (λx s₅ h₅=>wpAny_bind (wpAny_mono h₅ (λ_ s₆ h₆=>wpAny_pure (wpAny_pure ⟨rfl,h₆⟩)) λ_ _ z=>z.elim)) λ_ _ z=>z.elim))
end
section
variable {X:Cx}{pins:List (Addr×Obj)}{σ:St}{H:Hp}{s:Shared}{sc:Scope}{x:Str}{cap:List Str}
def LCw (J:It)(js:List Nat)(σ:St)(tt:TT)(te:TE)(Q:VK)(W:Nat->Nat->List V->Hp->Prop):Prop:=
 ∀ i m ys H,W i m ys H->ys.length<sizeLine/\
  ((J.stop i H/\∀ p,H p=none->Q (.ref p) (upd H p (.lst ys)))\/
   (J.go i H/\∀ x H',J.yld i H x H' -> tt (some x::Jm σ js) H' λb H2=>if b=true then te (some x::Jm σ js) H2 λv H3=>∃ m',m'<m/\W (i+1) m' (ys++[v]) H3 else ∃ m',m'<m/\W (i+1) m' ys H2))
def tLC (wi:TI)(js:List Nat)(tt:TT)(te:TE):TE:=fun σ H Q=>wi σ H λJ H1=>∃ W:Nat->Nat->List V->Hp->Prop,(∃ m,W 0 m [] H1)/\LCw J js σ tt te Q W
theorem zew (S:Xz X.env.scope sc x cap){js:List Nat}(hjs:js.map (λj=>X.N[j]?)=cap.map some)(hc:X.calm=true){elt iter:Expr}{ifs:List Expr}{pos px:Pos}{tt:TT}{te:TE}
  (hb:∀ C s0 H0 ex,PIf (Xo X sc (x::cap) C s0 H0 ex) ifs tt/\PE (Xo X sc (x::cap) C s0 H0 ex) elt te)
  (I:Inv X pins σ H s) {J:It}{fp:List Addr}{it:Addr}{tn:Nat->Heap->Prop}(T:Turn X.prog X.w X.K (.Name x px) J fp it tn) (st:tn 0 s.heap) (hf:∀ b∈fp,zfS X pins H b)
  {Q:VK}{W:Nat->Nat->List V->Hp->Prop}(w0:∃ m,W 0 m [] H) (turn:LCw J js σ tt te Q W) {RR:Value->Addr->Result->Shared->Prop}{E:Value->Shared->Prop}
  (hR:∀ D C s' σ' H' ys its k,D=s.heap.objs.size->C=s.heap.objs.size+1->Inv (Xo X sc (x::cap) C s H fp) [(D,{ cls:=.type "list",data:=.seq its.toArray k })] σ' H' s' -> Vals ys its->ys.length<=sizeLine->(∀ p,H' p=none->Q (.ref p) (upd H' p (.lst ys)))->RR (.ref D) C (.ok .next) s'):
  wpAny (model X.prog X.w) X.A (newList []) (λacc s₃=>wpAny (model X.prog X.w) X.A (newFunctionEnv sc X.env.globals (Jl X.env sc.names []) [] X.env.qual none .none (some X.env)) (λcenv s₄=>
   codeAny (model X.prog X.w) X.A (.compStart (.ListComp elt [⟨.Name x px,iter,ifs,0⟩] sc pos) 0 (.ref it) acc { cenv with scope:=relabel sc X.env }) (RR acc cenv.locals) s₄) E s₃) E s:=by
 refine wpAny_newObj_type (wpAny_newFunctionEnv S.cell (by intro y hy;simp at hy) (λh₁ hns₁ hsb₁=>?_) S.kind)
 dsimp only at hns₁ hsb₁ ⊢
 have hlt:∀ b∈fp,b<s.heap.objs.size:=λb hb' => by
  obtain ⟨o,e,_⟩:=T.obj 0 _ st b hb'
  exact Heap.lt_size e
 generalize hH2:s.heap.push { cls:=.type "list",dict:=none,data:=.seq ([]:List Value).toArray }=H2 at hns₁ hsb₁ ⊢
 have hC:H2.objs.size=s.heap.objs.size+1:=by rw[← hH2,Heap.size_push]
 have old:∀ b o,s.heap.get? b=some o->h₁.get? b=some o:=λb o e=>
  hsb₁.extBut b o (by rw[hC];exact zfT (Nat.lt_succ_of_lt (Heap.lt_size e))) (Heap.get?_push_of_some _ (hH2 ▸ Heap.get?_push_of_some _ e))
 have hacc:h₁.get? s.heap.objs.size=some { cls:=.type "list",data:=.seq ([]:List Value).toArray }:=
  hsb₁.extBut _ _ (by rw[hC];exact zfT (Nat.lt_succ_self _)) (Heap.get?_push_of_some _ (hH2 ▸ Heap.get?_push_size _ rfl))
 have st₁:tn 0 h₁:=T.keep _ _ _ st λb _ o e=>old b o e
 obtain ⟨m0,w0⟩:=w0
 rw[hC] at hns₁ hsb₁ ⊢
 generalize hCe:s.heap.objs.size+1=C at hns₁ hsb₁ hR ⊢
 generalize hDe:s.heap.objs.size=D at hacc hR ⊢
 have hDe' := hDe.symm
 have hC' : C=s.heap.objs.size+1:=hCe.symm
 have ltD:∀ {b:Addr},b<s.heap.objs.size->b≠D:=λh=>by rw[← hDe];exact zfT h
 have loop:∀ s₃:Shared,s₃={ s with heap:=h₁,toks:=s.toks+([]:List (Str×Value)).length }->
   codeAny (model X.prog X.w) X.A (.compLoop (.ListComp elt [⟨.Name x px,iter,ifs,0⟩] sc pos) 0 (.ref it) (.ref D) (compEnvC sc (Jl X.env sc.names []) C X.env)) (RR (.ref D) C) s₃:=by
  rintro s₃ rfl
  have I0:Inv (Xo X sc (x::cap) C s H fp) [(D,{ cls:=.type "list",data:=.seq ([]:List Value).toArray })] (none::Jm σ js) H { s with heap:=h₁,toks:=s.toks+([]:List (Str×Value)).length }:=
   zii S hjs I hf hlt hDe' hC' old hacc (λv z=>by cases z) hns₁
  have ndN:(Xo X sc (x::cap) C s H fp).N.Nodup:=S.nd
  have hxl:(Xo X sc (x::cap) C s H fp).env.scope.names.lookup x=some .local:=lookup_relabel_local S.tgt
  have fpD:∀ b∈fp,b≠D:=λb hb' => ltD (hlt b hb')
  refine ze8 (λn s' => ∃ i v0 H' ys its k,Inv (Xo X sc (x::cap) C s H fp) [(D,{ cls:=.type "list",data:=.seq its.toArray k })] (v0::Jm σ js) H' s' /\ tn i s'.heap/\(∀ b∈fp,H' b=none)/\Vals ys its/\W i n ys H')
   ?_ m0 ⟨0,none,H,[],[],0,I0,st₁,λb hb' => (hf b hb').1,.nil,w0⟩
  rintro n s3 ⟨i,v0,H3,ys,its,k,I3,st3,fr3,rv,w3⟩
  obtain ⟨hlen,hor⟩:=turn i n ys H3 w3
  have stat:∀ {H' : Hp} {o:Obj},(∀ b∈fp,H' b=none)->∀ b∈fp,zfS (Xo X sc (x::cap) C s H fp) [(D,o)] H' b:=λ{H' o} hn b hb' =>
   ⟨hn b hb',(I3.ok.exf b hb').1,I3.ok.exfs b hb',.inl hb',(I3.ok.exf b hb').2,λp hp=>by
    have hp' : p=(D,o):=by simpa using hp
    rw[hp']
    exact Ne.symm (fpD b hb')⟩
  rcases hor with ⟨stop,qn⟩ | ⟨go,step⟩
  ·refine thn (T.done (Xo X sc (x::cap) C s H fp) rfl rfl rfl hc i _ s3 _ H3 _ I3 (stat fr3) st3 stop) λr s4 ⟨hr,I4⟩=>?_
   subst hr
   exact hR D C s4 _ H3 ys its k rfl rfl I4 rv (Nat.le_of_lt hlen) qn
  ·refine thn (T.item (Xo X sc (x::cap) C s H fp) rfl rfl rfl hc i _ s3 _ H3 _ I3 (stat fr3) st3 go) λr s4 ⟨u,hr,h4⟩=>?_
   subst hr
   refine thn h4 λ_ s5 ⟨xv,H5,I5,r5,y5,st5,fr5⟩=>?_
   have I5' := I5.pinned (stat fr5) (T.obj _ _ st5)
   have hg:PG (Xo X sc (x::cap) C s H fp) (.Name x px) (zdL 0):=Yy ndN rfl (.inl hxl) (.inr hxl)
   refine thn (hg _ s5 _ H5 xv u (fun σ2 H2=>σ2=some xv::Jm σ js/\H2=H5) I5' r5 ⟨rfl,rfl⟩) λ_ s6 ⟨σ6,H6,I6,e6,e6'⟩=>?_
   subst e6 e6'
   refine thn ((hb C s H fp).1 _ s6 _ H6 _ I6 (step xv H6 y5)) λok s7 ⟨H7,I7,q7⟩=>?_
   have fin:∀ {s8:Shared}{H8:Hp}{v8:Option V},Inv (Xo X sc (x::cap) C s H fp) ([(D,{ cls:=.type "list",data:=.seq its.toArray k })]++VL fp s5.heap) (v8::Jm σ js) H8 s8->tn (i+1) s8.heap/\(∀ b∈fp,H8 b=none)/\s8.heap.get? D=some { cls:=.type "list",data:=.seq its.toArray k }/\H8 D=none/\D≠C:=λ{s8 H8 v8} I8=>by
    have pinD:=I8.pin (D,{ cls:=.type "list",data:=.seq its.toArray k }) (List.mem_append_right _ (List.mem_append_left _ (List.mem_singleton.mpr rfl)))
    have pinF:∀ b∈fp,∀ o,s5.heap.get? b=some o->s8.heap.get? b=some o/\H8 b=none:=λb hb' o e=>
     have z:=I8.pin (b,o) (List.mem_append_right _ (List.mem_append_right _ (Vt hb' e)))
     ⟨z.1,z.2.1⟩
    refine ⟨T.keep _ _ _ st5 λb hb' o e=>(pinF b hb' o e).1,λb hb' => ?_,pinD.1,pinD.2.1,pinD.2.2.1⟩
    obtain ⟨o,e,_⟩:=T.obj _ _ st5 b hb'
    exact (pinF b hb' o e).2
   cases ok with
   | false=>
    rw[if_neg Bool.false_ne_true] at q7 ⊢
    obtain ⟨m',hm,w7⟩:=q7
    obtain ⟨f1,f2,_⟩:=fin I7
    exact ⟨m',hm,i+1,some xv,H7,ys,its,k,I7.QK,f1,f2,rv,w7⟩
   | true=>
    rw[if_pos rfl] at q7 ⊢
    refine thn ((hb C s H fp).2 _ s7 _ H7 _ I7 q7) λu8 s8 ⟨v,H8,I8,r8,q8⟩=>?_
    obtain ⟨f1,f2,f3,f4,f5⟩:=fin I8
    obtain ⟨m',hm,w8⟩:=q8
    have rv' : Vals (ys++[v]) (its++[u8]):=rv.append (.cons r8 .nil)
    refine wpAny_list_append_plain ⟨k,f3⟩ (λh9 hl9 hs9=>?_) (by rw[List.size_toArray,← rv.length];exact Nat.le_of_lt hlen)
    obtain ⟨k9,e9⟩:=hl9
    have e9' : h9.get? D=some { cls:=.type "list",data:=.seq (its++[u8]).toArray k9 }:=by rw[e9];simp
    have In:Inv (Xo X sc (x::cap) C s H fp) (VL fp s5.heap) (some xv::Jm σ js) H8 s8:=I8.Vm λp hp=>I8.pin p (List.mem_append_right _ (List.mem_append_right _ hp))
    have It' : Inv (Xo X sc (x::cap) C s H fp) (VL fp s5.heap) (some xv::Jm σ js) H8 { s8 with heap:=h9 }:=
     In.turned (it:=D) (h' := h9) (t' := s8.toks) (λb o hb' e=>hs9.extBut b o hb' e) f4 f5 (.inr (Nat.le_of_eq hDe)) (λy c e z=>by
      obtain ⟨v',o,ho,_⟩:=I.cell y c (S.sub I.ok e)
      exact ltD (Heap.lt_size ho) z) λp hp z=>by
      have hp' : p∈VL fp s5.heap:=by simpa using hp
      exact fpD p.1 (zcA hp').1 z
    refine ⟨m',hm,i+1,some xv,H8,ys++[v],its++[u8],k9,It'.Vm λp hp=>?_,T.keep _ _ _ f1 λb hb' o e=>hs9.extBut b o (fpD b hb') e,f2,rv',w8⟩
    have hp' : p=(D,{ cls:=.type "list",data:=.seq (its++[u8]).toArray k9 }):=by simpa using hp
    subst hp'
    refine ⟨e9',f4,f5,λhb' => ?_,λv z=>by cases z⟩
    obtain ⟨_,o,ho,_⟩:=I.stack.mem hb'
    exact ltD (Heap.lt_size ho) rfl
 exact codeAny_compStart_list (loop _ rfl) (T.self X.A 0 _ _ _ st₁ (loop _ rfl))
theorem zbB (S:Xz X.env.scope sc x cap){js:List Nat}(hjs:js.map (λj=>X.N[j]?)=cap.map some)(hc:X.calm=true)(hxe:∀ e s,¬ X.xe e s){elt iter:Expr}{ifs:List Expr}{pos px:Pos}{wi:TI}{tt:TT}{te:TE}
  (hi:PI X (.Name x px) iter wi) (hb:∀ C s0 H0 ex,PIf (Xo X sc (x::cap) C s0 H0 ex) ifs tt/\PE (Xo X sc (x::cap) C s0 H0 ex) elt te)
  (hs:∀ x,foldedSetIterable iter X.env x=pure x:=by intro _;rfl):PE X (.ListComp elt [⟨.Name x px,iter,ifs,0⟩] sc pos) (tLC wi js tt te):=by
 intro pins s σ H Q I h
 rw[eval_ListComp]
 refine wpAny_comprehension_free (use:=none) rfl hs (Wa (S.cells I.ok)) S.kind S.names (thn (hi pins s σ H _ I h) λxv s₁ h₁=>thn h₁ λitv s₂ h₂=>?_)
 obtain ⟨it,fp,tn,J,H2,e,I2,T,st2,f2,W,w0,turn⟩:=h₂
 subst e
 refine zew (Q:=Q) (RR:=λacc C=>compPost (model X.prog X.w) X.A X.xe none (EP X pins σ Q) acc C) S hjs hc hb I2 T st2 f2 w0 turn ?_
 intro D C s' σ' H' ys its k hD hC J' rv hz q
 obtain ⟨m,hn,_⟩:=J'.loc
 have pinD:=J'.pin (D,{ cls:=.type "list",data:=.seq its.toArray k }) (List.mem_append_right _ (List.mem_singleton.mpr rfl))
 exact ⟨m,hn,λh' hs' => ⟨.ref D,_,zet S I2 f2 hD hC J' pinD.2.1 pinD.1 rv hz hs',rfl,q D pinD.2.1⟩⟩
end
end L2
namespace L2
open PySem PySem.Spec PyProof.Rows
section
variable {X:Cx}{pins:List (Addr×Obj)}{σ:St}{H:Hp}{s:Shared}{sc:Scope}{x:Str}{cap:List Str}
def zoT (i:Nat)(wi:TI)(js:List Nat)(tt:TT)(te:TE):TS:=λD σ H=>tLC wi js tt te σ H λv H' => D.nx (σ.set i (some v)) H'
theorem zow (S:Xz X.env.scope sc x cap){js:List Nat}(hjs:js.map (λj=>X.N[j]?)=cap.map some)(hc:X.calm=true)(hxe:∀ e s,¬ X.xe e s){elt iter:Expr}{ifs:List Expr}{pos px py spos:Pos}{wi:TI}{tt:TT}{te:TE}{i:Nat}{y:Str}
  (hN:X.N.Nodup) (hi' : X.N[i]?=some y) (hy:X.env.scope.names.lookup y=some .local)
  (hi:PI X (.Name x px) iter wi) (hb:∀ C s0 H0 ex,PIf (Xo X sc (x::cap) C s0 H0 ex) ifs tt/\PE (Xo X sc (x::cap) C s0 H0 ex) elt te)
  (hsw:swapsWith (.ListComp elt [⟨.Name x px,iter,ifs,0⟩] sc pos) (some (.Name y py)) spos.line X.env=pure true:=by rfl)
  (hs:∀ x,foldedSetIterable iter X.env x=pure x:=by intro _;rfl):PS X (.Assign [.Name y py] (.ListComp elt [⟨.Name x px,iter,ifs,0⟩] sc pos) spos) (zoT i wi js tt te):=by
 intro pins s σ H D0 I h
 rw[exec_Assign_Name_used _ _ _ _ hsw]
 refine wpAny_bind (wpAny_standAt (wpAny_bind ?_))
 show wpAny _ X.A (do let _ ← comprehension (.ListComp elt [⟨.Name x px,iter,ifs,0⟩] sc pos) sc X.env _ (newList []) false (eval iter X.env) (some (assign (.Name y py) X.env))) _ _ s
 refine wpAny_bind (wpAny_mono (wpAny_comprehension_free (use:=some (assign (.Name y py) X.env)) (Q:=λ_ s' => SP X pins D0 .next s') rfl hs (Wa (S.cells I.ok)) S.kind S.names
  (thn (hi pins s σ H _ I h) λxv s₁ h₁=>thn h₁ λitv s₂ h₂=>?_)) (λ_ s' hq=>wpAny_pure (wpAny_pure hq)) λ_ _ e=>e)
 obtain ⟨it,fp,tn,J,H2,e,I2,T,st2,f2,W,w0,turn⟩:=h₂
 subst e
 refine zew (Q:=λv H' => D0.nx (σ.set i (some v)) H') (RR:=λacc C=>compPost (model X.prog X.w) X.A X.xe (some (assign (.Name y py) X.env)) (λ_ s' => SP X pins D0 .next s') acc C) S hjs hc hb I2 T st2 f2 w0 turn ?_
 intro D C s' σ' H' ys its k hD hC J' rv hz q
 have gtC:∀ {b:Addr},b<s₂.heap.objs.size->b≠C:=λh=>by rw[hC];exact zfT (Nat.lt_succ_of_lt h)
 have pinD:=J'.pin (D,{ cls:=.type "list",data:=.seq its.toArray k }) (List.mem_append_right _ (List.mem_singleton.mpr rfl))
 obtain ⟨m,hn,_⟩:=id J'.loc
 have hn:s'.heap.Ns C m:=hn
 obtain ⟨oC,es,ep,hoC,hdC,rest⟩:=id hn
 have hCn:C∉X.fs/\C≠X.env.locals:=by
  constructor
  ·intro hb'
   obtain ⟨_,o,ho,_⟩:=I2.zdu.mem hb'
   exact gtC (Heap.lt_size ho) rfl
  ·exact λz=>gtC I2.lt z.symm
 have I3:Inv X pins σ (upd H' D (.lst ys)) s' := zet (h' := s'.heap) S I2 f2 hD hC J' pinD.2.1 pinD.1 rv hz (.refl ..)
 have hDC:C≠D:=by rw[hC,hD];exact zph (Nat.lt_succ_self _)
 have hH'C:H' C=none:=J'.free
 have I4:Inv X [(C,oC)] σ (upd H' D (.lst ys)) s' := I3.Vm λp hp=>by
  have hp' : p=(C,oC):=by simpa using hp
  subst hp'
  exact ⟨hoC,by rw[Zq hDC];exact hH'C,hCn.2,hCn.1,λv z=>by rw[hdC] at z;cases z⟩
 have I5:Inv X (pins++[(C,oC)]) σ (upd H' D (.lst ys)) s' := I3.Vm λp hp=>by
  rcases List.mem_append.mp hp with hp | hp
  ·exact I3.pin p (List.mem_append_right _ hp)
  ·exact I4.pin p (List.mem_append_right _ hp)
 show wpAny _ X.A (assign (.Name y py) X.env (.ref D)) _ _ _
 refine wpAny_assign_Name (Ur I5 hN hi' (.inl hy) (v:=.ref D) rfl (λs6 I6=>?_) (.inr hy))
 have pinC:=I6.pin (C,oC) (List.mem_append_right _ (List.mem_append_right _ (List.mem_singleton.mpr rfl)))
 refine ⟨m,⟨oC,es,ep,pinC.1,hdC,rest⟩,λh' hs' => ⟨_,_,?_,q D pinD.2.1⟩⟩
 refine I6.QK.turned (it:=C) (h' := h') (t' := s6.toks) (λb o hb' e=>hs'.extBut b o hb' e) pinC.2.1 hCn.2 (.inr ?_) (λy' c e z=>?_) λp hp z=>?_
 ·rw[hC];exact Nat.le_succ_of_le I2.sz
 ·obtain ⟨v',o,ho,_⟩:=I2.cell y' c e
  exact gtC (Heap.lt_size ho) z
 ·exact gtC (Heap.lt_size (I2.pin p hp).1) z
end
section
variable {X:Cx}
end
end L2
namespace L2
open PySem PySem.Spec PyProof.Rows
mutual
def Dat (K:PySem.W.Frag)(G:Hp):V->PyData->Prop
 | v,.none=>v = .non
 | v,.bool b=>v = .bl b
 | v,.int i=>v = .int i
 | v,.str x=>v = .str x
 | v,.list ds=>∃ p xs,v = .ref p/\G p=some (.lst xs)/\Yl K G xs ds
 | v,.tuple ds=>∃ p xs,v = .ref p/\SqT K G p xs/\Yl K G xs ds
 | _,.dict _=>False
def Yl (K:PySem.W.Frag)(G:Hp):List V->List PyData->Prop
 | xs,[]=>xs=[]
 | xs,d::ds=>∃ y ys,xs=y::ys/\Dat K G y d/\Yl K G ys ds
end
theorem ZL.tup {K:PySem.W.Frag}{H H' : Hp}{a:Addr}{xs:List V}(e:ZL H H')(h:SqT K H a xs):SqT K H' a xs:=by
 rcases h with (h | ⟨o,h⟩) | h
 ·exact .inl (.inl (e _ _ h))
 ·exact .inl (.inr ⟨o,e _ _ h⟩)
 ·exact .inr h
section
variable {K:PySem.W.Frag}{G G' : Hp}
theorem Zv (i:Int):Dat K G (.int i) (.int i):=by unfold Dat;rfl
theorem Z7 (x:Str):Dat K G (.str x) (.str x):=by unfold Dat;rfl
theorem Yn (b:Bool):Dat K G (.bl b) (.bool b):=by unfold Dat;rfl
theorem zdp:Dat K G .non .none:=by unfold Dat;rfl
theorem YW {p:Addr}{xs:List V}{ds:List PyData}(h:SqT K G p xs)(r:Yl K G xs ds):Dat K G (.ref p) (.tuple ds):=by unfold Dat;exact ⟨p,xs,rfl,h,r⟩
theorem YT {p:Addr}{xs:List V}{ds:List PyData}(h:G p=some (.lst xs))(r:Yl K G xs ds):Dat K G (.ref p) (.list ds):=by unfold Dat;exact ⟨p,xs,rfl,h,r⟩
theorem ZP:Yl K G [] []:=by unfold Yl;rfl
theorem ZG {x:V}{xs:List V}{d:PyData}{ds:List PyData}(h:Dat K G x d)(r:Yl K G xs ds):Yl K G (x::xs) (d::ds):=by
 unfold Yl;exact ⟨x,xs,rfl,h,r⟩
theorem Dat.int {v:V}{i:Int}(h:Dat K G v (.int i)):v = .int i:=by unfold Dat at h;exact h
theorem Dat.str {v:V}{x:Str}(h:Dat K G v (.str x)):v = .str x:=by unfold Dat at h;exact h
theorem Dat.bl {v:V}{x:Bool}(h:Dat K G v (.bool x)):v = .bl x:=by unfold Dat at h;exact h
theorem Dat.non {v:V}(h:Dat K G v .none):v = .non:=by unfold Dat at h;exact h
theorem Dat.tup {v:V}{ds:List PyData}(h:Dat K G v (.tuple ds)):∃ p xs,v = .ref p/\SqT K G p xs/\Yl K G xs ds:=by unfold Dat at h;exact h
theorem Dat.lst {v:V}{ds:List PyData}(h:Dat K G v (.list ds)):∃ p xs,v = .ref p/\G p=some (.lst xs)/\Yl K G xs ds:=by unfold Dat at h;exact h
theorem Yl.nil {xs:List V}(h:Yl K G xs []):xs=[]:=by unfold Yl at h;exact h
theorem Yl.cons {xs:List V}{d:PyData}{ds:List PyData}(h:Yl K G xs (d::ds)):∃ y ys,xs=y::ys/\Dat K G y d/\Yl K G ys ds:=by unfold Yl at h;exact h
theorem Yl.length:∀ {ds:List PyData}{xs:List V},Yl K G xs ds->xs.length=ds.length
 | [],_,h=>by rw[h.nil];rfl
 | d::ds,_,h=>by
  obtain ⟨y,ys,rfl,_,r⟩:=h.cons
  show ys.length+1=ds.length+1
  rw[r.length]
theorem Yl.get:∀ {ds:List PyData}{xs:List V}{i:Nat}{d:PyData},Yl K G xs ds->ds[i]?=some d->∃ x,xs[i]?=some x/\Dat K G x d
 | [],_,_,_,_,e=>by simp at e
 | d::ds,_,0,_,h,e=>by
  obtain ⟨y,ys,rfl,hd,r⟩:=h.cons
  simp at e;subst e;exact ⟨y,rfl,hd⟩
 | d::ds,_,i+1,d',h,e=>by
  obtain ⟨y,ys,rfl,hd,r⟩:=h.cons
  obtain ⟨x,h1,h2⟩:=Yl.get (i:=i) (d:=d') r (by simpa using e)
  exact ⟨x,by simpa using h1,h2⟩
theorem Yl.zjK {ds:List PyData}{xs:List V}{i:Nat}{x:V}(h:Yl K G xs ds)(e:xs[i]?=some x):∃ d,ds[i]?=some d/\Dat K G x d:=by
 have hl:=h.length
 have hi:i<xs.length:=(List.getElem?_eq_some_iff.mp e).1
 obtain ⟨y,h1,h2⟩:=h.get (List.getElem?_eq_getElem (show i<ds.length by omega))
 rw[e] at h1;cases h1
 exact ⟨_,List.getElem?_eq_getElem (by omega),h2⟩
theorem YB:∀ {ds es:List PyData}{xs ys:List V},Yl K G xs ds->Yl K G ys es->Yl K G (xs++ys) (ds++es)
 | [],_,_,_,h,r=>by rw[h.nil];exact r
 | d::ds,_,_,_,h,r=>by
  obtain ⟨y,ys,rfl,hd,r'⟩:=h.cons
  exact ZG hd (YB r' r)
theorem JT {ds:List PyData}{d:PyData}{xs:List V}{x:V}(h:Yl K G xs ds)(r:Dat K G x d):Yl K G (xs++[x]) (ds++[d]):=YB h (ZG r ZP)
theorem QS:∀ {ds:List PyData}{xs:List V}(n:Nat),Yl K G xs ds->Yl K G (xs.take n) (ds.take n)
 | _,_,0,_=>ZP
 | [],_,n+1,h=>by rw[h.nil];exact ZP
 | d::ds,_,n+1,h=>by
  obtain ⟨y,ys,rfl,hd,r⟩:=h.cons
  exact ZG hd (QS n r)
theorem Q9:∀ {ds:List PyData}{xs:List V}(n:Nat),Yl K G xs ds->Yl K G (xs.drop n) (ds.drop n)
 | _,_,0,h=>h
 | [],_,n+1,h=>by rw[h.nil];exact ZP
 | d::ds,_,n+1,h=>by
  obtain ⟨y,ys,rfl,hd,r⟩:=h.cons
  exact Q9 n r
theorem zbo:∀ {ds:List PyData}{xs:List V},Yl K G xs ds->Yl K G xs.reverse ds.reverse
 | [],_,h=>by rw[h.nil];exact ZP
 | d::ds,_,h=>by
  obtain ⟨y,ys,rfl,hd,r⟩:=h.cons
  rw[List.reverse_cons,List.reverse_cons]
  exact JT (zbo r) hd
end
mutual
theorem Dat.same {K:PySem.W.Frag}{G G' : Hp}(e:ZL G G'):∀ {d:PyData}{v:V},Dat K G v d->Dat K G' v d
 | .none,_,h=>by rw[h.non];exact zdp
 | .bool b,_,h=>by rw[h.bl];exact Yn b
 | .int i,_,h=>by rw[h.int];exact Zv i
 | .str x,_,h=>by rw[h.str];exact Z7 x
 | .list ds,_,h=>by
  obtain ⟨p,xs,rfl,h1,h2⟩:=h.lst
  exact YT (e _ _ h1) (Yl.same e h2)
 | .tuple ds,_,h=>by
  obtain ⟨p,xs,rfl,h1,h2⟩:=h.tup
  exact YW (e.tup h1) (Yl.same e h2)
 | .dict _,_,h=>by unfold Dat at h;exact h.elim
theorem Yl.same {K:PySem.W.Frag}{G G' : Hp}(e:ZL G G'):∀ {ds:List PyData}{xs:List V},Yl K G xs ds->Yl K G' xs ds
 | [],_,h=>by rw[h.nil];exact ZP
 | d::ds,_,h=>by
  obtain ⟨y,ys,rfl,hd,r⟩:=h.cons
  exact ZG (Dat.same e hd) (Yl.same e r)
end
section
variable {X:Cx}{pins:List (Addr×Obj)}{σ:St}{H G:Hp}{s:Shared}
mutual
theorem Dat.reads (I:Inv X pins σ H s)(e:ZL G H):∀ {d:PyData}{v:V}{u:Value},Dat X.K G v d->RelV v u->∃ as,Reads s.heap u d as
 | .none,_,u,h,r=>by
  rw[h.non] at r
  cases (show u=Value.none from r)
  exact ⟨_,.none⟩
 | .bool b,_,u,h,r=>by
  rw[h.bl] at r
  cases (show u=Value.bool b from r)
  exact ⟨_,.bool b⟩
 | .int i,_,u,h,r=>by
  rw[h.int] at r
  obtain ⟨t,q⟩:=(show ∃ t,u=Value.int i t from r)
  subst q
  exact ⟨_,.int i t⟩
 | .str x,_,u,h,r=>by
  rw[h.str] at r
  obtain ⟨t,q⟩:=(show ∃ t,u=Value.str x t from r)
  subst q
  exact ⟨_,.str x t⟩
 | .list ds,_,u,h,r=>by
  obtain ⟨p,xs,rfl,h1,h2⟩:=h.lst
  cases (show u=Value.ref p from r)
  obtain ⟨its,rv,⟨o,n,e1,c,_,d1⟩,_⟩:=I.list (SqL.of (e _ _ h1))
  obtain ⟨as,ra⟩:=Yl.reads I e h2 rv
  exact ⟨_,Reads.list e1 c d1 (by simpa using ra)⟩
 | .tuple ds,_,u,h,r=>by
  obtain ⟨p,xs,rfl,h1,h2⟩:=h.tup
  cases (show u=Value.ref p from r)
  obtain ⟨its,rv,⟨o,e1,c,n,d1⟩,_⟩:=I.tuple (e.tup h1)
  obtain ⟨as,ra⟩:=Yl.reads I e h2 rv
  exact ⟨_,Reads.tuple e1 c d1 (by simpa using ra)⟩
 | .dict _,_,_,h,_=>by unfold Dat at h;exact h.elim
theorem Yl.reads (I:Inv X pins σ H s)(e:ZL G H):∀ {ds:List PyData}{xs:List V}{us:List Value},Yl X.K G xs ds->Vals xs us->∃ as,ReadsAll s.heap us ds as
 | [],_,us,h,r=>by
  rw[h.nil] at r
  cases r
  exact ⟨_,.nil⟩
 | d::ds,_,us,h,r=>by
  obtain ⟨y,ys,rfl,hd,hr⟩:=h.cons
  cases r with
  | cons r1 r2=>
   obtain ⟨as,ra⟩:=Dat.reads I e hd r1
   obtain ⟨bs,rb⟩:=Yl.reads I e hr r2
   exact ⟨_,.cons ra rb⟩
end
end
mutual
def noBool:PyData->Bool
 | .bool _=>false
 | .dict _=>false
 | .list xs=>Wl xs
 | .tuple xs=>Wl xs
 | .none | .int _ | .str _=>true
def Wl:List PyData->Bool
 | []=>true
 | x::xs=>noBool x&&Wl xs
end
mutual
theorem zeo:∀ a b:PyData,noBool a=true->noBool b=true->SeqAt.noMix a b=true
 | .list xs,.list ys,h,k=>by rw[SeqAt.noMix];exact zaD xs ys (by simpa [noBool] using h) (by simpa [noBool] using k)
 | .tuple xs,.tuple ys,h,k=>by rw[SeqAt.noMix];exact zaD xs ys (by simpa [noBool] using h) (by simpa [noBool] using k)
 | .bool _,_,h,_=>by simp[noBool] at h
 | .dict _,_,h,_=>by simp[noBool] at h
 | .none,.bool _,_,k | .int _,.bool _,_,k | .str _,.bool _,_,k | .list _,.bool _,_,k | .tuple _,.bool _,_,k=>by simp[noBool] at k
 | .none,.dict _,_,k | .int _,.dict _,_,k | .str _,.dict _,_,k | .list _,.dict _,_,k | .tuple _,.dict _,_,k=>by simp[noBool] at k
 | .none,.none,_,_ | .none,.int _,_,_ | .none,.str _,_,_ | .none,.list _,_,_ | .none,.tuple _,_,_=>by simp[SeqAt.noMix]
 | .int _,.none,_,_ | .int _,.int _,_,_ | .int _,.str _,_,_ | .int _,.list _,_,_ | .int _,.tuple _,_,_=>by simp[SeqAt.noMix]
 | .str _,.none,_,_ | .str _,.int _,_,_ | .str _,.str _,_,_ | .str _,.list _,_,_ | .str _,.tuple _,_,_=>by simp[SeqAt.noMix]
 | .list _,.none,_,_ | .list _,.int _,_,_ | .list _,.str _,_,_ | .list _,.tuple _,_,_=>by simp[SeqAt.noMix]
 | .tuple _,.none,_,_ | .tuple _,.int _,_,_ | .tuple _,.str _,_,_ | .tuple _,.list _,_,_=>by simp[SeqAt.noMix]
theorem zaD:∀ a b:List PyData,Wl a=true->Wl b=true->SeqAt.noMixAll a b=true
 | [],[],_,_ | [],_::_,_,_ | _::_,[],_,_=>by simp[SeqAt.noMixAll]
 | x::xs,y::ys,h,k=>by
  have h' : noBool x=true/\Wl xs=true:=by simpa [Wl] using h
  have k' : noBool y=true/\Wl ys=true:=by simpa [Wl] using k
  rw[SeqAt.noMixAll,zeo x y h'.1 k'.1,zaD xs ys h'.2 k'.2];rfl
end
structure Pl (n:Nat)(d:PyData):Prop where
 lay:d.canLay0=true
 dep:d.depth<=n
 nb:noBool d=true
theorem Pl.shaped {n:Nat}{d:PyData}(h:Pl n d)(k:n<=64):SeqAt.shaped d=true:=by
 show (PyData.canLay0 d&&decide (PyData.depth d<=64))=true
 rw[Bool.and_eq_true]
 exact ⟨h.lay,decide_eq_true (Nat.le_trans h.dep k)⟩
theorem Pl.mix {n:Nat}{a b:PyData}(h:Pl n a)(k:Pl n b):SeqAt.noMix a b=true:=zeo a b h.nb k.nb
mutual
theorem zbD:∀ {a b:PyData},PySem.Spec.same a b=true->a=b
 | .none,b,h=>by cases b <;> first | rfl | simp[PySem.Spec.same] at h
 | .bool x,b,h=>by cases b <;> simp[PySem.Spec.same] at h <;> rw[h]
 | .int x,b,h=>by cases b <;> simp[PySem.Spec.same] at h <;> rw[h]
 | .str x,b,h=>by cases b <;> simp[PySem.Spec.same] at h <;> rw[h]
 | .list x,b,h=>by
  cases b <;> simp[PySem.Spec.same] at h
  rw[Vw h]
 | .tuple x,b,h=>by
  cases b <;> simp[PySem.Spec.same] at h
  rw[Vw h]
 | .dict x,b,h=>by
  cases b <;> simp[PySem.Spec.same] at h
  rw[VJ h]
theorem Vw:∀ {a b:List PyData},PySem.Spec.sameAll a b=true->a=b
 | [],[],_=>rfl
 | [],_::_,h=>by simp[PySem.Spec.sameAll] at h
 | _::_,[],h=>by simp[PySem.Spec.sameAll] at h
 | x::xs,y::ys,h=>by
  have h' : PySem.Spec.same x y=true/\PySem.Spec.sameAll xs ys=true:=by simpa [PySem.Spec.sameAll] using h
  rw[zbD h'.1,Vw h'.2]
theorem VJ:∀ {a b:List (PyData×PyData)},PySem.Spec.samePairs a b=true->a=b
 | [],[],_=>rfl
 | [],_::_,h=>by simp[PySem.Spec.samePairs] at h
 | _::_,[],h=>by simp[PySem.Spec.samePairs] at h
 | (x,z)::xs,(y,w)::ys,h=>by
  have h' : (PySem.Spec.same x y=true/\PySem.Spec.same z w=true)/\PySem.Spec.samePairs xs ys=true:=by simpa [PySem.Spec.samePairs] using h
  rw[zbD h'.1.1,zbD h'.1.2,VJ h'.2]
end
theorem same_iff {a b:PyData}:PySem.Spec.same a b=true↔a=b:=⟨zbD,λe=>by rw[e];exact PySem.Spec.same_self b⟩
section
variable {X:Cx}
def zlF (K:PySem.W.Frag)(g:Bool->Bool):R2:=λx y H Q=>∃ (G:Hp) (a b:PyData),ZL G H/\Dat K G x a/\Dat K G y b/\(SeqAt.shaped a=true/\SeqAt.shaped b=true/\SeqAt.noMix a b=true)/\Q (.bl (g (PySem.Spec.same a b))) H
theorem zm8 (hu:X.A.units+64<cLine):OpR X (compareOp .Eq) (zlF X.K λb=>b):=by
 intro pins s σ H x y v u Q I rx ry h
 obtain ⟨G,a,b,e,ha,hb,⟨sa,sb,nm⟩,q⟩:=h
 obtain ⟨as,ra⟩:=Dat.reads I e ha rx
 obtain ⟨bs,rb⟩:=Dat.reads I e hb ry
 exact eq_dataH_same ra rb sa sb hu nm ⟨.bl (PySem.Spec.same a b),H,I,rfl,q⟩
theorem zmw (hu:X.A.units+64<cLine):OpR X (compareOp .NotEq) (zlF X.K λb=>!b):=by
 intro pins s σ H x y v u Q I rx ry h
 obtain ⟨G,a,b,e,ha,hb,⟨sa,sb,nm⟩,q⟩:=h
 obtain ⟨as,ra⟩:=Dat.reads I e ha rx
 obtain ⟨bs,rb⟩:=Dat.reads I e hb ry
 exact ne_dataH_same ra rb sa sb hu nm ⟨.bl (!PySem.Spec.same a b),H,I,rfl,q⟩
end
theorem zeX (i:Int){n:Nat}:Pl n (.int i):=⟨by unfold PyData.canLay0;rfl,by unfold PyData.depth;omega,by unfold noBool;rfl⟩
theorem Jt:∀ {ds:List PyData},(∀ d∈ds,d.canLay0=true)->PyData.canLayAll0 ds=true
 | [],_=>rfl
 | d::ds,h=>by
  unfold PyData.canLayAll0
  rw[h d (by simp),Jt λe he=>h e (by simp[he])];rfl
theorem QF:∀ {ds:List PyData}{n:Nat},(∀ d∈ds,d.depth<=n)->PyData.depthAll ds<=n
 | [],_,_=>by unfold PyData.depthAll;omega
 | d::ds,n,h=>by
  have h1:=h d (by simp)
  have h2:=QF (ds:=ds) (n:=n) λe he=>h e (by simp[he])
  unfold PyData.depthAll
  omega
theorem Vg:∀ {ds:List PyData},(∀ d∈ds,noBool d=true)->Wl ds=true
 | [],_=>rfl
 | d::ds,h=>by
  unfold Wl
  rw[h d (by simp),Vg λe he=>h e (by simp[he])];rfl
theorem zaW {n:Nat}{ds:List PyData}(h:∀ d∈ds,Pl n d):Pl (n+1) (.tuple ds):=by
 refine ⟨?_,?_,?_⟩
 ·unfold PyData.canLay0;exact Jt λd hd=>(h d hd).lay
 ·have:=QF λd hd=>(h d hd).dep
  unfold PyData.depth;omega
 ·unfold noBool;exact Vg λd hd=>(h d hd).nb
theorem zeS {n:Nat}{ds:List PyData}(h:∀ d∈ds,Pl n d):Pl (n+1) (.list ds):=by
 refine ⟨?_,?_,?_⟩
 ·unfold PyData.canLay0;exact Jt λd hd=>(h d hd).lay
 ·have:=QF λd hd=>(h d hd).dep
  unfold PyData.depth;omega
 ·unfold noBool;exact Vg λd hd=>(h d hd).nb
end L2
namespace L2
open PySem PySem.Spec PyProof.Rows
structure Yr (G H G' H' : Hp):Prop where
 gg:ZL G G'
 gh:ZL G' H'
 hh:ZL H H'
 fr:∀ b o,G' b=some o->G b=some o\/H b=none
theorem Yr.refl {G H:Hp}(s:ZL G H):Yr G H G H:=⟨ZL.refl _,s,ZL.refl _,λ_ _ h=>.inl h⟩
theorem Yr.trans {G H G1 H1 G2 H2:Hp}(a:Yr G H G1 H1)(b:Yr G1 H1 G2 H2):Yr G H G2 H2:=
 ⟨a.gg.trans b.gg,b.gh,a.hh.trans b.hh,λx o h=>by
  rcases b.fr x o h with h | h
  ·exact a.fr x o h
  ·exact .inr (a.hh.free h)⟩
theorem Z5 {G H:Hp}{p:Addr}{o:HO}(s:ZL G H)(hp:H p=none):Yr G H (upd G p o) (upd H p o):=by
 have hg:G p=none:=s.free hp
 refine ⟨λb u e=>?_,λb u e=>?_,λb u e=>?_,λb u e=>?_⟩
 ·rw[Zq (Zn e hg)];exact e
 ·by_cases h:b=p
  ·subst h;rw[Zh] at e ⊢;exact e
  ·rw[Zq h] at e ⊢;exact s b u e
 ·rw[Zq (Zn e hp)];exact e
 ·by_cases h:b=p
  ·subst h;exact .inr hp
  ·rw[Zq h] at e;exact .inl e
theorem zeT {G H H' : Hp}(s:ZL G H)(h:ZL H H'):Yr G H G H' := ⟨ZL.refl _,s.trans h,h,λ_ _ e=>.inl e⟩
theorem Yr.out {G H G' H' : Hp}(a:Yr G H G' H'){p:Addr}{o:HO}(hp:H p=some o)(hg:G p=none):G' p=none:=by
 cases e:G' p with
 | none=>rfl
 | some u=>
  rcases a.fr p u e with h | h
  ·rw[hg] at h;cases h
  ·rw[hp] at h;cases h
def Ev (K:PySem.W.Frag)(t:TE)(σ:St)(G:Hp)(d:PyData):Prop:=
 ∀ G1 H,ZL G G1->ZL G1 H->∀ Q:VK,(∀ v G' H',Yr G1 H G' H' -> Dat K G' v d->Q v H')->t σ H Q
def EvT (t:TT)(σ:St)(G:Hp)(b:Bool):Prop:=
 ∀ G1 H,ZL G G1->ZL G1 H->∀ Q:Bool->Hp->Prop,(∀ G' H',Yr G1 H G' H' -> Q b H')->t σ H Q
def EvA (K:PySem.W.Frag)(t:TA)(σ:St)(G:Hp)(ds:List PyData):Prop:=
 ∀ G1 H,ZL G G1->ZL G1 H->∀ Q:List V->Hp->Prop,(∀ vs G' H',Yr G1 H G' H' -> Yl K G' vs ds->Q vs H')->t σ H Q
section
variable {K:PySem.W.Frag}{σ:St}{G:Hp}{ta tb tc:TE}{a b d:PyData}
theorem Ev.mono {t:TE}{G' : Hp}(h:Ev K t σ G d)(s:ZL G G'):Ev K t σ G' d:=λG1 H s1 s2 Q k=>h G1 H (s.trans s1) s2 Q k
theorem Ev.use {t:TE}{H:Hp}{Q:VK}(h:Ev K t σ G d)(s:ZL G H)(k:∀ v G' H',Yr G H G' H' -> Dat K G' v d->Q v H'):t σ H Q:=h G H (ZL.refl _) s Q k
theorem EvT.use {t:TT}{c:Bool}{H:Hp}{Q:Bool->Hp->Prop}(h:EvT t σ G c)(s:ZL G H)(k:∀ G' H',Yr G H G' H' -> Q c H'):t σ H Q:=h G H (ZL.refl _) s Q k
theorem Zb {i:Nat}{v:V}(h:σ[i]?=some (some v))(hd:Dat K G v d):Ev K (Xq i) σ G d:=λG1 H s1 s2 Q k=>⟨v,h,k v G1 H (Yr.refl s2) (hd.same s1)⟩
theorem zgb {v:V}(hd:Dat K G v d):Ev K (tC v) σ G d:=λG1 H s1 s2 Q k=>k v G1 H (Yr.refl s2) (hd.same s1)
theorem Zt {i:Int}:Ev K (tC (.int i)) σ G (.int i):=zgb (Zv i)
theorem Zk {x:Str}:Ev K (tC (.str x)) σ G (.str x):=zgb (Z7 x)
theorem znh {x:Bool}:Ev K (tC (.bl x)) σ G (.bool x):=zgb (Yn x)
theorem JM {r:R2}(ha:Ev K ta σ G a)(hb:Ev K tb σ G b)(hr:∀ G1 H x y (Q:VK),ZL G G1->ZL G1 H->Dat K G1 x a->Dat K G1 y b->(∀ v G' H',Yr G1 H G' H' -> Dat K G' v d->Q v H')->r x y H Q):Ev K (tOp r ta tb) σ G d:=
 λG1 H s1 s2 Q k=>ha G1 H s1 s2 _ λx G2 H2 g2 hx=>hb G2 H2 (s1.trans g2.gg) g2.gh _ λy G3 H3 g3 hy=>
  hr G3 H3 x y Q ((s1.trans g2.gg).trans g3.gg) g3.gh (hx.same g3.gg) hy λv G' H' g hv=>k v G' H' ((g2.trans g3).trans g) hv
theorem J8 {g:Int->Int->V}{i j:Int}(ha:Ev K ta σ G (.int i))(hb:Ev K tb σ G (.int j))(hg:Dat K G (g i j) d):Ev K (tOp (rI0 g) ta tb) σ G d:=
 JM ha hb λG1 H x y Q s1 s2 hx hy k=>by
  rw[hx.int,hy.int]
  exact ⟨i,j,rfl,rfl,k _ G1 H (Yr.refl s2) (hg.same s1)⟩
theorem zdM {C:Int->Int->Prop}{g:Int->Int->V}{i j:Int}(ha:Ev K ta σ G (.int i))(hb:Ev K tb σ G (.int j))(hc:C i j)(hg:Dat K G (g i j) d):Ev K (tOp (rI C g) ta tb) σ G d:=
 JM ha hb λG1 H x y Q s1 s2 hx hy k=>by
  rw[hx.int,hy.int]
  exact ⟨i,j,rfl,rfl,hc,k _ G1 H (Yr.refl s2) (hg.same s1)⟩
theorem JB {ds:List PyData}{i:Int}{n:Nat}(ha:Ev K ta σ G (.tuple ds))(hb:Ev K tb σ G (.int i))(hn:ixN ds.length i=some n)(hd:ds[n]?=some d):Ev K (tOp (zlL K) ta tb) σ G d:=
 JM ha hb λG1 H x y Q s1 s2 hx hy k=>by
  obtain ⟨p,xs,rfl,hp,hxs⟩:=hx.tup
  obtain ⟨z,hz,hzd⟩:=hxs.get hd
  rw[hy.int]
  exact ⟨p,xs,i,z,rfl,rfl,s2.tup hp,by unfold atI;rw[hxs.length,hn];exact hz,k z G1 H (Yr.refl s2) hzd⟩
theorem YL {ds:List PyData}{i:Int}{n:Nat}(ha:Ev K ta σ G (.list ds))(hb:Ev K tb σ G (.int i))(hn:ixN ds.length i=some n)(hd:ds[n]?=some d):Ev K (tOp (zeA K) ta tb) σ G d:=
 JM ha hb λG1 H x y Q s1 s2 hx hy k=>by
  obtain ⟨p,xs,rfl,hp,hxs⟩:=hx.lst
  obtain ⟨z,hz,hzd⟩:=hxs.get hd
  rw[hy.int]
  exact ⟨p,xs,i,z,rfl,rfl,SqL.of (s2 _ _ hp),by unfold atI;rw[hxs.length,hn];exact hz,k z G1 H (Yr.refl s2) hzd⟩
theorem zhs {g:Bool->Bool}{n:Nat}(ha:Ev K ta σ G a)(hb:Ev K tb σ G b)(pa:Pl n a)(pb:Pl n b)(hn:n<=64):Ev K (tOp (zlF K g) ta tb) σ G (.bool (g (PySem.Spec.same a b))):=
 JM ha hb λG1 H x y Q s1 s2 hx hy k=>⟨G1,a,b,s2,hx,hy,⟨pa.shaped hn,pb.shaped hn,pa.mix pb⟩,k _ G1 H (Yr.refl s2) (Yn _)⟩
theorem Zr:EvA K JH σ G []:=λG1 H s1 s2 Q k=>k [] G1 H (Yr.refl s2) ZP
theorem Zc {t:TA}{ds:List PyData}(ha:Ev K ta σ G a)(hb:EvA K t σ G ds):EvA K (ZS ta t) σ G (a::ds):=
 λG1 H s1 s2 Q k=>ha G1 H s1 s2 _ λx G2 H2 g2 hx=>hb G2 H2 (s1.trans g2.gg) g2.gh _ λys G3 H3 g3 hy=>k (x::ys) G3 H3 (g2.trans g3) (ZG (hx.same g3.gg) hy)
theorem X4 {t:TA}{ds:List PyData}(h:EvA K t σ G ds)(hl:ds.length<=sizeLine):Ev K (zdn t) σ G (.tuple ds):=
 λG1 H s1 s2 Q k=>h G1 H s1 s2 _ λvs G2 H2 g2 hv=>⟨by rw[hv.length];exact hl,λp hp=>by
  have g:=Z5 (o:=.tup vs) g2.gh hp
  exact k _ _ _ (g2.trans g) (YW (SqT.of Zh) (hv.same g.gg))⟩
theorem zal {t:TA}{ds:List PyData}(h:EvA K t σ G ds)(hl:ds.length<=sizeLine):Ev K (zhK t) σ G (.list ds):=
 λG1 H s1 s2 Q k=>h G1 H s1 s2 _ λvs G2 H2 g2 hv=>⟨by rw[hv.length];exact hl,λp hp=>by
  have g:=Z5 (o:=.lst vs) g2.gh hp
  exact k _ _ _ (g2.trans g) (YT Zh (hv.same g.gg))⟩
theorem zie {r:List V->Hp->VK->Prop}{t:TA}{ds:List PyData}(h:EvA K t σ G ds)(hr:∀ G1 H xs (Q:VK),ZL G G1->ZL G1 H->Yl K G1 xs ds->(∀ v G' H',Yr G1 H G' H' -> Dat K G' v d->Q v H')->r xs H Q):Ev K (tCB r t) σ G d:=
 λG1 H s1 s2 Q k=>h G1 H s1 s2 _ λvs G2 H2 g2 hv=>hr G2 H2 vs Q (s1.trans g2.gg) g2.gh hv λv G' H' g hd=>k v G' H' (g2.trans g) hd
theorem zaB {t:TA}{ds:List PyData}(h:EvA K t σ G [.list ds]):Ev K (tCB (λxs H Q=>∃ p ys,xs=[.ref p]/\(SqL K H p ys\/SqT K H p ys)/\Q (.int ys.length) H) t) σ G (.int ds.length):=
 zie h λG1 H xs Q s1 s2 hx k=>by
  obtain ⟨y,ys,rfl,hy,r⟩:=hx.cons
  rw[r.nil]
  obtain ⟨p,zs,rfl,hp,hz⟩:=hy.lst
  refine ⟨p,zs,rfl,.inl (SqL.of (s2 _ _ hp)),?_⟩
  rw[hz.length]
  exact k _ G1 H (Yr.refl s2) (Zv _)
theorem zax {t:TA}{ds:List PyData}(h:EvA K t σ G [.tuple ds]):Ev K (tCB (λxs H Q=>∃ p ys,xs=[.ref p]/\(SqL K H p ys\/SqT K H p ys)/\Q (.int ys.length) H) t) σ G (.int ds.length):=
 zie h λG1 H xs Q s1 s2 hx k=>by
  obtain ⟨y,ys,rfl,hy,r⟩:=hx.cons
  rw[r.nil]
  obtain ⟨p,zs,rfl,hp,hz⟩:=hy.tup
  refine ⟨p,zs,rfl,.inr (s2.tup hp),?_⟩
  rw[hz.length]
  exact k _ G1 H (Yr.refl s2) (Zv _)
theorem zcR {t:TA}{ds:List PyData}(h:EvA K t σ G [.list ds]):Ev K (tCB (λxs H Q=>∃ p ys,xs=[.ref p]/\((SqL K H p ys/\∀ l,H l=none->Q (.ref l) (upd H l (.tup ys)))\/(SqT K H p ys/\Q (.ref p) H))) t) σ G (.tuple ds):=
 zie h λG1 H xs Q s1 s2 hx k=>by
  obtain ⟨y,ys,rfl,hy,r⟩:=hx.cons
  rw[r.nil]
  obtain ⟨p,zs,rfl,hp,hz⟩:=hy.lst
  refine ⟨p,zs,rfl,.inl ⟨SqL.of (s2 _ _ hp),λl hl=>?_⟩⟩
  have g:=Z5 (o:=.tup zs) s2 hl
  exact k _ _ _ g (YW (SqT.of Zh) (hz.same g.gg))
theorem ZV {t:TE}{c:Bool}(h:Ev K t σ G (.bool c)):EvT (zhy t) σ G c:=λG1 H s1 s2 Q k=>h G1 H s1 s2 _ λv G' H' g hv=>⟨c,hv.bl,k G' H' g⟩
theorem zfs {t:TE}{c:Bool}(h:Ev K t σ G (.bool c)):EvT (tB t) σ G c:=λG1 H s1 s2 Q k=>h G1 H s1 s2 _ λv G' H' g hv=>⟨c,hv.bl,k G' H' g⟩
theorem zhn {t u:TT}{c e:Bool}(h:EvT t σ G c)(h' : c=false->EvT u σ G e):EvT (tOr t u) σ G (c||e):=λG1 H s1 s2 Q k=>h G1 H s1 s2 _ λG' H' g=>by
 cases c with
 | true=>rw[if_pos rfl];exact k G' H' g
 | false=>
  rw[if_neg Bool.false_ne_true]
  exact h' rfl G' H' (s1.trans g.gg) g.gh _ λG2 H2 g2=>k G2 H2 (g.trans g2)
theorem zcO {t:TT}{c e:Bool}(h:EvT t σ G c)(q:c=e):EvT t σ G e:=q ▸ h
theorem Qv {t:TE}{e:PyData}(h:Ev K t σ G d)(q:d=e):Ev K t σ G e:=q ▸ h
theorem VN {t:TT}{c:Bool}(h:EvT t σ G c)(h1:c=true->Ev K ta σ G d)(h2:c=false->Ev K tb σ G d):Ev K (tIf t ta tb) σ G d:=λG1 H s1 s2 Q k=>h G1 H s1 s2 _ λG' H' g=>by
 cases c with
 | true=>rw[if_pos rfl];exact h1 rfl G' H' (s1.trans g.gg) g.gh _ λv G2 H2 g2 hv=>k v G2 H2 (g.trans g2) hv
 | false=>rw[if_neg Bool.false_ne_true];exact h2 rfl G' H' (s1.trans g.gg) g.gh _ λv G2 H2 g2 hv=>k v G2 H2 (g.trans g2) hv
def spP (K:PySem.W.Frag)(R:List PyData->PyData->Prop):Sp:=λvs H Q _=>∃ (G:Hp) (ds:List PyData) (d:PyData),ZL G H/\Yl K G vs ds/\R ds d/\∀ v G' H',Yr G H G' H' -> Dat K G' v d->Q v H'
theorem Z4 {R:List PyData->PyData->Prop}{E:XK}{t:TA}{ds:List PyData}(h:EvA K t σ G ds)(hR:R ds d):Ev K (V6 (spP K R) [] E t) σ G d:=
 λG1 H s1 s2 Q k=>h G1 H s1 s2 _ λvs G2 H2 g2 hv=>by
  refine ⟨G2,ds,d,g2.gh,?_,hR,λv G' H' g hd=>k v G' H' (g2.trans g) hd⟩
  rw[List.append_nil];exact hv
theorem Vn {α β:Type}(f:α->Option β):∀ ds:List α,(List.range ds.length).filterMap (λi=>(ds[i]?).bind f)=ds.filterMap f
 | []=>rfl
 | d::ds=>by
  rw[List.length_cons,List.range_succ_eq_map,List.filterMap_cons,List.filterMap_map]
  have e:(λi=>((d::ds)[i]?).bind f)∘Nat.succ=λi=>(ds[i]?).bind f:=by
   funext i;simp
  rw[e,Vn f ds]
  rw[List.filterMap_cons]
  simp
structure Walk (J:It)(n:Nat)(H:Hp)(items:Nat->V->Prop):Prop where
 go:∀ i H',ZL H H' -> i<n->J.go i H'
 stop:∀ i H',ZL H H' -> n<=i->J.stop i H'
 yld:∀ i H' x H'',ZL H H' -> J.yld i H' x H'' -> H''=H' /\ items i x
theorem zhX {a:Addr}{xs:List V}{H:Hp}(h:SqT K H a xs):Walk (Itt K a) xs.length H (λi x=>xs[i]?=some x):=
 ⟨λi H' s hi=>⟨xs,_,s.tup h,List.getElem?_eq_getElem hi⟩,λi H' s hi=>⟨xs,s.tup h,hi⟩,λi H' x H'' s y=>⟨y.1,y.2 xs (s.tup h)⟩⟩
theorem ziS {a:Addr}{xs:List V}{H:Hp}(h:SqL K H a xs):Walk (Itl K a) xs.length H (λi x=>xs[i]?=some x):=
 ⟨λi H' s hi=>⟨xs,_,s.seq h,List.getElem?_eq_getElem hi⟩,λi H' s hi=>⟨xs,s.seq h,hi⟩,λi H' x H'' s y=>⟨y.1,y.2 xs (s.seq h)⟩⟩
theorem zmp {wi:TI}{js:List Nat}{tt:TT}{te:TE}{H:Hp}{Q:VK}{n:Nat}(f:Nat->Option PyData)(items:Hp->Nat->V->Prop){G1:Hp}(s2:ZL G1 H)
  (hw:∀ R:It->Hp->Prop,(∀ J G2 H2,Yr G1 H G2 H2->Walk J n H2 (items G2)->R J H2)->wi σ H R)
  (hn:n<sizeLine)
  (hc:∀ G2 i x,ZL G1 G2->i<n->items G2 i x->(∃ d,f i=some d/\EvT tt (some x::Jm σ js) G2 true/\Ev K te (some x::Jm σ js) G2 d)\/(f i=none/\EvT tt (some x::Jm σ js) G2 false))
  (k:∀ v G' H',Yr G1 H G' H' -> Dat K G' v (.list ((List.range n).filterMap f))->Q v H'):tLC wi js tt te σ H Q:=by
 refine hw _ λJ G2 H2 g2 W=>?_
 refine ⟨λi m ys H' => m=n-i/\i<=n/\ys.length<=i/\∃ G',Yr G2 H2 G' H' /\ Yl K G' ys ((List.range i).filterMap f),⟨n,by omega,by omega,by simp,G2,Yr.refl g2.gh,by simpa using ZP⟩,?_⟩
 rintro i m ys H' ⟨rfl,hi,hl,G',g',hys⟩
 refine ⟨by omega,?_⟩
 by_cases h:i=n
 ·subst h
  refine .inl ⟨W.stop i H' g'.hh (Nat.le_refl _),λp hp=>?_⟩
  have g3:=Z5 (o:=.lst ys) g'.gh hp
  exact k _ _ _ ((g2.trans g').trans g3) (YT Zh (hys.same g3.gg))
 ·refine .inr ⟨W.go i H' g'.hh (by omega),λx H'' hy=>?_⟩
  obtain ⟨rfl,hit⟩:=W.yld i H' x H'' g'.hh hy
  rcases hc G2 i x g2.gg (by omega) hit with ⟨d,hf,ht,he⟩ | ⟨hf,ht⟩
  ·refine ht G' H'' g'.gg g'.gh _ λG4 H4 g4=>?_
   rw[if_pos rfl]
   refine he G4 H4 (g'.gg.trans g4.gg) g4.gh _ λv G5 H5 g5 hv=>⟨n-(i+1),by omega,rfl,by omega,by rw[List.length_append];show ys.length+1<=i+1;omega,G5,(g'.trans g4).trans g5,?_⟩
   rw[List.range_succ,List.filterMap_append]
   simp only[List.filterMap_cons,hf,List.filterMap_nil]
   exact JT (hys.same (g4.gg.trans g5.gg)) hv
  ·refine ht G' H'' g'.gg g'.gh _ λG4 H4 g4=>?_
   rw[if_neg Bool.false_ne_true]
   refine ⟨n-(i+1),by omega,rfl,by omega,by omega,G4,g'.trans g4,?_⟩
   rw[List.range_succ,List.filterMap_append]
   simp only[List.filterMap_cons,hf,List.filterMap_nil,List.append_nil]
   exact hys.same g4.gg
def Lc1 (K:PySem.W.Frag)(tt:TT)(te:TE)(σ' : St)(G:Hp)(o:Option PyData):Prop:=
 (∃ d,o=some d/\EvT tt σ' G true/\Ev K te σ' G d)\/(o=none/\EvT tt σ' G false)
theorem zgF {α:Type}{tl:TE}{js:List Nat}{tt:TT}{te:TE}(as:List α)(enc:α->PyData)(f:α->Option PyData)(h:Ev K tl σ G (.tuple (as.map enc)))(hj:as.length<sizeLine)
  (hc:∀ G2 (i:Nat) (a:α) x,ZL G G2->as[i]?=some a->Dat K G2 x (enc a)->Lc1 K tt te (some x::Jm σ js) G2 (f a)):Ev K (tLC (znU K tl) js tt te) σ G (.list (as.filterMap f)):=
 λG1 H s1 s2 Q k=>zmp (n:=as.length) (λi=>(as[i]?).bind f) (λG2 i x=>∃ a,as[i]?=some a/\Dat K G2 x (enc a)) s2 (λR hR=>h G1 H s1 s2 _ λv G2 H2 g2 hv=>by
  obtain ⟨p,xs,rfl,hp,hxs⟩:=hv.tup
  refine ⟨p,rfl,⟨xs,g2.gh.tup hp⟩,hR _ G2 H2 g2 ?_⟩
  have W:=zhX (K:=K) (H:=H2) (g2.gh.tup hp)
  rw[hxs.length,List.length_map] at W
  refine ⟨W.go,W.stop,λi H' x H'' s y=>⟨(W.yld i H' x H'' s y).1,?_⟩⟩
  obtain ⟨d,hd,hx⟩:=hxs.zjK (W.yld i H' x H'' s y).2
  rw[List.getElem?_map] at hd
  cases e:as[i]? with
  | none=>rw[e] at hd;cases hd
  | some a=>rw[e] at hd;cases hd;exact ⟨a,rfl,hx⟩) hj
  (λG2 i x s3 hi ⟨a,ha,hx⟩=>by
   show Lc1 K tt te (some x::Jm σ js) G2 ((as[i]?).bind f)
   rw[ha];exact hc G2 i a x (s1.trans s3) ha hx) (by rw[Vn];exact k)
theorem zeE {α:Type}{tl:TE}{js:List Nat}{tt:TT}{te:TE}(as:List α)(enc:α->PyData)(f:α->Option PyData)(h:Ev K tl σ G (.list (as.map enc)))(hj:as.length<sizeLine)
  (hc:∀ G2 (i:Nat) (a:α) x,ZL G G2->as[i]?=some a->Dat K G2 x (enc a)->Lc1 K tt te (some x::Jm σ js) G2 (f a)):Ev K (tLC (zni K tl) js tt te) σ G (.list (as.filterMap f)):=
 λG1 H s1 s2 Q k=>zmp (n:=as.length) (λi=>(as[i]?).bind f) (λG2 i x=>∃ a,as[i]?=some a/\Dat K G2 x (enc a)) s2 (λR hR=>h G1 H s1 s2 _ λv G2 H2 g2 hv=>by
  obtain ⟨p,xs,rfl,hp,hxs⟩:=hv.lst
  refine ⟨p,rfl,⟨xs,SqL.of (g2.gh _ _ hp)⟩,hR _ G2 H2 g2 ?_⟩
  have W:=ziS (K:=K) (H:=H2) (SqL.of (g2.gh _ _ hp))
  rw[hxs.length,List.length_map] at W
  refine ⟨W.go,W.stop,λi H' x H'' s y=>⟨(W.yld i H' x H'' s y).1,?_⟩⟩
  obtain ⟨d,hd,hx⟩:=hxs.zjK (W.yld i H' x H'' s y).2
  rw[List.getElem?_map] at hd
  cases e:as[i]? with
  | none=>rw[e] at hd;cases hd
  | some a=>rw[e] at hd;cases hd;exact ⟨a,rfl,hx⟩) hj
  (λG2 i x s3 hi ⟨a,ha,hx⟩=>by
   show Lc1 K tt te (some x::Jm σ js) G2 ((as[i]?).bind f)
   rw[ha];exact hc G2 i a x (s1.trans s3) ha hx) (by rw[Vn];exact k)
theorem lc1 {tt:TT}{te:TE}{σ' : St}(ht:EvT tt σ' G true)(he:Ev K te σ' G d):Lc1 K tt te σ' G (some d):=.inl ⟨d,rfl,ht,he⟩
theorem Qf:EvT zc6 σ G true:=λG1 H s1 s2 Q k=>k G1 H (Yr.refl s2)
end
end L2
namespace L2
open PySem PySem.Spec PyProof.Rows
section
variable {K:PySem.W.Frag}{σ:St}{G H:Hp}{te:TE}{d:PyData}{D:Ends}
theorem ZW (h:Ev K te σ G d)(s:ZL G H)(k:∀ v G' H',Yr G H G' H' -> Dat K G' v d->D.rt v H'):znM te D σ H:=h.use s k
theorem Jb {i:Nat}(h:Ev K te σ G d)(s:ZL G H)(k:∀ v G' H',Yr G H G' H' -> Dat K G' v d->D.nx (σ.set i (some v)) H'):zlO te (zdL i) D σ H:=h.use s k
theorem zag {tc:TT}{t u:TS}{c:Bool}(h:EvT tc σ G c)(s:ZL G H)(k1:c=true->∀ G' H',Yr G H G' H' -> t D σ H')(k2:c=false->∀ G' H',Yr G H G' H' -> u D σ H'):zlI tc t u D σ H:=
 h.use s λG' H' g=>by
  cases c with
  | true=>rw[if_pos rfl];exact k1 rfl G' H' g
  | false=>rw[if_neg Bool.false_ne_true];exact k2 rfl G' H' g
theorem ZJ {tc:TT}{t u:TS}(h:EvT tc σ G false)(s:ZL G H)(k:∀ G' H',Yr G H G' H' -> u D σ H'):zlI tc t u D σ H:=zag h s (λz=>nomatch z) λ_=>k
theorem Vp {α β:Type}(f:α->β):∀ l:List α,l.filterMap (λx=>some (f x))=l.map f
 | []=>rfl
 | x::l=>by rw[List.filterMap_cons,List.map_cons,Vp f l]
abbrev dN (ns:List Nat):PyData:=.tuple (ns.map λn=>PyData.int (n:Nat))
theorem JN:∀ ns:List Nat,Yl K G (ns.map λn=>V.int (n:Nat)) (ns.map λn=>PyData.int (n:Nat))
 | []=>ZP
 | n::ns=>ZG (Zv _) (JN ns)
theorem Yl.nats:∀ {ns:List Nat}{xs:List V},Yl K G xs (ns.map λn=>PyData.int (n:Nat))->xs=ns.map λn=>V.int (n:Nat)
 | [],_,h=>h.nil
 | n::ns,_,h=>by
  obtain ⟨y,ys,rfl,hd,r⟩:=h.cons
  rw[hd.int,Yl.nats r];rfl
theorem zd1 {n:Nat}(ns:List Nat):Pl (n+1) (dN ns):=zaW λd hd=>by
 obtain ⟨i,_,rfl⟩:=List.mem_map.mp hd
 exact zeX _
theorem Xk {n i:Nat}(h:i<n):ixN n (i:Int)=some i:=by unfold ixN;rw[if_pos (by omega),if_pos (by omega)];simp
end
end L2
namespace L2
open PySem PySem.Spec PyProof.Rows
section
variable {K:PySem.W.Frag}{σ:St}{G H:Hp}{ta tb:TE}
theorem zos {i j:Int}(ha:Ev K ta σ G (.int i))(hb:Ev K tb σ G (.int j)):Ev K (tOp rNe ta tb) σ G (.bool (!decide (i=j))):=
 JM ha hb λG1 H x y Q s1 s2 hx hy k=>by
  rw[hx.int,hy.int]
  refine ⟨rfl,?_⟩
  have e:decide (V.int i=V.int j)=decide (i=j):=by
   by_cases h:i=j
   ·rw[decide_eq_true h,decide_eq_true (by rw[h])]
   ·rw[decide_eq_false h,decide_eq_false λz=>h (by injection z)]
  rw[e]
  exact k _ G1 H (Yr.refl s2) (Yn _)
theorem zbl {i j:Int}(ha:Ev K ta σ G (.int i))(hb:Ev K tb σ G (.int j)):Ev K (tOp rEq ta tb) σ G (.bool (decide (i=j))):=
 JM ha hb λG1 H x y Q s1 s2 hx hy k=>by
  rw[hx.int,hy.int]
  refine ⟨rfl,?_⟩
  have e:decide (V.int i=V.int j)=decide (i=j):=by
   by_cases h:i=j
   ·rw[decide_eq_true h,decide_eq_true (by rw[h])]
   ·rw[decide_eq_false h,decide_eq_false λz=>h (by injection z)]
  rw[e]
  exact k _ G1 H (Yr.refl s2) (Yn _)
theorem Qg {d:Addr}{o:HO}(s:ZL G H)(n:G d=none):ZL G (upd H d o):=λb u e=>by
 rw[Zq (Zn e n)];exact s b u e
end
end L2
namespace L2
open PySem PySem.Spec PyProof.Rows
section
variable {X:Cx}{pins:List (Addr×Obj)}{σ:St}{H:Hp}{s:Shared}{h' : Heap}
theorem Inv.Ud {t' : Nat}{fp:List Addr}{T:Addr}{o:HO}(I:Inv X pins σ H s)(k:∀ b u,b∉fp->s.heap.get? b=some u->h'.get? b=some u)(hf:∀ b∈fp,zfS X pins H b)
  (hT:s.heap.objs.size<=T) (new:YJ X.prog X.w (upd H T o) h' T o):Inv X pins σ (upd H T o) { s with heap:=h',toks:=t' }:=by
 have nfp:∀ b u,H b=some u->b∉fp:=λb u e z=>by rw[(hf b z).1] at e;cases e
 have nT:∀ b u,H b=some u->b≠T:=λb u e=>Nat.ne_of_lt (Nat.lt_of_lt_of_le (I.hok.lt e) hT)
 have nT' : ∀ b u,s.heap.get? b=some u->b≠T:=λb u e=>Nat.ne_of_lt (Nat.lt_of_lt_of_le (Heap.lt_size e) hT)
 refine I.step (g' := s.gens) (d' := s.drawn) (ch:=fp) (λb hb=>?_) (λb u _ _ hc e _=>k b u hc e) (λb u _ _ hc e _=>⟨u.slots,k b u hc e⟩) (λb u _ e n=>by rw[Zq (nT' b u e)];exact n)
  (λb u hc e=>⟨u,k b u hc e⟩) (λb xs e=>by rw[Zq (nT b _ e)];exact e) (λb u v e=>by rw[Zq (nT b _ e)];exact e) (λb cr e=>by rw[Zq (nT b _ e)];exact e) (λm hm=>?_) (λb u e=>?_) I.bare
 ·obtain ⟨f0,f1,f2,f3,f4,f5⟩:=hf b hb
  exact ⟨f3,f1,f4,f5⟩
 ·obtain ⟨ob,es,ep,ho,r⟩:=hm
  exact ⟨ob,es,ep,k _ ob (λz=>(hf _ z).2.1 rfl) ho,r⟩
 ·by_cases hb:b=T
  ·subst hb;rw[Zh] at e;cases e;exact new
  ·rw[Zq hb] at e
   refine (I.hok b u e).stay (λc v hc q=>k c v ?_ q) (λc q=>by rw[Zq (nT c _ q)];exact q) (λc xs q=>by rw[Zq (nT c _ q)];exact q) λc o u q=>by rw[Zq (nT c _ q)];exact q
   rcases hc with z | z
   ·rw[z];exact nfp b u e
   ·exact nfp c _ z
theorem Inv.turns {t' : Nat}{fp:List Addr}(I:Inv X pins σ H s)(k:∀ b u,b∉fp->s.heap.get? b=some u->h'.get? b=some u)(hf:∀ b∈fp,zfS X pins H b):Inv X pins σ H { s with heap:=h',toks:=t' }:=by
 have nfp:∀ b u,H b=some u->b∉fp:=λb u e z=>by rw[(hf b z).1] at e;cases e
 refine I.step (g' := s.gens) (d' := s.drawn) (ch:=fp) (λb hb=>?_) (λb u _ _ hc e _=>k b u hc e) (λb u _ _ hc e _=>⟨u.slots,k b u hc e⟩) (λb u _ e n=>n)
  (λb u hc e=>⟨u,k b u hc e⟩) (λb xs e=>e) (λb u v e=>e) (λ_ _ e=>e) (λm hm=>?_) (λb u e=>?_) I.bare
 ·obtain ⟨f0,f1,f2,f3,f4,f5⟩:=hf b hb
  exact ⟨f3,f1,f4,f5⟩
 ·obtain ⟨ob,es,ep,ho,r⟩:=hm
  exact ⟨ob,es,ep,k _ ob (λz=>(hf _ z).2.1 rfl) ho,r⟩
 ·refine (I.hok b u e).stay (λc v hc q=>k c v ?_ q) (λc q=>q) (λc xs q=>q) λc o u q=>q
  rcases hc with z | z
  ·rw[z];exact nfp b u e
  ·exact nfp c _ z
end
section
variable {prog:Program}{w:World}{A:Around}{E:Value->Shared->Prop}{s:Shared}
theorem zfL {it t:Addr}{i:Nat}{items:Array Value}{x:Value}{Q:Value->Shared->Prop}(q1:s.heap.IsTupleIter it t i)(q2:s.heap.IsTuple t items)(q3:items[i]?=some x)
  (k:∀ h',h'.IsTupleIter it t (i+1)->Heap.SameBut it s.heap h' -> Q x { s with heap:=h' }):wpAny (model prog w) A (Builtin.SmallTypes.nextOf (.ref it)) Q E s:=by
 obtain ⟨oi,e1,e2,e3⟩:=id q1
 obtain ⟨ot,e4,_,nt,e5⟩:=q2
 unfold Builtin.SmallTypes.nextOf
 refine wpAny_bind (wpAny_callSpecial?_slot (name:=Str.ofString "__next__") q1.typeIs F.slot_tuple_iterator_next (wpAny_call_entry F.slot_tuple_iterator_next q1.typeIs F.entry_tuple_iterator_next ?_ (F.args_tuple_iterator_next_1 _)))
 show wpAny (model prog w) _ (field (.ref it) 0 >>= _) _ _ s
 refine wpAny_bind (wpAny_field e1 e3 (x:=.ref t) rfl ?_)
 rw[if_neg (show ¬ ((Value.ref t==Value.none)=true) from Bool.false_ne_true)]
 refine wpAny_bind (wpAny_field e1 e3 (x:=.int i 0) rfl ?_)
 refine wpAny_bind (wpAny_seqItems e4 e5 ?_)
 simp only[Int.toNat_natCast,q3]
 refine wpAny_bind (wpAny_setField e1 e3 (by simp) (wpAny_pure ⟨x,rfl,wpAny_pure (k _ ⟨_,Heap.get?_update_self _ e1 (Obj.isFreed_of_fields (Obj.data_mapFields e3 _)),(Obj.cls_mapFields ..).trans e2,by rw[Obj.data_mapFields e3];simp[rawInt]⟩ (Heap.SameBut.update ..))⟩))
theorem Qn {it t:Addr}{i:Nat}{items:Array Value}{Q:Value->Shared->Prop}(q0:A.handled=none)(q1:s.heap.IsTupleIter it t i)(q2:s.heap.IsTuple t items)(q3:items[i]?=none)
  (k:∀ h' e,Heap.ExtBut it s.heap h' -> (∃ o,h'.get? e=some o/\o.cls = .type "StopIteration")->E (.ref e) { s with heap:=h' }):wpAny (model prog w) A (Builtin.SmallTypes.nextOf (.ref it)) Q E s:=by
 obtain ⟨oi,e1,e2,e3⟩:=id q1
 obtain ⟨ot,e4,_,nt,e5⟩:=q2
 unfold Builtin.SmallTypes.nextOf
 refine wpAny_bind (wpAny_callSpecial?_slot (name:=Str.ofString "__next__") q1.typeIs F.slot_tuple_iterator_next (wpAny_call_entry F.slot_tuple_iterator_next q1.typeIs F.entry_tuple_iterator_next ?_ (F.args_tuple_iterator_next_1 _)))
 show wpAny (model prog w) _ (field (.ref it) 0 >>= _) _ _ s
 refine wpAny_bind (wpAny_field e1 e3 (x:=.ref t) rfl ?_)
 rw[if_neg (show ¬ ((Value.ref t==Value.none)=true) from Bool.false_ne_true)]
 refine wpAny_bind (wpAny_field e1 e3 (x:=.int i 0) rfl ?_)
 refine wpAny_bind (wpAny_seqItems e4 e5 ?_)
 simp only[Int.toNat_natCast,q3]
 refine wpAny_bind (wpAny_rule (wpAny_bind (wpAny_setField e1 e3 (by simp) (wpAny_bind ?_))))
 simp only[newExc,newTuple]
 refine wpAny_bind (wpAny_newObj_type (wpAny_bind (m:=firstArgMember _ _) (wpAny_of_eq (a:=Value.none) (by first | rfl | (simp only[firstArgMember];rfl)) (wpAny_newObj_type ?_ (by size_fits)))) (by size_fits))
 simp only[raiseNew]
 refine wpAny_bind (wpAny_handled (?_:wpAny _ _ _ _ _ _))
 first | rw[show A.in1.handled=none from q0] | rw[q0]
 exact wpAny_bind (wpAny_pure (wpAny_throw (k _ _ (((Heap.SameBut.update ..).extBut.push _).push _) ⟨_,Heap.get?_push_size _ rfl,rfl⟩)))
theorem JK (hh:A.handled=none)(it l:Addr)(hne:l≠it)(items:Array Value):
  Draws prog w A it [it,l] items.size (λi v=>items[i]?=some v) (λi h=>h.IsTupleIter it l i/\h.IsTuple l items) where
 live:=λ_ _ st=>let ⟨o,ho,_⟩:=st.1;⟨o,ho⟩
 frame:=λ_ _ _ st hk=>⟨let ⟨o,ho,r⟩:=st.1;⟨o,hk it (by simp) o ho,r⟩,let ⟨o,ho,r⟩:=st.2;⟨o,hk l (by simp) o ho,r⟩⟩
 item:=λi s Q E hi st hQ=>zfL st.1 st.2 (x:=items[i]) (by simp[hi]) λh' hit' hs' => hQ _ h' s.toks (by simp[hi]) ⟨hit',let ⟨o,ho,r⟩:=st.2;⟨o,(hs'.2 l hne).trans ho,r⟩⟩ hs'
 done:=λs Q E st hE=>Qn hh st.1 st.2 (by simp) hE
end
def znB (K:PySem.W.Frag)(a:Addr):It:=
 ⟨λi H=>∃ xs x,SqT K H a xs/\xs[i]?=some x,λi H v H' => ∃ p x,H p=none/\v = .ref p/\H'=upd H p (.tup [.int i,x])/\∀ xs,SqT K H a xs->xs[i]?=some x,λi H=>∃ xs,SqT K H a xs/\xs.length<=i⟩
def zmT (K:PySem.W.Frag)(a:Addr):It:=
 ⟨λi H=>∃ xs x,SqL K H a xs/\xs[i]?=some x,λi H v H' => ∃ p x,H p=none/\v = .ref p/\H'=upd H p (.tup [.int i,x])/\∀ xs,SqL K H a xs->xs[i]?=some x,λi H=>∃ xs,SqL K H a xs/\xs.length<=i⟩
theorem zaq {h:Heap}{a b:Addr}{o u:Obj}(e:h.get? a=some o)(e' : h.get? b=some u)(n:o.cls≠u.cls):a≠b:=by
 rintro rfl;rw[e] at e';cases e';exact n rfl
theorem zfn {P:Program}{w:World}{K:PySem.W.Frag}{elts:List Expr}{tk:Nat}{tpos:Pos}(a e it:Addr):Turn P w K (.Tuple elts tk tpos) (znB K a) [e,it] e (λi h=>(∃ old,IsEnum h e it i old)/\h.IsTupleIter it a i) where
 mem:=by simp
 obj:=λi h st b hb=>by
  obtain ⟨⟨old,he⟩,o,ho,hc,hd⟩:=st
  rcases List.mem_cons.mp hb with rfl | hb
  ·exact ⟨_,he,λv z=>by cases z⟩
  ·have eb:b=it:=by simpa using hb
   subst eb
   exact ⟨o,ho,λv z=>by rw[hd] at z;cases z⟩
 keep:=λi h h' st k=>by
  obtain ⟨⟨old,he⟩,o,ho,r⟩:=st
  exact ⟨⟨old,k e (by simp) _ he⟩,o,k it (by simp) o ho,r⟩
 item:=by
  intro X hP hw hK hc i pins s σ H E I hf st hg
  subst hP hw hK
  obtain ⟨xs,x,hq,hx⟩:=hg
  obtain ⟨its,rv,p,hz⟩:=I.tuple hq
  obtain ⟨u,hu,ru⟩:=rv.get hx
  obtain ⟨⟨old,he⟩,hit⟩:=st
  obtain ⟨oi,hoi,hci,hdi⟩:=id hit
  obtain ⟨ot,hot,hct,nt,hdt⟩:=id p
  have hei:e≠it:=zaq he hoi (by rw[hci];show Value.type "enumerate" ≠ Value.type "tuple_iterator";decide)
  have hea:e≠a:=zaq he hot (by rw[hct];show Value.type "enumerate" ≠ Value.type "tuple";decide)
  have hai:a≠it:=zaq hot hoi (by rw[hci,hct];decide)
  have hlt:i<its.toArray.size:=by
   have:=(List.getElem?_eq_some_iff.mp hu).1
   simpa using this
  refine wpAny_pyNext_enum_itemD (JK (show X.A.in1.handled=none from I.ok.hd hc) it a hai its.toArray) he ⟨hit,p⟩ hlt hei (by simp[hei,hea]) λx' h' tk' hP ho hs' hT hsz hk=>?_
  have ex:x'=u:=by
   have hP' : its.toArray[i]?=some x' := hP
   have:its[i]?=some x' := by simpa using hP'
   rw[hu] at this;exact (Option.some.inj this).symm
  subst ex
  refine ⟨_,rfl,wpAny_letOwnedTupleGo_enum ho λh2 he2 hs2=>?_⟩
  have het:e≠s.heap.objs.size:=Nat.ne_of_lt (Heap.lt_size he)
  have new:YJ X.prog X.w (upd H s.heap.objs.size (.tup [.int i,x])) h2 s.heap.objs.size (.tup [.int i,x]):=
   ⟨by show 2<=sizeLine;decide,[.int i tk',x'],.cons ⟨tk',rfl⟩ (.cons ru .nil),⟨_,(hs2.2 _ (Ne.symm het)).trans hT,rfl,_,rfl⟩,_,(hs2.2 _ (Ne.symm het)).trans hT,rfl⟩
  have kk:∀ b o,b∉[e,it]->s.heap.get? b=some o->h2.get? b=some o:=λb o hb q=>by
   have h1:b≠e:=λz=>hb (by simp[z])
   have h2' : b≠it:=λz=>hb (by simp[z])
   exact (hs2.2 b h1).trans (hk b o h1 h2' q)
  have fresh:=I.hok.fresh (Nat.le_refl s.heap.objs.size)
  refine ⟨.ref s.heap.objs.size,_,I.Ud (t' := tk'+1) kk hf (Nat.le_refl _) new,rfl,⟨_,x,fresh,rfl,rfl,λys hy=>by rw[I.J2 hy hq];exact hx⟩,⟨⟨_,he2⟩,?_⟩,λb hb=>?_⟩
  ·obtain ⟨o3,g1,g2,g3⟩:=hs'.1
   exact ⟨o3,(hs2.2 it (Ne.symm hei)).trans g1,g2,g3⟩
  ·have hb' : b≠s.heap.objs.size:=by
    rcases List.mem_cons.mp hb with rfl | hb
    ·exact het
    ·rw[List.mem_singleton.mp hb];exact Nat.ne_of_lt (Heap.lt_size hoi)
   rw[Zq hb'];exact (hf b hb).1
 done:=by
  intro X hP hw hK hc i pins s σ H E I hf st hg
  subst hP hw hK
  obtain ⟨xs,hq,hx⟩:=hg
  obtain ⟨its,rv,p,hz⟩:=I.tuple hq
  obtain ⟨⟨old,he⟩,hit⟩:=st
  obtain ⟨oi,hoi,hci,hdi⟩:=id hit
  obtain ⟨ot,hot,hct,nt,hdt⟩:=id p
  have hai:a≠it:=zaq hot hoi (by rw[hci,hct];decide)
  have hl:=rv.length
  unfold pyNext
  have hTy:s.TypeIs (.ref e) "enumerate" := ⟨_,he,rfl⟩
  refine wpAny_bind (wpAny_attempt (wpAny_callSpecial?_slot (name:=Str.ofString "__next__") hTy F.slot_enumerate_next (wpAny_call_entry F.slot_enumerate_next hTy F.entry_enumerate_next ?_ (F.args_enumerate_next_1 _))))
  show wpAny (model X.prog X.w) X.A.in1 (field (.ref e) 2 >>= _) _ _ s
  refine wpAny_bind (wpAny_field he rfl (x:=.ref it) rfl (wpAny_bind (Qn (I.ok.hd hc) hit p (by simp;omega) λh' y g1 g2=>?_)))
  obtain ⟨o,ho,hcl⟩:=g2
  refine wpAny_bind (wpAny_isInstance (T:= "StopIteration") (b:=true) ⟨o,ho,hcl⟩ isSubtype_stop (wpAny_pure ?_))
  exact ⟨rfl,I.turns (t' := s.toks) (λb u hb q=>g1 b u (λz=>hb (by simp[z])) q) hf⟩
 self:=λ_ _ _ _ _ st h=>by
  obtain ⟨⟨old,he⟩,_⟩:=st
  exact wpAny_pyIter_enum he h
theorem ze6 {P:Program}{w:World}{K:PySem.W.Frag}{elts:List Expr}{tk:Nat}{tpos:Pos}(a e it:Addr):Turn P w K (.Tuple elts tk tpos) (zmT K a) [e,it] e (λi h=>(∃ old,IsEnum h e it i old)/\h.IsListIter it a i) where
 mem:=by simp
 obj:=λi h st b hb=>by
  obtain ⟨⟨old,he⟩,o,ho,hc,hd⟩:=st
  rcases List.mem_cons.mp hb with rfl | hb
  ·exact ⟨_,he,λv z=>by cases z⟩
  ·have eb:b=it:=by simpa using hb
   subst eb
   exact ⟨o,ho,λv z=>by rw[hd] at z;cases z⟩
 keep:=λi h h' st k=>by
  obtain ⟨⟨old,he⟩,o,ho,r⟩:=st
  exact ⟨⟨old,k e (by simp) _ he⟩,o,k it (by simp) o ho,r⟩
 item:=by
  intro X hP hw hK hc i pins s σ H E I hf st hg
  subst hP hw hK
  obtain ⟨xs,x,hq,hx⟩:=hg
  obtain ⟨its,rv,pl,hz⟩:=I.list hq
  obtain ⟨u,hu,ru⟩:=rv.get hx
  obtain ⟨⟨old,he⟩,hit⟩:=st
  obtain ⟨oi,hoi,hci,hdi⟩:=id hit
  have p:s.heap.IsList a its.toArray:=pl.isList
  obtain ⟨ot,hot,hct,nt,hdt⟩:=id p
  have hei:e≠it:=zaq he hoi (by rw[hci];show Value.type "enumerate" ≠ Value.type "list_iterator";decide)
  have hea:e≠a:=zaq he hot (by rw[hct];show Value.type "enumerate" ≠ Value.type "list";decide)
  have hai:a≠it:=zaq hot hoi (by rw[hci,hct];decide)
  have hlt:i<its.toArray.size:=by
   have:=(List.getElem?_eq_some_iff.mp hu).1
   simpa using this
  refine wpAny_pyNext_enum_itemD (Draws.list (show X.A.in1.handled=none from I.ok.hd hc) it a hai its.toArray) he ⟨hit,p⟩ hlt hei (by simp[hei,hea]) λx' h' tk' hP ho hs' hT hsz hk=>?_
  have ex:x'=u:=by
   have hP' : its.toArray[i]?=some x' := hP
   have:its[i]?=some x' := by simpa using hP'
   rw[hu] at this;exact (Option.some.inj this).symm
  subst ex
  refine ⟨_,rfl,wpAny_letOwnedTupleGo_enum ho λh2 he2 hs2=>?_⟩
  have het:e≠s.heap.objs.size:=Nat.ne_of_lt (Heap.lt_size he)
  have new:YJ X.prog X.w (upd H s.heap.objs.size (.tup [.int i,x])) h2 s.heap.objs.size (.tup [.int i,x]):=
   ⟨by show 2<=sizeLine;decide,[.int i tk',x'],.cons ⟨tk',rfl⟩ (.cons ru .nil),⟨_,(hs2.2 _ (Ne.symm het)).trans hT,rfl,_,rfl⟩,_,(hs2.2 _ (Ne.symm het)).trans hT,rfl⟩
  have kk:∀ b o,b∉[e,it]->s.heap.get? b=some o->h2.get? b=some o:=λb o hb q=>by
   have h1:b≠e:=λz=>hb (by simp[z])
   have h2' : b≠it:=λz=>hb (by simp[z])
   exact (hs2.2 b h1).trans (hk b o h1 h2' q)
  have fresh:=I.hok.fresh (Nat.le_refl s.heap.objs.size)
  refine ⟨.ref s.heap.objs.size,_,I.Ud (t' := tk'+1) kk hf (Nat.le_refl _) new,rfl,⟨_,x,fresh,rfl,rfl,λys hy=>by rw[I.Ue hy hq];exact hx⟩,⟨⟨_,he2⟩,?_⟩,λb hb=>?_⟩
  ·obtain ⟨o3,g1,g2,g3⟩:=hs'.1
   exact ⟨o3,(hs2.2 it (Ne.symm hei)).trans g1,g2,g3⟩
  ·have hb' : b≠s.heap.objs.size:=by
    rcases List.mem_cons.mp hb with rfl | hb
    ·exact het
    ·rw[List.mem_singleton.mp hb];exact Nat.ne_of_lt (Heap.lt_size hoi)
   rw[Zq hb'];exact (hf b hb).1
 done:=by
  intro X hP hw hK hc i pins s σ H E I hf st hg
  subst hP hw hK
  obtain ⟨xs,hq,hx⟩:=hg
  obtain ⟨its,rv,pl,hz⟩:=I.list hq
  obtain ⟨⟨old,he⟩,hit⟩:=st
  have p:s.heap.IsList a its.toArray:=pl.isList
  have hl:=rv.length
  unfold pyNext
  have hTy:s.TypeIs (.ref e) "enumerate" := ⟨_,he,rfl⟩
  refine wpAny_bind (wpAny_attempt (wpAny_callSpecial?_slot (name:=Str.ofString "__next__") hTy F.slot_enumerate_next (wpAny_call_entry F.slot_enumerate_next hTy F.entry_enumerate_next ?_ (F.args_enumerate_next_1 _))))
  show wpAny (model X.prog X.w) X.A.in1 (field (.ref e) 2 >>= _) _ _ s
  refine wpAny_bind (wpAny_field he rfl (x:=.ref it) rfl (wpAny_bind (wpAny_nextOf_list_end (I.ok.hd hc) hit p (by simp;omega) λh' y g1 g2=>?_)))
  obtain ⟨o,ho,hcl⟩:=g2
  refine wpAny_bind (wpAny_isInstance (T:= "StopIteration") (b:=true) ⟨o,ho,hcl⟩ isSubtype_stop (wpAny_pure ?_))
  exact ⟨rfl,I.turns (t' := s.toks) (λb u hb q=>g1 b u (λz=>hb (by simp[z])) q) hf⟩
 self:=λ_ _ _ _ _ st h=>by
  obtain ⟨⟨old,he⟩,_⟩:=st
  exact wpAny_pyIter_enum he h
theorem zg6 (l:Addr)(items:Array Value)(n:Nat)(dct:Option Addr)(sl:Array (Option Value)):
  Meets (Builtin.«enumerate.__new__» ⟨[.type "enumerate",.ref l],[]⟩) (λ_ R s=>s.heap.get? l=some { cls:=.type "tuple",dict:=dct,data:=.seq items n,slots:=sl }/\
   R (.ok (.ret (.ref (s.heap.push { cls:=.type "tuple_iterator",data:=.fields #[.ref l,.int 0 0] }).objs.size)))
    { s with heap:=(s.heap.push { cls:=.type "tuple_iterator",data:=.fields #[.ref l,.int 0 0] }).push { cls:=.type "enumerate",data:=.fields #[.none,.bool false,.ref s.heap.objs.size,rawInt 0,.none,.none] } }):=
 .of_wp λprog w A R s h=>by
  obtain ⟨hp,g,d,tk,os⟩:=s;obtain ⟨q1,h⟩:=h
  have q0:=sub_enumerate
  have q2:Heap.IsTuple (Shared.heap ⟨hp,g,d,tk,os⟩) l items:=⟨_,q1,rfl,n,rfl⟩
  wp_walk using AutoSeq1.wpAny_loadPart' q1
  refine wpAny_stack_any λst0=>wpAny_pure ?_
  split
  ·rename_i c0 _ _ _ _ _
   cases (c0==Value.type "enumerate") <;> (wp_walk using AutoSeq1.wpAny_loadPart' q1,wpAny_pyIter_tuple q2;exact ⟨_,rfl,h⟩)
  ·wp_walk using AutoSeq1.wpAny_loadPart' q1,wpAny_pyIter_tuple q2
   exact ⟨_,rfl,h⟩
section
variable {prog:Program}{w:World}{A:Around}{E:Value->Shared->Prop}{s:Shared}
theorem zfp {l:Addr}{items:Array Value}{Q:Value->Shared->Prop}(q2:s.heap.IsTuple l items)
  (h:∀ h',IsEnum h' (s.heap.objs.size+1) s.heap.objs.size 0 .none->h'.IsTupleIter s.heap.objs.size l 0->(∀ b o,s.heap.get? b=some o->h'.get? b=some o)->Q (.ref (s.heap.objs.size+1)) { s with heap:=h' }):
  wpAny (model prog w) A (call (.type "enumerate") [.ref l]) Q E s:=by
 obtain ⟨⟨c,dct,dt,sl⟩,q1,e1,n,e2⟩:=q2
 replace e1:c = .type "tuple" := e1
 replace e2:dt = .seq items n:=e2
 subst e1 e2
 refine callType_new F.called_enumerate (by decide) (F.typeCall_enumerate_1 _) (F.newCall_enumerate_1 _) (λobj=>F.args_object_init_2 obj _) F.entry_enumerate_new (zg6 l items n dct sl) ⟨q1,?_⟩
 have z1:(s.heap.push { cls:=.type "tuple_iterator",data:=.fields #[.ref l,.int 0 0] }).objs.size=s.heap.objs.size+1:=Heap.size_push ..
 show _/\_
 rw[z1]
 have q3:IsEnum ((s.heap.push { cls:=.type "tuple_iterator",data:=.fields #[.ref l,.int 0 0] }).push { cls:=.type "enumerate",data:=.fields #[.none,.bool false,.ref s.heap.objs.size,rawInt 0,.none,.none] }) (s.heap.objs.size+1) s.heap.objs.size 0 .none:=by
  have:=Heap.get?_push_size (s.heap.push { cls:=.type "tuple_iterator",data:=.fields #[.ref l,.int 0 0] }) (o:={ cls:=.type "enumerate",data:=.fields #[.none,.bool false,.ref s.heap.objs.size,rawInt 0,.none,.none] }) rfl
  rw[z1] at this;exact this
 exact ⟨⟨_,q3,rfl⟩,h _ q3 ⟨_,Heap.get?_push_of_some _ (Heap.get?_push_size _ rfl),rfl,rfl⟩ λb o x=>Heap.get?_push_of_some _ (Heap.get?_push_of_some _ x)⟩
end
section
variable {X:Cx}
def zo3 (K:PySem.W.Frag)(ta:TA):TI:=fun σ H R=>ta σ H λvs H1=>∃ a,vs=[.ref a]/\(∃ xs,SqT K H1 a xs)/\R (znB K a) H1
def zpk (K:PySem.W.Frag)(ta:TA):TI:=fun σ H R=>ta σ H λvs H1=>∃ a,vs=[.ref a]/\(∃ xs,SqL K H1 a xs)/\R (zmT K a) H1
theorem zct:bootBuiltins "enumerate" = some (.type "enumerate"):=by decide +kernel
theorem zhW {a:Expr}{ta:TA}{p pos:Pos}{elts:List Expr}{tk:Nat}{tpos:Pos}(hg:Gl X "enumerate")(hm:X.mg "enumerate" = none)(ha:PA X [a] ta)(hs:starEach [a] X.env=[(false,eval a X.env)]:=by rfl):PI X (.Tuple elts tk tpos) (.Call (.Name "enumerate" p) [a] [] pos) (zo3 X.K ta):=by
 intro pins s σ H R I h
 refine Call_ (WW I hg hm zct (PyProof.Rows.callWith_type1 (thn (ha pos pins s σ H _ I h) λus s1 ⟨vs,H1,I1,r1,q1⟩=>?_) hs rfl))
 obtain ⟨l,e,⟨xs,hq⟩,q⟩:=q1
 subst e
 obtain ⟨u,rfl,r⟩:=Vals.one r1
 cases (show u=Value.ref l from r)
 obtain ⟨its,rv,pt,hz⟩:=I1.tuple hq
 refine zfp (show s1.heap.IsTuple l its.toArray from pt) λh' he hi hk=>?_
 refine wpAny_pyIter_enum he ⟨s1.heap.objs.size+1,[s1.heap.objs.size+1,s1.heap.objs.size],_,_,H1,rfl,I1.kept (t' := s1.toks) hk,zfn l _ _,⟨⟨_,he⟩,hi⟩,λb hb=>?_,q⟩
 have hb' : s1.heap.objs.size<=b:=by
  rcases List.mem_cons.mp hb with rfl | hb
  ·exact Nat.le_succ _
  ·rw[List.mem_singleton.mp hb];exact Nat.le_refl _
 exact I1.zjx hb' (I1.hok.fresh hb')
theorem zec {a:Expr}{ta:TA}{p pos:Pos}{elts:List Expr}{tk:Nat}{tpos:Pos}(hg:Gl X "enumerate")(hm:X.mg "enumerate" = none)(ha:PA X [a] ta)(hs:starEach [a] X.env=[(false,eval a X.env)]:=by rfl):PI X (.Tuple elts tk tpos) (.Call (.Name "enumerate" p) [a] [] pos) (zpk X.K ta):=by
 intro pins s σ H R I h
 refine Call_ (WW I hg hm zct (PyProof.Rows.callWith_type1 (thn (ha pos pins s σ H _ I h) λus s1 ⟨vs,H1,I1,r1,q1⟩=>?_) hs rfl))
 obtain ⟨l,e,⟨xs,hq⟩,q⟩:=q1
 subst e
 obtain ⟨u,rfl,r⟩:=Vals.one r1
 cases (show u=Value.ref l from r)
 obtain ⟨its,rv,pt,hz⟩:=I1.list hq
 refine call_enumerate_list pt.isList λh' he hi _ hk=>?_
 refine wpAny_pyIter_enum he ⟨s1.heap.objs.size+1,[s1.heap.objs.size+1,s1.heap.objs.size],_,_,H1,rfl,I1.kept (t' := s1.toks) hk,ze6 l _ _,⟨⟨_,he⟩,hi⟩,λb hb=>?_,q⟩
 have hb' : s1.heap.objs.size<=b:=by
  rcases List.mem_cons.mp hb with rfl | hb
  ·exact Nat.le_succ _
  ·rw[List.mem_singleton.mp hb];exact Nat.le_refl _
 exact I1.zjx hb' (I1.hok.fresh hb')
end
end L2
namespace L2
open PySem PySem.Spec PyProof.Rows
section
variable {X:Cx}
theorem ze9 {ys:List Str}:∀ {us:List Value},Vals (ys.map V.str) us->StrsAre us ys:=by
 induction ys with
 | nil=>intro us r;rw[List.map_nil] at r;cases r;exact .nil
 | cons n ns ih=>
  intro us r
  rw[List.map_cons] at r
  cases r with
  | cons r1 r2=>
   obtain ⟨t,e⟩:=r1
   subst e
   exact .cons n t (ih r2)
end
end L2
namespace L2
open PySem PySem.Spec PyProof.Rows
section
variable {X:Cx}{tg:Expr}
end
section
variable {X:Cx}{tg:Expr}
end
section
variable {prog:Program}{w:World}{A:Around}{E:Value->Shared->Prop}{s:Shared}
variable {I:Addr}{fp wr:List Addr}{G:Array GenState->Array GenState->Prop}{n:Nat}{P:Nat->Value->Prop}{St:Nat->Shared->Prop}
end
section
variable {X:Cx}
theorem zi7:bootBuiltins "reversed" = some (.type "reversed"):=by decide +kernel
theorem zeN:bootBuiltins "list" = some (.type "list"):=by decide +kernel
end
end L2
namespace L2
open PySem PySem.Spec PyProof.Rows
section
variable {X:Cx}{K:PySem.W.Frag}
theorem Xr (e:X.K=K):IxR X (zlL K):=by subst e;exact zmb
theorem Zz (e:X.K=K):IxR X (zeA K):=by subst e;exact zkX
theorem zbw (e:X.K=K):SlR X (znk K):=by subst e;exact zj7
theorem zgL (e:X.K=K)(hu:X.A.units+64<cLine):OpR X (compareOp .Eq) (zlF K λb=>b):=by subst e;exact zm8 hu
theorem zbT (e:X.K=K)(hu:X.A.units+64<cLine):OpR X (compareOp .NotEq) (zlF K λb=>!b):=by subst e;exact zmw hu
theorem Yb (e:X.K=K):Ut X (.builtin "len") (λxs H Q=>∃ p ys,xs=[.ref p]/\(SqL K H p ys\/SqT K H p ys)/\Q (.int ys.length) H):=by subst e;exact zcy
theorem Yh (e:X.K=K):OpR X (binaryOp .Add) (ze1 K):=by subst e;exact zlp
theorem YM (e:X.K=K):Ut X (.type "tuple") (λxs H Q=>∃ p ys,xs=[.ref p]/\((SqL K H p ys/\∀ l,H l=none->Q (.ref l) (upd H l (.tup ys)))\/(SqT K H p ys/\Q (.ref p) H))):=by subst e;exact zbE
end
theorem Yo {a:Expr}{op:Operator}{b:Expr}{p:Pos}{es:List Expr}{env:Env}:starEach (.BinOp a op b p::es) env=(false,eval (.BinOp a op b p) env)::starEach es env:=rfl
theorem Qz {a:Expr}{g:List Comprehension}{sc:Scope}{p:Pos}{es:List Expr}{env:Env}:starEach (.ListComp a g sc p::es) env=(false,eval (.ListComp a g sc p) env)::starEach es env:=rfl
theorem zfu {a:Expr}{ops:List CmpOp}{cs:List Expr}{p:Pos}{es:List Expr}{env:Env}:starEach (.Compare a ops cs p::es) env=(false,eval (.Compare a ops cs p) env)::starEach es env:=rfl
theorem Xa {f:Expr}{as:List Expr}{kw:List Keyword}{p:Pos}{es:List Expr}{env:Env}:starEach (.Call f as kw p::es) env=(false,eval (.Call f as kw p) env)::starEach es env:=rfl
theorem Zj {c:Const}{k:Nat}{p:Pos}{es:List Expr}{env:Env}:starEach (.Constant c k p::es) env=(false,eval (.Constant c k p) env)::starEach es env:=rfl
theorem Zu {a b:Expr}{p:Pos}{es:List Expr}{env:Env}:starEach (.Subscript a b p::es) env=(false,eval (.Subscript a b p) env)::starEach es env:=rfl
theorem Zd {n:Str}{p:Pos}{es:List Expr}{env:Env}:starEach (.Name n p::es) env=(false,eval (.Name n p) env)::starEach es env:=rfl
theorem zlE {as:List Expr}{p:Pos}{es:List Expr}{env:Env}:starEach (.List as p::es) env=(false,eval (.List as p) env)::starEach es env:=rfl
theorem Xh {as:List Expr}{k:Nat}{p:Pos}{es:List Expr}{env:Env}:starEach (.Tuple as k p::es) env=(false,eval (.Tuple as k p) env)::starEach es env:=rfl
section
variable {X:Cx}
end
def tyN:PyData->String
 | .none=> "NoneType"
 | .bool _=> "bool"
 | .int _=> "int"
 | .str _=> "str"
 | .list _=> "list"
 | .tuple _=> "tuple"
 | .dict _=> "dict"
def zoM (K:PySem.W.Frag):List V->Hp->VK->Prop:=λxs H Q=>∃ G x d n b,xs=[x,.ty n]/\ZL G H/\Dat K G x d/\PySem.W.kitOne K (.type (tyN d)) (.type n)=some b/\Q (.bl b) H
theorem zil {X:Cx}{K:PySem.W.Frag}(eK:X.K=K):Ut X (.builtin "isinstance") (zoM K):=by
 subst eK
 intro pins s σ H xs us Q I r h
 obtain ⟨G,x,d,n,b,rfl,sg,hd,e,q⟩:=h
 obtain ⟨u,w',rfl,rx,ry⟩:=vals2 r
 cases (show w'=Value.type n from ry)
 have fin:∀ tk,EP X pins σ Q (.bool b) { s with toks:=tk }:=λtk=>⟨.bl b,H,I.tok _,rfl,q⟩
 cases d with
 | none=>rw[hd.non] at rx;exact Q4 I rx .non e fin
 | bool y=>rw[hd.bl] at rx;exact Q4 I rx (.bl y) e fin
 | int i=>rw[hd.int] at rx;exact Q4 I rx (.int i) e fin
 | str y=>rw[hd.str] at rx;exact Q4 I rx (.str y) e fin
 | list ds=>
  obtain ⟨p,ys,rfl,hp,_⟩:=hd.lst
  cases (show u=Value.ref p from rx)
  obtain ⟨its,_,⟨o,n',e1,c,_⟩,_⟩:=I.list (SqL.of (sg _ _ hp))
  exact PySem.W.kia_one PySem.W.kitx_list I.kIn ⟨o,e1,c⟩ e (λz=>nomatch z) fin
 | tuple ds=>
  obtain ⟨p,ys,rfl,hp,_⟩:=hd.tup
  cases (show u=Value.ref p from rx)
  obtain ⟨its,_,⟨o,e1,c,_⟩,_⟩:=I.tuple (sg.tup hp)
  exact PySem.W.kia_one PySem.W.kitx_tuple I.kIn ⟨o,e1,c⟩ e (λz=>nomatch z) fin
 | dict _=>unfold Dat at hd;exact hd.elim
theorem zjB {K:PySem.W.Frag}{σ:St}{G:Hp}{ta:TE}{d:PyData}{n:String}{b:Bool}(ha:Ev K ta σ G d)(e:PySem.W.kitOne K (.type (tyN d)) (.type n)=some b):Ev K (tCB (zoM K) (ZS ta (ZS (tC (.ty n)) JH))) σ G (.bool b):=
 λG1 H s1 s2 Q k=>ha G1 H s1 s2 _ λx G2 H2 g2 hx=>⟨G2,x,d,n,b,rfl,g2.gh,hx,e,k _ G2 H2 g2 (Yn b)⟩
section
variable {X:Cx}
end
theorem zlx {K:PySem.W.Frag}{a:Addr}{xs:List V}{g:TG}{tb:TS}{D:Ends}{σ:St}{H:Hp}(Pv:Nat->St->Hp->Prop)(h0:Pv 0 σ H)(hl:∀ i σ H,i<=xs.length->Pv i σ H->SqT K H a xs)
  (hs:∀ i x p σ H,xs[i]?=some x->Pv i σ H->H p=none->g (.ref p) σ (upd H p (.tup [.int (i:Nat),x])) fun σ2 H2=>tb { D with nx:=Pv (i+1),ct:=Pv (i+1),bk:=D.nx } σ2 H2) (hd:∀ σ H,Pv xs.length σ H->D.nx σ H):
  ∃ W:Nat->Nat->St->Hp->Prop,(∃ m,W 0 m σ H)/\∀ i m σ H,W i m σ H->
   ((znB K a).stop i H/\D.nx σ H)\/((znB K a).go i H/\∃ N:St->Hp->Prop,(∀ σ' H',N σ' H' -> ∃ m',m'<m/\W (i+1) m' σ' H')/\∀ x H',(znB K a).yld i H x H' -> g x σ H' fun σ2 H2=>tb { D with nx:=N,ct:=N,bk:=D.nx } σ2 H2):=by
 refine ⟨λi m σ H=>m=xs.length-i/\i<=xs.length/\Pv i σ H,⟨xs.length,by simp,Nat.zero_le _,h0⟩,?_⟩
 rintro i m σ H ⟨rfl,hi,p⟩
 have q:=hl i σ H hi p
 by_cases hlt:i<xs.length
 ·refine .inr ⟨⟨xs,xs[i],q,by simp[hlt]⟩,Pv (i+1),fun σ' H' p' => ⟨xs.length-(i+1),by omega,rfl,hlt,p'⟩,λx H' y=>?_⟩
  obtain ⟨r,z,hr,e1,e2,y⟩:=y
  subst e1 e2
  exact hs i z r σ _ (y xs q) p hr
 ·have e:i=xs.length:=by omega
  subst e
  exact .inl ⟨⟨xs,q,Nat.le_refl _⟩,hd σ H p⟩
end L2
namespace L2
open PySem PySem.Spec PyProof.Rows
def zoH:Const->Option PyData
 | .int i=>some (.int i)
 | .str x=>some (.str x)
 | .bool b=>some (.bool b)
 | .none=>some .none
 | _=>none
def lits (f:Expr->Option PyData):Nat->List Expr->Option (List PyData)
 | _,[]=>some []
 | 0,_::_=>none
 | k+1,e::es=>match f e with
  | some d=>match lits f k es with
   | some ds=>some (d::ds)
   | none=>none
  | none=>none
def zfd:Nat->Expr->Option PyData
 | 0,_=>none
 | n+1,e=>match e with
  | .Constant c _ _=>zoH c
  | .List es _=>match lits (zfd n) 60 es with
   | some ds=>some (.list ds)
   | none=>none
  | .Tuple es _ _=>match lits (zfd n) 60 es with
   | some ds=>some (.tuple ds)
   | none=>none
  | _=>none
theorem zbp {f:Expr->Option PyData}:∀ {k:Nat}{es:List Expr}{ds:List PyData},lits f k es=some ds->ds.length<=k
 | _,[],_,h=>by unfold lits at h;cases h;exact Nat.zero_le _
 | 0,_::_,_,h=>by unfold lits at h;cases h
 | k+1,e::es,ds,h=>by
  unfold lits at h
  cases h1:f e with
  | none=>rw[h1] at h;cases h
  | some d=>
   rw[h1] at h
   cases h2:lits f k es with
   | none=>rw[h2] at h;cases h
   | some ds' =>
    rw[h2] at h;cases h
    have:=zbp h2
    show ds'.length+1<=k+1
    omega
def znQ (K:PySem.W.Frag)(d:PyData):TE:=λ_ H Q=>∃ G,ZL G H/\∀ v G' H',Yr G H G' H' -> Dat K G' v d->Q v H'
def zoe (K:PySem.W.Frag)(ds:List PyData):TA:=λ_ H Q=>∃ G,ZL G H/\∀ vs G' H',Yr G H G' H' -> Yl K G' vs ds->Q vs H'
section
variable {X:Cx}
theorem PE.imp {e:Expr}{t t' : TE}(h:PE X e t)(i:∀ σ H Q,t' σ H Q->t σ H Q):PE X e t' := λpins s σ H Q I q=>h pins s σ H Q I (i σ H Q q)
theorem PA.imp {es:List Expr}{t t' : TA}(h:PA X es t)(i:∀ σ H Q,t' σ H Q->t σ H Q):PA X es t' := λpos pins s σ H Q I q=>h pos pins s σ H Q I (i σ H Q q)
theorem zhB {n:Nat}{e:Expr}{d:PyData}(h:zfd n e=some d)(es:List Expr)(env:Env):starEach (e::es) env=(false,eval e env)::starEach es env:=by
 cases n with
 | zero=>cases h
 | succ n=>
  cases e with
  | Constant c k p=>exact Zj
  | List as p=>exact zlE
  | Tuple as k p=>exact Xh
  | _=>cases h
theorem zdt {n:Nat}(ih:∀ e d,zfd n e=some d->PE X e (znQ X.K d)):∀ (k:Nat)(es:List Expr)(ds:List PyData),lits (zfd n) k es=some ds->PA X es (zoe X.K ds)
 | _,[],ds,h=>by
  unfold lits at h;cases h
  exact PA.imp Zf fun σ H Q ⟨G,s,k⟩=>k [] G H (Yr.refl s) ZP
 | 0,_::_,_,h=>by unfold lits at h;cases h
 | k+1,e::es,ds,h=>by
  unfold lits at h
  cases h1:zfd n e with
  | none=>rw[h1] at h;cases h
  | some d=>
   rw[h1] at h
   cases h2:lits (zfd n) k es with
   | none=>rw[h2] at h;cases h
   | some ds' =>
    rw[h2] at h
    cases h
    refine PA.imp (Za (ih e d h1) (zdt ih k es ds' h2) (zhB h1 es X.env)) fun σ H Q ⟨G,s,k⟩=>?_
    exact ⟨G,s,λv G1 H1 g1 hv=>⟨G1,g1.gh,λvs G2 H2 g2 hvs=>k (v::vs) G2 H2 (g1.trans g2) (ZG (hv.same g2.gg) hvs)⟩⟩
theorem zdi:∀ (n:Nat)(e:Expr)(d:PyData),zfd n e=some d->PE X e (znQ X.K d)
 | 0,_,_,h=>by cases h
 | n+1,e,d,h=>by
  have z:(60:Nat)<=sizeLine:=by decide
  cases e with
  | Constant c k p=>
   have h' : zoH c=some d:=h
   cases c with
   | int i=>cases h';exact PE.imp Zg fun σ H Q ⟨G,s,k⟩=>k _ G H (Yr.refl s) (Zv i)
   | str x=>cases h';exact PE.imp ZK fun σ H Q ⟨G,s,k⟩=>k _ G H (Yr.refl s) (Z7 x)
   | bool b=>cases h';exact PE.imp zaS fun σ H Q ⟨G,s,k⟩=>k _ G H (Yr.refl s) (Yn b)
   | none=>cases h';exact PE.imp zay fun σ H Q ⟨G,s,k⟩=>k _ G H (Yr.refl s) zdp
   | _=>cases h'
  | List as p=>
   have h' : (match lits (zfd n) 60 as with | some ds=>some (PyData.list ds) | none=>none)=some d:=h
   cases h1:lits (zfd n) 60 as with
   | none=>rw[h1] at h';cases h'
   | some ds=>
    rw[h1] at h'
    cases h'
    have hl:=zbp h1
    refine PE.imp (Xn (zdt (zdi n) 60 as ds h1)) fun σ H Q ⟨G,s,k⟩=>⟨G,s,λvs G1 H1 g1 hv=>⟨by rw[hv.length];omega,λp hp=>?_⟩⟩
    have g:=Z5 (o:=.lst vs) g1.gh hp
    exact k _ _ _ (g1.trans g) (YT Zh (hv.same g.gg))
  | Tuple as kk p=>
   have h' : (match lits (zfd n) 60 as with | some ds=>some (PyData.tuple ds) | none=>none)=some d:=h
   cases h1:lits (zfd n) 60 as with
   | none=>rw[h1] at h';cases h'
   | some ds=>
    rw[h1] at h'
    cases h'
    have hl:=zbp h1
    refine PE.imp (Yg (zdt (zdi n) 60 as ds h1)) fun σ H Q ⟨G,s,k⟩=>⟨G,s,λvs G1 H1 g1 hv=>⟨by rw[hv.length];omega,λp hp=>?_⟩⟩
    have g:=Z5 (o:=.tup vs) g1.gh hp
    exact k _ _ _ (g1.trans g) (YW (SqT.of Zh) (hv.same g.gg))
  | _=>cases h
theorem zjE {e:Expr}{d:PyData}(h:zfd 6 e=some d):PE X e (znQ X.K d):=zdi 6 e d h
theorem zja {K:PySem.W.Frag}{σ:St}{G:Hp}{d:PyData}:Ev K (znQ K d) σ G d:=λG1 H s1 s2 Q k=>⟨G1,s2,k⟩
end
end L2
namespace L2
open PySem PySem.Spec PyProof.Rows
section
variable {X:Cx}{e st:Expr}{lo hi:Option Expr}{te:TE}{tl th ts:TO}{p2 pos:Pos}
end
end L2
namespace Frac
end Frac
namespace Frac
def cmp (a b:Int×Int):Int:=if a.1*b.2<b.1*a.2 then -1 else if a.1*b.2>b.1*a.2 then 1 else 0
end Frac
namespace Dig
open PySem PySem.NumText
end Dig
namespace Dig
open PySem PySem.NumText PySem.Builtin.Str
theorem QQ (x:Str):x.length=x.cps.toList.length:=by simp[Str.length]
end Dig
namespace Dig
open PySem PySem.NumText PySem.Builtin.Str
end Dig
namespace Frac
end Frac
namespace Lw
open PySem L2 Frac
theorem zo0:bootBuiltins "isinstance" = some (.builtin "isinstance"):=by decide +kernel
theorem zhH:bootBuiltins "tuple" = some (.type "tuple"):=by decide +kernel
theorem w0 {i:Int}(h:i.natAbs<10 ^ 100):i.natAbs<2 ^ 4000:=Nat.lt_of_lt_of_le h (by decide +kernel)
theorem mw {i j:Int}(h:i.natAbs<10 ^ 100)(h' : j.natAbs<10 ^ 100):V5 i j:=⟨w0 h,w0 h'⟩
theorem zpj {i j:Int}{a b:Nat}(h:i.natAbs<=a)(h' : j.natAbs<=b):(i*j).natAbs<=a*b:=by
 rw[Int.natAbs_mul];exact Nat.mul_le_mul h h'
def JP (d c:Addr)(H H' : Hp):Prop:=∀ b o,H b=some o->b≠d->b≠c->H' b=some o
theorem JP.trans {d c:Addr}{H H1 H2:Hp}(a:JP d c H H1)(b:JP d c H1 H2):JP d c H H2:=λx o e h1 h2=>b x o (a x o e h1 h2) h1 h2
theorem ZL.but {d c:Addr}{H H' : Hp}(h:ZL H H'):JP d c H H' := λb o e _ _=>h b o e
theorem ZX {H:Hp}{p:Addr}{o:HO}(hp:H p=none):ZL H (upd H p o):=λb u e=>by
 rw[Zq (Zn e hp)];exact e
theorem zep {ns:List Int}{i:Int}(h0:0<=i)(h1:i<ns.length):∃ z j,atI (ns.map V.int) i=some (V.int z)/\ixN (ns.map V.int).length i=some j/\j<ns.length:=by
 have hj:i.toNat<ns.length:=by omega
 have e:i=(i.toNat:Int):=by omega
 refine ⟨ns[i.toNat],i.toNat,?_,?_,hj⟩
 ·have q:=zgI (xs:=ns.map V.int) (j:=i.toNat) (v:=V.int ns[i.toNat]) (by rw[List.getElem?_map,List.getElem?_eq_getElem hj];rfl)
  rw[← e] at q
  exact q
 ·unfold ixN
  rw[if_pos h0,if_pos (by rw[List.length_map];exact h1)]
end Lw
namespace L2
open PySem PySem.Spec PyProof.Rows
section
variable {X:Cx}
def zkw:V->List V->Hp->VK->Prop:=λx vs H Q=>∃ l xs i y,x = .ref l/\vs=[.int i,y]/\H l=some (.lst xs)/\0<=i/\i<=xs.length/\xs.length+1<=sizeLine/\Q .non (upd H l (.lst (xs.take i.toNat++y::xs.drop i.toNat)))
theorem zgU:MtM X "list.insert" zkw:=by
 intro pins s σ H x vs v us Q I rx rv h
 obtain ⟨l,xs,i,y,rfl,rfl,hH,h0,h1,hz,q⟩:=h
 cases rx
 obtain ⟨u,w,rfl,ru,rw'⟩:=rv.two
 obtain ⟨t,rfl⟩:=ru
 obtain ⟨z,its,n,r,hl,e⟩:=I.zir hH
 have hs:xs.length<=16777216:=by
  have:=sizeLine_eq
  omega
 have hlen:=r.length
 refine call_meets F.slot_list_insert ⟨_,e,rfl⟩ F.entry_list_insert (F.args_list_insert_3 _ _ _)
  (AutoListH.list_insert_list_int_val_1 l its.toArray n i t w (by rw[fitsIndex_both (by omega) (by omega)];exact Bool.false_ne_true) (by rw[List.size_toArray];omega)) ⟨e,?_⟩
 refine ⟨.non,_,I.zlG (its' := its.take i.toNat++w::its.drop i.toNat) hH e ?_ ((r.take _).append (.cons rw' (r.drop _))) ?_,rfl,q⟩
 ·have hk:(if i<0 then (i+((its.toArray.size:Nat):Int)).toNat else min i.toNat its.toArray.size)=i.toNat:=by
   rw[if_neg (by omega),List.size_toArray];omega
  show (its.toArray.extract 0 _).push w++its.toArray.extract _=_
  rw[hk]
  apply Array.ext'
  simp[List.take_of_length_le]
 ·simp only[List.length_append,List.length_cons,List.length_take,List.length_drop]
  omega
end
end L2
namespace Nm
open PySem L2 Lw Dig
abbrev letters:Str:=Str.ofString "abcdefghijklmnopqrstuvwxyz"
theorem zf8:letters.cps.toList=(List.range 26).map (97 + ·):=by decide +kernel
theorem zfY:letters.length=26:=by decide +kernel
theorem zjF {i:Int}(h0:0<=i)(h1:i<26):atI letters.cps.toList i=some (97+i.toNat):=by
 have e:i=(i.toNat:Int):=by omega
 have q:=zgI (xs:=letters.cps.toList) (j:=i.toNat) (v:=97+i.toNat) (by
  rw[zf8,List.getElem?_map,List.getElem?_range (by omega)];rfl)
 rw[← e] at q
 exact q
theorem ziG (x:Str)(xs:List Str):inV (.str x) (xs.map V.str)=decide (x∈xs):=by
 unfold inV
 induction xs with
 | nil=>simp
 | cons y r ih=>
  rw[List.map_cons,List.any_cons,ih]
  by_cases h:y=x
  ·subst h
   simp[eqV]
  ·have h2:¬ x=y:=λe=>h e.symm
   simp[eqV,h,h2]
end Nm
namespace Ord
open PySem
abbrev S (x:String):Str:=Str.ofString x
def zcv (want:Str):List (List Str):=
 if want=S "order" then [[S "like"],[S "up",S "field"],[S "down",S "field"],[S "then",S "order",S "order"],[S "turn",S "order"],[S "pick",S "case",S "order",S "order"]]
 else if want=S "case" then [[S "same",S "field"],[S "both",S "mark"],[S "either",S "mark"],[S "not",S "case"],[S "and",S "case",S "case"],[S "or",S "case",S "case"]]
 else [[S "under",S "field",S "number"],[S "is",S "field",S "number"]]
inductive Wd where
 | t (x:Str)
 | n (a b:Int)
def Wd.d:Wd->PyData
 | .t x=>.str x
 | .n a b=>.tuple [.int a,.int b]
inductive Step (fld:Str->Prop) (num:Int->Int->Prop):List Str->Wd->List Str->Prop
 | field {x:Str}{st:List Str}:fld x->Step fld num (S "field" :: st) (.t x) st
 | number {a b:Int}{st:List Str}:num a b->Step fld num (S "number" :: st) (.n a b) st
 | word {want x:Str}{ps st:List Str}:want≠S "field" -> want≠S "number" -> (x::ps)∈zcv want->Step fld num (want::st) (.t x) (ps++st)
inductive Run (fld:Str->Prop) (num:Int->Int->Prop):List Str->List Wd->List Str->Prop
 | nil {st:List Str}:Run fld num st [] st
 | cons {st st1 st2:List Str}{w:Wd}{ws:List Wd}:Step fld num st w st1->Run fld num st1 ws st2->Run fld num st (w::ws) st2
def Ju (fld:Str->Prop)(num:Int->Int->Prop)(ws:List Wd):Prop:=Run fld num [S "order"] ws []
theorem zgz (want:Str):∀ o∈zcv want,∃ x ps,o=x::ps/\ps.length<=3/\∀ p∈ps,p=S "order" \/ p=S "case" \/ p=S "mark" \/ p=S "field" \/ p=S "number" := by
 unfold zcv
 intro o ho
 have:o.length<=4/\o≠[]/\∀ p∈o.drop 1,p=S "order" \/ p=S "case" \/ p=S "mark" \/ p=S "field" \/ p=S "number" := by
  split at ho
  ·revert o;decide +kernel
  ·split at ho
   ·revert o;decide +kernel
   ·revert o;decide +kernel
 cases o with
 | nil=>exact absurd rfl this.2.1
 | cons x ps=>exact ⟨x,ps,rfl,by have:=this.1;simp at this;omega,this.2.2⟩
end Ord
namespace L2
open PySem PySem.Spec PyProof.Rows
section
variable {X:Cx}{pins:List (Addr×Obj)}{σ:St}{H G:Hp}{s:Shared}
open Classical in
end
section
variable {prog:Program}{w:World}{A:Around}{E:Value->Shared->Prop}{s:Shared}
end
end L2
namespace L2
open PySem PySem.Spec PyProof.Rows
structure zcx (K:PySem.W.Frag)(P:Params)(a:Addr)(g:Str->Option (V×Value)):Prop where
 ex:∃ (es:Array DictEntry) (n:Nat),K.lookup a=some ⟨.type "dict",none,.dict es n,#[]⟩/\PySem.W.KeysLit P es.toList
 lo:(a==sysModules)=false
 at_:∀ x,PySem.W.nsIn K a x=some ((g x).map (·.2))
 rel:∀ x v u,g x=some (v,u)->RelV v u
section
variable {X:Cx}
theorem zng:OpR X (compareOp .In) (λx y H Q=>∃ z a g,x = .str z/\y = .ref a/\zcx X.K X.w.params a g/\Q (.bl (g z).isSome) H):=by
 intro pins s σ H x y v u Q I rx ry h
 obtain ⟨z,a,g,rfl,rfl,D,q⟩:=h
 obtain ⟨t,rfl⟩:=rx
 cases ry
 obtain ⟨es,n,hl,hk⟩:=D.ex
 obtain ⟨m,F⟩:=I.fr
 refine PySem.W.topIn_K F I.mod.kin hl hk (D.at_ z) D.lo ⟨.bl _,H,I.tok _,rfl,?_⟩
 rw[Option.isSome_map];exact q
theorem zbG:IxR X (λx y H Q=>∃ z a g v u,x = .ref a/\y = .str z/\zcx X.K X.w.params a g/\g z=some (v,u)/\Q v H):=by
 intro value slice pins s σ H x y v u Q I rx ry h hs
 obtain ⟨z,a,g,v',u',rfl,rfl,D,e,q⟩:=h
 cases rx
 obtain ⟨t,rfl⟩:=ry
 obtain ⟨es,n,hl,hk⟩:=D.ex
 obtain ⟨m,F⟩:=I.fr
 exact PySem.W.topItem_K F I.mod.kin hl hk (by rw[D.at_ z,e];rfl) ⟨v',H,I.tok _,D.rel z v' u' e,q⟩ hs
end
end L2
namespace L2
open PySem PySem.Spec PyProof.Rows
theorem zfX:typeLookup (.type "tuple") "__reversed__" = pure none:=by rw[typeLookup_type,builtinLookup_eq_fast];kernel_rfl
theorem zf0:typeLookup (.type "tuple") "__getitem__" = pure (some (.builtin "tuple.__getitem__")):=by rw[typeLookup_type,builtinLookup_eq_fast];kernel_rfl
theorem zfv:isSubtype (.type "tuple") (.type "dict")=pure false:=by rw[isSubtype_type];kernel_rfl
theorem zbm (t:Addr)(items:Array Value)(n:Nat)(dct:Option Addr)(sl:Array (Option Value))(hsz:items.size<=sizeLine):
  Meets (Builtin.«reversed.__new__» ⟨[.type "reversed",.ref t],[]⟩) (λ_ R s=>s.heap.get? t=some { cls:=.type "tuple",dict:=dct,data:=.seq items n,slots:=sl }/\
   R (.ok (.ret (Value.ref s.heap.objs.size))) { s with heap:=s.heap.push { cls:=.type "reversed",data:=.fields #[.ref t,rawInt ((items.size:Int)-1)] },toks:=s.toks+1+1 }):=
 .of_wp λprog w A R s h=>by
  obtain ⟨hp,g,d,tk,os⟩:=s;obtain ⟨q1,h⟩:=h
  have hT:Shared.TypeIs ⟨hp,g,d,tk,os⟩ (.ref t) "tuple" := ⟨_,q1,rfl⟩
  unfold Builtin.«reversed.__new__»
  refine wpAny_bind (wpAny_of_eq (newClass_reversed _) ?_)
  try dsimp only
  refine wpAny_bind (wpAny_of_eq (a:=()) (by first | rfl | kernel_rfl) ?_)
  refine wpAny_bind (wpAny_of_eq (a:=()) (by first | rfl | kernel_rfl) ?_)
  try dsimp only
  refine wpAny_bind (wpAny_specialOf hT zfX ?_)
  try dsimp only
  have hz:IsTup hp t items:=⟨_,q1,rfl,n,rfl⟩
  have z62:sizeLine<2 ^ 62:=by decide
  have hf:(items.size:Int)<2 ^ 63:=by omega
  wp_walk using wpAny_isInstance (b:=false) hT zfv,wpAny_specialOf hT zf0,len_tuple (s:=⟨hp,g,d,tk,os⟩) hz hf
  exact ⟨_,rfl,h⟩
theorem ziL:Slot "reversed" "__init__" "object.__init__" :=
 .of (owner:= "object") (n:= "__init__") (by rw[typeLookup_type,builtinLookup_eq_fast];kernel_rfl) (by decide +kernel) (by decide +kernel) (by decide +kernel)
  (by first | exact .inl (by decide +kernel) | exact .inr (by decide +kernel)) (by rw[isSubtype_type];kernel_rfl)
theorem zfm:TypeCalled "reversed" "reversed.__new__" "object.__init__" :=
 ⟨by decide +kernel,by decide +kernel,⟨_,_,F.mro_reversed⟩,F.made_reversed,by decide +kernel,by rw[isSubtype_type];kernel_rfl,ziL⟩
def zkt (t:Addr)(i:Int):Obj:={ cls:=.type "reversed",data:=.fields #[.ref t,rawInt i] }
section
variable {prog:Program}{w:World}{A:Around}{E:Value->Shared->Prop}{s:Shared}
theorem zc9 {t:Addr}{items:Array Value}{Q:Value->Shared->Prop}(ht:IsTup s.heap t items)(hsz:items.size<=sizeLine)
  (h:Q (.ref s.heap.objs.size) { s with heap:=s.heap.push (zkt t ((items.size:Int)-1)),toks:=s.toks+1+1 }):wpAny (model prog w) A (call (.type "reversed") [.ref t]) Q E s:=by
 obtain ⟨⟨c,dct,dt,sl⟩,e1,e2,n,e3⟩:=ht
 replace e2:c = .type "tuple" := e2
 replace e3:dt = .seq items n:=e3
 subst e2 e3
 exact callType_new zfm (by decide) (F.typeCall_reversed_1 _) (F.newCall_reversed_1 _) (λobj=>F.args_object_init_2 obj _) F.entry_reversed_new (zbm t items n dct sl hsz) ⟨e1,⟨_,Heap.get?_push_size _ rfl,rfl⟩,h⟩
end
end L2
namespace L2
open PySem PySem.Spec PyProof.Rows
theorem zed:Manifest.owners.lookup (String.ofList ['d', 'e', 's', 'r', 'e', 'v', 'e', 'r'].reverse)=some Manifest.sig_reversed:=by kernel_rfl
theorem zar:Slot "reversed" "__next__" "reversed.__next__" :=
 .of (owner:= "reversed") (n:= "__next__") (by rw[typeLookup_type,builtinLookup_eq_fast];kernel_rfl) (by decide +kernel) (by decide +kernel) (by decide +kernel)
  (by first | exact .inl (by decide +kernel) | exact .inr (by decide +kernel)) (by rw[isSubtype_type];kernel_rfl)
theorem zem:entryFor table "reversed.__next__" = some Builtin.«reversed.__next__» := entryFor_of_tree (by kernel_rfl)
theorem zhk (a:Value):argsOk "reversed.__next__" ⟨[a],[]⟩:=by
 unfold argsOk
 rw[signature?_of (id:= "reversed.__next__") (n:=['_', '_', 't', 'x', 'e', 'n', '_', '_']) (o:=['d', 'e', 's', 'r', 'e', 'v', 'e', 'r']) (by kernel_rfl) zed];kernel_rfl
theorem zeB:Slot "reversed" "__iter__" "reversed.__iter__" :=
 .of (owner:= "reversed") (n:= "__iter__") (by rw[typeLookup_type,builtinLookup_eq_fast];kernel_rfl) (by decide +kernel) (by decide +kernel) (by decide +kernel)
  (by first | exact .inl (by decide +kernel) | exact .inr (by decide +kernel)) (by rw[isSubtype_type];kernel_rfl)
theorem ziD (a:Value):argsOk "reversed.__iter__" ⟨[a],[]⟩:=by
 unfold argsOk
 rw[signature?_of (id:= "reversed.__iter__") (n:=['_', '_', 'r', 'e', 't', 'i', '_', '_']) (o:=['d', 'e', 's', 'r', 'e', 'v', 'e', 'r']) (by kernel_rfl) zed];kernel_rfl
theorem zg1:entryFor table "reversed.__iter__" = some Builtin.«dict_keyiterator.__iter__» :=
 entryFor_alias (id' := "dict_keyiterator.__iter__") (by kernel_rfl) (by first | rfl | decide +kernel | (unfold String.splitOn;simp +decide [String.splitOnAux])) (by decide +kernel) (by kernel_rfl)
def zf5 (h:Heap)(a t:Addr)(i:Int):Prop:=∃ o,h.get? a=some o/\o.cls = .type "reversed" /\ o.data = .fields #[.ref t,rawInt i]
theorem zf5.ty {s:Shared}{a t:Addr}{i:Int}(x:zf5 s.heap a t i):s.TypeIs (.ref a) "reversed" := let ⟨o,ho,hc,_⟩:=x;⟨o,ho,hc⟩
section
variable {prog:Program}{w:World}{A:Around}{E:Value->Shared->Prop}{s:Shared}
theorem zla {it t:Addr}{i:Nat}{items:Array Value}{x:Value}{Q:Option Value->Shared->Prop}(hit:zf5 s.heap it t (i:Int))(ht:IsTup s.heap t items)(hx:items[i]?=some x)(hi:(i:Int)<2 ^ 62)
  (hQ:∀ h' tk,zf5 h' it t ((i:Int)-1)->Heap.SameBut it s.heap h' -> Q (some x) { s with heap:=h',toks:=tk }):wpAny (model prog w) A (pyNext (.ref it)) Q E s:=by
 obtain ⟨o,ho,hc,hd⟩:=id hit
 have hlt:i<items.size:=by
  rcases Nat.lt_or_ge i items.size with z | z
  ·exact z
  ·rw[Array.getElem?_eq_none z] at hx;cases hx
 unfold pyNext
 refine wpAny_bind (wpAny_attempt (wpAny_callSpecial?_slot (name:=Str.ofString "__next__") hit.ty zar (wpAny_call_entry zar hit.ty zem ?_ (zhk _))))
 unfold Builtin.«reversed.__next__»
 refine wpAny_bind (wpAny_of_eq (a:=(Value.ref it,[])) rfl ?_)
 try dsimp only
 refine wpAny_bind (wpAny_field ho hd (x:=.ref t) rfl ?_)
 refine wpAny_bind (wpAny_field ho hd (x:=rawInt (i:Int)) rfl ?_)
 show wpAny _ _ (if (i:Int)<0 then _ else _) _ _ s
 rw[if_neg (by omega)]
 refine wpAny_bind (wpAny_specialOf ht.typeIs zf0 ?_)
 show wpAny _ _ (if (some (Value.builtin "tuple.__getitem__")).isNone=true then _ else _) _ _ _
 rw[if_neg (by decide)]
 refine wpAny_bind (wpAny_mkInt ?_)
 refine wpAny_bind (wpAny_attempt (getItem_tuple (s:={ s with toks:=s.toks+1 }) ht (by omega) (by omega) (j:=i) (by unfold seqIndex?;simp;omega) hx ?_))
 refine wpAny_bind (wpAny_field (s:={ s with toks:=s.toks+1 }) ho hd (x:=rawInt (i:Int)) rfl ?_)
 try dsimp only
 refine wpAny_bind (wpAny_setField (s:={ s with toks:=s.toks+1 }) ho hd (by simp) ?_)
 refine wpAny_pure ⟨x,rfl,wpAny_pure (hQ _ _ ?_ (Heap.SameBut.update ..))⟩
 exact ⟨_,Heap.get?_update_self _ ho (Obj.isFreed_of_fields (Obj.data_mapFields hd _)),(Obj.cls_mapFields ..).trans hc,by
  rw[Obj.data_mapFields hd];simp⟩
theorem zl6 {it t:Addr}{Q:Option Value->Shared->Prop}(hh:A.handled=none)(hit:zf5 s.heap it t (-1))
  (hQ:∀ h',Heap.ExtBut it s.heap h' -> Q none { s with heap:=h' }):wpAny (model prog w) A (pyNext (.ref it)) Q E s:=by
 obtain ⟨o,ho,hc,hd⟩:=id hit
 unfold pyNext
 refine wpAny_bind (wpAny_attempt (wpAny_callSpecial?_slot (name:=Str.ofString "__next__") hit.ty zar (wpAny_call_entry zar hit.ty zem ?_ (zhk _))))
 unfold Builtin.«reversed.__next__»
 refine wpAny_bind (wpAny_of_eq (a:=(Value.ref it,[])) rfl ?_)
 try dsimp only
 refine wpAny_bind (wpAny_field ho hd (x:=.ref t) rfl ?_)
 refine wpAny_bind (wpAny_field ho hd (x:=rawInt (-1)) rfl ?_)
 show wpAny _ _ (if (-1:Int)<0 then _ else _) _ _ s
 rw[if_pos (by decide)]
 refine wpAny_bind (wpAny_rule ?_)
 refine wpAny_bind ?_
 show wpAny _ _ (setField (.ref it) 1 (rawInt (-1)) >>= λ_=>setField (.ref it) 0 .none) _ _ s
 refine wpAny_bind (wpAny_setField ho hd (by simp) ?_)
 have ho2:=Heap.get?_update_self (Obj.mapFields λf=>f.setIfInBounds 1 (rawInt (-1))) ho (Obj.isFreed_of_fields (Obj.data_mapFields hd _))
 refine wpAny_setField ho2 (Obj.data_mapFields hd _) (by simp) ?_
 refine wpAny_bind ?_
 show wpAny _ _ (newExc (.type "StopIteration") [] >>= _) _ _ _
 refine wpAny_bind ?_
 simp only[newExc,newTuple]
 refine wpAny_bind (wpAny_newObj_type ?_ (by size_fits))
 refine wpAny_bind (m:=firstArgMember _ _) (wpAny_of_eq (a:=Value.none) (by first | rfl | (simp only[firstArgMember];rfl)) ?_)
 refine wpAny_newObj_type ?_ (by size_fits)
 simp only[raiseNew]
 refine wpAny_bind (wpAny_handled ?_)
 rw[show A.in1.handled=none from hh]
 refine wpAny_bind (wpAny_pure (wpAny_throw ?_))
 refine wpAny_bind (wpAny_isInstance (T:= "StopIteration") (b:=true) ⟨_,Heap.get?_push_size _ rfl,rfl⟩ isSubtype_stop ?_)
 refine wpAny_pure (hQ _ ((Heap.ExtBut.push (Heap.ExtBut.push (λb o hb e=>?_) _) _)))
 exact (Heap.get?_update_other _ _ (Ne.symm hb)).trans ((Heap.get?_update_other _ _ (Ne.symm hb)).trans e)
theorem zgp {it t:Addr}{i:Int}{Q:Value->Shared->Prop}(hit:zf5 s.heap it t i)(h:Q (.ref it) s):wpAny (model prog w) A (pyIter (.ref it)) Q E s:=by
 refine wpAny_pyIter_slot hit.ty zeB (wpAny_call_entry zeB hit.ty zg1 ?_ (ziD _))
 show wpAny _ _ (ret (.ref it)) _ _ s
 exact wpAny_pure ⟨_,rfl, "reversed",_,hit.ty,zar.lookup,h⟩
end
theorem zf5.at {h h' : Heap}{a l:Addr}{i:Int}(x:zf5 h a l i)(e:∀ o,h.get? a=some o->h'.get? a=some o):zf5 h' a l i:=let ⟨o,ho,r⟩:=x;⟨o,e _ ho,r⟩
section
variable {prog:Program}{w:World}{A:Around}{E:Value->Shared->Prop}{s:Shared}
variable {I:Addr}{fp wr:List Addr}{G:Array GenState->Array GenState->Prop}{n:Nat}{P:Nat->Value->Prop}{St:Nat->Shared->Prop}
end
section
variable {X:Cx}
def Itv (K:PySem.W.Frag)(a:Addr)(n:Nat):It:=
 ⟨λi H=>i<n/\∃ xs,SqT K H a xs/\xs.length=n,λi H x H' => H'=H/\∀ xs,SqT K H a xs->xs.reverse[i]?=some x,λi H=>i=n/\∃ xs,SqT K H a xs⟩
theorem zis {P:Program}{w:World}{K:PySem.W.Frag}{tg:Expr}(a it:Addr)(n:Nat):Turn P w K tg (Itv K a n) [it] it (λi h=>zf5 h it a ((n:Int)-1-(i:Int))) where
 mem:=by simp
 obj:=λi h st b hb=>by
  have e:b=it:=by simpa using hb
  subst e
  obtain ⟨o,e,c,d⟩:=st
  exact ⟨o,e,λv z=>by rw[d] at z;cases z⟩
 keep:=λi h h' st k=>st.at λo e=>k it (by simp) o e
 item:=by
  intro X hP hw hK hc i pins s σ H E I hf st hg
  subst hP hw hK
  obtain ⟨hi,xs,hq,hl⟩:=hg
  obtain ⟨its,rv,p,hz⟩:=I.tuple hq
  have z62:sizeLine<2 ^ 62:=by decide
  have hx:xs.reverse[i]?=some (xs.reverse[i]'(by rw[List.length_reverse];omega)):=List.getElem?_eq_getElem _
  obtain ⟨u,hu,ru⟩:=rv.reverse.get hx
  obtain ⟨f0,f1,f2,f3,f4,f5⟩:=hf it (by simp)
  have e1:(n:Int)-1-(i:Int)=((n-1-i:Nat):Int):=by omega
  have st1:=st
  rw[e1] at st1
  have hl' : its.length=n:=by rw[← rv.length];exact hl
  have hu' : its.toArray[n-1-i]?=some u:=by
   rw[List.getElem?_reverse (by omega)] at hu
   simpa [hl'] using hu
  refine zla st1 p hu' (by omega) λh' tk st' sb=>?_
  have I1:Inv X pins σ H { s with heap:=h',toks:=tk }:=I.turned (λb o hb e=>(sb.2 b hb).trans e) f0 f1 f3 f4 f5
  have e2:((n-1-i:Nat):Int)-1=(n:Int)-1-((i+1:Nat):Int):=by omega
  rw[e2] at st'
  obtain ⟨o,e,c,d⟩:=id st'
  exact ⟨u,rfl,ziX (s:={ s with heap:=h',toks:=tk }) e c d (by decide) ⟨_,H,I1,ru,⟨rfl,λys hy=>by rw[I.J2 hy hq];exact hx⟩,st',λb hb=>(hf b hb).1⟩⟩
 done:=by
  intro X hP hw hK hc i pins s σ H E I hf st hg
  subst hP hw hK
  obtain ⟨rfl,xs,hq⟩:=hg
  obtain ⟨f0,f1,f2,f3,f4,f5⟩:=hf it (by simp)
  have e1:(i:Int)-1-(i:Int) = -1:=by omega
  rw[e1] at st
  exact zl6 (I.ok.hd hc) st λh' eb=>⟨rfl,I.turned (t' := s.toks) (λb o hb e=>eb b o hb e) f0 f1 f3 f4 f5⟩
 self:=λ_ _ _ _ _ st h=>zgp st h
def zoV (K:PySem.W.Frag)(tl:TE):TI:=fun σ H R=>tl σ H λx H1=>∃ a xs,x = .ref a/\SqT K H1 a xs/\R (Itv K a xs.length) H1
theorem znA {tg l:Expr}{tl:TE}{p2 q2:Pos}(hg2:Gl X "reversed")(hm2:X.mg "reversed" = none)(hl:PE X l tl)(hs2:starEach [l] X.env=[(false,eval l X.env)]:=by rfl):PI X tg (.Call (.Name "reversed" p2) [l] [] q2) (zoV X.K tl):=by
 intro pins s σ H R I h
 refine wpAny_Call_Name_kw (WW I hg2 hm2 zi7 (PyProof.Rows.callWith_type1 ?_ hs2 rfl))
 rw[hs2]
 show wpAny _ _ (spliced [(false,eval l X.env)]) _ _ s
 refine Calls.spliced_cons (thn (hl pins s σ H _ I h) λv s1 ⟨x,H1,I1,r1,q1⟩=>Calls.spliced_nil ?_)
 obtain ⟨a,xs,e,hq,q⟩:=q1
 subst e
 cases r1
 obtain ⟨its,rv,p,hz⟩:=I1.tuple hq
 have hsz:its.toArray.size<=sizeLine:=by rw[List.size_toArray,← rv.length];exact hz
 refine zc9 p hsz ?_
 have it1:zf5 (s1.heap.push (zkt a ((its.toArray.size:Int)-1))) s1.heap.objs.size a ((xs.length:Int)-1-((0:Nat):Int)):=by
  refine ⟨_,Heap.get?_push_size _ rfl,rfl,?_⟩
  show Data.fields #[.ref a,rawInt ((its.toArray.size:Int)-1)]=_
  rw[List.size_toArray,← rv.length];simp
 refine zgp (s:={ s1 with heap:=s1.heap.push (zkt a ((its.toArray.size:Int)-1)),toks:=s1.toks+1+1 }) it1 ?_
 refine ⟨s1.heap.objs.size,[s1.heap.objs.size],_,_,H1,rfl,I1.kept (t' := s1.toks+1+1) λb o e=>Heap.get?_push_of_some _ e,zis a _ xs.length,it1,λb hb=>?_,q⟩
 have e:b=s1.heap.objs.size:=by simpa using hb
 subst e
 exact I1.zjx (Nat.le_refl _) (I1.hok.fresh (Nat.le_refl _))
end
end L2
namespace L2
open PySem PySem.Spec PyProof.Rows
def ziE (K:PySem.W.Frag):Value->Option (List Value)
 | .ref a=>(match K.lookup a with
  | some o=>(match o.cls,o.data with
   | .type n,.seq its _=>if n == "tuple" && its.size<=8 then some its.toList else none
   | _,_=>none)
  | none=>none)
 | _=>none
def zba:List Value->Option (List Str)
 | []=>some []
 | .str x _::r=>(zba r).map (x :: ·)
 | _=>none
def znL (K:PySem.W.Frag)(e:DictEntry)(r:Str×Str×List Str):Bool:=
 match e.key with
 | .str x _=>x==r.1&&(match ziE K e.val with
  | some [.str k _,v2]=>k==r.2.1&&(match ziE K v2 with
   | some its=>zba its==some r.2.2
   | none=>false)
  | _=>false)
 | _=>false
def zcc (K:PySem.W.Frag):List DictEntry->List (Str×Str×List Str)->Bool
 | [],[]=>true
 | e::es,r::rs=>znL K e r&&zcc K es rs
 | _,_=>false
def gOf (es:List DictEntry)(z:Str):Option (V×Value):=(es.find? (·.key.isStr z)).map λe=>((zoO e.val).getD .non,e.val)
theorem zcW {K:PySem.W.Frag}{v:Value}{its:List Value}(h:ziE K v=some its):∃ a,v = .ref a/\∀ (H:Hp)(xs:List V),Vals xs its->SqT K H a xs:=by
 unfold ziE at h
 cases v with
 | ref a=>
  dsimp only at h
  refine ⟨a,rfl,λH xs hv=>?_⟩
  cases hk:K.lookup a with
  | none=>rw[hk] at h;cases h
  | some o=>
   rw[hk] at h
   dsimp only at h
   split at h
   ·rename_i n its' m hc hd
    split at h
    ·rename_i hz
     injection h with h
     subst h
     simp only[Bool.and_eq_true,beq_iff_eq,decide_eq_true_eq] at hz
     exact .inr ⟨o,its',m,hk,by rw[hc,hz.1],hd,Nat.le_trans hz.2 (by decide),hv⟩
    ·cases h
   ·cases h
 | _=>cases h
theorem UG:∀ {l:List Value}{xs:List Str},zba l=some xs->Vals (xs.map V.str) l
 | [],xs,h=>by
  unfold zba at h
  injection h with h;subst h;exact .nil
 | v::r,xs,h=>by
  unfold zba at h
  split at h
  ·rename_i e;cases e
  ·rename_i x t r' e
   injection e with e1 e2
   subst e1 e2
   cases hr:zba r with
   | none=>rw[hr] at h;cases h
   | some ys=>
    rw[hr] at h
    injection h with h
    subst h
    exact .cons ⟨_,rfl⟩ (UG hr)
  ·cases h
theorem Ub {K:PySem.W.Frag}{e:DictEntry}{r:Str×Str×List Str}(h:znL K e r=true):(∃ t,e.key = .str r.1 t)/\∃ a,e.val = .ref a/\∀ G:Hp,Dat K G (.ref a) (.tuple [.str r.2.1,.tuple (r.2.2.map PyData.str)]):=by
 unfold znL at h
 split at h
 ·rename_i x t hk
  rw[Bool.and_eq_true,beq_iff_eq] at h
  obtain ⟨rfl,h⟩:=h
  refine ⟨⟨t,hk⟩,?_⟩
  split at h
  ·rename_i k t2 v2 ht
   rw[Bool.and_eq_true,beq_iff_eq] at h
   obtain ⟨rfl,h⟩:=h
   split at h
   ·rename_i its hi
    rw[beq_iff_eq] at h
    obtain ⟨a,ha,sa⟩:=zcW ht
    obtain ⟨b,hb,sb⟩:=zcW hi
    refine ⟨a,ha,λG=>YW (sa G [.str r.2.1,.ref b] (.cons ⟨_,rfl⟩ (.cons (by rw[hb];rfl) .nil))) (ZG (Z7 _) (ZG (YW (sb G _ (UG h)) ?_) ZP))⟩
    exact dats_strs' _
   ·cases h
  ·cases h
 ·cases h
where
 dats_strs' {K:PySem.W.Frag}{G:Hp}:∀ ws:List Str,Yl K G (ws.map V.str) (ws.map PyData.str)
  | []=>ZP
  | w::ws=>ZG (Z7 w) (dats_strs' ws)
theorem zcf {x z:Str}{t:Tok}:(Value.str x t).isStr z=decide (x=z):=by
 unfold Value.isStr
 by_cases h:x=z
 ·subst h;simp
 ·simp[h]
theorem Uo {K:PySem.W.Frag}(z:Str):∀ {es:List DictEntry}{rs:List (Str×Str×List Str)},zcc K es rs=true->
  (es.find? (·.key.isStr z)=none/\rs.find? (λr=>decide (r.1=z))=none)\/∃ e r,es.find? (·.key.isStr z)=some e/\rs.find? (λr=>decide (r.1=z))=some r/\znL K e r=true
 | [],[],_=>.inl ⟨rfl,rfl⟩
 | [],_::_,h=>by cases h
 | _::_,[],h=>by cases h
 | e::es,r::rs,h=>by
  unfold zcc at h
  rw[Bool.and_eq_true] at h
  obtain ⟨⟨t,hk⟩,_⟩:=Ub h.1
  have q:e.key.isStr z=decide (r.1=z):=by rw[hk];exact zcf
  rw[List.find?_cons,List.find?_cons,q]
  by_cases hz:r.1=z
  ·rw[decide_eq_true hz]
   exact .inr ⟨e,r,rfl,rfl,h.1⟩
  ·rw[decide_eq_false hz]
   exact Uo z h.2
theorem zc8 {K:PySem.W.Frag}:∀ {es:List DictEntry}{rs:List (Str×Str×List Str)},zcc K es rs=true->es.any (·.refKey)=false
 | [],[],_=>rfl
 | [],_::_,h=>by cases h
 | _::_,[],h=>by cases h
 | e::es,r::rs,h=>by
  unfold zcc at h
  rw[Bool.and_eq_true] at h
  obtain ⟨⟨t,hk⟩,_⟩:=Ub h.1
  rw[List.any_cons,zc8 h.2,Bool.or_false]
  unfold DictEntry.refKey
  rw[hk]
theorem zi3 {K:PySem.W.Frag}{P:Params}{a:Addr}{es:Array DictEntry}{n:Nat}{rs:List (Str×Str×List Str)}(hl:K.lookup a=some ⟨.type "dict",none,.dict es n,#[]⟩)(hk:PySem.W.KeysLit P es.toList)(lo:(a==sysModules)=false)
  (h:zcc K es.toList rs=true):zcx K P a (gOf es.toList)/\∀ z,(rs.find? (λr=>decide (r.1=z))=none/\gOf es.toList z=none)\/∃ r v u,rs.find? (λr=>decide (r.1=z))=some r/\gOf es.toList z=some (v,u)/\∀ G:Hp,Dat K G v (.tuple [.str r.2.1,.tuple (r.2.2.map PyData.str)]):=by
 refine ⟨⟨⟨es,n,hl,hk⟩,lo,λx=>?_,λx v u e=>?_⟩,λz=>?_⟩
 ·unfold PySem.W.nsIn
  rw[hl]
  dsimp only
  unfold gOf
  rcases Uo x h with ⟨e1,_⟩ | ⟨e,r,e1,_,_⟩
  ·rw[e1,zc8 h];rfl
  ·rw[e1];rfl
 ·unfold gOf at e
  rcases Uo x h with ⟨e1,_⟩ | ⟨e',r,e1,_,ok⟩
  ·rw[e1] at e;cases e
  ·rw[e1] at e
   obtain ⟨_,a',ha,_⟩:=Ub ok
   rw[Option.map_some] at e
   injection e with e
   injection e with e1 e2
   subst e1 e2
   rw[ha];rfl
 ·rcases Uo z h with ⟨e1,e2⟩ | ⟨e,r,e1,e2,ok⟩
  ·exact .inl ⟨e2,by unfold gOf;rw[e1];rfl⟩
  ·obtain ⟨_,a',ha,hd⟩:=Ub ok
   refine .inr ⟨r,.ref a',e.val,e2,?_,hd⟩
   unfold gOf
   rw[e1,Option.map_some,ha];rfl
end L2
namespace Ord
open PySem L2
def U4:List (Str×Str×List Str):=
 [(S "like",S "order",[]),(S "up",S "order",[S "field"]),(S "down",S "order",[S "field"]),(S "then",S "order",[S "order",S "order"]),(S "turn",S "order",[S "order"]),(S "pick",S "order",[S "case",S "order",S "order"]),
  (S "same",S "case",[S "field"]),(S "both",S "case",[S "mark"]),(S "either",S "case",[S "mark"]),(S "not",S "case",[S "case"]),(S "and",S "case",[S "case",S "case"]),(S "or",S "case",[S "case",S "case"]),
  (S "under",S "mark",[S "field",S "number"]),(S "is",S "mark",[S "field",S "number"])]
def Yc (z:Str):Option (Str×Str×List Str):=U4.find? (λr=>decide (r.1=z))
structure Wds (K:PySem.W.Frag)(P:Params)(mg:Str->Option Value) where
 a:Addr
 g:Str->Option (V×Value)
 m:mg "WORDS" = some (.ref a)
 D:zcx K P a g
 no:∀ z,Yc z=none->g z=none
 yes:∀ z r,Yc z=some r->∃ v u,g z=some (v,u)/\∀ G:Hp,Dat K G v (.tuple [.str r.2.1,.tuple (r.2.2.map PyData.str)])
theorem zmB {K:PySem.W.Frag}{P:Params}{mg:Str->Option Value}{a:Addr}{es:Array DictEntry}{n:Nat}(hm:mg "WORDS" = some (.ref a))(hl:K.lookup a=some ⟨.type "dict",none,.dict es n,#[]⟩)(hk:PySem.W.KeysLit P es.toList)(lo:(a==sysModules)=false)
  (h:zcc K es.toList U4=true):Nonempty (Wds K P mg):=by
 obtain ⟨D,q⟩:=zi3 hl hk lo h
 refine ⟨⟨a,_,hm,D,λz e=>?_,λz r e=>?_⟩⟩
 ·rcases q z with ⟨_,e1⟩ | ⟨r,v,u,e1,_⟩
  ·exact e1
  ·rw[show Yc z=_ from e1] at e;cases e
 ·rcases q z with ⟨e1,_⟩ | ⟨r',v,u,e1,e2,hd⟩
  ·rw[show Yc z=_ from e1] at e;cases e
  ·rw[show Yc z=_ from e1] at e
   injection e with e;subst e
   exact ⟨v,u,e2,hd⟩
theorem zfy:∀ want∈[S "order",S "case",S "mark"],∀ o∈zcv want,∃ x ps,o=x::ps/\Yc x=some (x,want,ps):=by
 intro want hw
 simp only[List.mem_cons,List.not_mem_nil,or_false] at hw
 have key:∀ want∈[S "order",S "case",S "mark"],∀ o∈zcv want,o≠[]/\Yc (o.headD (S ""))=some (o.headD (S ""),want,o.tail):=by decide +kernel
 intro o ho
 have q:=key want (by simpa using hw) o ho
 cases o with
 | nil=>exact absurd rfl q.1
 | cons x ps=>exact ⟨x,ps,rfl,q.2⟩
theorem zbb {z:Str}(h:z∉["like", "up", "down", "then", "turn", "pick", "same", "both", "either", "not", "and", "or", "under", "is"].map Str.ofString):Yc z=none:=by
 unfold Yc
 rw[List.find?_eq_none]
 intro r hr
 simp only[decide_eq_true_eq]
 intro e
 subst e
 apply h
 revert r
 decide +kernel
end Ord
namespace Rdo
open PySem Dig Ord Nm L2 Frac
theorem zce {z:Str}{r:Str×Str×List Str}(h:Yc z=some r):r∈U4/\r.1=z:=by
 unfold Yc at h
 exact ⟨List.mem_of_find?_eq_some h,by have:=List.find?_some h;simpa using this⟩
theorem zae {fld:Str->Prop}{num:Int->Int->Prop}{st st1:List Str}{w:Wd}(h:Step fld num st w st1)(hs:∀ x∈st,x∈[S "order",S "case",S "mark",S "field",S "number"]):
  (∃ x st0,st=S "field" :: st0/\w = .t x/\fld x/\st1=st0)\/(∃ a b st0,st=S "number" :: st0/\w = .n a b/\num a b/\st1=st0)\/
  ∃ want x ps st0,st=want::st0/\w = .t x/\want≠S "field" /\ want≠S "number" /\ Yc x=some (x,want,ps)/\ps.length<=3/\st1=ps++st0:=by
 cases h with
 | field hx=>exact .inl ⟨_,_,rfl,rfl,hx,rfl⟩
 | number hx=>exact .inr (.inl ⟨_,_,_,rfl,rfl,hx,rfl⟩)
 | @word want x ps st0 n1 n2 ho=>
  have hw:=hs want List.mem_cons_self
  have hw3:want∈[S "order",S "case",S "mark"]:=by
   simp only[List.mem_cons,List.not_mem_nil,or_false] at hw ⊢
   rcases hw with z | z | z | z | z
   ·exact .inl z
   ·exact .inr (.inl z)
   ·exact .inr (.inr z)
   ·exact absurd z n1
   ·exact absurd z n2
  obtain ⟨y,qs,e,hy⟩:=zfy want hw3 _ ho
  injection e with e1 e2
  subst e1 e2
  obtain ⟨x',ps',e,hl,_⟩:=zgz want _ ho
  injection e with e1 e2
  subst e1 e2
  exact .inr (.inr ⟨want,x,ps,st0,rfl,rfl,n1,n2,hy,hl,rfl⟩)
end Rdo
namespace L2
open PySem PySem.Spec PyProof.Rows
section
variable {κ:Type}[DecidableEq κ]
end
theorem zj9 {P:Program}{w:World}{k:Key}{u:Value}(r:RelV (kV k) u):(Y8 P w).is k u=true:=by
 cases k with
 | inl i=>obtain ⟨t,e⟩:=(show ∃ t,u=Value.int i t from r);subst e;exact zd0 P w i t
 | inr x=>obtain ⟨t,e⟩:=(show ∃ t,u=Value.str x t from r);subst e;exact zd4 P w x t
theorem zc7 {P:Program}{w:World}:∀ {ks:List Key}{us:List Value},Vals (ks.map kV) us->ItemsAre (Y8 P w) ks us
 | [],_,r=>by rw[List.map_nil] at r;cases r;exact .nil
 | k::ks,_,r=>by
  rw[List.map_cons] at r
  cases r with
  | cons h t=>exact .cons (zj9 h) (zc7 t)
section
variable {P:Program}{w:World}{H:Hp}{h:Heap}{a:Addr}
end
section
variable {X:Cx}{pins:List (Addr×Obj)}{σ:St}{H:Hp}{s:Shared}{a:Addr}{y v:V}{u r:Value}{o:Option V}{A:Around}{E:Value->Shared->Prop}
theorem Inv.big (I:Inv X pins σ H s):sysModules<s.heap.objs.size:=by
 have h:mainGlobals<s.heap.objs.size:=(I.mod.glob.keeps I.bk).lt
 exact Nat.lt_trans (by decide) h
theorem zgx {h' : Heap}{t' : Nat}{ob:HO}(I:Inv X pins σ H s)(mu:Mut (H a))(hs:Heap.SameBut a s.heap h')(he:∃ q,h'.get? a=some q)(new:YJ X.prog X.w (upd H a ob) h' a ob):
  Inv X pins σ (upd H a ob) { s with heap:=h',toks:=t' }:=
 I.write (x:=a) (e:=a) mu (.inl rfl) (λb q hb z=>(hs.2 b hb).trans z) he new
end
section
variable {X:Cx}{pins:List (Addr×Obj)}{σ:St}{H:Hp}{s:Shared}{a:Addr}{kvs:List (Key×V)}{k:Key}{u:Value}{A:Around}{E:Value->Shared->Prop}
end
section
variable {X:Cx}{o i e value:Expr}{pos pos' tpos:Pos}{td ty tv:TE}
end
section
variable {X:Cx}{pos:Pos}
end
section
variable {X:Cx}{pins:List (Addr×Obj)}{σ:St}{H:Hp}{s:Shared}{a:Addr}{y d:V}{u r:Value}{o:Option V}{A:Around}{E:Value->Shared->Prop}
end
section
variable {X:Cx}{o e f:Expr}{apos cpos:Pos}{td ty tx:TE}
end
section
variable {X:Cx}{pins:List (Addr×Obj)}{σ:St}{H:Hp}{s:Shared}{a:Addr}{kvs:List (Key×V)}{A:Around}{E:Value->Shared->Prop}
end
section
variable {X:Cx}{pins:List (Addr×Obj)}{σ:St}{H:Hp}{s:Shared}{a:Addr}{y:V}{u:Value}{A:Around}{E:Value->Shared->Prop}
end
end L2
namespace Nm
open PySem L2 Lw Dig
end Nm
namespace L2
open PySem PySem.Spec PyProof.Rows
section
variable {prog:Program}{w:World}{A:Around}{E:Value->Shared->Prop}{s:Shared}
theorem zkc {a:Addr}{stored:List Value}{Q:Bool->Shared->Prop}(hq:∀ Q:Bool->Shared->Prop,Q true s->wpAny (model prog w) A (eqIsQuiet 8 (.ref a)) Q E s)(hst:∀ v∈stored,∃ x t,v = .str x t)(h:Q false s):wpAny (model prog w) A (tableMayTell (.ref a) stored) Q E s:=by
 unfold tableMayTell
 split
 ·exact wpAny_pure h
 ·refine wpAny_bind (hq _ ?_)
  simp only[Bool.not_true,Bool.false_eq_true,if_false]
  refine wpAny_bind ?_
  refine wpAny_forIn_list _ (λrest r s' => s'=s/\r=(none,())/\∀ v∈rest,∃ x t,v = .str x t) _ ?_ ?_ _ _ ⟨rfl,rfl,hst⟩
  ·rintro x rest r s' ⟨rfl,rfl,hr⟩
   obtain ⟨z,t,rfl⟩:=hr x List.mem_cons_self
   refine wpAny_bind ?_
   unfold eqIsQuiet
   refine wpAny_pure ?_
   simp only[Bool.not_true,Bool.false_eq_true,if_false]
   exact wpAny_pure ⟨rfl,rfl,λv hv=>hr v (List.mem_cons_of_mem _ hv)⟩
  ·rintro r s' ⟨rfl,rfl,_⟩
   exact wpAny_pure h
theorem zlD {d a:Addr}{o:Obj}{es:Array DictEntry}{ep:Nat}{hh:Int}{Q:Option Nat->Shared->Prop}(ho:s.heap.get? d=some o)(hd:o.data = .dict es ep)(hk:∀ e∈es,∃ x t,e.key = .str x t)
  (hq:∀ Q:Bool->Shared->Prop,Q true s->wpAny (model prog w) A (eqIsQuiet 8 (.ref a)) Q E s) (heq:∀ (x:Str) (t:Tok) (Q:Bool->Shared->Prop),Q false s->wpAny (model prog w) A (eqBool (.str x t) (.ref a)) Q E s) (h:Q none s):
  wpAny (model prog w) A (dictFind d (.ref a) hh) Q E s:=by
 have hany:¬ (es.any λe=>e.key==Value.ref a&&e.hash != hh)=true:=by
  rw[← Array.any_toList,List.any_eq_true]
  rintro ⟨e,hin,hc⟩
  obtain ⟨x,t,ek⟩:=hk e (Array.mem_toList_iff.mp hin)
  rw[ek] at hc
  simp at hc
 have hst:∀ v∈(placesWithHash es.size (λi=>es[i]?.map (·.hash)) hh).filterMap (λi=>es[i]?.map (·.key)),∃ x t,v = .str x t:=by
  intro v hv
  obtain ⟨i,_,hi⟩:=List.mem_filterMap.mp hv
  cases hei:es[i]? with
  | none=>rw[hei] at hi;cases hi
  | some e=>
   rw[hei] at hi
   obtain rfl:e.key=v:=by simpa using hi
   exact hk e (Array.mem_of_getElem? hei)
 unfold dictFind
 try with_reducible refine wpAny_holding ?_
 refine wpAny_bind (wpAny_dictEntries ho hd ?_)
 dsimp only
 rw[if_neg (show ¬ ((Value.ref a::(placesWithHash es.size (λi=>es[i]?.map (·.hash)) hh).filterMap (λi=>es[i]?.map (·.key))).all carriedByValue)=true by simp[carriedByValue])]
 rw[if_neg hany]
 by_cases hone:(((placesWithHash es.size (λi=>es[i]?.map (·.hash)) hh).filterMap (λi=>es[i]?.map (·.key)))==[Value.ref a])=true <;>
 (first | rw[if_pos hone] | rw[if_neg hone]) <;> (first | refine wpAny_bind (wpAny_pure ?_) | refine wpAny_bind (zkc hq hst ?_)) <;> (
  rw[if_neg (by simp)]
  refine wpAny_bind ?_
  refine wpAny_forIn_list _ (λrest b s' => s'=s/\b=(none,none)) _ ?_ ?_ _ _ ⟨rfl,rfl⟩
  ·rintro x rest b s' ⟨rfl,rfl⟩
   cases hex:es[x]? with
   | none=>exact wpAny_pure ⟨rfl,rfl⟩
   | some e=>
    obtain ⟨z,t,ek⟩:=hk e (Array.mem_of_getElem? hex)
    dsimp only
    by_cases hh' : (e.hash==hh)=true
    ·rw[if_pos hh']
     rw[ek]
     refine wpAny_bind (wpAny_dictEpoch ho hd (wpAny_bind (heq z t _ (wpAny_bind (wpAny_dictEpoch ho hd ?_)))))
     show wpAny _ _ (if (ep != ep)=true then _ else _) _ E _
     rw[if_neg (by simp)]
     simp only[Bool.false_eq_true,if_false]
     refine wpAny_bind (wpAny_rule ?_)
     first | rw[if_neg (by simp)] | skip
     first
      | exact wpAny_pure ⟨rfl,rfl⟩
      | exact wpAny_bind (wpAny_pure (wpAny_pure ⟨rfl,rfl⟩))
    ·rw[if_neg hh']
     exact wpAny_pure ⟨rfl,rfl⟩
  ·rintro b s' ⟨rfl,rfl⟩
   exact wpAny_pure h)
theorem zop {d a:Addr}{o:Obj}{es:Array DictEntry}{ep:Nat}{ks:List Key}{Q:Value->Shared->Prop}(hu:A.units+1<cLine)(hkey:IsTupleKey (Y8 prog w) s.heap ks a)(ho:s.heap.get? d=some o)(hc:o.cls = .type "dict")(hd:o.data = .dict es ep)(hs:(d==sysModules)=false)
  (hk:∀ e∈es,∃ x t,e.key = .str x t) (heq:∀ (x:Str) (t:Tok) (s' : Shared),s'.heap=s.heap->SeqAt.EqAt A.in1 s' (.str x t) (.ref a) false) (h:Q (.bool false) { s with toks:=s.toks+(ks.length+1) }):wpAny (model prog w) A (compareOp .In (.ref a) (.ref d)) Q E s:=by
 have hty:s.TypeIs (.ref d) "dict" := ⟨o,ho,hc⟩
 show wpAny _ _ (do return .bool (← contains (.ref d) (.ref a))) Q E s
 refine wpAny_bind ?_
 unfold contains
 try with_reducible refine wpAny_holding ?_
 refine wpAny_bind (wpAny_specialOf hty slot_dict_contains.lookup ?_)
 show wpAny _ _ (if (some (Value.builtin "dict.__contains__")==some Value.none)=true then _ else _) _ E s
 rw[if_neg (by rw[beq_builtin_none];exact Bool.false_ne_true)]
 refine wpAny_bind (wpAny_callSpecialUnlessNone?_slot (name:=Str.ofString "__contains__") hty slot_dict_contains
  (wpAny_call_entry slot_dict_contains hty entry_dict_contains ?_ (args_dict_contains _ _)))
 show wpAny _ _ (dictGet d (.ref a) >>= _) _ _ s
 refine wpAny_bind ?_
 unfold dictGet
 try with_reducible refine wpAny_holding ?_
 refine wpAny_bind (wpAny_pyHash_tuple (knd:=Y8 prog w) (A:=A.in1) (show A.units+1<cLine from hu) hkey (wpAny_bind (zlD (s:={ s with toks:=s.toks+(ks.length+1) }) ho hd hk (λQ h=>wpAny_eqIsQuiet_tuple (knd:=Y8 prog w) hkey h) (λx t Q h=>heq x t { s with toks:=s.toks+(ks.length+1) } rfl prog w _ Q h) ?_)))
 refine wpAny_pure ?_
 show wpAny _ _ (Builtin.Dict.pendingKey? d (.ref a) >>= _) _ _ _
 exact wpAny_bind (wpAny_pendingKey_other hs (wpAny_pure ⟨_,rfl,wpAny_truthy_bool (wpAny_pure h)⟩))
end
section
variable {X:Cx}
def zn6 (K:PySem.W.Frag)(P:Params):R2:=λx y H Q=>∃ a g,y = .ref a/\zcx K P a g/\((∃ z,x = .str z/\Q (.bl (g z).isSome) H)\/∃ (p:Addr) (b c:Int),x = .ref p/\SqT K H p [.int b,.int c]/\Q (.bl false) H)
theorem zkT (hu:X.A.units+64<cLine):OpR X (compareOp .In) (zn6 X.K X.w.params):=by
 intro pins s σ H x y v u Q I rx ry h
 obtain ⟨a,g,rfl,D,h⟩:=h
 rcases h with ⟨z,rfl,q⟩ | ⟨p,b,c,rfl,hp,q⟩
 ·exact zng pins s σ H _ _ v u Q I rx ry ⟨z,a,g,rfl,rfl,D,q⟩
 ·cases rx
  cases ry
  obtain ⟨es,n,hl,hk⟩:=D.ex
  obtain ⟨its,rv,pt,hz⟩:=I.tuple hp
  obtain ⟨o,ho,hc,nn,hdt⟩:=id pt
  have hia:ItemsAre (Y8 X.prog X.w) [.inl b,.inl c] its:=by
   cases rv with
   | cons r1 r2=>cases r2 with
    | cons r2 r3=>cases r3;exact .cons (zj9 (k:=.inl b) r1) (.cons (zj9 (k:=.inl c) r2) .nil)
  refine zop (by omega) (ks:=[.inl b,.inl c]) ⟨o,its.toArray,nn,ho,hc,hdt,by simpa using hia⟩ (I.mod.kin.keeps I.bk _ _ hl) rfl rfl D.lo (λe he=>?_) (λx t s' hs' => ?_) ⟨.bl false,H,I.tok _,rfl,q⟩
  ·obtain ⟨x,t,e1,_⟩:=hk.all e (Array.mem_toList_iff.mpr he)
   exact ⟨x,t,e1⟩
  ·refine SeqAt.EqAt.str_tuple (items:=its.toArray) x t (hs'.symm ▸ pt) ?_
   show X.A.units+1<cLine
   omega
end
end L2
namespace L2
open PySem PySem.Spec PyProof.Rows
section
variable {prog:Program}{w:World}{A:Around}{E:Value->Shared->Prop}{s:Shared}
theorem U5 {Q:List Value->Shared->Prop}{r:Addr}{a b c:Int}{t u v:Tok}{n:Nat}(hh:A.handled=none)(hr:IsRange s.heap r a b c t u v)(hsmall:Builtin.Range.small a b c=true)(hn:Builtin.Range.rangeSize a b c=n)(hlen:n<=2 ^ 24)
  (hQ:∀ (h' : Heap) (tk:Nat) (acc:Array Value),(∀ b o,s.heap.get? b=some o->h'.get? b=some o)->ItemsOf (λi v=>∃ t,v = .int (a+i*c) t) acc n->Q acc.toList { s with heap:=h',toks:=tk }):wpAny (model prog w) A (collect (.ref r)) Q E s:=by
 have e1:=F.entry_proto_collect
 have e2:=F.entry_list_iadd
 have p1:=F.plain_proto_collect
 have p2:=F.plain_list_iadd
 unfold collect
 refine wpAny_bind (wpAny_runValue (codeAny_builtin e1 ?_))
 rw[Around.under_plainId p1 _]
 show wpAny _ A.in1 (newList [] >>= λz=>again (.builtin "list.__iadd__" ⟨[z,.ref r],[]⟩)) _ _ s
 refine wpAny_bind (wpAny_newObj_type (wpAny_pure ⟨plainId_quiet p2 _,codeAny_builtin e2 ?_⟩))
 rw[Around.under_plainId p2 _]
 show wpAny (model prog w) A.in1 (Builtin.List.listExtendWith (.ref s.heap.objs.size) (.ref r) (.ref s.heap.objs.size)) _ _ _
 have hS:(s.heap.push { cls:=.type "list",data:=.seq ([]:List Value).toArray }).get? s.heap.objs.size=some { cls:=.type "list",data:=.seq #[] 0 }:=
  Heap.get?_push_size _ rfl
 have fin' : ∀ (h' : Heap) (tk:Nat) (acc:Array Value) (c' : Nat),(∀ b o,s.heap.get? b=some o->h'.get? b=some o)->h'.get? s.heap.objs.size=some { cls:=.type "list",dict:=none,data:=.seq acc c',slots:=#[] }->ItemsOf (λi v=>∃ t,v = .int (a+i*c) t) acc n->
   wpAny (model prog w) A (match Value.ref s.heap.objs.size with
   | Value.ref a=>do
    match (← load a).data with
     | Data.seq xs _=>pure xs.toList | _=>unsupported "internal:collect"
   | _=>unsupported "internal:collect") Q E { s with heap:=h',toks:=tk }:=λh' tk acc c' hk hS' hacc=>by
  show wpAny (model prog w) A (load s.heap.objs.size >>= _) Q E _
  exact wpAny_bind (wpAny_load hS' (wpAny_pure (hQ h' tk acc hk hacc)))
 refine wpAny_mono (wpAny_extend_range (A:=A) (R:=λrs s' => ∃ (h' : Heap) (tk:Nat) (acc:Array Value) (c' : Nat),rs = .ok (.ret (.ref s.heap.objs.size))/\s'={ s with heap:=h',toks:=tk }/\(∀ b o,s.heap.get? b=some o->h'.get? b=some o)/\h'.get? s.heap.objs.size=some { cls:=.type "list",dict:=none,data:=.seq acc c',slots:=#[] }/\ItemsOf (λi v=>∃ t,v = .int (a+i*c) t) acc n)
  (s:={ s with heap:=s.heap.push { cls:=.type "list",data:=.seq ([]:List Value).toArray } }) hh (Heap.get?_push_of_some _ hr) hsmall hn hlen _ _ 0 hS λh' tk acc' c' hk hS' hacc=>⟨h',tk,acc',c',rfl,rfl,λb o e=>hk b o (Nat.ne_of_lt (Heap.lt_size e)) (Heap.get?_push_of_some _ e),hS',hacc⟩) (λfin s' h=>?_) (λe s' h=>?_)
 ·cases fin with
  | done f=>
   obtain ⟨h',tk,acc,c',e,rfl,k1,k2,k3⟩:=h
   cases e
   exact fin' h' tk acc c' k1 k2 k3
  | again cc=>exact ⟨h.1,codeAny_mono h.2 λrs s'' hr' => by
    obtain ⟨h',tk,acc,c',rfl,rfl,k1,k2,k3⟩:=hr'
    exact fin' h' tk acc c' k1 k2 k3⟩
 ·obtain ⟨_,_,_,_,z,_⟩:=h
  cases z
theorem zbW {Q₁:Value->Shared->Prop}{r:Addr}{a b c:Int}{t u v:Tok}{n:Nat}(hh:A.handled=none)(hr:IsRange s.heap r a b c t u v)(hsmall:Builtin.Range.small a b c=true)(hn:Builtin.Range.rangeSize a b c=n)(hlen:n<=2 ^ 24)
  (h:∀ (h' : Heap) (tk:Nat) (acc:Array Value),(∀ b o,s.heap.get? b=some o->h'.get? b=some o)->ItemsOf (λi v=>∃ t,v = .int (a+i*c) t) acc n->Q₁ (.ref h'.objs.size) { s with heap:=h'.push { cls:=.type "tuple",data:=.seq acc },toks:=tk }):
  codeAny (model prog w) A (.call (.builtin "tuple.__new__") ⟨[.type "tuple",.ref r],[]⟩) (wants Q₁ E) s:=by
 refine codeAny_of_tree ?_
 show wpAny _ A.in1 (do checkBuiltinCall "tuple.__new__" ⟨[.type "tuple",.ref r],[]⟩;again (.builtin "tuple.__new__" ⟨[.type "tuple",.ref r],[]⟩)) _ _ s
 have p1:=F.plain_tuple_new
 have e1:=F.entry_tuple_new
 refine wpAny_bind (wpAny_of_eq (F.newCall_tuple_1 _) (wpAny_pure ⟨plainId_quiet p1 _,codeAny_builtin e1 ?_⟩))
 rw[Around.under_plainId p1 _]
 have t1:=sub_tuple_self
 have t2:=init_tuple_lookup
 have t3:=madeHere_tuple
 have hTI:s.TypeIs (.ref r) "range" := ⟨_,hr,rfl⟩
 wp_walk using wpAny_typeOf hTI,U5 (show A.in1.handled=none from hh) hr hsmall hn hlen
 intro h' tk acc hk hacc
 show wpAny (model prog w) _ (Builtin.Tuple.tupleExact acc.toList.toArray >>= λv=>ret v) _ _ _
 rw[Builtin.Tuple.tupleExact]
 have z24:(2:Nat) ^ 24<=sizeLine:=by decide
 refine wpAny_bind (wpAny_newObj_type ?_ (by show acc.toList.toArray.size<=sizeLine;rw[Array.toArray_toList,hacc.1];omega))
 refine wpAny_pure ?_
 have e:acc.toList.toArray=acc:=by rw[Array.toArray_toList]
 rw[e]
 exact h h' tk acc hk hacc
theorem zge {Q:Value->Shared->Prop}{r:Addr}{a b c:Int}{t u v:Tok}{n:Nat}(hh:A.handled=none)(hr:IsRange s.heap r a b c t u v)(hsmall:Builtin.Range.small a b c=true)(hn:Builtin.Range.rangeSize a b c=n)(hlen:n<=2 ^ 24)
  (hQ:∀ (h' : Heap) (tk:Nat) (acc:Array Value),(∀ b o,s.heap.get? b=some o->h'.get? b=some o)->ItemsOf (λi v=>∃ t,v = .int (a+i*c) t) acc n->Q (.ref h'.objs.size) { s with heap:=h'.push { cls:=.type "tuple",data:=.seq acc },toks:=tk }):
  wpAny (model prog w) A (call (.type "tuple") [.ref r]) Q E s:=by
 refine callType_codes (Q₁:=λob sB=>sB.TypeIs ob "tuple" /\ Q ob sB) F.called_tuple (F.typeCall_tuple_1 _) F.entry_object_init
  (zbW (A:=A.in1) hh hr hsmall hn hlen λh' tk acc hk hacc=>⟨⟨_,Heap.get?_push_size _ rfl,rfl⟩,hQ h' tk acc hk hacc⟩) λobj s₁ z=>?_
 exact ⟨z.1,F.args_object_init_2 obj _,
  object_init_meets F.called_tuple.init.lookup F.called_tuple.made (by decide) prog w A.in1 _ s₁ ⟨z.1,rfl,z.2⟩⟩
end
theorem zeh {lo:Int}{n:Nat}{acc:Array Value}(h:ItemsOf (λi v=>∃ t,v = .int (lo+i*1) t) acc n):Vals ((List.range n).map λ(i:Nat)=>V.int (lo+i)) acc.toList:=by
 obtain ⟨z1,z2⟩:=h
 have key:∀ (n:Nat) (l:List Value),l.length=n->(∀ (i:Nat) v,l[i]?=some v->∃ t,v=Value.int (lo+i) t)->Vals ((List.range n).map λ(i:Nat)=>V.int (lo+i)) l:=by
  intro n
  induction n with
  | zero=>intro l hl _;cases l with
   | nil=>exact .nil
   | cons _ _=>cases hl
  | succ n ih=>
   intro l hl hi
   have e1:l=l.dropLast++[l[n]'(by omega)]:=by
    have hne:l≠[]:=by intro z;subst z;cases hl
    have:=(List.dropLast_concat_getLast hne).symm
    rw[List.getLast_eq_getElem] at this
    simpa [hl] using this
   rw[e1,List.range_succ,List.map_append]
   refine Vals.append (ih l.dropLast (by simp[hl]) λi v hv=>?_) ?_
   ·refine hi i v ?_
    rw[List.getElem?_dropLast] at hv
    split at hv
    ·exact hv
    ·cases hv
   ·obtain ⟨t,e⟩:=hi n (l[n]'(by omega)) (List.getElem?_eq_getElem (by omega))
    exact .cons ⟨t,e⟩ .nil
 refine key n acc.toList (by simp[z1]) λi v hv=>?_
 obtain ⟨t,e⟩:=z2 i v (by simpa using hv)
 exact ⟨t,by rw[e];congr 1;omega⟩
section
variable {X:Cx}
def zm5 (ta:TA):TE:=fun σ H Q=>ta σ H λvs H1=>∃ j:Int,vs=[.int j]/\0<=j/\j.toNat<=2 ^ 24/\∀ l,H1 l=none->Q (.ref l) (upd H1 l (.tup ((List.range j.toNat).map λ(i:Nat)=>V.int (0+i))))
theorem zga {a:Expr}{ta:TA}{p1 p2 q1 q2:Pos}(hc:X.calm=true)(hg1:Gl X "tuple")(hm1:X.mg "tuple" = none)(hb1:bootBuiltins "tuple" = some (.type "tuple"))(hg2:Gl X "range")(hm2:X.mg "range" = none)(ha:PA X [a] ta)
  (hs1:starEach [.Call (.Name "range" p2) [a] [] q2] X.env=[(false,eval (.Call (.Name "range" p2) [a] [] q2) X.env)]:=by rfl) (hs2:starEach [a] X.env=[(false,eval a X.env)]:=by rfl):
  PE X (.Call (.Name "tuple" p1) [.Call (.Name "range" p2) [a] [] q2] [] q1) (zm5 ta):=by
 intro pins s σ H Q I h
 refine wpAny_Call_Name_kw (WW I hg1 hm1 hb1 (PyProof.Rows.callWith_type1 ?_ hs1 rfl))
 rw[hs1]
 show wpAny _ _ (spliced [(false,eval (.Call (.Name "range" p2) [a] [] q2) X.env)]) _ _ s
 refine Calls.spliced_cons (wpAny_Call_Name_kw (WW I hg2 hm2 boot_range (PyProof.Rows.callWith_type1 (thn (ha q2 pins s σ H _ I h) λus s1 ⟨vs,H1,I1,r1,q1⟩=>?_) hs2 rfl)))
 obtain ⟨j,e,j0,j1,q⟩:=q1
 subst e
 obtain ⟨u,rfl,r⟩:=Vals.one r1
 obtain ⟨t,rfl⟩:=r
 refine call_range_1 (Calls.spliced_nil ?_)
 refine zge (n:=j.toNat) (I.ok.hd hc) (IsRange.new ..) (small_one (by omega) (by omega) (by omega) (by omega)) (by rw[rangeSize_one];split <;> omega) j1 λh' tk acc hk hacc=>?_
 have I2:Inv X pins σ H1 { s1 with heap:=h',toks:=tk }:=I1.kept (t' := tk) λb o e=>hk b o (Heap.get?_push_of_some _ e)
 have z24:(2:Nat) ^ 24<=sizeLine:=by decide
 refine ⟨.ref h'.objs.size,_,I2.laid (t' := tk) (o:=.tup ((List.range j.toNat).map λ(i:Nat)=>V.int (0+i))) (λb o e=>Heap.get?_push_of_some _ e) (Nat.le_refl _) ⟨by simp;omega,acc.toList,zeh hacc,by rw[Array.toArray_toList];exact ⟨IsTup.new _ _,_,Heap.get?_push_size _ rfl,rfl⟩⟩,rfl,q _ (I2.hok.fresh (Nat.le_refl _))⟩
end
end L2
namespace L2
open PySem PySem.Spec PyProof.Rows
section
variable {prog:Program}{w:World}{A:Around}{E:Value->Shared->Prop}{s:Shared}
end
section
variable {X:Cx}{K:PySem.W.Frag}{e st:Expr}{te:TE}{ts:TO}{p2 pos:Pos}
end
end L2
namespace HT
open PySem PySem.Spec PyProof.Rows
section
variable {prog:Program}{w:World}{A:Around}{E:Value->Shared->Prop}{s:Shared}
theorem Vo {t sl:Addr}{items:Array Value}{vl vu:Value}{lo hi:Option Int}{Q:Value->Shared->Prop}(ht:IsTup s.heap t items)(hs:s.heap.IsSliceOf sl vl vu .none)(pl:IsPart vl lo)(pu:IsPart vu hi)
  (hw:sIx items.size 0 lo=0/\sIx items.size items.size hi=items.size) (h:Q (.ref t) s):wpAny (model prog w) A (getItem (.ref t) (.ref sl)) Q E s:=by
 obtain ⟨os,hos,hcs,hds⟩:=id hs
 have hTs:s.TypeIs (.ref sl) "slice" := ⟨os,hos,hcs⟩
 unfold getItem
 try with_reducible refine wpAny_holding ?_
 first | refine wpAny_bind (wpAny_pure ?_) | skip
 refine wpAny_bind (wpAny_sequenceKey ht.typeIs (by decide) ?_)
 refine wpAny_bind (wpAny_callSpecial?_slot (name:=Str.ofString "__getitem__") ht.typeIs PyProof.Rows.slot_tuple_getitem
  (wpAny_call_entry PyProof.Rows.slot_tuple_getitem ht.typeIs entry_tuple_getitem ?_ (args_tuple_getitem _ _)))
 show wpAny _ _ (Builtin.Tuple.tupleItemsOf (.ref t) >>= _) _ _ s
 refine wpAny_bind (tupleItemsOf_ ht ?_)
 refine wpAny_bind (wpAny_typeOf hTs ?_)
 rw[if_pos (by decide)]
 refine wpAny_bind (JC hs pl pu ?_)
 have hyes:(((sIx items.size 0 lo:Nat):Int)==0&&(1:Int)==1&&(sIx items.size items.size hi-sIx items.size 0 lo)==items.size)=true:=by
  rw[hw.1,hw.2];simp
 show wpAny _ _ (if (((sIx items.size 0 lo:Nat):Int)==0&&(1:Int)==1&&(sIx items.size items.size hi-sIx items.size 0 lo)==items.size)=true then _ else _) _ _ s
 rw[if_pos hyes]
 refine wpAny_bind (m:=Builtin.Tuple.tupleIsExact (.ref t)) ?_
 unfold Builtin.Tuple.tupleIsExact
 refine wpAny_bind (wpAny_typeOf ht.typeIs (wpAny_pure ?_))
 rw[if_pos (by decide)]
 refine wpAny_bind (wpAny_rule ?_)
 first
  | exact wpAny_pure ⟨_,rfl,wpAny_pure h⟩
  | exact wpAny_bind (wpAny_pure (wpAny_pure ⟨_,rfl,wpAny_pure h⟩))
end
end HT
namespace L2
open PySem PySem.Spec PyProof.Rows
section
variable {X:Cx}{K:PySem.W.Frag}
def zmK (K:PySem.W.Frag):V->Option Int->Option Int->Hp->VK->Prop:=λx lo hi H Q=>∃ a xs,x = .ref a/\SqT K H a xs/\
 ((HT.sIx xs.length 0 lo=0/\HT.sIx xs.length xs.length hi=xs.length)->Q (.ref a) H)/\(¬ (HT.sIx xs.length 0 lo=0/\HT.sIx xs.length xs.length hi=xs.length)->∀ p,H p=none->Q (.ref p) (upd H p (.tup (zhv xs lo hi))))
theorem zlr (e:X.K=K):SlR X (zmK K):=by
 subst e
 intro pins s σ H x v vl vu lo hi sl Q I rx hs pl pu h
 obtain ⟨a,xs,rfl,hx,q1,q2⟩:=h
 by_cases hw:HT.sIx xs.length 0 lo=0/\HT.sIx xs.length xs.length hi=xs.length
 ·cases rx
  obtain ⟨its,r,ht,hz⟩:=I.tuple hx
  have hlen:its.toArray.size=xs.length:=by rw[List.size_toArray];exact r.length.symm
  exact ⟨"tuple",_,PyProof.Rows.slot_tuple_getitem.lookup,ht.typeIs,HT.Vo ht hs pl pu (by rw[hlen];exact hw) ⟨.ref a,H,I,rfl,q1 hw⟩⟩
 ·exact znj pins s σ H _ v vl vu lo hi sl Q I rx hs pl pu ⟨a,xs,rfl,hx,hw,q2 hw⟩
theorem znp {σ:St}{G:Hp}{te:TE}{tl th:TO}{ds:List PyData}{lo hi:Option Int}(h:Ev K te σ G (.tuple ds))(hl:∀ H (Q:Option Int->Hp->Prop),Q lo H->tl σ H Q)(hh:∀ H (Q:Option Int->Hp->Prop),Q hi H->th σ H Q):
  Ev K (tSl (zmK K) te tl th) σ G (.tuple ((ds.drop (HT.sIx ds.length 0 lo)).take (HT.sIx ds.length ds.length hi-HT.sIx ds.length 0 lo))):=
 λG1 H s1 s2 Q k=>h G1 H s1 s2 _ λv G2 H2 g2 hv=>by
  obtain ⟨p,xs,rfl,hp,hxs⟩:=hv.tup
  have hlen:=hxs.length
  refine hl _ _ (hh _ _ ⟨p,xs,rfl,g2.gh.tup hp,λhw=>?_,λhw q hq=>?_⟩)
  ·refine k _ _ _ g2 ?_
   rw[hlen] at hw
   rw[hw.1,hw.2,List.drop_zero,Nat.sub_zero,List.take_of_length_le (Nat.le_refl _)]
   exact YW hp hxs
  ·have g:=Z5 (o:=.tup (zhv xs lo hi)) g2.gh hq
   refine k _ _ _ (g2.trans g) (YW (SqT.of Zh) ?_)
   have q:=QS (HT.sIx ds.length ds.length hi-HT.sIx ds.length 0 lo) (Q9 (HT.sIx ds.length 0 lo) (hxs.same g.gg))
   rw[← hlen] at q ⊢
   exact q
theorem zk0 {σ:St}{G:Hp}{ta tb:TE}{ds es:List PyData}(ha:Ev K ta σ G (.tuple ds))(hb:Ev K tb σ G (.tuple es))(hne:ds≠[])(hz:ds.length+es.length<=sizeLine):Ev K (tOp (ze1 K) ta tb) σ G (.tuple (ds++es)):=
 JM ha hb λG1 H u v Q s1 s2 hu hv k=>by
  obtain ⟨p,xs,rfl,hp,hxs⟩:=hu.tup
  obtain ⟨q,ys,rfl,hq,hys⟩:=hv.tup
  have l1:=hxs.length
  have l2:=hys.length
  refine ⟨p,q,xs,ys,rfl,rfl,s2.tup hp,s2.tup hq,λe=>hne (by subst e;exact List.length_eq_zero_iff.mp l1.symm),by omega,λe=>?_,λe r hr=>?_⟩
  ·refine k _ G1 H (Yr.refl s2) ?_
   subst e
   have:es=[]:=List.length_eq_zero_iff.mp l2.symm
   subst this
   rw[List.append_nil]
   exact YW hp hxs
  ·have g:=Z5 (o:=.tup (xs++ys)) s2 hr
   exact k _ _ _ g (YW (SqT.of Zh) (YB (hxs.same g.gg) (hys.same g.gg)))
theorem zjn {σ:St}{G:Hp}{te:TE}{tl th:TO}{ds:List PyData}{lo hi:Option Int}(h:Ev K te σ G (.list ds))(hl:∀ H (Q:Option Int->Hp->Prop),Q lo H->tl σ H Q)(hh:∀ H (Q:Option Int->Hp->Prop),Q hi H->th σ H Q):
  Ev K (tSl (znk K) te tl th) σ G (.list ((ds.drop (HT.sIx ds.length 0 lo)).take (HT.sIx ds.length ds.length hi-HT.sIx ds.length 0 lo))):=
 λG1 H s1 s2 Q k=>h G1 H s1 s2 _ λv G2 H2 g2 hv=>by
  obtain ⟨p,xs,rfl,hp,hxs⟩:=hv.lst
  have hlen:=hxs.length
  refine hl _ _ (hh _ _ ⟨p,xs,rfl,SqL.of (g2.gh _ _ hp),λq hq=>?_⟩)
  have g:=Z5 (o:=.lst (zhv xs lo hi)) g2.gh hq
  refine k _ _ _ (g2.trans g) (YT Zh ?_)
  have q:=QS (HT.sIx ds.length ds.length hi-HT.sIx ds.length 0 lo) (Q9 (HT.sIx ds.length 0 lo) (hxs.same g.gg))
  rw[← hlen] at q ⊢
  exact q
end
end L2
namespace L2
open PySem PySem.Spec PyProof.Rows
section
variable {K:PySem.W.Frag}{σ:St}{G:Hp}{ta tb:TE}
theorem zdz {x y:Str}(ha:Ev K ta σ G (.str x))(hb:Ev K tb σ G (.str y))(hz:x.length+y.length<=sizeLine):
  Ev K (tOp (λx y H Q=>∃ i j,x = .str i/\y = .str j/\i.length+j.length<=sizeLine/\Q (.str (i++j)) H) ta tb) σ G (.str (x++y)):=
 JM ha hb λG1 H u v Q s1 s2 hu hv k=>⟨x,y,hu.str,hv.str,hz,k _ G1 H (Yr.refl s2) (Z7 _)⟩
end
end L2
namespace Rdo
open PySem L2 Ord Nm
end Rdo
namespace L2
open PySem PySem.Spec PyProof.Rows
structure Y6 (fr sc:Scope)(ps cap:List Str):Prop where
 kind:sc.kind = .function
 co:sc.isCoroutine=false
 gen:sc.isGenerator=false
 cell:∀ p∈sc.names,p.2≠.cell
 par:∀ y∈ps,sc.names.lookup y=some .local
 free:∀ p∈sc.names,p.2 = .free->fr.names.lookup p.1=some .cell
 caps:∀ y∈cap,(y,NameKind.free)∈sc.names
 capl:∀ y∈cap,sc.names.lookup y=some .free
 nd:(ps++cap).Nodup
def V4 (H:Hp)(f:Addr)(q:Str)(params:Arguments)(body:Expr)(sc:Scope)(cl:List (Str×Addr)):Prop:=
 ∃ (pm ctv:Value) (c' : Addr) (oc:Obj),H f=some (.frz (PySem.W.kla_obj "<lambda>" q params body sc cl pm c' ctv) (.own f))/\H c'=some (.frz oc (.own c'))/\zeO oc q
structure CellsAre (s:Shared)(H:Hp)(cl:List (Str×Addr))(cap:List Str)(vals:St):Prop where
 inj:∀ x y c,cl.lookup x=some c->cl.lookup y=some c->x=y
 isc:∀ x c,cl.lookup x=some c->(∃ v,s.heap.IsCell c v)/\H c=none
 val:∀ (i:Nat) (y:Str) (v:V),cap[i]?=some y->vals[i]?=some (some v)->∃ c u,cl.lookup y=some c/\s.heap.IsCell c (some u)/\RelV v u
theorem UW {P:Program}{w:World}{H:Hp}{h:Heap}{c:Addr}{oc:Obj}{q:Str}(ok:HOk P w H h)(e:H c=some (.frz oc (.own c)))(hc:zeO oc q):h.CodeRec (.ref c) q:=by
 obtain ⟨e1,_⟩:=ok c _ e
 obtain ⟨vs,t,d1,d2⟩:=hc
 exact ⟨c,oc,vs,t,rfl,e1,d1,d2⟩
theorem CellsAre.un {s s' : Shared}{H H' : Hp}{cl:List (Str×Addr)}{cap:List Str}{vals:St}{fs:List Addr}(C:CellsAre s H cl cap vals)(u:Un fs [] H H' s.heap s'.heap):CellsAre s' H' cl cap vals:=by
 have kc:∀ c v,H c=none->s.heap.IsCell c v->s'.heap.IsCell c v:=λc v n ⟨o,ho,hd⟩=>by
  obtain ⟨sl,e⟩:=u.any ho n (by simp)
  exact ⟨_,e,hd⟩
 refine ⟨C.inj,λx c h=>?_,λi y v h1 h2=>?_⟩
 ·obtain ⟨⟨v,hv⟩,n⟩:=C.isc x c h
  obtain ⟨o,ho,hd⟩:=id hv
  exact ⟨⟨v,kc c v n hv⟩,u.free c o ho n (by simp)⟩
 ·obtain ⟨c,w,e1,e2,r⟩:=C.val i y v h1 h2
  exact ⟨c,w,e1,kc c _ (C.isc y c e1).2 e2,r⟩
theorem V4.same {H H' : Hp}{f:Addr}{q:Str}{params:Arguments}{body:Expr}{sc:Scope}{cl:List (Str×Addr)}(L:V4 H f q params body sc cl)(k:∀ b o u,H b=some (.frz o u)->H' b=some (.frz o u)):V4 H' f q params body sc cl:=
 let ⟨pm,ctv,c',oc,h1,h2,h3⟩:=L;⟨pm,ctv,c',oc,k _ _ _ h1,k _ _ _ h2,h3⟩
theorem lookup_mem {α:Type}{y:Str}{u:α}:∀ {l:List (Str×α)},(l.map (·.1)).Nodup->(y,u)∈l->l.lookup y=some u
 | [],_,h=>by simp at h
 | (z,v)::l,nd,h=>by
  rw[List.lookup_cons]
  rw[List.map_cons,List.nodup_cons] at nd
  rcases List.mem_cons.mp h with e | h
  ·cases e;simp
  ·have:y≠z:=λe=>nd.1 (e ▸ List.mem_map_of_mem (f:=(·.1)) h)
   have hb:(y==z)=false:=by simpa using this
   rw[hb]
   exact lookup_mem nd.2 h
theorem zgE {α β:Type}:∀ (l:List α)(m:List β),(l.zip m).map (·.1)=l.take m.length
 | [],_=>by simp
 | _::_,[]=>by simp
 | a::l,b::m=>by
  rw[List.zip_cons_cons,List.map_cons,List.length_cons,List.take_succ_cons,zgE l m]
theorem zfj {α:Type}{ps:List Str}{us:List α}{i:Nat}{y:Str}{u:α}(nd:ps.Nodup)(hp:ps[i]?=some y)(hu:us[i]?=some u):(ps.zip us).reverse.lookup y=some u:=by
 refine lookup_mem ?_ ?_
 ·rw[List.map_reverse]
  refine (List.reverse_perm _).nodup_iff.mpr ?_
  rw[zgE]
  exact nd.sublist (List.take_sublist _ _)
 ·rw[List.mem_reverse]
  refine List.mem_of_getElem? (i:=i) ?_
  rw[List.getElem?_zip_eq_some]
  exact ⟨hp,hu⟩
def zcE (P:Program)(w:World)(K:PySem.W.Frag)(mg:Str->Option Value)(base:Heap)(N:List Str)(q:Str)(sc:Scope)(f c' : Addr)(cl:List (Str×Addr))(A:Around)(outer:List Env)(s:Shared)(H:Hp):Cx where
 prog:=P
 w:=w
 K:=K
 mg:=mg
 base:=base
 A:=A.deeper (PySem.W.envX q sc s.heap.objs.size f (.ref c') cl)
 N:=N
 s₀:=s
 H₀:=H
 env:=PySem.W.envX q sc s.heap.objs.size f (.ref c') cl
 outer:=outer
 stack:=PySem.W.envX q sc s.heap.objs.size f (.ref c') cl::outer
 ex:=[]
 calm:=true
 fn:=λ_=>false
 pn:=[]
 xe:=λ_ _=>False
section
variable {P:Program}{w:World}{K:PySem.W.Frag}{mg:Str->Option Value}{base:Heap}{A:Around}{outer:List Env}{s:Shared}{H:Hp}{f:Addr}{q:Str}{params:Arguments}{body:Expr}{fr sc:Scope}{cl:List (Str×Addr)}{ps cap:List Str}
theorem zkD {c' : Addr}{us:List Value}{vs:List V}{vals:St}{h₁:Heap}{tk:Nat}(S:Y6 fr sc ps cap)(hcap:∀ y,sc.names.lookup y=some .free->∃ c,cl.lookup y=some c)(hd:A.handled=none)(e0:zfU P w K mg base A outer s H)(hl:vs.length=ps.length)(hv:vals.length=cap.length)(r:Vals vs us)(C:CellsAre s H cl cap vals)
  (hns:h₁.Ns s.heap.objs.size (λx=>(ps.zip us).reverse.lookup x)) (hk:∀ b o,s.heap.get? b=some o->h₁.get? b=some o):
  Inv (zcE P w K mg base (ps++cap) q sc f c' cl A outer s H) [] (vs.map some++vals) H { s with heap:=h₁,toks:=tk }:=by
 have noA:∀ b:Addr,b∉(zcE P w K mg base (ps++cap) q sc f c' cl A outer s H).ex:=λb z=>absurd (show b∈([]:List Addr) from z) (by simp)
 have ndp:ps.Nodup:=(List.nodup_append.mp S.nd).1
 refine ⟨⟨e0.mod,S.kind,rfl,rfl,Nat.le_refl _,C.inj,λy hy=>?_,(λy c h=>Bool.noConfusion h),λ_=>hd,Around.frames_deeper e0.frames,.inr ⟨rfl,rfl⟩,λb z=>absurd z (noA b),e0.bs,e0.bsz,λb _ _=>noA b,λb z=>absurd z (noA b),e0.zdu,e0.frf⟩,
  rfl,e0.bare,Un.kept hk,⟨_,hns,λi y v h1 h2 h3=>?_⟩,λy c h=>?_,e0.hok.fresh (Nat.le_refl _),λy c h=>(C.isc y c h).2,λp hp=>absurd (show p∈([]:List (Addr×Obj)) from hp) (by simp),e0.hok.kept hk,?_⟩
 ·have hy:sc.names.lookup y=some .cell\/sc.names.lookup y=some .free:=hy
  rcases hy with hy | hy
  ·exact absurd rfl (S.cell _ (PySem.mem_of_lookup hy))
  ·exact hcap y hy
 ·by_cases hi:i<ps.length
  ·have hp:ps[i]?=some y:=by
    have:(ps++cap)[i]?=some y:=h1
    rw[List.getElem?_append_left hi] at this;exact this
   have ha:vs[i]?=some v:=by
    rw[List.getElem?_append_left (by rw[List.length_map];omega),List.getElem?_map] at h2
    cases e:vs[i]? with
    | none=>rw[e] at h2;cases h2
    | some a=>rw[e] at h2;cases h2;rfl
   obtain ⟨u,hu,rv⟩:=r.get ha
   refine ⟨u,rv,.inl ⟨S.par y (List.mem_of_getElem? hp),?_⟩⟩
   exact zfj ndp hp hu
  ·have hc:cap[i-ps.length]?=some y:=by
    have:(ps++cap)[i]?=some y:=h1
    rw[List.getElem?_append_right (by omega)] at this;exact this
   have ha:vals[i-ps.length]?=some (some v):=by
    rw[List.getElem?_append_right (by rw[List.length_map];omega),List.length_map,hl] at h2;exact h2
   obtain ⟨c,u,e1,e2,rv⟩:=C.val _ y v hc ha
   obtain ⟨o,ho,hd'⟩:=e2
   exact ⟨u,rv,.inr ⟨.inr (S.capl y (List.mem_of_getElem? hc)),c,e1,o,hk _ _ ho,hd'⟩⟩
 ·obtain ⟨⟨v,o,ho,hd'⟩,_⟩:=C.isc y c h
  exact ⟨v,o,hk _ _ ho,hd'⟩
 ·show (vs.map some++vals).length=(ps++cap).length
  rw[List.length_append,List.length_append,List.length_map,hl,hv]
theorem zgP {k:Nat}{us:List Value}{vs:List V}{vals:St}{te:TE}{Q:VK}{E:XK}(S:Y6 fr sc ps cap)(hcap:∀ y,sc.names.lookup y=some .free->∃ c,cl.lookup y=some c)(hr:Wx (k+1) A)(e0:zfU P w K mg base A outer s H)(L:V4 H f q params body sc cl)(C:CellsAre s H cl cap vals)
  (hbind:∀ (pm ctv:Value) (c' : Addr),bindArgs (PySem.W.kla_fn "<lambda>" q params body sc cl pm (.ref c') ctv) ⟨us,[]⟩=pure (ps.zip us)) (hl:vs.length=ps.length) (hv:vals.length=cap.length) (r:Vals vs us)
  (hbody:∀ c',Wx k (A.deeper (PySem.W.envX q sc s.heap.objs.size f (.ref c') cl))->PE (zcE P w K mg base (ps++cap) q sc f c' cl A outer s H) body te) (hq:te (vs.map some++vals) H Q):
  codeAny (model P w) A (.call (.ref f) ⟨us,[]⟩) (CR CX0 outer P w H s Q E) s:=by
 obtain ⟨pm,ctv,c',oc,h1,h2,h3⟩:=L
 obtain ⟨ho,_⟩:=e0.hok f _ h1
 have lim:s.heap.NoLimit:=e0.mod.nolimit.keeps λb o e=>(e0.bs b o e).1
 refine PySem.W.kla_callFunE hr.depth ho rfl S.co S.gen rfl (UW e0.hok h2 h3) ?_
 rw[hbind pm ctv c']
 refine wpAny_pure (wpAny_newFunctionEnv S.cell (λy hy=>S.par y.1 (List.of_mem_zip hy).1) (λh₁ hns hsb=>⟨lim.fresh _ hsb,?_⟩) S.kind)
 have old1:∀ b u,s.heap.get? b=some u->h₁.get? b=some u:=λb u e=>
  hsb.extBut b u (Nat.ne_of_lt (Heap.lt_size e)) (Heap.get?_push_of_some _ e)
 have I:=zkD (tk:=s.toks+(ps.zip us).length) (f:=f) (q:=q) (c' := c') S hcap hr.hd e0 hl hv r C hns old1
 refine PySem.W.kla_codeExpr (wpAny_mono (hbody c' (hr.deeper _) [] _ _ H Q I hq) (λv s' hs=>?_) λe s' z=>z.elim)
 obtain ⟨x,H',J,rv,q'⟩:=hs
 exact ⟨x,H',J.os,J.bare,J.base,J.hok,rv,q'⟩
end
end L2
namespace L2
open PySem PySem.Spec PyProof.Rows
def BM (mg:Str->Option Value)(h:Heap):Prop:=∃ bm ob,mg "__builtins__" = some (.ref bm)/\bm≠builtinsNs/\h.get? bm=some ob/\ob.cls = .type "module" /\ ob.dict=some builtinsNs/\ob.data = .plain
theorem zbg {pos pos' : Pos}{c v:Value}:∀ (l:List Value),TriplesOk l->codeAmong pos' (l++[rawInt pos.line,rawInt pos.col,c])=some v->codeAmong pos' l=some v\/(pos'.line=pos.line/\pos'.col=pos.col/\v=c):=by
 intro l h
 fun_induction TriplesOk l
  with
 | case1=>
  intro e
  simp only[List.nil_append,rawInt,codeAmong] at e
  split at e
  ·rename_i hc
   simp at hc
   cases e
   exact .inr ⟨by omega,by omega,rfl⟩
  ·cases e
 | case2 a t b u x rest ih=>
  intro e
  simp only[List.cons_append,codeAmong] at e ⊢
  split at e
  ·rename_i hc;rw[if_pos hc];exact .inl e
  ·rename_i hc;rw[if_neg hc];exact ih h e
 | case3 l z1 z2=>exact False.elim h
section
variable {X:Cx}{pins:List (Addr×Obj)}{σ:St}{H:Hp}{s:Shared}{sc:Scope}{ps cap:List Str}{P c:Addr}{cr:Nat->Nat->Option Str}{q:Str}{params:Arguments}{body:Expr}{pos:Pos}
theorem Y6.cells (S:Y6 X.env.scope sc ps cap)(ok:X.Ok):∀ p∈sc.names,p.2 = .free->∃ c,X.env.cells.lookup p.1=some c:=
 λp hp e=>ok.has p.1 (.inl (S.free p hp e))
theorem Y6.sub (S:Y6 X.env.scope sc ps cap)(ok:X.Ok){y:Str}{c:Addr}(h:(Jl X.env sc.names []).lookup y=some c):X.env.cells.lookup y=some c:=
 Uq (S.cells ok) (λ_ _ z=>by simp at z) h
theorem Inv.zeR (I:Inv X pins σ H s)(S:Y6 X.env.scope sc ps cap){js:List Nat}(hjs:js.map (λj=>X.N[j]?)=cap.map some):CellsAre s H (Jl X.env sc.names []) cap (Jm σ js):=by
 have ok:=I.ok
 refine ⟨λx y c h1 h2=>ok.inj x y c (S.sub ok h1) (S.sub ok h2),λx c h=>⟨I.cell x c (S.sub ok h),I.freeC x c (S.sub ok h)⟩,λi y v e1 e2=>?_⟩
 have hy:y∈cap:=List.mem_of_getElem? e1
 unfold Jm at e2
 rw[List.getElem?_map] at e2
 cases ej:js[i]? with
 | none=>rw[ej] at e2;cases e2
 | some j=>
  rw[ej] at e2
  have e2'' : (σ[j]?).join=some v:=Option.some.inj e2
  have eN:X.N[j]?=some y:=by
   have:=congrArg (λl=>l[i]?) hjs
   simp only[List.getElem?_map,ej,e1,Option.map_some] at this
   exact Option.some.inj this
  have eσ:σ[j]?=some (some v):=by
   cases z:σ[j]? with
   | none=>rw[z] at e2'';cases e2''
   | some w' =>
    rw[z] at e2''
    have:w'=some v:=by simpa using e2''
    rw[this]
  have kc:X.env.scope.names.lookup y=some .cell:=S.free (y,.free) (S.caps y hy) rfl
  obtain ⟨m0,hn0,hl0⟩:=I.loc
  obtain ⟨u,ru,lk⟩:=hl0 j y v eN eσ (.inr (.inl kc))
  rcases lk with ⟨k,_⟩ | ⟨_,c,ec,hc⟩
  ·have k' : X.env.scope.names.lookup y=some .local:=k
   rw[kc] at k';cases k'
  ·obtain ⟨c',hc'⟩:=Option.isSome_iff_exists.mp (WR (env:=X.env) (acc:=[]) (S.caps y hy))
   have hcc:c'=c:=Option.some.inj ((S.sub ok hc').symm.trans ec)
   subst hcc
   exact ⟨c',u,hc',hc,ru⟩
def zpi (P:Addr)(cr:Nat->Nat->Option Str)(q:Str)(params:Arguments)(body:Expr)(sc:Scope)(cl:List (Str×Addr)):TE:=fun σ H Q=>H P=some (.tbl cr)/\∀ f H',H f=none->ZL H H' -> V4 H' f q params body sc cl->Q (.ref f) H'
theorem zjg (S:Y6 X.env.scope sc ps cap)(hcode:X.env.code = .ref c)(C:PySem.W.CodeHd X.base c P)(hbm:BM X.mg X.base)(hq:q=X.env.qual ++ "<lambda>")(hcr:cr pos.line pos.col=some q)(hdef:defaultsOf params X.env=([],[]):=by rfl):
  PE X (.Lambda params body sc pos) (zpi P cr q params body sc (Jl X.env sc.names [])):=by
 intro pins s σ H Q I h
 obtain ⟨hP,h⟩:=h
 refine PySem.W.kla_eval hdef ?_
 rw[← hq]
 obtain ⟨tb,hget,ht3,hcodes⟩:=I.hok P _ hP
 have hg:s.heap.Ns mainGlobals X.mg:=I.mod.glob.keeps I.bk
 have hgP:mainGlobals≠P:=λz=>by
  obtain ⟨o,es,ep,e,hd,_⟩:=hg
  rw[z,hget] at e;cases e;cases hd
 have hb:s.heap.BuiltinsAt X.mg P:=by
  obtain ⟨bm,ob,b1,b2,b3,b4,b5,b6⟩:=hbm
  have e:=I.bk _ _ b3
  refine ⟨bm,ob,b1,b2,λz=>?_,λz=>?_,e,b4,b5,b6⟩
  ·obtain ⟨o,es,ep,e',hd,_⟩:=hg
   rw[← z,e] at e';cases e';rw[b6] at hd;cases hd
  ·rw[z,hget] at e;cases e;cases b4
 have hcl:closureFor sc X.env=pure (Jl X.env sc.names []):=Wa (S.cells I.ok)
 cases hf:codeAmong pos tb.toList with
 | some cv=>
  obtain ⟨c',oc,q',rfl,e2,e3,e4⟩:=hcodes pos cv hf
  rw[hcr] at e2;cases e2
  refine PySem.W.kla_makeFunctionHit hcl I.ok.glob hg hcode (C.keeps I.bk) hget ht3 hf hb λctv h' tk hk hsz=>?_
  have hfr:H h'.objs.size=none:=I.hok.fresh hsz
  refine ⟨.ref h'.objs.size,upd H h'.objs.size (.frz (PySem.W.kla_obj "<lambda>" q params body sc (Jl X.env sc.names []) ((X.mg "__name__").getD .none) c' ctv) (.own h'.objs.size)),I.laid (t' := tk) (λb u e=>Heap.get?_push_of_some _ (hk b u e)) hsz ⟨Heap.get?_push_size _ rfl,_,Heap.get?_push_size _ rfl⟩,rfl,h _ _ hfr (λb u e=>by rw[Zq (Zn e hfr)];exact e) ⟨_,_,c',oc,Zh,?_,e4⟩⟩
  rw[Zq (Zn e3 hfr)];exact e3
 | none=>
  refine PySem.W.kla_makeFunction hcl I.ok.glob hg hcode (C.keeps I.bk) hget ht3 hf hgP hb λc' ctv h' tk hx hge hlt hrec htb=>?_
  obtain ⟨c2,oc,vs,tt,e2,hoc,hd,hv⟩:=hrec
  cases e2
  have hcn:H c'=none:=I.hok.fresh hge
  have hsz:s.heap.objs.size<=h'.objs.size:=Nat.le_of_lt (Nat.lt_of_le_of_lt hge hlt)
  have hfr:H h'.objs.size=none:=I.hok.fresh hsz
  have hcf:c' ≠ h'.objs.size:=Nat.ne_of_lt hlt
  have hPc:P≠c' := Zn hP hcn
  have hPf:P≠h'.objs.size:=Zn hP hfr
  have sm:∀ b u,H b=some u->upd (upd H c' (.frz oc (.own c'))) h'.objs.size (.frz (PySem.W.kla_obj "<lambda>" q params body sc (Jl X.env sc.names []) ((X.mg "__name__").getD .none) c' ctv) (.own h'.objs.size)) b=some u:=λb u e=>by
   rw[Zq (Zn e hfr),Zq (Zn e hcn)];exact e
  have cc:upd (upd H c' (.frz oc (.own c'))) h'.objs.size (.frz (PySem.W.kla_obj "<lambda>" q params body sc (Jl X.env sc.names []) ((X.mg "__name__").getD .none) c' ctv) (.own h'.objs.size)) c'=some (.frz oc (.own c')):=by
   rw[Zq hcf,Zh]
  have hk:∀ b o,b≠P->s.heap.get? b=some o->(h'.push (PySem.W.kla_obj "<lambda>" q params body sc (Jl X.env sc.names []) ((X.mg "__name__").getD .none) c' ctv)).get? b=some o:=λb o hb e=>Heap.get?_push_of_some _ (hx b o hb e)
  refine ⟨.ref h'.objs.size,_,I.un (t' := tk) ⟨λb o e n _ _=>hk b o (λz=>by rw[z,hP] at n;cases n) e,λb o e n _ _=>⟨o.slots,hk b o (λz=>by rw[z,hP] at n;cases n) e⟩,λb o e n _=>?_,λb o e _=>?_,λb xs e=>sm b _ e,λb o u e=>sm b _ e,λb r e=>sm b _ e⟩ ?_,rfl,h _ _ hfr sm ⟨_,_,c',oc,Zh,cc,vs,tt,hd,hv⟩⟩
  ·have h1:b≠c' := Nat.ne_of_lt (Nat.lt_of_lt_of_le (Heap.lt_size e) hge)
   have h2:b≠h'.objs.size:=Nat.ne_of_lt (Nat.lt_of_lt_of_le (Heap.lt_size e) hsz)
   rw[Zq h2,Zq h1];exact n
  ·by_cases hb:b=P
   ·subst hb;exact ⟨_,Heap.get?_push_of_some _ htb⟩
   ·exact ⟨o,hk b o hb e⟩
  ·intro b u e
   by_cases h1:b=h'.objs.size
   ·subst h1
    rw[Zh] at e;cases e
    exact ⟨Heap.get?_push_size _ rfl,_,Heap.get?_push_size _ rfl⟩
   ·by_cases h2:b=c'
    ·subst h2
     rw[cc] at e;cases e
     exact ⟨Heap.get?_push_of_some _ hoc,_,Heap.get?_push_of_some _ hoc⟩
    ·rw[Zq h1,Zq h2] at e
     by_cases h3:b=P
     ·subst h3
      rw[hP] at e;cases e
      refine ⟨_,Heap.get?_push_of_some _ htb,?_,λpos' v e=>?_⟩
      ·rw[Array.toList_append];exact TriplesOk_snoc _ _ _ _ ht3
      ·rw[Array.toList_append] at e
       rcases zbg (pos:=pos) tb.toList ht3 e with e | ⟨e1,e2,rfl⟩
       ·obtain ⟨d,od,q',z1,z2,z3,z4⟩:=hcodes pos' v e
        exact ⟨d,od,q',z1,z2,sm _ _ z3,z4⟩
       ·exact ⟨c',oc,q,rfl,by rw[e1,e2];exact hcr,cc,vs,tt,hd,hv⟩
     ·refine (I.hok b u e).stay (λd v hd' e' => hk d v ?_ e') (λd e' => sm d _ e') (λd xs e' => sm d _ e') λd o' u' e' => sm d _ e'
      rintro rfl
      rcases hd' with z | z
      ·exact h3 z.symm
      ·rw[hP] at z;cases z
end
end L2
namespace L2
open PySem PySem.Spec PyProof.Rows
abbrev SpS:=Shared->List V->Hp->VK->Prop
structure zaJ (P:Program)(w:World)(K:PySem.W.Frag)(mg:Str->Option Value)(base:Heap)(k:Nat)(f:Addr)(fd:FuncData)(ps:List Str)(sp:SpS):Prop where
 len:∀ s vs H Q,sp s vs H Q->vs.length=ps.length
 run:∀ (A:Around) (outer:List Env) (s:Shared) (H:Hp) (args:Args) (us:List Value) (vs:List V) (Q:VK),Wx k A->zfU P w K mg base A outer s H->BindsTo s fd args (ps.zip us)->Vals vs us->sp s vs H Q->
  codeAny (model P w) A (.call (.ref f) args) (CR CX0 outer P w H s Q E0) s
theorem znt {P:Program}{w:World}{K:PySem.W.Frag}{mg:Str->Option Value}{base:Heap}{k:Nat}{f:Addr}{name qual:Str}{params:Arguments}{body:List Stmt}{scope:Scope}{dV kV doc pm cdv ct oc:Value}{an od:Option Addr}
  {osl:Array (Option Value)}{N ps:List Str}{sp:SpS}(lk:K.lookup f=some ⟨oc,od,.func (PySem.W.fnOf name qual params body scope dV kV doc pm an cdv ct),osl⟩) (hcd:PySem.W.codeIn K cdv qual=true) (S:ZM N ps scope)
  (len:∀ s vs H Q,sp s vs H Q->vs.length=ps.length)
  (hbody:∀ (A:Around) (outer:List Env) (s:Shared) (H:Hp) (vs:List V) (Q:VK),Wx k (A.deeper (envOfC qual scope s.heap.objs.size f cdv))->sp s vs H Q->
   ∃ t,PSs (zfR CX0 P w K mg base N qual scope f cdv A outer s H E0) body t/\t { nx:=λ_ H' => Q .non H',rt:=Q } (start N vs) H):
  zaJ P w K mg base (k+1) f (PySem.W.fnOf name qual params body scope dV kV doc pm an cdv ct) ps sp:=by
 refine ⟨len,λA outer s H args us vs Q hr e0 hb r hsp=>?_⟩
 have hl:=len _ _ _ _ hsp
 have KX:K.In s.heap:=e0.mod.kin.keeps λb o e=>(e0.bs b o e).1
 have lim:s.heap.NoLimit:=e0.mod.nolimit.keeps λb o e=>(e0.bs b o e).1
 have hkind:∀ y∈ps.zip us,scope.names.lookup y.1=some .local\/(scope.names.lookup y.1=some .cell/\((cellsFrom (s.heap.objs.size+1) scope.names []).lookup y.1).isSome=true):=λ⟨n,v⟩ hy=>by
  rcases S.par n (List.of_mem_zip hy).1 with q | q
  ·exact .inl q
  ·exact .inr ⟨q,PySem.W.cellsFrom_some _ _ _ (.inl q)⟩
 refine codeAny_call_function hr.depth (KX _ _ lk) rfl S.co S.gen rfl (PySem.W.codeRec_of KX hcd) (hb _ _ _ _ ?_)
 refine wpAny_newFunctionEnv_cells S.kind hkind λenv he s1 x=>?_
 subst he
 refine ⟨lim.keeps x.toInCall.keep,codeAny_func ?_⟩
 obtain ⟨t,ht,hq⟩:=hbody A outer s H vs Q (hr.deeper _) hsp
 have I:Inv (zfR CX0 P w K mg base N qual scope f cdv A outer s H E0) [] (start N vs) H s1:=zcm S hr.hd e0 hl r x
 refine wpAny_mono (ht [] s1 (start N vs) H _ I hq) (λfl s' hs=>?_) λe s' hs=>hs
 have fin:∀ {σ' : St} {H' : Hp} {v:V}{u:Value},Inv (zfR CX0 P w K mg base N qual scope f cdv A outer s H E0) [] σ' H' s' -> RelV v u->Q v H' -> CE outer P w H s Q u s' :=
  λ{σ' H' v u} J rv q=>⟨v,H',J.os,J.bare,J.base,J.hok,rv,q⟩
 cases fl with
 | ret u=>
  obtain ⟨v,σ',H',J,rv,q⟩:=hs
  exact fin J rv q
 | next=>
  obtain ⟨σ',H',J,q⟩:=hs
  exact fin (v:=V.non) (u:=Value.none) J rfl q
 | brk=>
  obtain ⟨_,_,_,q⟩:=hs
  exact False.elim q
 | cont=>
  obtain ⟨_,_,_,q⟩:=hs
  exact False.elim q
section
variable {P:Program}{w:World}{K:PySem.W.Frag}{mg:Str->Option Value}{base:Heap}
theorem Fun.okS {x qual:Str}{st:Stmt}{f:Addr}{fd:FuncData}{N ps:List Str}{k:Nat}{sp:SpS}(F:Fun K x qual st f fd)(S:ZM N ps (Zm st))(len:∀ s vs H Q,sp s vs H Q->vs.length=ps.length)
  (hbody:∀ (cdv:Value) (A:Around) (outer:List Env) (s:Shared) (H:Hp) (vs:List V) (Q:VK),Wx k (A.deeper (envOfC qual (Zm st) s.heap.objs.size f cdv))->sp s vs H Q->
   ∃ t,PSs (zfR CX0 P w K mg base N qual (Zm st) f cdv A outer s H E0).nox (Y5 st) t/\t { nx:=λ_ H' => Q .non H',rt:=Q } (start N vs) H):zaJ P w K mg base (k+1) f fd ps sp:=by
 obtain ⟨oc,od,kV,doc,pm,an,cdv,ct,osl,rfl,lk,hcd⟩:=F.ex
 refine znt lk hcd S len λA outer s H vs Q hr hsp=>?_
 obtain ⟨t,h,q⟩:=hbody cdv A outer s H vs Q hr hsp
 exact ⟨t,h.nox,q⟩
theorem Fun.okC {x qual:Str}{st:Stmt}{f:Addr}{fd:FuncData}{N ps:List Str}{k:Nat}{sp:Sp}(F:Fun K x qual st f fd)(S:ZM N ps (Zm st))(len:∀ vs H Q E,sp vs H Q E->vs.length=ps.length)
  (hbody:∀ (cdv:Value) (A:Around) (outer:List Env) (s:Shared) (H:Hp) (vs:List V) (Q:VK) (E:XK),cdv=fd.code->Wx k (A.deeper (envOfC qual (Zm st) s.heap.objs.size f cdv))->sp vs H Q E->
   ∃ t,PSs (zfR CX0 P w K mg base N qual (Zm st) f cdv A outer s H E).nox (Y5 st) t/\t { nx:=λ_ H' => Q .non H',rt:=Q } (start N vs) H):Yi P w K mg base CX0 (k+1) f fd ps sp:=by
 obtain ⟨oc,od,kV,doc,pm,an,cdv,ct,osl,rfl,lk,hcd⟩:=F.ex
 refine zlV lk hcd S len λA outer s H vs Q E hr hsp=>?_
 obtain ⟨t,h,q⟩:=hbody cdv A outer s H vs Q E rfl hr hsp
 exact ⟨t,h.nox,q⟩
end
section
variable {X:Cx}{k i:Nat}{x:Str}{f:Addr}{q:Str}{params:Arguments}{body:Expr}{fr sc:Scope}{cl:List (Str×Addr)}{ps cap:List Str}{vals:St}{te:TE}{e:Expr}{es:List Expr}{t:TA}{p pos:Pos}
def znF (i:Nat)(f:Addr)(te:TE)(vals:St)(n:Nat)(t:TA):TE:=fun σ H Q=>σ[i]?=some (some (.ref f))/\t σ H λvs H1=>vs.length=n/\te (vs.map some++vals) H1 Q
theorem zhu {P:Program}{w:World}{H:Hp}{h:Heap}(ok:HOk P w H h)(L:V4 H f q params body sc cl):PySem.W.FnAt f h:=by
 obtain ⟨pm,ctv,c',oc,h1,_⟩:=L
 obtain ⟨ho,_⟩:=ok f _ h1
 exact ⟨_,_,_,_,ho⟩
theorem zh8 (hN:X.N[i]?=some x)(hv:Vis X.env.scope x)(hr:Wx (k+1) X.A)(hex:X.ex=[])(L:V4 X.H₀ f q params body sc cl)(C:CellsAre X.s₀ X.H₀ cl cap vals)(S:Y6 fr sc ps cap)(hcap:∀ y,sc.names.lookup y=some .free->∃ c,cl.lookup y=some c)
  (hbind:∀ (us:List Value),us.length=ps.length->∀ (pm ctv:Value) (c' : Addr),bindArgs (PySem.W.kla_fn "<lambda>" q params body sc cl pm (.ref c') ctv) ⟨us,[]⟩=pure (ps.zip us)) (hvl:vals.length=cap.length)
  (hbody:∀ A outer s H f c',Wx k (A.deeper (PySem.W.envX q sc s.heap.objs.size f (.ref c') cl))->PE (zcE X.prog X.w X.K X.mg X.base (ps++cap) q sc f c' cl A outer s H) body te) (ha:PA X (e::es) t)
  (hd:(x==("__debug__" : Str))=false:=by decide) (hcd:(x==("__classdict__" : Str))=false:=by decide) (he:starEach (e::es) X.env=(false,eval e X.env)::starEach es X.env:=by rfl) (hpl:(backTo pos (starEach es X.env)).any (·.1)=false:=by rfl):
  PE X (.Call (.Name x p) (e::es) [] pos) (znF i f te vals ps.length t):=by
 intro pins s σ H Q I h
 obtain ⟨eσ,h⟩:=h
 refine wpAny_Call_Name_kw (thn (zht hN hv hd hcd pins s σ H (λv H' => v = .ref f/\H'=H) I ⟨_,eσ,rfl,rfl⟩) λu s1 ⟨v,H1,I1,r,ev,eH⟩=>?_)
 subst ev eH
 obtain rfl:u=Value.ref f:=r
 have un:∀ {pins:List (Addr×Obj)}{σ:St}{H:Hp}{s:Shared},Inv X pins σ H s->Un X.fs [] X.H₀ H X.s₀.heap s.heap:=λ{pins σ H s} J=>by
  have:=J.base
  rw[hex] at this;exact this
 have Lm:∀ {pins:List (Addr×Obj)}{σ:St}{H:Hp}{s:Shared},Inv X pins σ H s->V4 H f q params body sc cl:=λJ=>L.same (un J).frzs
 refine PySem.W.callWith_F (zhu I1.hok (Lm I1)) (thn (ha pos pins s1 σ H1 _ I1 h) λus s2 ⟨vs,H2,I2,rv,hl,hq⟩=>⟨zhu I2.hok (Lm I2),?_⟩) he hpl
 refine wpAny_call (codeAny_mono (zgP (E:=E0) S hcap hr I2.env0 (Lm I2) (C.un (un I2)) (hbind us (by rw[← rv.length];exact hl)) hl hvl rv (λc' hr' => hbody _ _ _ _ _ c' hr') hq) λr s' hq' => ?_)
 cases r with
 | error e=>exact False.elim hq'
 | ok fl=>
  cases fl with
  | ret u=>exact I2.after hq'
  | next=>exact False.elim hq'
  | brk=>exact False.elim hq'
  | cont=>exact False.elim hq'
end
def hv (g:Nat->Bool)(lo hi:Nat):Nat:=if h:lo<hi then (if g ((lo+hi) / 2) then hv g ((lo+hi) / 2+1) hi else hv g lo ((lo+hi) / 2)) else lo
termination_by hi-lo
decreasing_by all_goals omega
theorem zog {g:Nat->Bool}{k:Nat}(lo hi:Nat)(h:∀ i,i<hi->(g i=true↔i<k))(h1:lo<=k)(h2:k<=hi):hv g lo hi=k:=by
 fun_induction hv g lo hi with
 | case1 lo hi hlt hg ih=>
  have:=(h _ (by omega)).mp hg
  exact ih h (by omega) h2
 | case2 lo hi hlt hg ih=>
  have:¬ (lo+hi) / 2<k:=λz=>hg ((h _ (by omega)).mpr z)
  exact ih (λi hi' => h i (by omega)) h1 (by omega)
 | case3 lo hi hlt=>omega
def znO (P:Program)(w:World)(K:PySem.W.Frag)(mg:Str->Option Value)(base:Heap)(kk:Nat):SpS:=λs vs H Q=>∃ (n:Nat) (f:Addr) (q:Str) (params:Arguments) (body:Expr) (fr sc:Scope) (cl:List (Str×Addr)) (y:Str) (cap:List Str) (vals:St) (te:TE) (g:Nat->Bool),
 vs=[.int n,.ref f]/\n<=10 ^ 6/\Y6 fr sc [y] cap/\(∀ y,sc.names.lookup y=some .free->∃ c,cl.lookup y=some c)/\V4 H f q params body sc cl/\CellsAre s H cl cap vals/\vals.length=cap.length/\
 (∀ (us:List Value),us.length=[y].length->∀ (pm ctv:Value) (c' : Addr),bindArgs (PySem.W.kla_fn "<lambda>" q params body sc cl pm (.ref c') ctv) ⟨us,[]⟩=pure ([y].zip us))/\
 (∀ A outer s H f c',Wx kk (A.deeper (PySem.W.envX q sc s.heap.objs.size f (.ref c') cl))->PE (zcE P w K mg base ([y]++cap) q sc f c' cl A outer s H) body te)/\
 (∀ i,i<n->Ev K te (some (.int (i:Nat))::vals) H (.bool (g i)))/\∀ H',ZL H H' -> Q (.int (hv g 0 n:Nat)) H'
def tMA (K:PySem.W.Frag)(P:Addr)(cr:Nat->Nat->Option Str)(js:List Nat)(t0 te:TE):TE:=fun σ H Q=>t0 σ H λv H1=>H1 P=some (.tbl cr)/\∃ (n:Nat) (g:Nat->Bool),v = .int (n:Nat)/\n<=10 ^ 6/\
 (∀ i,i<n->Ev K te (some (.int (i:Nat))::Jm σ js) H1 (.bool (g i)))/\∀ H',ZL H1 H' -> Q (.int (hv g 0 n:Nat)) H'
section
variable {X:Cx}{kk:Nat}{x y:Str}{f c P:Addr}{fd:FuncData}{cr:Nat->Nat->Option Str}{q:Str}{params:Arguments}{body e0:Expr}{sc:Scope}{cap:List Str}{t0 te:TE}{p pos lpos:Pos}
theorem zn9 (F:zaJ X.prog X.w X.K X.mg X.base (kk+3) f fd ["places", "lies_ahead"] (znO X.prog X.w X.K X.mg X.base kk))(hr:Wx (kk+3) X.A)(hg:Gl X x)(hm:X.mg x=some (.ref f))(hk:PySem.W.keepIn X.K (.ref f)=true)(hb:Binds X.K fd ["places", "lies_ahead"] [])
  (hxe:∀ e s,¬ X.xe e s) {js:List Nat}(S:Y6 X.env.scope sc [y] cap) (hjs:js.map (λj=>X.N[j]?)=cap.map some) (hcode:X.env.code = .ref c) (C:PySem.W.CodeHd X.base c P) (hbm:BM X.mg X.base) (hq:q=X.env.qual ++ "<lambda>") (hcr:cr lpos.line lpos.col=some q)
  (hbind:∀ (u pm ctv:Value) (c' : Addr) (cl:List (Str×Addr)),bindArgs (PySem.W.kla_fn "<lambda>" q params body sc cl pm (.ref c') ctv) ⟨[u],[]⟩=pure [(y,u)])
  (ha:PE X e0 t0)
  (hbody:∀ A outer s H f c' cl,Wx kk (A.deeper (PySem.W.envX q sc s.heap.objs.size f (.ref c') cl))->PE (zcE X.prog X.w X.K X.mg X.base ([y]++cap) q sc f c' cl A outer s H) body te)
  (hdef:defaultsOf params X.env=([],[]):=by rfl) (hdb:(x==("__debug__" : Str))=false:=by decide)
  (he:starEach [e0,.Lambda params body sc lpos] X.env=(false,eval e0 X.env)::starEach [.Lambda params body sc lpos] X.env:=by rfl) (he2:starEach [.Lambda params body sc lpos] X.env=(false,eval (.Lambda params body sc lpos) X.env)::starEach [] X.env:=by rfl)
  (hpl:(backTo pos (starEach [.Lambda params body sc lpos] X.env)).any (·.1)=false:=by rfl):
  PE X (.Call (.Name x p) [e0,.Lambda params body sc lpos] [] pos) (tMA X.K P cr js t0 te):=by
 intro pins s σ H Q I h
 refine wpAny_Call_Name_kw (U6 I hg hm ?_ hdb)
 have lenJ:js.length=cap.length:=by have:=congrArg List.length hjs;simpa using this
 refine PySem.W.callWith_K (h₀:=X.base) I.ok.mod.kin hk ?_ he hpl
 rw[he]
 show wpAny _ _ (spliced ((false,eval e0 X.env)::backTo pos (starEach [.Lambda params body sc lpos] X.env))) _ _ s
 refine Calls.spliced_cons (thn (ha pins s σ H _ I h) λu s1 ⟨v,H1,I1,r1,hP,n,g,e1,hn,hev,hQ⟩=>?_)
 subst e1
 refine thn (Za (zjg (c:=c) (cr:=cr) S hcode C hbm hq hcr hdef) Zf he2 pos pins s1 σ H1 (λvs H2=>∃ f,vs=[.ref f]/\ZL H1 H2/\V4 H2 f q params body sc (Jl X.env sc.names [])) I1 ⟨hP,λf H' hf sm L=>⟨f,rfl,sm,L⟩⟩) λus s2 ⟨vs,H2,I2,r2,f',e2,sm,L⟩=>⟨I2.kIn,?_⟩
 subst e2
 have hsp:znO X.prog X.w X.K X.mg X.base kk s2 [.int n,.ref f'] H2 Q:=⟨n,f',q,params,body,X.env.scope,sc,Jl X.env sc.names [],y,cap,Jm σ js,te,g,rfl,hn,S,λz hz=>by
   obtain ⟨c',hc'⟩:=Option.isSome_iff_exists.mp (WR (env:=X.env) (acc:=[]) (PySem.mem_of_lookup hz))
   exact ⟨c',hc'⟩,L,I2.zeR S hjs,by unfold Jm;rw[List.length_map,lenJ],λus hl=>match us,hl with | [u],_=>λpm ctv c' => hbind u pm ctv c' _,λA outer s H f c' hr' => hbody A outer s H f c' _ hr',λi hi=>(hev i hi).mono sm,λH' s' => hQ H' (sm.trans s')⟩
 have rr:Vals [.int (n:Nat),.ref f'] (u::us):=.cons r1 r2
 have hl:(u::us).length=["places", "lies_ahead"].length:=by rw[← rr.length];rfl
 have hb' := hb s2 (u::us) I2.kIn (by rw[List.append_nil];exact hl)
 rw[List.append_nil] at hb'
 refine wpAny_call (codeAny_mono (F.run X.A X.stack s2 H2 ⟨u::us,[]⟩ (u::us) _ Q hr I2.env0 hb' rr hsp) λr s' hq' => ?_)
 cases r with
 | error e=>exact False.elim hq'
 | ok fl=>
  cases fl with
  | ret u=>exact I2.after hq'
  | next=>exact False.elim hq'
  | brk=>exact False.elim hq'
  | cont=>exact False.elim hq'
end
theorem zol {K:PySem.W.Frag}{P:Addr}{cr:Nat->Nat->Option Str}{js:List Nat}{t0 te:TE}{σ:St}{G:Hp}{n:Nat}{g:Nat->Bool}(hP:G P=some (.tbl cr))(h0:Ev K t0 σ G (.int (n:Nat)))(hn:n<=10 ^ 6)(he:∀ i,i<n->Ev K te (some (.int (i:Nat))::Jm σ js) G (.bool (g i))):
  Ev K (tMA K P cr js t0 te) σ G (.int (hv g 0 n:Nat)):=λG1 H s1 s2 Q k=>h0 G1 H s1 s2 _ λv G2 H2 g2 hv2=>by
 have s:ZL G H2:=s1.trans (g2.gg.trans g2.gh)
 refine ⟨s _ _ hP,n,g,hv2.int,hn,λi hi=>(he i hi).mono s,λH' sH=>k _ G2 H' (g2.trans (zeT g2.gh sH)) (Zv _)⟩
end L2
namespace L2
open PySem PySem.Spec PyProof.Rows
theorem Q8 {β:Type}{a:Addr}{b:β}:∀ {l:List (Addr×β)},l.lookup a=some b->(a,b)∈l
 | [],h=>by simp at h
 | (z,v)::l,h=>by
  rw[List.lookup_cons] at h
  cases hb:a==z with
  | true=>
   rw[hb] at h
   have:a=z:=by simpa using hb
   cases h;subst this;exact List.mem_cons_self
  | false=>rw[hb] at h;exact List.mem_cons_of_mem _ (Q8 h)
theorem zeK {β:Type}{a:Addr}{b:β}:∀ {l:List (Addr×β)},(l.map (·.1)).Nodup->(a,b)∈l->l.lookup a=some b
 | [],_,h=>by simp at h
 | (z,v)::l,nd,h=>by
  rw[List.lookup_cons]
  rw[List.map_cons,List.nodup_cons] at nd
  rcases List.mem_cons.mp h with e | h
  ·cases e;simp
  ·have:a≠z:=λe=>nd.1 (e ▸ List.mem_map_of_mem (f:=(·.1)) h)
   have hb:(a==z)=false:=by simpa using this
   rw[hb]
   exact zeK nd.2 h
structure Bs (K:PySem.W.Frag)(mg:Str->Option Value)(base:Heap):Prop where
 kin:K.In base
 bm:BM mg base
abbrev zny:=List (Addr×(Nat->Nat->Option Str))
def zeF (H:Hp)(tabs:zny):Prop:=∀ p∈tabs,H p.1=some (.tbl p.2)
theorem zgj {P:Program}{w:World}{K:PySem.W.Frag}{mg mb:Str->Option Value}{k:Nat}{fa a:Addr}{fd:FuncData}{x:Str}{sp:Sp}{s₁:Shared}{vs:List Value}{ns:List Int}(tabs:zny)
  (KX:K.In s₁.heap) (hns:s₁.heap.Ns mainGlobals mg) (hb:s₁.heap.Ns builtinsNs mb) (hbb:∀ x:Str,x≠ "__name__" -> mb x=bootBuiltins x) (hlim:s₁.heap.NoLimit) (hg:s₁.gens = #[])
  (ha:s₁.heap.get? a=some { cls:=.type "list",data:=.seq vs.toArray }) (hi:IntsAre vs ns) (hl:ns.length<=sizeLine) (hr:Wx k callerA)
  (hbm:BM mg s₁.heap) (hT:∀ p∈tabs,s₁.heap.get? p.1=some { cls:=.none,data:=.fields #[] }) (hIs:∀ p∈tabs,isCodeTable s₁.heap p.1) (hKt:∀ p∈tabs,K.lookup p.1=none) (hnd:(tabs.map (·.1)).Nodup)
  (F:∀ base:Heap,K.In base->base.Ns mainGlobals mg->Bs K mg base->Yi P w K mg base CX0 k fa fd [x] sp) (hbind:∀ (s:Shared) (u:Value),BindsTo s fd ⟨[u],[]⟩ [(x,u)])
  (hsp:∀ H:Hp,zeF H tabs->SqL K H a (ns.map V.int)->sp [.ref a] H (λv _=>v = .bl true) λ_ _ _=>False):
  codeAny (model P w) callerA (.call (.ref fa) ⟨[.ref a],[]⟩) (λr s' => r = .ok (.ret (.bool true))/\OldK s₁.heap s'.heap/\s'.os=s₁.os/\AllBare s'.gens) s₁:=by
 have rv:=zcg hi
 have lenV:=hi.length
 have core:∀ H:Hp,zeF H tabs->SqL K H a (ns.map V.int)->HOk P w H s₁.heap->(∀ b,H b≠none->(b=a/\∃ o xs,H b=some (.frz o (.lst xs)))\/∃ p∈tabs,p.1=b)->(H a≠none->K.lookup a=none)->
   codeAny (model P w) callerA (.call (.ref fa) ⟨[.ref a],[]⟩) (λr s' => r = .ok (.ret (.bool true))/\OldK s₁.heap s'.heap/\s'.os=s₁.os/\AllBare s'.gens) s₁:=by
  intro H hTb hS hok hA hK
  have base_of:∀ {b:Addr}{o:Obj},s₁.heap.get? b=some o->H b=none->(zhJ s₁.heap H).get? b=some o:=λe n=>ziY e n
  have noT:∀ {b:Addr}{o:Obj},s₁.heap.get? b=some o->(∀ vs n,o.data≠.seq vs n)->(∀ vs,o.data≠.fields vs)->H b=none:=λ{b o} e d1 d2=>by
   cases q:H b with
   | none=>rfl
   | some u=>
    rcases hA b (by rw[q];simp) with ⟨e',_⟩ | ⟨p,hp,e'⟩
    ·subst e'
     rw[ha] at e;cases e
     exact absurd rfl (d1 _ _)
    ·subst e'
     rw[hT p hp] at e;cases e
     exact absurd rfl (d2 _)
  have noA:∀ {b:Addr}{o:Obj}{es:Array DictEntry}{ep:Nat},s₁.heap.get? b=some o->o.data = .dict es ep->H b=none:=λ{b o es ep} e d=>noT e (λvs n z=>by rw[d] at z;cases z) λvs z=>by rw[d] at z;cases z
  have nsK:∀ {b:Addr}{m:Str->Option Value},s₁.heap.Ns b m->(zhJ s₁.heap H).Ns b m:=λ{b m} ⟨o,es,ep,e,d,r⟩=>⟨o,es,ep,base_of e (noA e d),d,r⟩
  have hKb:K.In (zhJ s₁.heap H):=λb o e=>base_of (KX b o e) (by
   cases q:H b with
   | none=>rfl
   | some u=>
    rcases hA b (by rw[q];simp) with ⟨e',_⟩ | ⟨p,hp,e'⟩
    ·subst e'
     rw[hK (by rw[q];simp)] at e;cases e
    ·subst e'
     rw[hKt p hp] at e;cases e)
  have hBs:Bs K mg (zhJ s₁.heap H):=⟨hKb,by
   obtain ⟨bm,ob,b1,b2,b3,b4,b5,b6⟩:=hbm
   exact ⟨bm,ob,b1,b2,base_of b3 (noT b3 (λvs n z=>by rw[b6] at z;cases z) λvs z=>by rw[b6] at z;cases z),b4,b5,b6⟩⟩
  have hM:Mod K mg (zhJ s₁.heap H):=⟨hKb,nsK hns,⟨mb,nsK hb,hbb⟩,let ⟨mc,h1,h2⟩:=hlim;⟨mc,nsK h1,h2⟩⟩
  have e0:zfU P w K mg (zhJ s₁.heap H) callerA [] s₁ H:=⟨rfl,hM,λb o e=>zli e,Nat.le_of_eq (zgr _ _),trivial,λb hb=>absurd (show b∈([]:List Addr) from hb) (by simp),hok,.of_eq hg⟩
  refine codeAny_mono ((F _ hKb (nsK hns) hBs).run callerA [] s₁ H ⟨[.ref a],[]⟩ [.ref a] [.ref a] _ _ hr e0 (hbind s₁ (.ref a)) (.cons rfl .nil) (hsp H hTb hS)) λr s' h=>?_
  cases r with
  | error e=>exact False.elim h
  | ok fl=>
   cases fl with
   | next=>exact False.elim h
   | brk=>exact False.elim h
   | cont=>exact False.elim h
   | ret u=>
    obtain ⟨v,H',os,bare,un,hok',r',q⟩:=h
    have q' : v = .bl true:=q
    subst q'
    obtain rfl:u=Value.bool true:=r'
    refine ⟨rfl,⟨λb o e=>?_,λb o e=>un.there b o e (by simp)⟩,os,bare⟩
    cases q:H b with
    | none=>exact .inl (un.keep b o e q (by intro z;exact absurd (show b∈([]:List Addr) from z) (by simp)) (by simp))
    | some u=>
     rcases hA b (by rw[q];simp) with ⟨e',ob,xs,z⟩ | ⟨p,hp,e'⟩
     ·have z2:=un.frzs b ob _ z
      obtain ⟨e1,_⟩:=hok b _ z
      obtain ⟨e2,_⟩:=hok' b _ z2
      rw[e] at e1;cases e1
      exact .inl e2
     ·subst e'
      have z:=un.tbls _ _ (hTb p hp)
      obtain ⟨ps,e1,_⟩:=hok' _ _ z
      rw[hT p hp] at e;cases e
      exact .inr (.inl ⟨hIs p hp,rfl,#[],ps,rfl,by rw[Array.empty_append];exact e1⟩)
 have hpa:∀ p∈tabs,p.1≠a:=λp hp z=>by
  have:=hT p hp
  rw[z,ha] at this;cases this
 have tl:∀ p∈tabs,tabs.lookup p.1=some p.2:=λp hp=>zeK hnd hp
 have okT:∀ (H:Hp) (b:Addr) (cr:Nat->Nat->Option Str),tabs.lookup b=some cr->YJ P w H s₁.heap b (.tbl cr):=λH b cr e=>
  ⟨#[],hT (b,cr) (Q8 e),trivial,λpos v z=>by cases z⟩
 cases hk:K.lookup a with
 | some o=>
  have e:=KX a o hk
  rw[ha] at e
  cases e
  refine core (λb=>(tabs.lookup b).map HO.tbl) (λp hp=>by show (tabs.lookup p.1).map HO.tbl=_;rw[tl p hp];rfl) (.inr ⟨_,vs.toArray,_,hk,rfl,rfl,rfl,by rw[List.size_toArray,lenV];exact hl,by simpa using rv⟩) (λb u z=>?_) (λb z=>?_) λz=>?_
  ·obtain ⟨cr,e1,e2⟩:=Option.map_eq_some_iff.mp z
   subst e2
   exact okT _ b cr e1
  ·replace z:(tabs.lookup b).map HO.tbl≠none:=z
   cases e:tabs.lookup b with
   | none=>rw[e] at z;exact absurd rfl z
   | some cr=>exact .inr ⟨_,Q8 e,rfl⟩
  ·replace z:(tabs.lookup a).map HO.tbl≠none:=z
   cases e:tabs.lookup a with
   | none=>rw[e] at z;exact absurd rfl z
   | some cr=>exact absurd rfl (hpa _ (Q8 e))
 | none=>
  refine core (λb=>if b=a then some (.frz { cls:=.type "list",data:=.seq vs.toArray } (.lst (ns.map V.int))) else (tabs.lookup b).map HO.tbl) (λp hp=>?_) (.inl (.inr ⟨{ cls:=.type "list",data:=.seq vs.toArray },if_pos rfl⟩)) (λb u z=>?_) (λb z=>?_) λ_=>hk
  ·show (if p.1=a then _ else (tabs.lookup p.1).map HO.tbl)=_
   rw[if_neg (hpa p hp),tl p hp];rfl
  ·by_cases hb:b=a
   ·have z' := (if_pos hb).symm.trans z
    cases z'
    subst hb
    exact ⟨ha,by rw[List.length_map];exact hl,vs,_,rv,ha⟩
   ·have z' := (if_neg hb).symm.trans z
    obtain ⟨cr,e1,e2⟩:=Option.map_eq_some_iff.mp z'
    subst e2
    exact okT _ b cr e1
  ·by_cases hb:b=a
   ·exact .inl ⟨hb,_,_,if_pos hb⟩
   ·replace z:(if b=a then _ else (tabs.lookup b).map HO.tbl)≠none:=z
    rw[if_neg hb] at z
    cases e:tabs.lookup b with
    | none=>rw[e] at z;exact absurd rfl z
    | some cr=>exact .inr ⟨_,Q8 e,rfl⟩
theorem zi4 {l:PySem.W.OpenLaw}{n k:Nat}{q:Program}{loose:List Str}{XP:(Str->Option Value)->Heap->Prop}{YP:World->Heap->Prop}{d:DefRec}{K:Params->PySem.W.Frag}{sp:World->Sp}{x:Str}(tabs:World->zny)
  (hn:l.most=some n) (hn2:n<=sizeLine) (hdf:d.params.defaults=[]) (hr:Wx k callerA)
  (hY:∀ (w:World) (h:Heap),YP w h->(K w.params).In h/\∀ p∈tabs w,h.get? p.1=some { cls:=.none,data:=.fields #[] })
  (F:∀ (w:World) (mg:Str->Option Value) (fa:Addr) (h:Heap),(K w.params).In h->h.Ns mainGlobals mg->mg d.name=some (.ref fa)->
   ∃ fd:FuncData,(∀ (s:Shared) (u:Value),BindsTo s fd ⟨[u],[]⟩ [(x,u)])/\((∀ p∈tabs w,(K w.params).lookup p.1=none)/\(∀ p∈tabs w,isCodeTable h p.1)/\((tabs w).map (·.1)).Nodup)/\
    ∀ base:Heap,(K w.params).In base->base.Ns mainGlobals mg->Bs (K w.params) mg base->Yi l.prog w (K w.params) mg base CX0 k fa fd [x] (sp w))
  (hsp:∀ (w:World) (H:Hp) (a:Addr) (ns:List Int),ns.length<=n->zeF H (tabs w)->SqL (K w.params) H a (ns.map V.int)->sp w [.ref a] H (λv _=>v = .bl true) λ_ _ _=>False):
  PySem.W.WalkO q loose XP YP l.row.toRowW d [] (λf vs=>PySem.call f vs):=by
 refine Att.zdr hn hdf λw s₀ s₁ mg mb fa o pm cd doc a vs ns G Y ho hd hcd hmg hobj hints hlen hg=>?_
 obtain ⟨KX,hT⟩:=hY w _ Y
 obtain ⟨fd,hb,⟨h1,h2,h3⟩,hF⟩:=F w mg fa _ KX G.T.g hmg
 exact zgj (tabs w) KX G.T.g G.T.b G.T.builtins G.T.nolimit hg hobj hints (Nat.le_trans hlen hn2) hr G.T.bmain hT h2 h1 h3 hF hb (λH hO hS=>hsp w H a ns hlen hO hS)
def zen (K:PySem.W.Frag)(tabs:zny):Sp:=λvs H Q _=>∃ (a:Addr) (ns:List Int),vs=[.ref a]/\SqL K H a (ns.map V.int)/\ns.length<=63/\zeF H tabs/\∀ H',Q (.bl true) H'
theorem zbA {K:PySem.W.Frag}{h:Heap}{c P:Addr}(X:K.In h)(e:PySem.W.codeHdIn K c P=true):isCodeTable h P:=by
 obtain ⟨o,vs,file,tf,flags,tg,inF,text,tt,e1,e2,e3,e4,_⟩:=PySem.W.codeHd_of_K X e
 exact ⟨c,o,vs,e1,e2,e3,e4⟩
end L2
namespace L2
open PySem PySem.Spec PyProof.Rows
theorem Jr:∀ (names:List (Str×NameKind))(n:Nat)(a b:List (Str×Addr)),cellsFrom n names (a++b)=cellsFrom n names a++b
 | [],_,_,_=>rfl
 | (x,k)::r,n,a,b=>by
  unfold cellsFrom
  split
  ·rw[← List.cons_append];exact Jr r (n+1) _ b
  ·exact Jr r n a b
theorem Jj {α:Type}{y:Str}{l m:List (Str×α)}:(l++m).lookup y=(l.lookup y).or (m.lookup y):=by
 induction l with
 | nil=>simp
 | cons p r ih=>
  obtain ⟨z,v⟩:=p
  rw[List.cons_append,List.lookup_cons,List.lookup_cons]
  split
  ·simp
  ·exact ih
theorem za3 {α:Type}{f g:α->PUnit->Sem (ForInStep PUnit)}:∀ (l:List α),(∀ x∈l,f x ⟨⟩=g x ⟨⟩)->forIn l PUnit.unit f=forIn l PUnit.unit g
 | [],_=>rfl
 | x::l,h=>by
  rw[List.forIn_cons,List.forIn_cons,h x List.mem_cons_self]
  congr 1
  funext r
  cases r with
  | done b=>rfl
  | yield b=>exact za3 l λy hy=>h y (List.mem_cons_of_mem _ hy)
theorem ze0 {e e' : Env}{n:Str}{v:Value}(h1:e.scope=e'.scope)(h2:e.locals=e'.locals)(h3:e.globals=e'.globals)(h4:e.cells.lookup n=e'.cells.lookup n):storeName e n v=storeName e' n v:=by
 unfold storeName
 have k1:e.kindOf n=e'.kindOf n:=by unfold Env.kindOf;rw[h1]
 have k2:e.blockKind=e'.blockKind:=by unfold Env.blockKind;rw[h1]
 have k3:cellOf e n=cellOf e' n:=by unfold cellOf;rw[h4]
 have k4:localSet e n v=localSet e' n v:=by unfold localSet;rw[h2]
 rw[k1,k2,k3,k4,h1,h2,h3]
section
variable {M:Model}{A:Around}{E:Value->Shared->Prop}{s:Shared}
theorem zdZ {scope:Scope}{globals:Addr}{cl:List (Str×Addr)}{binds:List (Str×Value)}{qual:Str}{func:Option Addr}{code:Value}{builtins:Addr}{Q:Env->Shared->Prop}(hk:scope.kind = .function)
  (hkind:∀ x∈binds,scope.names.lookup x.1=some .local\/(scope.names.lookup x.1=some .cell/\((cellsFrom (s.heap.objs.size+1) scope.names []).lookup x.1).isSome=true))
  (hcl:∀ x∈binds,scope.names.lookup x.1=some .local->cl.lookup x.1=none)
  (hQ:∀ env',env'=newEnv scope s.heap.objs.size globals (cellsFrom (s.heap.objs.size+1) scope.names []) qual func code none builtins->∀ s',InCallC s env'.locals (bindL env'.kindOf binds λ_=>none) env'.cells (bindC env'.kindOf binds λ_=>none) s' ->
   Q (newEnv scope s.heap.objs.size globals (cellsFrom (s.heap.objs.size+1) scope.names []++cl) qual func code none builtins) s'):
  wpAny M A (newFunctionEnv scope globals cl binds qual func code none builtins) Q E s:=by
 simp only[newFunctionEnv,Option.isSome_none,Bool.false_eq_true,if_false]
 refine wpAny_bind (wpAny_alloc ?_)
 refine wpAny_bind (wpAny_layCells _ (λname kind cells=>by cases hkc:kind==NameKind.cell <;> simp[hkc]) _ _ _ _ ?_)
 have ok:=cellsFrom_ok scope.names (s.heap.push { cls:=.type "frame",data:=.dict #[] }) (s.heap.objs.size+1) [] ⟨λ_ _ hm=>(nomatch hm),List.Pairwise.nil⟩ (by rw[Heap.size_push];exact Nat.le_refl _)
 rw[Heap.size_push] at ok
 rw[show ({ s with heap:=s.heap.push { cls:=.type "frame",data:=.dict #[] } }:Shared).heap.objs.size=s.heap.objs.size+1 from Heap.size_push ..]
 rw[show cellsFrom (s.heap.objs.size+1) scope.names cl=cellsFrom (s.heap.objs.size+1) scope.names []++cl from Jr _ _ [] cl]
 refine wpAny_bind ?_
 rw[za3 (g:=λ(x:Str×Value) _=>do storeName (newEnv scope s.heap.objs.size globals (cellsFrom (s.heap.objs.size+1) scope.names []) qual func code none builtins) x.1 x.2;pure (.yield ⟨⟩)) binds λx hx=>?_]
 ·refine wpAny_bindParams (s₀:=s) (env:=newEnv scope s.heap.objs.size globals (cellsFrom (s.heap.objs.size+1) scope.names []) qual func code none builtins)
   _ (λ_ _ _=>rfl) hk binds (λ_=>none) (λ_=>none) _ _
   ⟨⟨⟨_,_,rfl⟩,(Heap.Ns.new s.heap (.type "frame")).keeps (pushCells_keeps _ _),λb o e=>pushCells_keeps _ _ b o (Heap.get?_push_of_some _ e),Nat.le_refl _⟩,
    λn c hc=>(ok.empty n c (mem_of_lookup hc)).1,ok.apart,λn c hm=>(ok.empty n c hm).2⟩
   hkind λs' x=>wpAny_pure (hQ _ rfl s' x)
 ·have e:storeName (newEnv scope s.heap.objs.size globals (cellsFrom (s.heap.objs.size+1) scope.names []++cl) qual func code none builtins) x.1 x.2=storeName (newEnv scope s.heap.objs.size globals (cellsFrom (s.heap.objs.size+1) scope.names []) qual func code none builtins) x.1 x.2:=by
   refine ze0 rfl rfl rfl ?_
   show (cellsFrom (s.heap.objs.size+1) scope.names []++cl).lookup x.1=(cellsFrom (s.heap.objs.size+1) scope.names []).lookup x.1
   rw[Jj]
   rcases hkind x hx with h | ⟨_,h⟩
   ·rw[hcl x hx h];simp
   ·obtain ⟨c,hc⟩:=Option.isSome_iff_exists.mp h
    rw[hc];rfl
  exact congrArg (λm:Sem Unit=>m >>= λ_=>(pure (ForInStep.yield PUnit.unit):Sem (ForInStep PUnit))) e
end
theorem Vl {y:Str}{c:Addr}:∀ {names:List (Str×NameKind)}{n:Nat}{acc:List (Str×Addr)},(y,c)∈cellsFrom n names acc->(y,NameKind.cell)∈names\/(y,c)∈acc
 | [],_,_,h=>.inr h
 | (x,k)::r,n,acc,h=>by
  unfold cellsFrom at h
  split at h
  ·rename_i hk
   have hk' : k = .cell:=by simpa using hk
   rcases Vl h with a | a
   ·exact .inl (List.mem_cons_of_mem _ a)
   ·rcases List.mem_cons.mp a with e | a
    ·cases e;rw[hk'];exact .inl List.mem_cons_self
    ·exact .inr a
  ·rcases Vl h with a | a
   ·exact .inl (List.mem_cons_of_mem _ a)
   ·exact .inr a
structure Xi (fr sc:Scope)(ps loc cap:List Str):Prop where
 kind:sc.kind = .function
 co:sc.isCoroutine=false
 gen:sc.isGenerator=false
 par:∀ y∈ps,sc.names.lookup y=some .local\/sc.names.lookup y=some .cell
 free:∀ p∈sc.names,p.2 = .free->fr.names.lookup p.1=some .cell
 caps:∀ y∈cap,(y,NameKind.free)∈sc.names
 capl:∀ y∈cap,sc.names.lookup y=some .free
 nd:(ps++loc++cap).Nodup
 ndn:(sc.names.map (·.1)).Nodup
def VB (H:Hp)(f:Addr)(name q:Str)(params:Arguments)(body:List Stmt)(sc:Scope)(cl:List (Str×Addr)):Prop:=
 ∃ (doc pm ctv:Value) (c' : Addr) (oc:Obj),H f=some (.frz (PySem.W.fnMade name q params body sc cl doc pm c' ctv) (.own f))/\H c'=some (.frz oc (.own c'))/\zeO oc q
theorem VB.same {H H' : Hp}{f:Addr}{name q:Str}{params:Arguments}{body:List Stmt}{sc:Scope}{cl:List (Str×Addr)}(L:VB H f name q params body sc cl)(k:∀ b o u,H b=some (.frz o u)->H' b=some (.frz o u)):VB H' f name q params body sc cl:=
 let ⟨doc,pm,ctv,c',oc,h1,h2,h3⟩:=L;⟨doc,pm,ctv,c',oc,k _ _ _ h1,k _ _ _ h2,h3⟩
theorem VB.fnAt {P:Program}{w:World}{H:Hp}{h:Heap}{f:Addr}{name q:Str}{params:Arguments}{body:List Stmt}{sc:Scope}{cl:List (Str×Addr)}(ok:HOk P w H h)(L:VB H f name q params body sc cl):PySem.W.FnAt f h:=by
 obtain ⟨doc,pm,ctv,c',oc,h1,_⟩:=L
 obtain ⟨ho,_⟩:=ok f _ h1
 exact ⟨_,_,_,_,ho⟩
def zkq (q:Str)(sc:Scope)(L f:Addr)(cd:Value)(cl:List (Str×Addr)):Env:=PySem.W.envX q sc L f cd (cellsFrom (L+1) sc.names []++cl)
def zaQ (P:Program)(w:World)(K:PySem.W.Frag)(mg:Str->Option Value)(base:Heap)(N:List Str)(q:Str)(sc:Scope)(f c' : Addr)(cl:List (Str×Addr))(A:Around)(outer:List Env)(s:Shared)(H:Hp):Cx where
 prog:=P
 w:=w
 K:=K
 mg:=mg
 base:=base
 A:=A.deeper (zkq q sc s.heap.objs.size f (.ref c') cl)
 N:=N
 s₀:=s
 H₀:=H
 env:=zkq q sc s.heap.objs.size f (.ref c') cl
 outer:=outer
 stack:=zkq q sc s.heap.objs.size f (.ref c') cl::outer
 ex:=[]
 calm:=true
 fn:=λy=>match sc.names.lookup y with | some .free=>false | _=>true
 pn:=[]
 xe:=λ_ _=>False
section
variable {P:Program}{w:World}{K:PySem.W.Frag}{mg:Str->Option Value}{base:Heap}{A:Around}{outer:List Env}{s:Shared}{H:Hp}{f:Addr}{name q:Str}{params:Arguments}{body:List Stmt}{fr sc:Scope}{cl:List (Str×Addr)}{ps loc cap:List Str}
theorem zkM {c' : Addr}{us:List Value}{vs:List V}{vals:St}{s1:Shared}(S:Xi fr sc ps loc cap)(hcap:∀ y,sc.names.lookup y=some .free->∃ c,cl.lookup y=some c)(hclp:∀ y c,cl.lookup y=some c->sc.names.lookup y=some .free)(hd:A.handled=none)(e0:zfU P w K mg base A outer s H)(hl:vs.length=ps.length)(hv:vals.length=cap.length)(r:Vals vs us)(C:CellsAre s H cl cap vals)
  (x:InCallC s s.heap.objs.size (bindL (envOfC q sc s.heap.objs.size f (.ref c')).kindOf (ps.zip us) λ_=>none) (cellsFrom (s.heap.objs.size+1) sc.names []) (bindC (envOfC q sc s.heap.objs.size f (.ref c')).kindOf (ps.zip us) λ_=>none) s1):
  Inv (zaQ P w K mg base (ps++loc++cap) q sc f c' cl A outer s H) [] (vs.map some++List.replicate loc.length none++vals) H s1:=by
 obtain ⟨h1,tk,rfl,hk⟩:=x.done
 have noA:∀ b:Addr,b∉(zaQ P w K mg base (ps++loc++cap) q sc f c' cl A outer s H).ex:=λb z=>absurd (show b∈([]:List Addr) from z) (by simp)
 have ndp:ps.Nodup:=(List.nodup_append.mp (List.nodup_append.mp S.nd).1).1
 have clt:∀ y c,cl.lookup y=some c->c<s.heap.objs.size:=λy c h=>by
  obtain ⟨⟨v,o,ho,_⟩,_⟩:=C.isc y c h
  exact Heap.lt_size ho
 have cgt:∀ y c,(cellsFrom (s.heap.objs.size+1) sc.names []).lookup y=some c->s.heap.objs.size<c:=λy c h=>x.above y c (PySem.mem_of_lookup h)
 have two:∀ y c,(zaQ P w K mg base (ps++loc++cap) q sc f c' cl A outer s H).env.cells.lookup y=some c->(cellsFrom (s.heap.objs.size+1) sc.names []).lookup y=some c\/((cellsFrom (s.heap.objs.size+1) sc.names []).lookup y=none/\cl.lookup y=some c):=λy c h=>by
  have h:(cellsFrom (s.heap.objs.size+1) sc.names []++cl).lookup y=some c:=h
  rw[Jj] at h
  cases e:(cellsFrom (s.heap.objs.size+1) sc.names []).lookup y with
  | some c2=>rw[e] at h;exact .inl h
  | none=>rw[e] at h;exact .inr ⟨rfl,by simpa using h⟩
 refine ⟨⟨e0.mod,S.kind,rfl,rfl,Nat.le_refl _,λy z c h1 h2=>?_,λy hy=>?_,λy c hf h=>?_,λ_=>hd,Around.frames_deeper e0.frames,.inr ⟨rfl,rfl⟩,λb z=>absurd z (noA b),e0.bs,e0.bsz,λb _ _=>noA b,λb z=>absurd z (noA b),e0.zdu,e0.frf⟩,
  rfl,e0.bare,Un.kept hk,⟨_,x.toInCall.ns,λi y v h1 h2 h3=>?_⟩,λy c h=>?_,e0.hok.fresh (Nat.le_refl _),λy c h=>?_,λp hp=>absurd (show p∈([]:List (Addr×Obj)) from hp) (by simp),e0.hok.kept hk,?_⟩
 ·rcases two y c h1 with a | ⟨_,a⟩ <;> rcases two z c h2 with b | ⟨_,b⟩
  ·exact name_of_addr x.apart (PySem.mem_of_lookup a) (PySem.mem_of_lookup b)
  ·exact absurd (Nat.lt_trans (cgt y c a) (clt z c b)) (Nat.lt_irrefl _)
  ·exact absurd (Nat.lt_trans (cgt z c b) (clt y c a)) (Nat.lt_irrefl _)
  ·exact C.inj y z c a b
 ·have hy:sc.names.lookup y=some .cell\/sc.names.lookup y=some .free:=hy
  show ∃ c,(cellsFrom (s.heap.objs.size+1) sc.names []++cl).lookup y=some c
  rw[Jj]
  rcases hy with hy | hy
  ·obtain ⟨c,e⟩:=Ug (n:=s.heap.objs.size+1) hy
   exact ⟨c,by rw[e];rfl⟩
  ·obtain ⟨c,e⟩:=hcap y hy
   cases e2:(cellsFrom (s.heap.objs.size+1) sc.names []).lookup y with
   | some c2=>exact ⟨c2,rfl⟩
   | none=>exact ⟨c,by rw[e];rfl⟩
 ·have hf:(match sc.names.lookup y with | some .free=>false | _=>true)=true:=hf
  rcases two y c h with a | ⟨_,a⟩
  ·exact Nat.le_of_lt (cgt y c a)
  ·rw[hclp y c a] at hf;cases hf
 ·have h1:(ps++loc++cap)[i]?=some y:=h1
  have lr:(List.replicate loc.length (none:Option V)).length=loc.length:=List.length_replicate
  by_cases hi:i<ps.length
  ·have hp:ps[i]?=some y:=by
    rw[List.append_assoc,List.getElem?_append_left hi] at h1;exact h1
   have ha:vs[i]?=some v:=by
    rw[List.append_assoc,List.getElem?_append_left (by rw[List.length_map];omega),List.getElem?_map] at h2
    cases e:vs[i]? with
    | none=>rw[e] at h2;cases h2
    | some a=>rw[e] at h2;cases h2;rfl
   obtain ⟨u,hu,rv⟩:=r.get ha
   refine ⟨u,rv,?_⟩
   rcases S.par y (List.mem_of_getElem? hp) with k | k
   ·exact .inl ⟨k,zaj ndp hp hu k⟩
   ·obtain ⟨c,e⟩:=Ug (n:=s.heap.objs.size+1) k
    refine .inr ⟨.inl k,c,?_,?_⟩
    ·show (cellsFrom (s.heap.objs.size+1) sc.names []++cl).lookup y=some c
     rw[Jj,e];rfl
    ·have q' := x.cell y c e
     rw[zaz ndp hp hu (by show sc.names.lookup y≠_;rw[k];decide)] at q'
     exact q'
  ·by_cases hi2:i<ps.length+loc.length
   ·rw[List.getElem?_append_left (by rw[List.length_append,List.length_map,lr];omega),List.getElem?_append_right (by rw[List.length_map];omega),List.getElem?_replicate] at h2
    split at h2 <;> cases h2
   ·have hc:cap[i-(ps++loc).length]?=some y:=by
     rw[List.getElem?_append_right (by rw[List.length_append];omega)] at h1;exact h1
    have ha:vals[i-(ps++loc).length]?=some (some v):=by
     rw[List.getElem?_append_right (by rw[List.length_append,List.length_map,lr];omega)] at h2
     rw[List.length_append,List.length_map,lr,hl] at h2
     rw[List.length_append];exact h2
    obtain ⟨c,u,e1,e2,rv⟩:=C.val _ y v hc ha
    obtain ⟨o,ho,hd'⟩:=e2
    refine ⟨u,rv,.inr ⟨.inr (S.capl y (List.mem_of_getElem? hc)),c,?_,o,hk _ _ ho,hd'⟩⟩
    show (cellsFrom (s.heap.objs.size+1) sc.names []++cl).lookup y=some c
    have hn:(cellsFrom (s.heap.objs.size+1) sc.names []).lookup y=none:=by
     cases e3:(cellsFrom (s.heap.objs.size+1) sc.names []).lookup y with
     | none=>rfl
     | some c3=>
      have:=(Vl (PySem.mem_of_lookup e3)).resolve_right (by simp)
      have k:=S.capl y (List.mem_of_getElem? hc)
      have k2:=lookup_mem S.ndn this
      rw[k] at k2;cases k2
    rw[Jj,hn,e1];rfl
 ·rcases two y c h with a | ⟨_,a⟩
  ·exact ⟨_,x.cell y c a⟩
  ·obtain ⟨⟨v,o,ho,hd'⟩,_⟩:=C.isc y c a
   exact ⟨v,o,hk _ _ ho,hd'⟩
 ·rcases two y c h with a | ⟨_,a⟩
  ·exact e0.hok.fresh (Nat.le_of_lt (cgt y c a))
  ·exact (C.isc y c a).2
 ·show (vs.map some++List.replicate loc.length none++vals).length=(ps++loc++cap).length
  rw[List.length_append,List.length_append,List.length_append,List.length_append,List.length_map,List.length_replicate,hl,hv]
end
end L2
namespace L2
open PySem PySem.Spec PyProof.Rows
section
variable {P:Program}{w:World}{K:PySem.W.Frag}{mg:Str->Option Value}{base:Heap}{A:Around}{outer:List Env}{s:Shared}{H:Hp}{f:Addr}{name q:Str}{params:Arguments}{body:List Stmt}{fr sc:Scope}{cl:List (Str×Addr)}{ps loc cap:List Str}
theorem zkK {k:Nat}{us:List Value}{vs:List V}{vals:St}{Q:VK}(S:Xi fr sc ps loc cap)(hcap:∀ y,sc.names.lookup y=some .free->∃ c,cl.lookup y=some c)(hclp:∀ y c,cl.lookup y=some c->sc.names.lookup y=some .free)(hr:Wx (k+1) A)(e0:zfU P w K mg base A outer s H)(L:VB H f name q params body sc cl)(C:CellsAre s H cl cap vals)
  (hbind:∀ (doc pm ctv:Value) (c' : Addr),bindArgs (PySem.W.fnX name q params body sc cl .none .none doc pm none (.ref c') ctv) ⟨us,[]⟩=pure (ps.zip us)) (hl:vs.length=ps.length) (hv:vals.length=cap.length) (r:Vals vs us)
  (hbody:∀ c',Wx k (A.deeper (zkq q sc s.heap.objs.size f (.ref c') cl))->∃ t,PSs (zaQ P w K mg base (ps++loc++cap) q sc f c' cl A outer s H) body t/\t { nx:=λ_ H' => Q .non H',rt:=Q } (vs.map some++List.replicate loc.length none++vals) H):
  codeAny (model P w) A (.call (.ref f) ⟨us,[]⟩) (CR CX0 outer P w H s Q E0) s:=by
 obtain ⟨doc,pm,ctv,c',oc,h1,h2,h3⟩:=L
 obtain ⟨ho,_⟩:=e0.hok f _ h1
 have lim:s.heap.NoLimit:=e0.mod.nolimit.keeps λb o e=>(e0.bs b o e).1
 refine codeAny_call_function hr.depth ho rfl S.co S.gen rfl (UW e0.hok h2 h3) ?_
 rw[hbind doc pm ctv c']
 have hkind:∀ y∈ps.zip us,sc.names.lookup y.1=some .local\/(sc.names.lookup y.1=some .cell/\((cellsFrom (s.heap.objs.size+1) sc.names []).lookup y.1).isSome=true):=λ⟨n,v⟩ hy=>by
  rcases S.par n (List.of_mem_zip hy).1 with q | q
  ·exact .inl q
  ·exact .inr ⟨q,PySem.W.cellsFrom_some _ _ _ (.inl q)⟩
 refine wpAny_pure (zdZ S.kind hkind (λy hy hloc=>?_) λenv he s1 x=>?_)
 ·cases e:cl.lookup y.1 with
  | none=>rfl
  | some c=>rw[hclp _ _ e] at hloc;cases hloc
 subst he
 refine ⟨lim.keeps x.toInCall.keep,codeAny_func ?_⟩
 obtain ⟨t,ht,hq⟩:=hbody c' (hr.deeper _)
 have I:=zkM (f:=f) (q:=q) (c' := c') S hcap hclp hr.hd e0 hl hv r C x
 refine wpAny_mono (ht [] s1 _ H _ I hq) (λfl s' hs=>?_) λe s' z=>z.elim
 have fin:∀ {σ' : St} {H' : Hp} {v:V}{u:Value},Inv (zaQ P w K mg base (ps++loc++cap) q sc f c' cl A outer s H) [] σ' H' s' -> RelV v u->Q v H' -> CE outer P w H s Q u s' :=
  λ{σ' H' v u} J rv q=>⟨v,H',J.os,J.bare,J.base,J.hok,rv,q⟩
 cases fl with
 | ret u=>
  obtain ⟨v,σ',H',J,rv,q⟩:=hs
  exact fin J rv q
 | next=>
  obtain ⟨σ',H',J,q⟩:=hs
  exact fin (v:=V.non) (u:=Value.none) J rfl q
 | brk=>
  obtain ⟨_,_,_,q⟩:=hs
  exact False.elim q
 | cont=>
  obtain ⟨_,_,_,q⟩:=hs
  exact False.elim q
end
section
variable {X:Cx}{pins:List (Addr×Obj)}{σ:St}{H:Hp}{s:Shared}{sc:Scope}{ps loc cap:List Str}{P c:Addr}{cr:Nat->Nat->Option Str}{name q:Str}{params:Arguments}{body:List Stmt}{pos:Pos}
theorem Xi.cells {fr:Scope}(S:Xi X.env.scope sc ps loc cap)(ok:X.Ok):∀ p∈sc.names,p.2 = .free->∃ c,X.env.cells.lookup p.1=some c:=
 λp hp e=>ok.has p.1 (.inl (S.free p hp e))
theorem Xi.sub (S:Xi X.env.scope sc ps loc cap)(ok:X.Ok){y:Str}{c:Addr}(h:(Jl X.env sc.names []).lookup y=some c):X.env.cells.lookup y=some c:=
 Uq (S.cells (fr:=sc) ok) (λ_ _ z=>by simp at z) h
theorem zcD {env:Env}{y:Str}{c:Addr}:∀ {names:List (Str×NameKind)}{acc:List (Str×Addr)},(Jl env names acc).lookup y=some c->(y,NameKind.free)∈names\/acc.lookup y=some c
 | [],_,h=>.inr h
 | (x,k)::r,acc,h=>by
  unfold Jl at h
  rcases zcD h with a | a
  ·exact .inl (List.mem_cons_of_mem _ a)
  ·by_cases hk:(k==NameKind.free)=true
   ·rw[if_pos hk,List.lookup_cons] at a
    by_cases e:(y==x)=true
    ·have e' : y=x:=by simpa using e
     have k' : k = .free:=by simpa using hk
     subst e' k'
     exact .inl List.mem_cons_self
    ·have e' : (y==x)=false:=by simpa using e
     rw[e'] at a;exact .inr a
   ·rw[if_neg hk] at a;exact .inr a
theorem Inv.cellsOf (I:Inv X pins σ H s)(S:Xi X.env.scope sc ps loc cap){js:List Nat}(hjs:js.map (λj=>X.N[j]?)=cap.map some):CellsAre s H (Jl X.env sc.names []) cap (Jm σ js):=by
 have ok:=I.ok
 refine ⟨λx y c h1 h2=>ok.inj x y c (S.sub ok h1) (S.sub ok h2),λx c h=>⟨I.cell x c (S.sub ok h),I.freeC x c (S.sub ok h)⟩,λi y v e1 e2=>?_⟩
 have hy:y∈cap:=List.mem_of_getElem? e1
 unfold Jm at e2
 rw[List.getElem?_map] at e2
 cases ej:js[i]? with
 | none=>rw[ej] at e2;cases e2
 | some j=>
  rw[ej] at e2
  have e2'' : (σ[j]?).join=some v:=Option.some.inj e2
  have eN:X.N[j]?=some y:=by
   have:=congrArg (λl=>l[i]?) hjs
   simp only[List.getElem?_map,ej,e1,Option.map_some] at this
   exact Option.some.inj this
  have eσ:σ[j]?=some (some v):=by
   cases z:σ[j]? with
   | none=>rw[z] at e2'';cases e2''
   | some w' =>
    rw[z] at e2''
    have:w'=some v:=by simpa using e2''
    rw[this]
  have kc:X.env.scope.names.lookup y=some .cell:=S.free (y,.free) (S.caps y hy) rfl
  obtain ⟨m0,hn0,hl0⟩:=I.loc
  obtain ⟨u,ru,lk⟩:=hl0 j y v eN eσ (.inr (.inl kc))
  rcases lk with ⟨k,_⟩ | ⟨_,c,ec,hc⟩
  ·have k' : X.env.scope.names.lookup y=some .local:=k
   rw[kc] at k';cases k'
  ·obtain ⟨c',hc'⟩:=Option.isSome_iff_exists.mp (WR (env:=X.env) (acc:=[]) (S.caps y hy))
   have hcc:c'=c:=Option.some.inj ((S.sub ok hc').symm.trans ec)
   subst hcc
   exact ⟨c',u,hc',hc,ru⟩
theorem zmA (S:Xi X.env.scope sc ps loc cap)(hcode:X.env.code = .ref c)(C:PySem.W.CodeHd X.base c P)(hbm:BM X.mg X.base)(hcr:cr pos.line pos.col=some q)(I:Inv X pins σ H s)(hP:H P=some (.tbl cr)){E:Value->Shared->Prop}:
  wpAny (model X.prog X.w) X.A (makeFunction name q params (.stmts body) sc X.env [] [] [] pos pos.line) (λv s' => ∃ f H',Inv X pins σ H' s' /\ v=Value.ref f/\H f=none/\ZL H H' /\ VB H' f name q params body sc (Jl X.env sc.names [])) E s:=by
 obtain ⟨tb,hget,ht3,hcodes⟩:=I.hok P _ hP
 have hg:s.heap.Ns mainGlobals X.mg:=I.mod.glob.keeps I.bk
 have hgP:mainGlobals≠P:=λz=>by
  obtain ⟨o,es,ep,e,hd,_⟩:=hg
  rw[z,hget] at e;cases e;cases hd
 have hb:s.heap.BuiltinsAt X.mg P:=by
  obtain ⟨bm,ob,b1,b2,b3,b4,b5,b6⟩:=hbm
  have e:=I.bk _ _ b3
  refine ⟨bm,ob,b1,b2,λz=>?_,λz=>?_,e,b4,b5,b6⟩
  ·obtain ⟨o,es,ep,e',hd,_⟩:=hg
   rw[← z,e] at e';cases e';rw[b6] at hd;cases hd
  ·rw[z,hget] at e;cases e;cases b4
 have hcl:closureFor sc X.env=pure (Jl X.env sc.names []):=Wa (S.cells (fr:=sc) I.ok)
 cases hf:codeAmong pos tb.toList with
 | some cv=>
  obtain ⟨c',oc,q',rfl,e2,e3,e4⟩:=hcodes pos cv hf
  rw[hcr] at e2;cases e2
  refine PySem.W.makeFunction_hit hcl I.ok.glob hg hcode (C.keeps I.bk) hget ht3 hf hb λctv doc h' tk hk hsz=>?_
  have hfr:H h'.objs.size=none:=I.hok.fresh hsz
  refine ⟨h'.objs.size,upd H h'.objs.size (.frz (PySem.W.fnMade name q params body sc (Jl X.env sc.names []) doc ((X.mg "__name__").getD .none) c' ctv) (.own h'.objs.size)),I.laid (t' := tk) (λb u e=>Heap.get?_push_of_some _ (hk b u e)) hsz ⟨Heap.get?_push_size _ rfl,_,Heap.get?_push_size _ rfl⟩,rfl,hfr,(λb u e=>by rw[Zq (Zn e hfr)];exact e),⟨_,_,_,c',oc,Zh,?_,e4⟩⟩
  rw[Zq (Zn e3 hfr)];exact e3
 | none=>
  refine PySem.W.makeFunction_K hcl I.ok.glob hg hcode (C.keeps I.bk) hget ht3 hf hgP hb λc' ctv doc h' tk hx hge hlt hrec htb=>?_
  obtain ⟨c2,oc,vs,tt,e2,hoc,hd,hv⟩:=hrec
  cases e2
  have hcn:H c'=none:=I.hok.fresh hge
  have hsz:s.heap.objs.size<=h'.objs.size:=Nat.le_of_lt (Nat.lt_of_le_of_lt hge hlt)
  have hfr:H h'.objs.size=none:=I.hok.fresh hsz
  have hcf:c' ≠ h'.objs.size:=Nat.ne_of_lt hlt
  have hPc:P≠c' := Zn hP hcn
  have hPf:P≠h'.objs.size:=Zn hP hfr
  have sm:∀ b u,H b=some u->upd (upd H c' (.frz oc (.own c'))) h'.objs.size (.frz (PySem.W.fnMade name q params body sc (Jl X.env sc.names []) doc ((X.mg "__name__").getD .none) c' ctv) (.own h'.objs.size)) b=some u:=λb u e=>by
   rw[Zq (Zn e hfr),Zq (Zn e hcn)];exact e
  have cc:upd (upd H c' (.frz oc (.own c'))) h'.objs.size (.frz (PySem.W.fnMade name q params body sc (Jl X.env sc.names []) doc ((X.mg "__name__").getD .none) c' ctv) (.own h'.objs.size)) c'=some (.frz oc (.own c')):=by
   rw[Zq hcf,Zh]
  have hk:∀ b o,b≠P->s.heap.get? b=some o->(h'.push (PySem.W.fnMade name q params body sc (Jl X.env sc.names []) doc ((X.mg "__name__").getD .none) c' ctv)).get? b=some o:=λb o hb e=>Heap.get?_push_of_some _ (hx b o hb e)
  refine ⟨h'.objs.size,_,I.un (t' := tk) ⟨λb o e n _ _=>hk b o (λz=>by rw[z,hP] at n;cases n) e,λb o e n _ _=>⟨o.slots,hk b o (λz=>by rw[z,hP] at n;cases n) e⟩,λb o e n _=>?_,λb o e _=>?_,λb xs e=>sm b _ e,λb o u e=>sm b _ e,λb r e=>sm b _ e⟩ ?_,rfl,hfr,sm,⟨_,_,_,c',oc,Zh,cc,vs,tt,hd,hv⟩⟩
  ·have h1:b≠c' := Nat.ne_of_lt (Nat.lt_of_lt_of_le (Heap.lt_size e) hge)
   have h2:b≠h'.objs.size:=Nat.ne_of_lt (Nat.lt_of_lt_of_le (Heap.lt_size e) hsz)
   rw[Zq h2,Zq h1];exact n
  ·by_cases hb:b=P
   ·subst hb;exact ⟨_,Heap.get?_push_of_some _ htb⟩
   ·exact ⟨o,hk b o hb e⟩
  ·intro b u e
   by_cases h1:b=h'.objs.size
   ·subst h1
    rw[Zh] at e;cases e
    exact ⟨Heap.get?_push_size _ rfl,_,Heap.get?_push_size _ rfl⟩
   ·by_cases h2:b=c'
    ·subst h2
     rw[cc] at e;cases e
     exact ⟨Heap.get?_push_of_some _ hoc,_,Heap.get?_push_of_some _ hoc⟩
    ·rw[Zq h1,Zq h2] at e
     by_cases h3:b=P
     ·subst h3
      rw[hP] at e;cases e
      refine ⟨_,Heap.get?_push_of_some _ htb,?_,λpos' v e=>?_⟩
      ·rw[Array.toList_append];exact TriplesOk_snoc _ _ _ _ ht3
      ·rw[Array.toList_append] at e
       rcases zbg (pos:=pos) tb.toList ht3 e with e | ⟨e1,e2,rfl⟩
       ·obtain ⟨d,od,q',z1,z2,z3,z4⟩:=hcodes pos' v e
        exact ⟨d,od,q',z1,z2,sm _ _ z3,z4⟩
       ·exact ⟨c',oc,q,rfl,by rw[e1,e2];exact hcr,cc,vs,tt,hd,hv⟩
     ·refine (I.hok b u e).stay (λd v hd' e' => hk d v ?_ e') (λd e' => sm d _ e') (λd xs e' => sm d _ e') λd o' u' e' => sm d _ e'
      rintro rfl
      rcases hd' with z | z
      ·exact h3 z.symm
      ·rw[hP] at z;cases z
def zo8 (i:Nat)(P:Addr)(cr:Nat->Nat->Option Str)(name q:Str)(params:Arguments)(body:List Stmt)(sc:Scope)(cl:List (Str×Addr)):TS:=λD σ H=>H P=some (.tbl cr)/\∀ f H',H f=none->ZL H H' -> VB H' f name q params body sc cl->D.nx (σ.set i (some (.ref f))) H'
theorem zi8 {i:Nat}(S:Xi X.env.scope sc ps loc cap)(hcode:X.env.code = .ref c)(C:PySem.W.CodeHd X.base c P)(hbm:BM X.mg X.base)(hq:q=qualnameIn X.env name name)(hcr:cr pos.line pos.col=some q)(hN:X.N.Nodup)(hi:X.N[i]?=some name)(hx:X.env.scope.names.lookup name=some .local)
  (hd0:params.defaults=[]:=by rfl) (hk0:params.kw_defaults=[]:=by rfl) (ha:annTrees params none X.env=[]:=by rfl):
  PS X (.FunctionDef name params body [] none [] sc none name pos) (zo8 i P cr name q params body sc (Jl X.env sc.names [])):=by
 intro pins s σ H D I h
 obtain ⟨hP,h⟩:=h
 refine PySem.W.nestDef_K hd0 hk0 ha ?_
 rw[← hq]
 refine thn (zmA S hcode C hbm hcr I hP) λv s' ⟨f,H',I',ev,hf,sm,L⟩=>?_
 subst ev
 exact Ur I' hN hi (.inl hx) (show RelV (.ref f) (.ref f) from rfl) (λs2 I2=>⟨_,H',I2,h f H' hf sm L⟩) (.inr hx)
end
end L2
namespace L2
open PySem PySem.Spec PyProof.Rows
def Kp (H H' : Hp):Prop:=(∀ b xs,H b=some (.tup xs)->H' b=some (.tup xs))/\∀ b o u,H b=some (.frz o u)->H' b=some (.frz o u)
theorem Kp.refl (H:Hp):Kp H H:=⟨λ_ _ h=>h,λ_ _ _ h=>h⟩
theorem Kp.trans {H H1 H2:Hp}(a:Kp H H1)(b:Kp H1 H2):Kp H H2:=⟨λc xs h=>b.1 c xs (a.1 c xs h),λc o u h=>b.2 c o u (a.2 c o u h)⟩
theorem Kp.of {fs:List Addr}{H H' : Hp}{h h' : Heap}(u:Un fs [] H H' h h'):Kp H H' := ⟨u.tups,u.frzs⟩
mutual
def noL:PyData->Bool
 | .list _=>false
 | .tuple ds=>zmf ds
 | .dict _=>false
 | _=>true
def zmf:List PyData->Bool
 | []=>true
 | d::r=>noL d&&zmf r
end
theorem Kp.sqT {K:PySem.W.Frag}{H H' : Hp}{q:Addr}{xs:List V}(k:Kp H H')(h:SqT K H q xs):SqT K H' q xs:=by
 rcases h with h | h
 ·refine .inl ?_
  rcases h with h | ⟨o,h⟩
  ·exact .inl (k.1 _ _ h)
  ·exact .inr ⟨o,k.2 _ _ _ h⟩
 ·exact .inr h
mutual
theorem Kp.dat {K:PySem.W.Frag}{H H' : Hp}(k:Kp H H'):∀ (d:PyData)(v:V),noL d=true->Dat K H v d->Dat K H' v d
 | .none,v,_,h=>by rw[h.non];exact zdp
 | .bool b,v,_,h=>by rw[h.bl];exact Yn b
 | .int i,v,_,h=>by rw[h.int];exact Zv i
 | .str x,v,_,h=>by rw[h.str];exact Z7 x
 | .tuple ds,v,n,h=>by
  obtain ⟨q,xs,rfl,hq,hx⟩:=h.tup
  exact YW (k.sqT hq) (Kp.zoE k ds xs (by unfold noL at n;exact n) hx)
 | .list _,v,n,_=>by unfold noL at n;cases n
 | .dict _,v,n,_=>by unfold noL at n;cases n
theorem Kp.zoE {K:PySem.W.Frag}{H H' : Hp}(k:Kp H H'):∀ (ds:List PyData)(xs:List V),zmf ds=true->Yl K H xs ds->Yl K H' xs ds
 | [],xs,_,h=>by rw[h.nil];exact ZP
 | d::r,xs,n,h=>by
  obtain ⟨y,ys,rfl,hy,hr⟩:=h.cons
  unfold zmf at n
  rw[Bool.and_eq_true] at n
  exact ZG (Kp.dat k d y n.1 hy) (Kp.zoE k r ys n.2 hr)
end
def zg8 (P:Program)(w:World)(K:PySem.W.Frag)(mg:Str->Option Value)(base:Heap)(k:Nat)(f:Addr)(n:Nat)(sp:Sp)(s:Shared)(H:Hp):Prop:=
 ∃ (name q:Str) (params:Arguments) (body:List Stmt) (sc:Scope) (cl:List (Str×Addr)) (cap:List Str) (vals:St) (H1:Hp),Kp H1 H/\VB H f name q params body sc cl/\CellsAre s H cl cap vals/\
  ∀ (A:Around) (outer:List Env) (s' : Shared) (H' : Hp) (us:List Value) (vs:List V) (Q:VK),Wx k A->zfU P w K mg base A outer s' H' -> Kp H1 H' -> VB H' f name q params body sc cl->CellsAre s' H' cl cap vals->Vals vs us->vs.length=n->sp vs H' Q E0->
   codeAny (model P w) A (.call (.ref f) ⟨us,[]⟩) (CR CX0 outer P w H' s' Q E0) s'
section
variable {P:Program}{w:World}{K:PySem.W.Frag}{mg:Str->Option Value}{base:Heap}{k n:Nat}{f:Addr}{sp:Sp}{s s' : Shared}{H H' : Hp}
theorem zg8.un {fs:List Addr}(C:zg8 P w K mg base k f n sp s H)(u:Un fs [] H H' s.heap s'.heap):zg8 P w K mg base k f n sp s' H' :=
 let ⟨name,q,params,body,sc,cl,cap,vals,H1,h1,h2,h3,h4⟩:=C
 ⟨name,q,params,body,sc,cl,cap,vals,H1,h1.trans (Kp.of u),h2.same u.frzs,h3.un u,h4⟩
theorem zg8.fnAt (C:zg8 P w K mg base k f n sp s H)(ok:HOk P w H s.heap):PySem.W.FnAt f s.heap:=
 let ⟨_,_,_,_,_,_,_,_,_,_,h2,_,_⟩:=C
 h2.fnAt ok
theorem zg8.run {A:Around}{outer:List Env}{us:List Value}{vs:List V}{Q:VK}(C:zg8 P w K mg base k f n sp s H)(hr:Wx k A)(e0:zfU P w K mg base A outer s H)(r:Vals vs us)(hl:vs.length=n)(hs:sp vs H Q E0):
  codeAny (model P w) A (.call (.ref f) ⟨us,[]⟩) (CR CX0 outer P w H s Q E0) s:=
 let ⟨name,q,params,body,sc,cl,cap,vals,H1,h1,h2,h3,h4⟩:=C
 h4 A outer s H us vs Q hr e0 h1 h2 h3 r hl hs
end
section
variable {X:Cx}{k i n:Nat}{x:Str}{f:Addr}{sp:Sp}{e:Expr}{es:List Expr}{t:TA}{p pos:Pos}
theorem Inv.un0 {pins:List (Addr×Obj)}{σ:St}{H:Hp}{s:Shared}(J:Inv X pins σ H s)(hex:X.ex=[]):Un X.fs [] X.H₀ H X.s₀.heap s.heap:=by
 have:=J.base
 rw[hex] at this;exact this
def zj2 (i:Nat)(f:Addr)(n:Nat)(sp:Sp)(t:TA):TE:=fun σ H Q=>σ[i]?=some (some (.ref f))/\t σ H λvs H1=>vs.length=n/\sp vs H1 Q E0
theorem QZ (hN:X.N[i]?=some x)(hv:Vis X.env.scope x)(hr:Wx k X.A)(hex:X.ex=[])(C:zg8 X.prog X.w X.K X.mg X.base k f n sp X.s₀ X.H₀)(ha:PA X (e::es) t)
  (hd:(x==("__debug__" : Str))=false:=by decide) (hcd:(x==("__classdict__" : Str))=false:=by decide) (he:starEach (e::es) X.env=(false,eval e X.env)::starEach es X.env:=by rfl) (hpl:(backTo pos (starEach es X.env)).any (·.1)=false:=by rfl):
  PE X (.Call (.Name x p) (e::es) [] pos) (zj2 i f n sp t):=by
 intro pins s σ H Q I h
 obtain ⟨eσ,h⟩:=h
 refine wpAny_Call_Name_kw (thn (zht hN hv hd hcd pins s σ H (λv H' => v = .ref f/\H'=H) I ⟨_,eσ,rfl,rfl⟩) λu s1 ⟨v,H1,I1,r,ev,eH⟩=>?_)
 subst ev eH
 obtain rfl:u=Value.ref f:=r
 refine PySem.W.callWith_F ((C.un (I1.un0 hex)).fnAt I1.hok) (thn (ha pos pins s1 σ H1 _ I1 h) λus s2 ⟨vs,H2,I2,rv,hl,hq⟩=>⟨(C.un (I2.un0 hex)).fnAt I2.hok,?_⟩) he hpl
 refine wpAny_call (codeAny_mono ((C.un (I2.un0 hex)).run hr I2.env0 rv hl hq) λr s' hq' => ?_)
 cases r with
 | error e=>exact False.elim hq'
 | ok fl=>
  cases fl with
  | ret u=>exact I2.after hq'
  | next=>exact False.elim hq'
  | brk=>exact False.elim hq'
  | cont=>exact False.elim hq'
theorem zhY {fd:FuncData}{ps:List Str}{C:Shared->Hp->Prop}(F:zaJ X.prog X.w X.K X.mg X.base k f fd ps (λs vs H Q=>C s H/\sp vs H Q E0))(hC:C X.s₀ X.H₀)(hst:∀ fs s H s' H',Un fs [] H H' s.heap s'.heap->C s H->C s' H')(hex:X.ex=[])
  (hr:Wx k X.A) (hg:Gl X x) (hm:X.mg x=some (.ref f)) (hk:PySem.W.keepIn X.K (.ref f)=true) (hb:Binds X.K fd ps [])
  (ha:PA X (e::es) t) (hdb:(x==("__debug__" : Str))=false:=by decide) (he:starEach (e::es) X.env=(false,eval e X.env)::starEach es X.env:=by rfl) (hpl:(backTo pos (starEach es X.env)).any (·.1)=false:=by rfl):
  PE X (.Call (.Name x p) (e::es) [] pos) (V6 sp [] E0 t):=by
 intro pins s σ H Q I h
 refine wpAny_Call_Name_kw (U6 I hg hm ?_ hdb)
 refine PySem.W.callWith_K (h₀:=X.base) I.ok.mod.kin hk (thn (ha pos pins s σ H _ I h) λus s2 ⟨vs,H2,I2,rr,q⟩=>⟨I2.kIn,?_⟩) he hpl
 have q:sp (vs++[]) H2 Q E0:=q
 rw[List.append_nil] at q
 have hC2:=hst _ _ _ _ _ (I2.un0 hex) hC
 have hl:us.length=ps.length:=by rw[← rr.length];exact F.len _ _ _ _ ⟨hC2,q⟩
 have hb' := hb s2 us I2.kIn (by rw[List.append_nil];exact hl)
 rw[List.append_nil] at hb'
 refine wpAny_call (codeAny_mono (F.run X.A X.stack s2 H2 ⟨us,[]⟩ us _ Q hr I2.env0 hb' rr ⟨hC2,q⟩) λr s' hq' => ?_)
 cases r with
 | error e=>exact False.elim hq'
 | ok fl=>
  cases fl with
  | ret u=>exact I2.after hq'
  | next=>exact False.elim hq'
  | brk=>exact False.elim hq'
  | cont=>exact False.elim hq'
end
end L2
namespace L2
open PySem PySem.Spec PyProof.Rows
section
variable {K:PySem.W.Frag}{σ:St}{G:Hp}{d:PyData}{i j n:Nat}{f f1 f2:Addr}{t:TA}{ta tb:TE}{ds:List PyData}{R:List PyData->PyData->Prop}
theorem Vb (hi:σ[i]?=some (some (.ref f)))(h:EvA K t σ G ds)(hn:ds.length=n)(hR:R ds d):Ev K (zj2 i f n (spP K R) t) σ G d:=
 λG1 H s1 s2 Q k=>⟨hi,h G1 H s1 s2 _ λvs G2 H2 g2 hv=>⟨by rw[hv.length];exact hn,G2,ds,d,g2.gh,hv,hR,λv G' H' g hd=>k v G' H' (g2.trans g) hd⟩⟩
def spC (K:PySem.W.Frag)(f1 f2:Addr)(R:List PyData->PyData->Prop):Sp:=λvs H Q _=>∃ (G:Hp) (ds:List PyData) (d:PyData) (xs:List V),vs=xs++[.ref f1,.ref f2]/\ZL G H/\Yl K G xs ds/\R ds d/\∀ v G' H',Yr G H G' H' -> Dat K G' v d->Q v H'
end
section
variable {X:Cx}{pins:List (Addr×Obj)}{σ:St}{H:Hp}{s:Shared}{sc:Scope}{ps loc cap:List Str}{name q:Str}{params:Arguments}{body:List Stmt}{f:Addr}{k:Nat}{sp:Sp}
theorem znc {js:List Nat}(I:Inv X pins σ H s)(S:Xi X.env.scope sc ps loc cap)(hjs:js.map (λj=>X.N[j]?)=cap.map some)(L:VB H f name q params body sc (Jl X.env sc.names []))
  (hbind:∀ (cl:List (Str×Addr)) (us:List Value),us.length=ps.length->∀ (doc pm ctv:Value) (c' : Addr),bindArgs (PySem.W.fnX name q params body sc cl .none .none doc pm none (.ref c') ctv) ⟨us,[]⟩=pure (ps.zip us))
  (hbody:∀ (A:Around) (outer:List Env) (s' : Shared) (H' : Hp) (vs:List V) (Q:VK) (f c' : Addr) (cl:List (Str×Addr)),Wx k (A.deeper (zkq q sc s'.heap.objs.size f (.ref c') cl))->Kp H H' -> vs.length=ps.length->sp vs H' Q E0->
   ∃ t,PSs (zaQ X.prog X.w X.K X.mg X.base (ps++loc++cap) q sc f c' cl A outer s' H') body t/\t { nx:=λ_ H' => Q .non H',rt:=Q } (vs.map some++List.replicate loc.length none++Jm σ js) H'):
  zg8 X.prog X.w X.K X.mg X.base (k+1) f ps.length sp s H:=by
 have lenJ:js.length=cap.length:=by have:=congrArg List.length hjs;simpa using this
 refine ⟨name,q,params,body,sc,Jl X.env sc.names [],cap,Jm σ js,H,Kp.refl H,L,I.cellsOf S hjs,λA outer s' H' us vs Q hr e0 kp L' C' r hl hs=>?_⟩
 refine zkK S (λy hy=>?_) (λy c hc=>?_) hr e0 L' C' (hbind _ us (by rw[← r.length];exact hl)) hl (by unfold Jm;rw[List.length_map,lenJ]) r λc' hr' => hbody A outer s' H' vs Q f c' _ hr' kp hl hs
 ·exact Option.isSome_iff_exists.mp (WR (env:=X.env) (acc:=[]) (PySem.mem_of_lookup hy))
 ·rcases zcD hc with m | m
  ·exact lookup_mem S.ndn m
  ·cases m
theorem zkA {e:Expr}{es:List Expr}{t:TA}{p pos:Pos}{x:Str}{g:Addr}{fd:FuncData}{C:Addr->Addr->Shared->Hp->Prop}{sp2:Addr->Addr->St->Sp}{RH:Addr->Addr->St->Hp->Prop}
  (F:∀ f1 f2 σ,zaJ X.prog X.w X.K X.mg X.base k g fd ps (λs vs H Q=>C f1 f2 s H/\sp2 f1 f2 σ vs H Q E0))
  (hC:∀ pins σ H s f1 f2,Inv X pins σ H s->RH f1 f2 σ H->C f1 f2 s H)
  (hr:Wx k X.A) (hg:Gl X x) (hm:X.mg x=some (.ref g)) (hk:PySem.W.keepIn X.K (.ref g)=true) (hb:Binds X.K fd ps [])
  (ha:PA X (e::es) t) (hdb:(x==("__debug__" : Str))=false:=by decide) (he:starEach (e::es) X.env=(false,eval e X.env)::starEach es X.env:=by rfl) (hpl:(backTo pos (starEach es X.env)).any (·.1)=false:=by rfl):
  PE X (.Call (.Name x p) (e::es) [] pos) (fun σ H Q=>t σ H λvs H1=>∃ f1 f2,RH f1 f2 σ H1/\sp2 f1 f2 σ vs H1 Q E0):=by
 intro pins s σ H Q I h
 refine wpAny_Call_Name_kw (U6 I hg hm ?_ hdb)
 refine PySem.W.callWith_K (h₀:=X.base) I.ok.mod.kin hk (thn (ha pos pins s σ H _ I h) λus s2 ⟨vs,H2,I2,rr,f1,f2,q1,q⟩=>⟨I2.kIn,?_⟩) he hpl
 have hC2:=hC _ _ _ _ f1 f2 I2 q1
 have hl:us.length=ps.length:=by rw[← rr.length];exact (F f1 f2 σ).len _ _ _ _ ⟨hC2,q⟩
 have hb' := hb s2 us I2.kIn (by rw[List.append_nil];exact hl)
 rw[List.append_nil] at hb'
 refine wpAny_call (codeAny_mono ((F f1 f2 σ).run X.A X.stack s2 H2 ⟨us,[]⟩ us _ Q hr I2.env0 hb' rr ⟨hC2,q⟩) λr s' hq' => ?_)
 cases r with
 | error e=>exact False.elim hq'
 | ok fl=>
  cases fl with
  | ret u=>exact I2.after hq'
  | next=>exact False.elim hq'
  | brk=>exact False.elim hq'
  | cont=>exact False.elim hq'
end
end L2
namespace Num
open Frac Dig
end Num
namespace Rdo
open PySem Dig Ord Nm L2 Frac
theorem Run.app {fld:Str->Prop}{num:Int->Int->Prop}{st st1 st2:List Str}{a b:List Wd}(h:Run fld num st a st1)(k:Run fld num st1 b st2):Run fld num st (a++b) st2:=by
 induction h with
 | nil=>exact k
 | cons s _ ih=>exact .cons s (ih k)
theorem Step.frame {fld:Str->Prop}{num:Int->Int->Prop}{st st1:List Str}{w:Wd}(r:List Str)(h:Ord.Step fld num st w st1):Ord.Step fld num (st++r) w (st1++r):=by
 cases h with
 | field hx=>exact .field hx
 | number hx=>exact .number hx
 | word n1 n2 ho=>
  rw[List.append_assoc]
  exact .word n1 n2 ho
theorem Run.frame {fld:Str->Prop}{num:Int->Int->Prop}{st st1:List Str}{a:List Wd}(r:List Str)(h:Run fld num st a st1):Run fld num (st++r) a (st1++r):=by
 induction h with
 | nil=>exact .nil
 | cons s _ ih=>exact .cons (Step.frame r s) ih
section
variable {fld:Str->Prop}{num:Int->Int->Prop}{a b:List Wd}
theorem zjL (ha:Ju fld num a)(hb:Ju fld num b):Ju fld num (.t (S "then")::(a++b)):=
 .cons (st1:=[S "order",S "order"]) (Ord.Step.word (ps:=[S "order",S "order"]) (st:=[]) (by decide +kernel) (by decide +kernel) (by decide +kernel)) (Run.app (Run.frame [S "order"] ha) hb)
theorem zm1 (hb:Ju fld num b):Ju fld num (.t (S "turn")::b):=
 .cons (st1:=[S "order"]) (Ord.Step.word (ps:=[S "order"]) (st:=[]) (by decide +kernel) (by decide +kernel) (by decide +kernel)) hb
end
end Rdo
namespace Look
open PySem Ord Rdo
inductive An where
 | ahead
 | like
 | behind
 deriving DecidableEq
def An.turn:An->An
 | .ahead=>.behind
 | .like=>.like
 | .behind=>.ahead
def An.t:An->Str
 | .ahead=>S "ahead"
 | .like=>S "like"
 | .behind=>S "behind"
def An.how:An->Str
 | .ahead=>S "less"
 | .like=>S "same"
 | .behind=>S "more"
inductive Tv where
 | an (a:An)
 | tr (b:Bool)
 | mk (b c:Bool)
 | wd (w:Wd)
def Tv.d:Tv->PyData
 | .an a=>.str a.t
 | .tr b=>.bool b
 | .mk b c=>.list [.bool b,.bool c]
 | .wd w=>w.d
structure En where
 look:Str->An
 one:Str->Int->Int->An
 two:Str->Int->Int->An
def isA (a b:An):Bool:=decide (a=b)
def zj3 (E:En):Nat->List Tv->Tv
 | 0,_=>.an .like
 | 1,[.wd (.t z)]=>.an (E.look z)
 | 2,[.wd (.t z)]=>.an (E.look z).turn
 | 3,[.an a,.an b]=>.an (if a = .like then b else a)
 | 4,[.an a]=>.an a.turn
 | 5,[.tr c,.an a,.an b]=>.an (if c=true then a else b)
 | 6,[.wd (.t z)]=>.tr (isA (E.look z) .like)
 | 7,[.mk b c]=>.tr (b&&c)
 | 8,[.mk b c]=>.tr (b||c)
 | 9,[.tr b]=>.tr (!b)
 | 10,[.tr b,.tr c]=>.tr (b&&c)
 | 11,[.tr b,.tr c]=>.tr (b||c)
 | 12,[.wd (.t z),.wd (.n a b)]=>.mk (isA (E.one z a b) .ahead) (isA (E.two z a b) .ahead)
 | 13,[.wd (.t z),.wd (.n a b)]=>.mk (isA (E.one z a b) .like) (isA (E.two z a b) .like)
 | _,_=>.an .like
def wix (x:Str):Nat:=U4.findIdx λr=>decide (r.1=x)
def push (E:En)(w:Wd)(st:List Tv):List Tv:=match w with
 | .n a b=>.wd (.n a b)::st
 | .t x=>match Yc x with
  | some r=>zj3 E (wix x) (st.take r.2.2.length)::st.drop r.2.2.length
  | none=>.wd (.t x)::st
def ev (E:En):List Wd->List Tv->List Tv
 | [],st=>st
 | w::ws,st=>push E w (ev E ws st)
theorem zcb (E:En)(a b:List Wd)(st:List Tv):ev E (a++b) st=ev E a (ev E b st):=by
 induction a with
 | nil=>rfl
 | cons w a ih=>show push E w (ev E (a++b) st)=_;rw[ih];rfl
def Ty (fld:Str->Prop)(num:Int->Int->Prop)(p:Str)(v:Tv):Prop:=
 (p=S "order" /\ ∃ a,v = .an a)\/(p=S "case" /\ ∃ b,v = .tr b)\/(p=S "mark" /\ ∃ b c,v = .mk b c)\/(p=S "field" /\ ∃ z,fld z/\v = .wd (.t z))\/(p=S "number" /\ ∃ a b,num a b/\v = .wd (.n a b))
theorem Q0:(S "order" ≠ S "case" /\ S "order" ≠ S "mark" /\ S "order" ≠ S "field" /\ S "order" ≠ S "number")/\(S "case" ≠ S "mark" /\ S "case" ≠ S "field" /\ S "case" ≠ S "number")/\(S "mark" ≠ S "field" /\ S "mark" ≠ S "number")/\S "field" ≠ S "number" := by decide +kernel
theorem Ty.order {fld:Str->Prop}{num:Int->Int->Prop}{v:Tv}(h:Ty fld num (S "order") v):∃ a,v = .an a:=by
 obtain ⟨⟨n1,n2,n3,n4⟩,_⟩:=Q0
 rcases h with ⟨_,h⟩ | ⟨e,_⟩ | ⟨e,_⟩ | ⟨e,_⟩ | ⟨e,_⟩
 ·exact h
 ·exact absurd e n1
 ·exact absurd e n2
 ·exact absurd e n3
 ·exact absurd e n4
theorem Ty.case {fld:Str->Prop}{num:Int->Int->Prop}{v:Tv}(h:Ty fld num (S "case") v):∃ b,v = .tr b:=by
 obtain ⟨⟨n1,n2,n3,n4⟩,⟨m1,m2,m3⟩,_⟩:=Q0
 rcases h with ⟨e,_⟩ | ⟨_,h⟩ | ⟨e,_⟩ | ⟨e,_⟩ | ⟨e,_⟩
 ·exact absurd e.symm n1
 ·exact h
 ·exact absurd e m1
 ·exact absurd e m2
 ·exact absurd e m3
theorem Ty.mark {fld:Str->Prop}{num:Int->Int->Prop}{v:Tv}(h:Ty fld num (S "mark") v):∃ b c,v = .mk b c:=by
 obtain ⟨⟨n1,n2,n3,n4⟩,⟨m1,m2,m3⟩,⟨k1,k2⟩,_⟩:=Q0
 rcases h with ⟨e,_⟩ | ⟨e,_⟩ | ⟨_,h⟩ | ⟨e,_⟩ | ⟨e,_⟩
 ·exact absurd e.symm n2
 ·exact absurd e.symm m1
 ·exact h
 ·exact absurd e k1
 ·exact absurd e k2
theorem Ty.field {fld:Str->Prop}{num:Int->Int->Prop}{v:Tv}(h:Ty fld num (S "field") v):∃ z,fld z/\v = .wd (.t z):=by
 obtain ⟨⟨n1,n2,n3,n4⟩,⟨m1,m2,m3⟩,⟨k1,k2⟩,l1⟩:=Q0
 rcases h with ⟨e,_⟩ | ⟨e,_⟩ | ⟨e,_⟩ | ⟨_,h⟩ | ⟨e,_⟩
 ·exact absurd e.symm n3
 ·exact absurd e.symm m2
 ·exact absurd e.symm k1
 ·exact h
 ·exact absurd e l1
theorem Ty.number {fld:Str->Prop}{num:Int->Int->Prop}{v:Tv}(h:Ty fld num (S "number") v):∃ a b,num a b/\v = .wd (.n a b):=by
 obtain ⟨⟨n1,n2,n3,n4⟩,⟨m1,m2,m3⟩,⟨k1,k2⟩,l1⟩:=Q0
 rcases h with ⟨e,_⟩ | ⟨e,_⟩ | ⟨e,_⟩ | ⟨e,_⟩ | ⟨_,h⟩
 ·exact absurd e.symm n4
 ·exact absurd e.symm m3
 ·exact absurd e.symm k2
 ·exact absurd e.symm l1
 ·exact h
inductive Tys (fld:Str->Prop) (num:Int->Int->Prop):List Str->List Tv->Prop
 | nil:Tys fld num [] []
 | cons {p:Str}{v:Tv}{ps:List Str}{vs:List Tv}:Ty fld num p v->Tys fld num ps vs->Tys fld num (p::ps) (v::vs)
theorem zjc {x:Str}{want:Str}{ps:List Str}(h:Yc x=some (x,want,ps)):
  (x=S "like" /\ want=S "order" /\ ps=[])\/(x=S "up" /\ want=S "order" /\ ps=[S "field"])\/(x=S "down" /\ want=S "order" /\ ps=[S "field"])\/(x=S "then" /\ want=S "order" /\ ps=[S "order",S "order"])\/
  (x=S "turn" /\ want=S "order" /\ ps=[S "order"])\/(x=S "pick" /\ want=S "order" /\ ps=[S "case",S "order",S "order"])\/(x=S "same" /\ want=S "case" /\ ps=[S "field"])\/(x=S "both" /\ want=S "case" /\ ps=[S "mark"])\/
  (x=S "either" /\ want=S "case" /\ ps=[S "mark"])\/(x=S "not" /\ want=S "case" /\ ps=[S "case"])\/(x=S "and" /\ want=S "case" /\ ps=[S "case",S "case"])\/(x=S "or" /\ want=S "case" /\ ps=[S "case",S "case"])\/
  (x=S "under" /\ want=S "mark" /\ ps=[S "field",S "number"])\/(x=S "is" /\ want=S "mark" /\ ps=[S "field",S "number"]):=by
 have m:=(zce h).1
 unfold U4 at m
 simp only[List.mem_cons,List.not_mem_nil,or_false,Prod.mk.injEq] at m
 exact m
theorem Qm:wix (S "like")=0/\wix (S "up")=1/\wix (S "down")=2/\wix (S "then")=3/\wix (S "turn")=4/\wix (S "pick")=5/\wix (S "same")=6/\wix (S "both")=7/\wix (S "either")=8/\wix (S "not")=9/\wix (S "and")=10/\wix (S "or")=11/\wix (S "under")=12/\wix (S "is")=13:=by decide +kernel
theorem zl7 {fld:Str->Prop}{num:Int->Int->Prop}{E:En}{x want:Str}{ps:List Str}{vs:List Tv}(h:Yc x=some (x,want,ps))(hv:Tys fld num ps vs):Ty fld num want (zj3 E (wix x) vs):=by
 obtain ⟨w0,w1,w2,w3,w4,w5,w6,w7,w8,w9,w10,w11,w12,w13⟩:=Qm
 have go1:∀ {p:Str},Tys fld num [p] vs->∃ v,vs=[v]/\Ty fld num p v:=λh=>by cases h with | cons a b=>cases b;exact ⟨_,rfl,a⟩
 have go2:∀ {p q:Str},Tys fld num [p,q] vs->∃ v u,vs=[v,u]/\Ty fld num p v/\Ty fld num q u:=λh=>by cases h with | cons a b=>cases b with | cons b c=>cases c;exact ⟨_,_,rfl,a,b⟩
 have go3:∀ {p q r:Str},Tys fld num [p,q,r] vs->∃ v u t,vs=[v,u,t]/\Ty fld num p v/\Ty fld num q u/\Ty fld num r t:=λh=>by cases h with | cons a b=>cases b with | cons b c=>cases c with | cons c d=>cases d;exact ⟨_,_,_,rfl,a,b,c⟩
 rcases zjc h with ⟨rfl,rfl,rfl⟩ | ⟨rfl,rfl,rfl⟩ | ⟨rfl,rfl,rfl⟩ | ⟨rfl,rfl,rfl⟩ | ⟨rfl,rfl,rfl⟩ | ⟨rfl,rfl,rfl⟩ | ⟨rfl,rfl,rfl⟩ | ⟨rfl,rfl,rfl⟩ | ⟨rfl,rfl,rfl⟩ | ⟨rfl,rfl,rfl⟩ | ⟨rfl,rfl,rfl⟩ | ⟨rfl,rfl,rfl⟩ | ⟨rfl,rfl,rfl⟩ | ⟨rfl,rfl,rfl⟩
 ·rw[w0];exact .inl ⟨rfl,_,rfl⟩
 ·obtain ⟨v,rfl,h1⟩:=go1 hv;obtain ⟨z,_,rfl⟩:=h1.field;rw[w1];exact .inl ⟨rfl,_,rfl⟩
 ·obtain ⟨v,rfl,h1⟩:=go1 hv;obtain ⟨z,_,rfl⟩:=h1.field;rw[w2];exact .inl ⟨rfl,_,rfl⟩
 ·obtain ⟨v,u,rfl,h1,h2⟩:=go2 hv;obtain ⟨a,rfl⟩:=h1.order;obtain ⟨b,rfl⟩:=h2.order;rw[w3];exact .inl ⟨rfl,_,rfl⟩
 ·obtain ⟨v,rfl,h1⟩:=go1 hv;obtain ⟨a,rfl⟩:=h1.order;rw[w4];exact .inl ⟨rfl,_,rfl⟩
 ·obtain ⟨v,u,t,rfl,h1,h2,h3⟩:=go3 hv;obtain ⟨a,rfl⟩:=h1.case;obtain ⟨b,rfl⟩:=h2.order;obtain ⟨c,rfl⟩:=h3.order;rw[w5];exact .inl ⟨rfl,_,rfl⟩
 ·obtain ⟨v,rfl,h1⟩:=go1 hv;obtain ⟨z,_,rfl⟩:=h1.field;rw[w6];exact .inr (.inl ⟨rfl,_,rfl⟩)
 ·obtain ⟨v,rfl,h1⟩:=go1 hv;obtain ⟨a,b,rfl⟩:=h1.mark;rw[w7];exact .inr (.inl ⟨rfl,_,rfl⟩)
 ·obtain ⟨v,rfl,h1⟩:=go1 hv;obtain ⟨a,b,rfl⟩:=h1.mark;rw[w8];exact .inr (.inl ⟨rfl,_,rfl⟩)
 ·obtain ⟨v,rfl,h1⟩:=go1 hv;obtain ⟨a,rfl⟩:=h1.case;rw[w9];exact .inr (.inl ⟨rfl,_,rfl⟩)
 ·obtain ⟨v,u,rfl,h1,h2⟩:=go2 hv;obtain ⟨a,rfl⟩:=h1.case;obtain ⟨b,rfl⟩:=h2.case;rw[w10];exact .inr (.inl ⟨rfl,_,rfl⟩)
 ·obtain ⟨v,u,rfl,h1,h2⟩:=go2 hv;obtain ⟨a,rfl⟩:=h1.case;obtain ⟨b,rfl⟩:=h2.case;rw[w11];exact .inr (.inl ⟨rfl,_,rfl⟩)
 ·obtain ⟨v,u,rfl,h1,h2⟩:=go2 hv;obtain ⟨z,_,rfl⟩:=h1.field;obtain ⟨a,b,_,rfl⟩:=h2.number;rw[w12];exact .inr (.inr (.inl ⟨rfl,_,_,rfl⟩))
 ·obtain ⟨v,u,rfl,h1,h2⟩:=go2 hv;obtain ⟨z,_,rfl⟩:=h1.field;obtain ⟨a,b,_,rfl⟩:=h2.number;rw[w13];exact .inr (.inr (.inl ⟨rfl,_,_,rfl⟩))
theorem zaA {fld:Str->Prop}{num:Int->Int->Prop}{st:List Str}:∀ {ps:List Str}{vs:List Tv},Tys fld num (ps++st) vs->Tys fld num ps (vs.take ps.length)/\Tys fld num st (vs.drop ps.length)
 | [],vs,h=>⟨.nil,h⟩
 | p::ps,vs,h=>by
  cases h with
  | cons a b=>
   obtain ⟨h1,h2⟩:=zaA b
   exact ⟨.cons a h1,h2⟩
theorem Tys.length {fld:Str->Prop}{num:Int->Int->Prop}:∀ {ps:List Str}{vs:List Tv},Tys fld num ps vs->ps.length=vs.length
 | _,_,.nil=>rfl
 | _,_,.cons _ b=>congrArg (· + 1) (Tys.length b)
abbrev Kinds (st:List Str):Prop:=∀ x∈st,x∈[S "order",S "case",S "mark",S "field",S "number"]
theorem zku {fld:Str->Prop}{num:Int->Int->Prop}{E:En}(hf:∀ z,fld z->Yc z=none){st st1:List Str}{w:Wd}{vs:List Tv}(h:Ord.Step fld num st w st1)(hs:Kinds st)(hv:Tys fld num st1 vs):
  Tys fld num st (push E w vs)/\∀ R,push E w (vs++R)=push E w vs++R:=by
 rcases zae h hs with ⟨x,st0,rfl,rfl,hx,rfl⟩ | ⟨a,b,st0,rfl,rfl,hx,rfl⟩ | ⟨want,x,ps,st0,rfl,rfl,n1,n2,hw,hl,rfl⟩
 ·have e:∀ us,push E (.t x) us = .wd (.t x)::us:=λus=>by unfold push;dsimp only;rw[hf x hx]
  rw[e]
  exact ⟨.cons (.inr (.inr (.inr (.inl ⟨rfl,x,hx,rfl⟩)))) hv,λR=>by rw[e];rfl⟩
 ·exact ⟨.cons (.inr (.inr (.inr (.inr ⟨rfl,a,b,hx,rfl⟩)))) hv,λR=>rfl⟩
 ·have e:∀ us,push E (.t x) us=zj3 E (wix x) (us.take ps.length)::us.drop ps.length:=λus=>by unfold push;dsimp only;rw[hw]
  rw[e]
  obtain ⟨h1,h2⟩:=zaA hv
  have hlen:=hv.length
  rw[List.length_append] at hlen
  refine ⟨.cons (zl7 hw h1) h2,λR=>?_⟩
  rw[e,List.take_append_of_le_length (by omega),List.drop_append_of_le_length (by omega)]
  rfl
theorem Vy {fld:Str->Prop}{num:Int->Int->Prop}{st st1:List Str}{w:Wd}(h:Ord.Step fld num st w st1)(hs:Kinds st):Kinds st1:=by
 rcases zae h hs with ⟨x,st0,rfl,rfl,hx,rfl⟩ | ⟨a,b,st0,rfl,rfl,hx,rfl⟩ | ⟨want,x,ps,st0,rfl,rfl,n1,n2,hw,hl,rfl⟩
 ·exact λp hp=>hs p (List.mem_cons_of_mem _ hp)
 ·exact λp hp=>hs p (List.mem_cons_of_mem _ hp)
 ·intro p hp
  rcases List.mem_append.mp hp with hp | hp
  ·have key:∀ r∈U4,∀ p∈r.2.2,p∈[S "order",S "case",S "mark",S "field",S "number"]:=by decide +kernel
   exact key _ (zce hw).1 p hp
  ·exact hs p (List.mem_cons_of_mem _ hp)
theorem zmO {fld:Str->Prop}{num:Int->Int->Prop}{E:En}(hf:∀ z,fld z->Yc z=none){st st1:List Str}{ws:List Wd}(h:Run fld num st ws st1):Kinds st->∀ {vs:List Tv},Tys fld num st1 vs->
  Tys fld num st (ev E ws vs)/\∀ R,ev E ws (vs++R)=ev E ws vs++R:=by
 induction h with
 | nil=>intro _ vs hv;exact ⟨hv,λR=>rfl⟩
 | cons a b ih=>
  intro hs vs hv
  obtain ⟨h1,h2⟩:=ih (Vy a hs) hv
  obtain ⟨h3,h4⟩:=zku (E:=E) hf a hs h1
  exact ⟨h3,λR=>by show push E _ (ev E _ (vs++R))=_;rw[h2,h4];rfl⟩
theorem zfW:Kinds [S "order"]:=λx hx=>by rw[List.mem_singleton.mp hx];exact List.mem_cons_self
theorem ziF {fld:Str->Prop}{num:Int->Int->Prop}(E:En)(hf:∀ z,fld z->Yc z=none){ws:List Wd}(h:Ju fld num ws):∃ a,∀ R,ev E ws R = .an a::R:=by
 obtain ⟨h1,h2⟩:=zmO (E:=E) hf h zfW (vs:=[]) .nil
 cases hc:ev E ws [] with
 | nil=>rw[hc] at h1;cases h1
 | cons v r=>
  rw[hc] at h1
  cases h1 with
  | cons x y=>
   cases y
   obtain ⟨a,rfl⟩:=x.order
   refine ⟨a,λR=>?_⟩
   have:=h2 R
   rw[List.nil_append] at this
   rw[this,hc];rfl
def hsA (a b:Int×Int):An:=if a.1*b.2<b.1*a.2 then .ahead else if a.1*b.2>b.1*a.2 then .behind else .like
theorem zd7 (a b:Int×Int):hsA b a=(hsA a b).turn:=by
 unfold hsA
 generalize a.1*b.2=x
 generalize b.1*a.2=y
 by_cases h1:x<y
 ·have n1:¬ y<x:=by omega
  simp only[h1,n1,gt_iff_lt,if_true,if_false];rfl
 ·by_cases h2:y<x
  ·simp only[h1,h2,gt_iff_lt,if_true,if_false];rfl
  ·simp only[h1,h2,gt_iff_lt,if_false];rfl
def zcI (book:List Str)(f g:List (Int×Int)):En where
 look z:=hsA (f.getD (book.idxOf z) (0,1)) (g.getD (book.idxOf z) (0,1))
 one z a b:=hsA (f.getD (book.idxOf z) (0,1)) (a,b)
 two z a b:=hsA (g.getD (book.idxOf z) (0,1)) (a,b)
end Look
namespace L2
open PySem PySem.Spec PyProof.Rows MeetsSeq
theorem Vx (t:Addr)(items:Array Value)(n:Nat)(dct:Option Addr)(sl:Array (Option Value))(x:Value)(e:Value->Bool)(he:∀ y,y∈items->EqGives y x (e y))(j:Nat)(hj:j<items.size)
  (hit:e items[j]=true) (hno:∀ m (hm:m<items.size),m<j->e items[m]=false):
  Meets (Builtin.«tuple.index» ⟨[.ref t,x],[]⟩) (λ_ R s=>s.heap.get? t=some { cls:=.type "tuple",dict:=dct,data:=.seq items n,slots:=sl }/\R (.ok (.ret (.int j s.toks))) { s with toks:=s.toks+1 }):=
 .of_wp λprog w A R s h=>by
  obtain ⟨hp,g,d,tk,os⟩:=s;obtain ⟨q1,h⟩:=h
  wp_walk using wpAny_loadPart' q1
  show wpAny (model prog w) A.in1 (forIn ([:min items.size items.size]:Std.Legacy.Range) ((none:Option Fin),()) _) _ _ _
  rw[Std.Legacy.Range.forIn_eq_forIn_range']
  have hz:[:min items.size items.size].size=items.size:=by simp[Std.Legacy.Range.size]
  rw[hz]
  refine wpAny_forIn_list _ (λrest b s' => s'=⟨hp,g,d,tk,os⟩/\b=(none,())/\∃ i,i<=j/\rest=List.range' i (items.size-i)) _ ?_ ?_ _ _ ⟨rfl,rfl,0,Nat.zero_le _,rfl⟩
  ·rintro i rest b s' ⟨rfl,rfl,k,hk,hr⟩
   have hlt:k<items.size:=by omega
   have hr' : i=k/\rest=List.range' (k+1) (items.size-(k+1)):=by
    rw[show items.size-k=(items.size-(k+1))+1 by omega,List.range'_succ] at hr
    injection hr with e1 e2
    exact ⟨e1,e2⟩
   obtain ⟨rfl,rfl⟩:=hr'
   have hi:items[i]?=some items[i]:=by simp[hlt]
   rw[hi]
   dsimp only
   refine wpAny_bind (he _ (Array.getElem_mem hlt) prog w _ _ _ _ ?_)
   by_cases hij:i=j
   ·subst hij
    rw[hit,if_pos rfl]
    wp_walk
    exact ⟨_,rfl,h⟩
   ·rw[hno i hlt (by omega)]
    exact wpAny_pure ⟨rfl,rfl,i+1,by omega,rfl⟩
  ·rintro b s' ⟨rfl,rfl,k,hk,hr⟩
   have:items.size-k=0:=by
    have:=congrArg List.length hr
    simpa using this.symm
   omega
def zo7 (z:Str):Value->Bool
 | .str a _=>a==z
 | _=>false
section
variable {X:Cx}
def zhG (K:PySem.W.Frag):V->List V->Hp->VK->Prop:=λx vs H Q=>∃ (p:Addr) (ws:List Str) (z:Str),x = .ref p/\vs=[.str z]/\SqT K H p (ws.map V.str)/\z∈ws/\Q (.int (ws.idxOf z:Nat)) H
theorem zcw {K:PySem.W.Frag}(eK:X.K=K):MtM X "tuple.index" (zhG K):=by
 subst eK
 intro pins s σ H x vs v us Q I rx rv h
 obtain ⟨p,ws,z,rfl,rfl,hp,hz,q⟩:=h
 cases rx
 obtain ⟨u,rfl,ru⟩:=vals1 rv
 obtain ⟨t,rfl⟩:=ru
 obtain ⟨its,r,pt,hl⟩:=I.tuple hp
 obtain ⟨⟨c,dct,dt,sl⟩,e1,e2,n,e3⟩:=pt
 replace e2:c = .type "tuple" := e2
 replace e3:dt = .seq its.toArray n:=e3
 subst e2 e3
 have hlen:its.length=ws.length:=by rw[← r.length,List.length_map]
 have el:∀ (i:Nat) (hi:i<its.toArray.size),∃ t',its.toArray[i]=Value.str (ws.getD i z) t' := λi hi=>by
  have hi' : i<its.length:=by simpa using hi
  obtain ⟨u,hu,ru⟩:=r.get (i:=i) (x:=V.str (ws.getD i z)) (by rw[List.getElem?_map,List.getD_eq_getElem?_getD,List.getElem?_eq_getElem (by omega)];rfl)
  obtain ⟨t',rfl⟩:=ru
  refine ⟨t',?_⟩
  have:its[i]=Value.str (ws.getD i z) t' := by
   rw[List.getElem?_eq_getElem hi'] at hu;exact Option.some.inj hu
  simpa using this
 have hjl:ws.idxOf z<its.length:=by rw[hlen];exact List.idxOf_lt_length_of_mem hz
 refine call_meets F.slot_tuple_index ⟨_,e1,rfl⟩ F.entry_tuple_index (F.args_tuple_index_2 _ _)
  (Vx p its.toArray n dct sl (.str z t) (zo7 z) (λy hy=>?_) (ws.idxOf z) (by simpa using hjl) ?_ λm hm hlt=>?_) ⟨e1,?_⟩
 ·obtain ⟨i,hi,rfl⟩:=Array.mem_iff_getElem.mp hy
  obtain ⟨t',e⟩:=el i hi
  rw[e]
  exact eqGives_str _ _ _ _
 ·obtain ⟨t',e⟩:=el _ (by simpa using hjl)
  rw[e]
  have:ws.getD (ws.idxOf z) z=z:=by
   rw[List.getD_eq_getElem?_getD,List.getElem?_eq_getElem (by omega)]
   exact List.getElem_idxOf (by omega)
  rw[this]
  show (z==z)=true
  exact beq_self_eq_true z
 ·obtain ⟨t',e⟩:=el m hm
  rw[e]
  show (ws.getD m z==z)=false
  have hm' : m<ws.length:=by have:m<its.length:=(by simpa using hm);omega
  have hne:(ws[m]==z)=false:=List.not_of_lt_findIdx (p:=(· == z)) (xs:=ws) hlt
  rw[List.getD_eq_getElem?_getD,List.getElem?_eq_getElem hm']
  exact hne
 ·exact ⟨.int _,H,I.tok _,⟨_,rfl⟩,q⟩
end
end L2
namespace L2
open PySem PySem.Spec PyProof.Rows
def zcS:List DictEntry->List (Str×Str)->Bool
 | [],[]=>true
 | e::es,r::rs=>(match e.key,e.val with
  | .str x _,.str v _=>x==r.1&&v==r.2
  | _,_=>false)&&zcS es rs
 | _,_=>false
theorem zjG {e:DictEntry}{r:Str×Str}(h:(match e.key,e.val with
  | .str x _,.str v _=>x==r.1&&v==r.2
  | _,_=>false)=true):(∃ t,e.key = .str r.1 t)/\∃ t,e.val = .str r.2 t:=by
 split at h
 ·rename_i x t v u h1 h2
  rw[Bool.and_eq_true,beq_iff_eq,beq_iff_eq] at h
  obtain ⟨rfl,rfl⟩:=h
  exact ⟨⟨t,h1⟩,u,h2⟩
 ·cases h
theorem zbV (z:Str):∀ {es:List DictEntry}{rs:List (Str×Str)},zcS es rs=true->
  (es.find? (·.key.isStr z)=none/\rs.find? (λr=>decide (r.1=z))=none)\/∃ e r,es.find? (·.key.isStr z)=some e/\rs.find? (λr=>decide (r.1=z))=some r/\∃ t,e.val = .str r.2 t
 | [],[],_=>.inl ⟨rfl,rfl⟩
 | [],_::_,h=>by cases h
 | _::_,[],h=>by cases h
 | e::es,r::rs,h=>by
  unfold zcS at h
  rw[Bool.and_eq_true] at h
  obtain ⟨⟨t,hk⟩,hv⟩:=zjG h.1
  have q:e.key.isStr z=decide (r.1=z):=by rw[hk];exact zcf
  rw[List.find?_cons,List.find?_cons,q]
  by_cases hz:r.1=z
  ·rw[decide_eq_true hz]
   exact .inr ⟨e,r,rfl,rfl,hv⟩
  ·rw[decide_eq_false hz]
   exact zbV z h.2
theorem zes:∀ {es:List DictEntry}{rs:List (Str×Str)},zcS es rs=true->es.any (·.refKey)=false
 | [],[],_=>rfl
 | [],_::_,h=>by cases h
 | _::_,[],h=>by cases h
 | e::es,r::rs,h=>by
  unfold zcS at h
  rw[Bool.and_eq_true] at h
  obtain ⟨⟨t,hk⟩,_⟩:=zjG h.1
  rw[List.any_cons,zes h.2,Bool.or_false]
  unfold DictEntry.refKey
  rw[hk]
structure Txs (K:PySem.W.Frag)(P:Params)(mg:Str->Option Value)(x:Str)(rs:List (Str×Str)) where
 a:Addr
 g:Str->Option (V×Value)
 m:mg x=some (.ref a)
 D:zcx K P a g
 yes:∀ z v,rs.find? (λr=>decide (r.1=z))=some (z,v)->∃ u,g z=some (.str v,u)
theorem zjw {K:PySem.W.Frag}{P:Params}{mg:Str->Option Value}{x:Str}{a:Addr}{es:Array DictEntry}{n:Nat}{rs:List (Str×Str)}(hm:mg x=some (.ref a))(hl:K.lookup a=some ⟨.type "dict",none,.dict es n,#[]⟩)(hk:PySem.W.KeysLit P es.toList)(lo:(a==sysModules)=false)
  (h:zcS es.toList rs=true):Nonempty (Txs K P mg x rs):=by
 refine ⟨⟨a,gOf es.toList,hm,⟨⟨es,n,hl,hk⟩,lo,λx=>?_,λx v u e=>?_⟩,λz v e=>?_⟩⟩
 ·unfold PySem.W.nsIn
  rw[hl]
  dsimp only
  unfold gOf
  rcases zbV x h with ⟨e1,_⟩ | ⟨e,r,e1,_,_⟩
  ·rw[e1,zes h];rfl
  ·rw[e1];rfl
 ·unfold gOf at e
  rcases zbV x h with ⟨e1,_⟩ | ⟨e',r,e1,_,t,ht⟩
  ·rw[e1] at e;cases e
  ·rw[e1] at e
   rw[Option.map_some] at e
   injection e with e
   injection e with e1 e2
   subst e1 e2
   rw[ht];exact ⟨t,rfl⟩
 ·rcases zbV z h with ⟨_,e2⟩ | ⟨e',r,e1,e2,t,ht⟩
  ·rw[e2] at e;cases e
  ·rw[e2] at e
   injection e with e;subst e
   refine ⟨e'.val,?_⟩
   unfold gOf
   rw[e1,Option.map_some,ht];rfl
end L2
namespace Look
open PySem Ord Rdo
theorem Qy:Yc (S "like")=some (S "like",S "order",[])/\Yc (S "turn")=some (S "turn",S "order",[S "order"])/\Yc (S "then")=some (S "then",S "order",[S "order",S "order"])/\Yc (S "pick")=some (S "pick",S "order",[S "case",S "order",S "order"])/\Yc (S "not")=some (S "not",S "case",[S "case"])/\
  Yc (S "up")=some (S "up",S "order",[S "field"])/\Yc (S "down")=some (S "down",S "order",[S "field"]):=by decide +kernel
theorem WT {E:En}{x:Str}{r:Str×Str×List Str}(h:Yc x=some r)(st:List Tv):push E (.t x) st=zj3 E (wix x) (st.take r.2.2.length)::st.drop r.2.2.length:=by unfold push;dsimp only;rw[h]
section
variable {E:En}{one other cs:List Wd}{a b:An}{c:Bool}
theorem zle (R:List Tv):ev E [.t (S "like")] R = .an .like::R:=by
 show push E (.t (S "like")) R=_
 rw[WT Qy.1,Qm.1];rfl
theorem zlv (h:∀ R,ev E one R = .an a::R)(R:List Tv):ev E (.t (S "turn")::one) R = .an a.turn::R:=by
 show push E (.t (S "turn")) (ev E one R)=_
 rw[h,WT Qy.2.1,Qm.2.2.2.2.1];rfl
theorem zdk (h:∀ R,ev E one R = .an a::R)(h' : ∀ R,ev E other R = .an b::R)(R:List Tv):ev E (.t (S "then")::(one++other)) R = .an (if a = .like then b else a)::R:=by
 show push E (.t (S "then")) (ev E (one++other) R)=_
 rw[zcb,h',h,WT Qy.2.2.1,Qm.2.2.2.1];rfl
theorem zdN (hc:∀ R,ev E cs R = .tr c::R)(h:∀ R,ev E one R = .an a::R)(h' : ∀ R,ev E other R = .an b::R)(R:List Tv):ev E (.t (S "pick")::(cs++(one++other))) R = .an (if c=true then a else b)::R:=by
 show push E (.t (S "pick")) (ev E (cs++(one++other)) R)=_
 rw[zcb,zcb,h',h,hc,WT Qy.2.2.2.1,Qm.2.2.2.2.2.1];rfl
theorem zjM (hc:∀ R,ev E cs R = .tr c::R)(R:List Tv):ev E (.t (S "not")::cs) R = .tr (!c)::R:=by
 show push E (.t (S "not")) (ev E cs R)=_
 rw[hc,WT Qy.2.2.2.2.1,Qm.2.2.2.2.2.2.2.2.2.1];rfl
end
end Look
namespace Look
open PySem Ord Rdo
section
variable {fld:Str->Prop}{num:Int->Int->Prop}{a b cs:List Wd}
abbrev W5 (fld:Str->Prop)(num:Int->Int->Prop)(ws:List Wd):Prop:=Run fld num [S "case"] ws []
abbrev zcV (fld:Str->Prop)(num:Int->Int->Prop)(ws:List Wd):Prop:=Run fld num [S "mark"] ws []
theorem zlS:Ju fld num [.t (S "like")]:=.cons (st1:=[]) (Ord.Step.word (ps:=[]) (st:=[]) (by decide +kernel) (by decide +kernel) (by decide +kernel)) .nil
theorem zo2 {x:Str}(hx:fld x):Ju fld num [.t (S "up"),.t x]:=.cons (st1:=[S "field"]) (Ord.Step.word (ps:=[S "field"]) (st:=[]) (by decide +kernel) (by decide +kernel) (by decide +kernel)) (.cons (Ord.Step.field hx) .nil)
theorem znD {x:Str}(hx:fld x):Ju fld num [.t (S "down"),.t x]:=.cons (st1:=[S "field"]) (Ord.Step.word (ps:=[S "field"]) (st:=[]) (by decide +kernel) (by decide +kernel) (by decide +kernel)) (.cons (Ord.Step.field hx) .nil)
theorem zdv (hc:W5 fld num cs)(ha:Ju fld num a)(hb:Ju fld num b):Ju fld num (.t (S "pick")::(cs++(a++b))):=
 .cons (st1:=[S "case",S "order",S "order"]) (Ord.Step.word (ps:=[S "case",S "order",S "order"]) (st:=[]) (by decide +kernel) (by decide +kernel) (by decide +kernel))
  (Run.app (Run.frame [S "order",S "order"] hc) (Run.app (Run.frame [S "order"] ha) hb))
theorem znq (hc:W5 fld num cs):W5 fld num (.t (S "not")::cs):=.cons (st1:=[S "case"]) (Ord.Step.word (ps:=[S "case"]) (st:=[]) (by decide +kernel) (by decide +kernel) (by decide +kernel)) hc
theorem zm2 {x:Str}(hx:fld x):W5 fld num [.t (S "same"),.t x]:=.cons (st1:=[S "field"]) (Ord.Step.word (ps:=[S "field"]) (st:=[]) (by decide +kernel) (by decide +kernel) (by decide +kernel)) (.cons (Ord.Step.field hx) .nil)
theorem zjZ (hm:zcV fld num cs):W5 fld num (.t (S "both")::cs):=.cons (st1:=[S "mark"]) (Ord.Step.word (ps:=[S "mark"]) (st:=[]) (by decide +kernel) (by decide +kernel) (by decide +kernel)) hm
theorem zeW (hm:zcV fld num cs):W5 fld num (.t (S "either")::cs):=.cons (st1:=[S "mark"]) (Ord.Step.word (ps:=[S "mark"]) (st:=[]) (by decide +kernel) (by decide +kernel) (by decide +kernel)) hm
theorem zn7 (ha:W5 fld num a)(hb:W5 fld num b):W5 fld num (.t (S "and")::(a++b)):=.cons (st1:=[S "case",S "case"]) (Ord.Step.word (ps:=[S "case",S "case"]) (st:=[]) (by decide +kernel) (by decide +kernel) (by decide +kernel)) (Run.app (Run.frame [S "case"] ha) hb)
theorem zoA (ha:W5 fld num a)(hb:W5 fld num b):W5 fld num (.t (S "or")::(a++b)):=.cons (st1:=[S "case",S "case"]) (Ord.Step.word (ps:=[S "case",S "case"]) (st:=[]) (by decide +kernel) (by decide +kernel) (by decide +kernel)) (Run.app (Run.frame [S "case"] ha) hb)
theorem zmV {m x:Str}{p q:Int}(hm:m=S "under" \/ m=S "is")(hx:fld x)(hn:num p q):zcV fld num [.t m,.t x,.n p q]:=
 .cons (st1:=[S "field",S "number"]) (Ord.Step.word (ps:=[S "field",S "number"]) (st:=[]) (by decide +kernel) (by decide +kernel) (by rcases hm with rfl | rfl <;> decide +kernel)) (.cons (Ord.Step.field hx) (.cons (Ord.Step.number hn) .nil))
end
section
variable {E:En}
theorem zok {x:Str}(hx:Yc x=none)(R:List Tv):ev E [.t (S "up"),.t x] R = .an (E.look x)::R:=by
 show push E (.t (S "up")) (push E (.t x) R)=_
 have e:push E (.t x) R = .wd (.t x)::R:=by unfold push;dsimp only;rw[hx]
 rw[e,WT Qy.2.2.2.2.2.1,Qm.2.1];rfl
theorem zkP {x:Str}(hx:Yc x=none)(R:List Tv):ev E [.t (S "down"),.t x] R = .an (E.look x).turn::R:=by
 show push E (.t (S "down")) (push E (.t x) R)=_
 have e:push E (.t x) R = .wd (.t x)::R:=by unfold push;dsimp only;rw[hx]
 rw[e,WT Qy.2.2.2.2.2.2,Qm.2.2.1];rfl
end
theorem zkE {a b:An}:a.t=b.t↔a=b:=by
 constructor
 ·intro h
  have k:∀ a b:An,a.t=b.t->a=b:=by intro a b;cases a <;> cases b <;> decide +kernel
  exact k a b h
 ·rintro rfl;rfl
end Look
namespace Look
open PySem Ord Rdo
abbrev Fs:=List (Int×Int)
def Z9 (book:List Str)(ws:List Wd)(f g:Fs):An:=match ev (zcI book f g) ws [] with
 | .an a::_=>a
 | _=>.like
theorem Xw {fld:Str->Prop}{num:Int->Int->Prop}{book:List Str}{ws:List Wd}(f g:Fs)(hf:∀ z,fld z->Yc z=none)(h:Ju fld num ws):∀ R,ev (zcI book f g) ws R = .an (Z9 book ws f g)::R:=by
 obtain ⟨a,ha⟩:=ziF (zcI book f g) hf h
 have e:Z9 book ws f g=a:=by unfold Z9;rw[ha []]
 rw[e];exact ha
theorem WN {book:List Str}{ws:List Wd}{f g:Fs}{a:An}(h:∀ R,ev (zcI book f g) ws R = .an a::R):Z9 book ws f g=a:=by unfold Z9;rw[h []]
def zaG (i j:Nat):An:=if i<j then .ahead else if i>j then .behind else .like
def rk (L:Fs->Fs->An)(gs:List Fs)(f:Fs):Nat:=gs.countP λg=>decide (L f g = .behind)
def agree (L:Fs->Fs->An)(gs:List Fs):Bool:=gs.all λf=>gs.all λg=>decide (L f g=zaG (rk L gs f) (rk L gs g))
structure Wk (L:Fs->Fs->An)(D:Fs->Prop):Prop where
 anti:∀ f g,D f->D g->L g f=(L f g).turn
 trans:∀ f g h,D f->D g->D h->L f g≠.behind->L g h≠.behind->L f h≠.behind
theorem zfq {a:An}(h:a.turn = .ahead):a = .behind:=by cases a <;> first | rfl | cases h
theorem zdg {a:An}(h:a.turn = .behind):a = .ahead:=by cases a <;> first | rfl | cases h
theorem Wk.self {L:Fs->Fs->An}{D:Fs->Prop}(w:Wk L D){f:Fs}(hf:D f):L f f = .like:=by
 have:=w.anti f f hf hf
 cases e:L f f with
 | like=>rfl
 | ahead=>rw[e] at this;cases this
 | behind=>rw[e] at this;cases this
theorem Wk.sub {L:Fs->Fs->An}{D D' : Fs->Prop}(w:Wk L D)(h:∀ f,D' f->D f):Wk L D' := ⟨λf g a b=>w.anti f g (h f a) (h g b),λf g k a b c=>w.trans f g k (h f a) (h g b) (h k c)⟩
theorem Wk.ziU {L:Fs->Fs->An}{D:Fs->Prop}(w:Wk L D){f g h:Fs}(hf:D f)(hg:D g)(hh:D h)(a:L f g = .ahead)(b:L g h≠.behind):L f h = .ahead:=by
 have n1:L f h≠.behind:=w.trans f g h hf hg hh (by rw[a];decide) b
 cases e:L f h with
 | ahead=>rfl
 | behind=>exact absurd e n1
 | like=>
  have e2:L h f = .like:=by rw[w.anti f h hf hh,e];rfl
  have:=w.trans g h f hg hh hf b (by rw[e2];decide)
  have e3:L g f = .behind:=by rw[w.anti f g hf hg,a];rfl
  exact absurd e3 this
theorem Wk.zm0 {L:Fs->Fs->An}{D:Fs->Prop}(w:Wk L D){f g h:Fs}(hf:D f)(hg:D g)(hh:D h)(a:L f g≠.behind)(b:L g h = .ahead):L f h = .ahead:=by
 have n1:L f h≠.behind:=w.trans f g h hf hg hh a (by rw[b];decide)
 cases e:L f h with
 | ahead=>rfl
 | behind=>exact absurd e n1
 | like=>
  have e2:L h f = .like:=by rw[w.anti f h hf hh,e];rfl
  have:=w.trans h f g hh hf hg (by rw[e2];decide) a
  have e3:L h g = .behind:=by rw[w.anti g h hg hh,b];rfl
  exact absurd e3 this
theorem Vv {α:Type}{p q:α->Bool}:∀ {l:List α},(∀ x∈l,p x=true->q x=true)->l.countP p<=l.countP q
 | [],_=>Nat.le_refl _
 | x::r,h=>by
  have ih:=Vv (p:=p) (q:=q) (l:=r) λy hy=>h y (List.mem_cons_of_mem _ hy)
  rw[List.countP_cons,List.countP_cons]
  have:=h x List.mem_cons_self
  cases e:p x with
  | false=>simp;omega
  | true=>rw[this e];simp;omega
theorem zaX {α:Type}{p q:α->Bool}:∀ {l:List α},(∀ x∈l,p x=true->q x=true)->(∃ x∈l,p x=false/\q x=true)->l.countP p<l.countP q
 | [],_,⟨x,hx,_⟩=>by cases hx
 | x::r,h,⟨y,hy,e1,e2⟩=>by
  rw[List.countP_cons,List.countP_cons]
  have le:=Vv (p:=p) (q:=q) (l:=r) λz hz=>h z (List.mem_cons_of_mem _ hz)
  rcases List.mem_cons.mp hy with rfl | hy
  ·rw[e1,e2];simp;omega
  ·have ih:=zaX (p:=p) (q:=q) (l:=r) (λz hz=>h z (List.mem_cons_of_mem _ hz)) ⟨y,hy,e1,e2⟩
   have:=h x List.mem_cons_self
   cases e:p x with
   | false=>simp;omega
   | true=>rw[this e];simp;omega
theorem zlR {L:Fs->Fs->An}{gs:List Fs}(w:Wk L (· ∈ gs)){f g:Fs}(hf:f∈gs)(hg:g∈gs)(a:L f g = .ahead):rk L gs f<rk L gs g:=by
 refine zaX (λh hh e=>?_) ⟨f,hf,?_,?_⟩
 ·have e' : L f h = .behind:=of_decide_eq_true e
  have e2:L h f = .ahead:=by rw[w.anti f h hf hh,e'];rfl
  have e3:=w.ziU hh hf hg e2 (by rw[a];decide)
  exact decide_eq_true (by rw[w.anti h g hh hg,e3];rfl)
 ·rw[w.self hf];decide
 ·exact decide_eq_true (by rw[w.anti f g hf hg,a];rfl)
theorem znb {L:Fs->Fs->An}{gs:List Fs}(w:Wk L (· ∈ gs)){f g:Fs}(hf:f∈gs)(hg:g∈gs)(a:L f g≠.behind):rk L gs f<=rk L gs g:=by
 refine Vv λh hh e=>?_
 have e' : L f h = .behind:=of_decide_eq_true e
 have e2:L h f = .ahead:=by rw[w.anti f h hf hh,e'];rfl
 have e3:=w.ziU hh hf hg e2 a
 exact decide_eq_true (by rw[w.anti h g hh hg,e3];rfl)
theorem zcU (L:Fs->Fs->An)(gs:List Fs):agree L gs=true↔Wk L (· ∈ gs):=by
 constructor
 ·intro h
  have key:∀ f g,f∈gs->g∈gs->L f g=zaG (rk L gs f) (rk L gs g):=λf g hf hg=>by
   unfold agree at h
   exact of_decide_eq_true (List.all_eq_true.mp (List.all_eq_true.mp h f hf) g hg)
  refine ⟨λf g hf hg=>?_,λf g k hf hg hk a b=>?_⟩
  ·rw[key f g hf hg,key g f hg hf]
   unfold zaG
   generalize rk L gs f=i
   generalize rk L gs g=j
   by_cases h1:i<j
   ·have:¬ j<i:=by omega
    simp only[h1,this,if_true,if_false,gt_iff_lt];rfl
   ·by_cases h2:j<i
    ·simp only[h1,h2,if_true,if_false,gt_iff_lt];rfl
    ·simp only[h1,h2,if_false,gt_iff_lt];rfl
  ·rw[key f g hf hg] at a
   rw[key g k hg hk] at b
   rw[key f k hf hk]
   revert a b
   unfold zaG
   generalize rk L gs f=i
   generalize rk L gs g=j
   generalize rk L gs k=m
   intro a b
   have h1:¬ i>j:=λz=>a (by rw[if_neg (by omega),if_pos z])
   have h2:¬ j>m:=λz=>b (by rw[if_neg (by omega),if_pos z])
   by_cases h3:i<m
   ·rw[if_pos h3];decide
   ·rw[if_neg h3,if_neg (by omega)];decide
 ·intro w
  unfold agree
  refine List.all_eq_true.mpr λf hf=>List.all_eq_true.mpr λg hg=>decide_eq_true ?_
  unfold zaG
  cases e:L f g with
  | ahead=>rw[if_pos (zlR w hf hg e)]
  | behind=>
   have e2:L g f = .ahead:=by rw[w.anti f g hf hg,e];rfl
   have:=zlR w hg hf e2
   rw[if_neg (by omega),if_pos this]
  | like=>
   have e2:L g f = .like:=by rw[w.anti f g hf hg,e];rfl
   have h1:=znb w hf hg (by rw[e];decide)
   have h2:=znb w hg hf (by rw[e2];decide)
   rw[if_neg (by omega),if_neg (by omega)]
def XJ (fs:List Fs):List Fs:=fs.foldl (λacc f=>if (acc.any λg=>decide (g=f))=true then acc else acc++[f]) []
theorem Qh (fs:List Fs):∀ f,f∈XJ fs↔f∈fs:=by
 have key:∀ (l acc:List Fs) (f:Fs),f∈l.foldl (λacc f=>if (acc.any λg=>decide (g=f))=true then acc else acc++[f]) acc↔f∈acc\/f∈l:=by
  intro l
  induction l with
  | nil=>intro acc f;simp
  | cons x r ih=>
   intro acc f
   rw[List.foldl_cons,ih]
   by_cases h:(acc.any λg=>decide (g=x))=true
   ·rw[if_pos h]
    obtain ⟨y,hy,e⟩:=List.any_eq_true.mp h
    have e' : y=x:=of_decide_eq_true e
    subst e'
    constructor
    ·rintro (q | q)
     ·exact .inl q
     ·exact .inr (List.mem_cons_of_mem _ q)
    ·rintro (q | q)
     ·exact .inl q
     ·rcases List.mem_cons.mp q with rfl | q
      ·exact .inl hy
      ·exact .inr q
   ·rw[if_neg h]
    simp only[List.mem_append,List.mem_cons,List.not_mem_nil,or_false]
    constructor
    ·rintro ((q | q) | q)
     ·exact .inl q
     ·exact .inr (.inl q)
     ·exact .inr (.inr q)
    ·rintro (q | q | q)
     ·exact .inl (.inl q)
     ·exact .inl (.inr q)
     ·exact .inr q
 intro f
 have:=key fs [] f
 unfold XJ
 rw[this];simp
theorem Wk.turn {L:Fs->Fs->An}{D:Fs->Prop}(w:Wk L D):Wk (λf g=>(L f g).turn) D:=by
 refine ⟨λf g hf hg=>by rw[w.anti f g hf hg],λf g h hf hg hh a b=>?_⟩
 have a' : L g f≠.behind:=λz=>a (by rw[w.anti g f hg hf,z];rfl)
 have b' : L h g≠.behind:=λz=>b (by rw[w.anti h g hh hg,z];rfl)
 have:=w.trans h g f hh hg hf b' a'
 intro z
 have z' : L f h = .ahead:=zdg z
 exact this (by rw[w.anti f h hf hh,z'];rfl)
theorem Wk.zaH {L M:Fs->Fs->An}{D:Fs->Prop}(w:Wk L D)(v:Wk M D):Wk (λf g=>if L f g = .like then M f g else L f g) D:=by
 refine ⟨λf g hf hg=>?_,λf g h hf hg hh a b=>?_⟩
 ·show (if L g f = .like then M g f else L g f)=(if L f g = .like then M f g else L f g).turn
  rw[w.anti f g hf hg,v.anti f g hf hg]
  cases L f g <;> rfl
 ·skip
  have a1:L f g≠.behind:=λz=>a (by rw[z];rfl)
  have b1:L g h≠.behind:=λz=>b (by rw[z];rfl)
  cases e1:L f g with
  | behind=>exact absurd e1 a1
  | ahead=>rw[w.ziU hf hg hh e1 b1];exact λz=>by cases z
  | like=>
   cases e2:L g h with
   | behind=>exact absurd e2 b1
   | ahead=>rw[w.zm0 hf hg hh a1 e2];exact λz=>by cases z
   | like=>
    have n1:L f h≠.behind:=w.trans f g h hf hg hh a1 b1
    have n2:L h f≠.behind:=w.trans h g f hh hg hf (by rw[w.anti g h hg hh,e2];decide) (by rw[w.anti f g hf hg,e1];decide)
    have e3:L f h = .like:=by
     cases e:L f h with
     | like=>rfl
     | behind=>exact absurd e n1
     | ahead=>exact absurd (by rw[w.anti f h hf hh,e];rfl) n2
    rw[e3,if_pos rfl]
    rw[if_pos e1] at a
    rw[if_pos e2] at b
    exact v.trans f g h hf hg hh a b
theorem zkv {D:Fs->Prop}:Wk (λ_ _=>.like) D:=⟨λ_ _ _ _=>rfl,λ_ _ _ _ _ _ a _=>a⟩
theorem zfZ {a b c d:Int}(hb:1<=b)(h:a*d<=c*d)(hd:1<=d):a<=c:=by
 rcases Int.lt_or_le c a with z | z
 ·have:c*d<a*d:=Int.mul_lt_mul_of_pos_right z (by omega)
  omega
 ·exact z
theorem zam {a b c:Int×Int}(ha:1<=a.2)(hb:1<=b.2)(hc:1<=c.2)(h1:a.1*b.2<=b.1*a.2)(h2:b.1*c.2<=c.1*b.2):a.1*c.2<=c.1*a.2:=by
 have q1:a.1*b.2*c.2<=b.1*a.2*c.2:=Int.mul_le_mul_of_nonneg_right h1 (by omega)
 have q2:b.1*c.2*a.2<=c.1*b.2*a.2:=Int.mul_le_mul_of_nonneg_right h2 (by omega)
 have e1:a.1*b.2*c.2=(a.1*c.2)*b.2:=by rw[Int.mul_assoc,Int.mul_comm b.2 c.2,← Int.mul_assoc]
 have e2:b.1*a.2*c.2=b.1*c.2*a.2:=by rw[Int.mul_assoc,Int.mul_comm a.2 c.2,← Int.mul_assoc]
 have e3:c.1*b.2*a.2=(c.1*a.2)*b.2:=by rw[Int.mul_assoc,Int.mul_comm b.2 a.2,← Int.mul_assoc]
 exact zfZ hb (by omega) hb
def zf6 (n:Nat)(f:Fs):Prop:=f.length=n/\∀ p∈f,1<=p.2
theorem zf6.get {n:Nat}{f:Fs}(h:zf6 n f)(i:Nat):1<=(f.getD i (0,1)).2:=by
 rw[List.getD_eq_getElem?_getD]
 cases e:f[i]? with
 | none=>decide
 | some p=>exact h.2 p (List.mem_of_getElem? e)
theorem zhf {a b:Int×Int}:hsA a b≠.behind↔a.1*b.2<=b.1*a.2:=by
 unfold hsA
 by_cases h1:a.1*b.2<b.1*a.2
 ·rw[if_pos h1];exact ⟨λ_=>by omega,λ_=>by decide⟩
 ·rw[if_neg h1]
  by_cases h2:a.1*b.2>b.1*a.2
  ·rw[if_pos h2];exact ⟨λz=>absurd rfl z,λz=>by omega⟩
  ·rw[if_neg h2];exact ⟨λ_=>by omega,λ_=>by decide⟩
theorem zd6 (i n:Nat):Wk (λf g=>hsA (f.getD i (0,1)) (g.getD i (0,1))) (zf6 n):=
 ⟨λf g _ _=>zd7 _ _,λf g h hf hg hh a b=>zhf.mpr (zam (hf.get i) (hg.get i) (hh.get i) (zhf.mp a) (zhf.mp b))⟩
end Look
namespace K32
open PySem L2 Frac Lw Dig PySem.NumText Nm
def top (i:Nat):Stmt:=PySem.Challenge.pw_ordertext_k32_whole_in_order.main.body.getD i (.Pass ⟨0,0,0,0⟩)
abbrev Qc:Stmt:=top 7
abbrev zab:Stmt:=top 8
abbrev Wo:Stmt:=top 9
abbrev Xb:Stmt:=top 10
abbrev JS:Stmt:=top 11
abbrev QX:Stmt:=top 12
abbrev YH:Stmt:=top 13
abbrev Xd:Stmt:=top 14
abbrev Q3:Stmt:=top 15
abbrev Xl:Stmt:=top 16
abbrev XN:Stmt:=top 18
abbrev W8:Stmt:=top 20
abbrev XX:Stmt:=top 21
abbrev YK:Stmt:=top 23
abbrev Wq:Stmt:=top 24
abbrev Wg:Stmt:=top 25
abbrev Wi:Stmt:=top 26
abbrev Xx:Stmt:=top 27
abbrev YS:Stmt:=top 28
abbrev Yw:Stmt:=top 29
abbrev X5:Stmt:=top 30
abbrev Wj:Stmt:=top 31
abbrev JW:Stmt:=top 32
abbrev Jg:Stmt:=top 34
abbrev Wh:Stmt:=top 35
abbrev zcJ:Stmt:=top 36
abbrev Qj:Stmt:=top 37
abbrev Jc:Stmt:=top 38
abbrev Wn:Stmt:=top 40
abbrev YX:Stmt:=top 41
abbrev Wu:Stmt:=top 42
abbrev XC:Stmt:=top 43
abbrev We:Stmt:=top 44
abbrev Ww:Stmt:=top 45
abbrev XQ:Stmt:=top 46
abbrev XR:Stmt:=top 47
abbrev zdC:Stmt:=top 48
theorem Vq:ZM ["order", "by_field", "by_mark", "told", "word"] ["order", "by_field", "by_mark"] (Zm Qc):=⟨rfl,rfl,rfl,by decide +kernel,rfl,by decide +kernel,by decide +kernel⟩
theorem zeu:ZM ["told", "many", "parts"] ["told", "many"] (Zm zab):=⟨rfl,rfl,rfl,by decide +kernel,rfl,by decide +kernel,by decide +kernel⟩
theorem zdb:ZM ["word", "parts", "by_field", "by_mark"] ["word", "parts", "by_field", "by_mark"] (Zm Wo):=⟨rfl,rfl,rfl,by decide +kernel,rfl,by decide +kernel,by decide +kernel⟩
theorem zah:ZM ["word", "parts"] ["word", "parts"] (Zm Xb):=⟨rfl,rfl,rfl,by decide +kernel,rfl,by decide +kernel,by decide +kernel⟩
theorem zfA:ZM ["part"] ["part"] (Zm JS):=⟨rfl,rfl,rfl,by decide +kernel,rfl,by decide +kernel,by decide +kernel⟩
theorem zgW:ZM ["word", "how"] ["word", "how"] (Zm QX):=⟨rfl,rfl,rfl,by decide +kernel,rfl,by decide +kernel,by decide +kernel⟩
theorem Vi:ZM ["one", "other"] ["one", "other"] (Zm YH):=⟨rfl,rfl,rfl,by decide +kernel,rfl,by decide +kernel,by decide +kernel⟩
theorem zas:ZM ["part"] ["part"] (Zm Xd):=⟨rfl,rfl,rfl,by decide +kernel,rfl,by decide +kernel,by decide +kernel⟩
theorem zg2:ZM ["case", "one", "other"] ["case", "one", "other"] (Zm Q3):=⟨rfl,rfl,rfl,by decide +kernel,rfl,by decide +kernel,by decide +kernel⟩
theorem QL:ZM ["truth", "word", "parts", "rest"] ["truth", "word", "parts"] (Zm Xl):=⟨rfl,rfl,rfl,by decide +kernel,rfl,by decide +kernel,by decide +kernel⟩
theorem Y7:ZM ["places", "lies_ahead", "low", "high", "half"] ["places", "lies_ahead"] (Zm XN):=⟨rfl,rfl,rfl,by decide +kernel,rfl,by decide +kernel,by decide +kernel⟩
theorem QB:ZM ["one", "other", "left", "right"] ["one", "other"] (Zm W8):=⟨rfl,rfl,rfl,by decide +kernel,rfl,by decide +kernel,by decide +kernel⟩
theorem Va:ZM ["one", "other", "size"] ["one", "other"] (Zm XX):=⟨rfl,rfl,rfl,by decide +kernel,rfl,by decide +kernel,by decide +kernel⟩
theorem Uy:ZM ["order", "book", "first", "second", "by_field", "by_mark"] ["order", "book", "first", "second"] (Zm YK):=⟨rfl,rfl,rfl,by decide +kernel,rfl,by decide +kernel,by decide +kernel⟩
theorem J4:ZM ["things", "kept", "thing"] ["things"] (Zm Wq):=⟨rfl,rfl,rfl,by decide +kernel,rfl,by decide +kernel,by decide +kernel⟩
theorem zdx:ZM ["order", "book", "things"] ["order", "book", "things"] (Zm Wg):=⟨rfl,rfl,rfl,by decide +kernel,rfl,by decide +kernel,by decide +kernel⟩
theorem zdR:ZM ["order", "book", "one", "things"] ["order", "book", "one", "things"] (Zm Wi):=⟨rfl,rfl,rfl,by decide +kernel,rfl,by decide +kernel,by decide +kernel⟩
theorem zaO:ZM ["table"] ["table"] (Zm Xx):=⟨rfl,rfl,rfl,by decide +kernel,rfl,by decide +kernel,by decide +kernel⟩
theorem Yp:ZM ["table", "ranks", "one", "row", "other", "look"] ["table"] (Zm YS):=⟨rfl,rfl,rfl,by decide +kernel,rfl,by decide +kernel,by decide +kernel⟩
theorem Xg:ZM ["table", "pair", "third", "three"] ["table"] (Zm Yw):=⟨rfl,rfl,rfl,by decide +kernel,rfl,by decide +kernel,by decide +kernel⟩
theorem zb3:ZM ["row", "places"] ["row", "places"] (Zm X5):=⟨rfl,rfl,rfl,by decide +kernel,rfl,by decide +kernel,by decide +kernel⟩
theorem zd5:ZM ["table"] ["table"] (Zm Wj):=⟨rfl,rfl,rfl,by decide +kernel,rfl,by decide +kernel,by decide +kernel⟩
theorem ze5:ZM ["one", "other"] ["one", "other"] (Zm JW):=⟨rfl,rfl,rfl,by decide +kernel,rfl,by decide +kernel,by decide +kernel⟩
theorem za1:ZM ["order", "book", "row", "ranks"] ["order", "book", "row"] (Zm Jg):=⟨rfl,rfl,rfl,by decide +kernel,rfl,by decide +kernel,by decide +kernel⟩
theorem Xj:ZM ["order", "book", "row", "apart", "table", "three", "ranks", "thing", "rank"] ["order", "book", "row"] (Zm Wh):=⟨rfl,rfl,rfl,by decide +kernel,rfl,by decide +kernel,by decide +kernel⟩
theorem zbQ:ZM ["turn", "places", "place", "start"] ["turn"] (Zm zcJ):=⟨rfl,rfl,rfl,by decide +kernel,rfl,by decide +kernel,by decide +kernel⟩
theorem zhg:ZM ["row", "turn"] ["row", "turn"] (Zm Qj):=⟨rfl,rfl,rfl,by decide +kernel,rfl,by decide +kernel,by decide +kernel⟩
theorem Wf:ZM ["order", "book", "row", "many", "rising", "rank", "place"] ["order", "book", "row"] (Zm Jc):=⟨rfl,rfl,rfl,by decide +kernel,rfl,by decide +kernel,by decide +kernel⟩
theorem WL:ZM ["deck", "cells", "at", "mixed"] ["deck"] (Zm Wn):=⟨rfl,rfl,rfl,by decide +kernel,rfl,by decide +kernel,by decide +kernel⟩
theorem Yq:ZM ["deck", "cell", "more", "small", "some", "great"] ["deck"] (Zm YX):=⟨rfl,rfl,rfl,by decide +kernel,rfl,by decide +kernel,by decide +kernel⟩
theorem Z8:ZM ["deck", "letters", "cell", "many", "names", "place", "tail", "found", "k", "pad", "name"] ["deck"] (Zm Wu):=⟨rfl,rfl,rfl,by decide +kernel,rfl,by decide +kernel,by decide +kernel⟩
theorem zcC:ZM ["deck"] ["deck"] (Zm XC):=⟨rfl,rfl,rfl,by decide +kernel,rfl,by decide +kernel,by decide +kernel⟩
theorem Qx:ZM ["deck", "book", "pool", "most", "row", "k"] ["deck", "book", "pool", "most"] (Zm We):=⟨rfl,rfl,rfl,by decide +kernel,rfl,by decide +kernel,by decide +kernel⟩
theorem YQ:ZM ["deck", "field", "pool", "cell", "marks", "k", "more", "mark"] ["deck", "field", "pool"] (Zm Ww):=⟨rfl,rfl,rfl,by decide +kernel,rfl,by decide +kernel,by decide +kernel⟩
theorem Ys:ZM ["deck", "book", "pool", "deep", "cell", "field", "leaf", "one", "other", "mark"] ["deck", "book", "pool", "deep"] (Zm XQ):=⟨rfl,rfl,rfl,by decide +kernel,rfl,by decide +kernel,by decide +kernel⟩
theorem Js:ZM ["deck", "row", "left", "found"] ["deck", "row"] (Zm XR):=⟨rfl,rfl,rfl,by decide +kernel,rfl,by decide +kernel,by decide +kernel⟩
theorem Ws:ZM ["script", "deck", "k", "book", "pool", "order", "row", "turn", "there", "plain", "j", "other", "mixed", "one", "two"] ["script"] (Zm zdC):=⟨rfl,rfl,rfl,by decide +kernel,rfl,by decide +kernel,by decide +kernel⟩
def zmZ:Stmt->Nat
 | .FunctionDef _ _ _ _ _ _ _ _ _ pos=>pos.line
 | _=>0
abbrev Yx:Stmt:=(Y5 YK).getD 0 (.Pass ⟨0,0,0,0⟩)
abbrev XF:Str:=(Str.ofString "looked" ++ ".<locals>.") ++ "by_field"
theorem QD:Xi (Zm YK) (Zm Yx) ["word", "field"] ["place"] ["book", "first", "second"]:=⟨rfl,rfl,rfl,by decide +kernel,(by show ∀ p∈(_:List (Str×NameKind)),p.2=NameKind.free->List.lookup p.1 (Zm YK).names=some NameKind.cell;decide +kernel),by decide +kernel,by decide +kernel,by decide +kernel,by decide +kernel⟩
abbrev YZ:Stmt:=(Y5 YK).getD 1 (.Pass ⟨0,0,0,0⟩)
abbrev Wc:Str:=(Str.ofString "looked" ++ ".<locals>.") ++ "by_mark"
theorem Vr:Xi (Zm YK) (Zm YZ) ["word", "field", "number"] ["place"] ["book", "first", "second"]:=⟨rfl,rfl,rfl,by decide +kernel,(by show ∀ p∈(_:List (Str×NameKind)),p.2=NameKind.free->List.lookup p.1 (Zm YK).names=some NameKind.cell;decide +kernel),by decide +kernel,by decide +kernel,by decide +kernel,by decide +kernel⟩
abbrev Z6:Nat->Nat->Option Str:=λl _=>if l=zmZ Yx then some XF else some Wc
abbrev XD:Str:=(Str.ofString "turning" ++ ".<locals>.") ++ "<lambda>"
abbrev Xm:Str:=(Str.ofString "crossed" ++ ".<locals>.") ++ "<lambda>"
set_option genInjectivity false in
structure Top (K:PySem.W.Frag)(mg:Str->Option Value) where
 zaw:Addr
 fd_telling:FuncData
 zcr:Fun K "telling" "telling" Qc zaw fd_telling
 zgl:Binds K fd_telling ["order", "by_field", "by_mark"] []
 zg5:mg "telling" = some (.ref zaw)
 zbr:Addr
 fd_taken:FuncData
 zhz:Fun K "taken" "taken" zab zbr fd_taken
 zkZ:Binds K fd_taken ["told", "many"] []
 zj4:mg "taken" = some (.ref zbr)
 Jq:Addr
 fd_word_told:FuncData
 zad:Fun K "word_told" "word_told" Wo Jq fd_word_told
 zd3:Binds K fd_word_told ["word", "parts", "by_field", "by_mark"] []
 zdK:mg "word_told" = some (.ref Jq)
 XM:Addr
 fd_put_together:FuncData
 Qp:Fun K "put_together" "put_together" Xb XM fd_put_together
 zaK:Binds K fd_put_together ["word", "parts"] []
 zaP:mg "put_together" = some (.ref XM)
 X6:Addr
 fd_is_open:FuncData
 Je:Fun K "is_open" "is_open" JS X6 fd_is_open
 JV:Binds K fd_is_open ["part"] []
 J9:mg "is_open" = some (.ref X6)
 QJ:Addr
 fd_answer:FuncData
 zbX:Fun K "answer" "answer" QX QJ fd_answer
 zek:Binds K fd_answer ["word", "how"] []
 zd9:mg "answer" = some (.ref QJ)
 Xf:Addr
 fd_one_then_other:FuncData
 JD:Fun K "one_then_other" "one_then_other" YH Xf fd_one_then_other
 V7:Binds K fd_one_then_other ["one", "other"] []
 V8:mg "one_then_other" = some (.ref Xf)
 Xe:Addr
 fd_turned_about:FuncData
 W4:Fun K "turned_about" "turned_about" Xd Xe fd_turned_about
 Qt:Binds K fd_turned_about ["part"] []
 Qq:mg "turned_about" = some (.ref Xe)
 V9:Addr
 fd_picked:FuncData
 zee:Fun K "picked" "picked" Q3 V9 fd_picked
 zig:Binds K fd_picked ["case", "one", "other"] []
 zh1:mg "picked" = some (.ref V9)
 XS:Addr
 fd_settled_by:FuncData
 WM:Fun K "settled_by" "settled_by" Xl XS fd_settled_by
 J1:Binds K fd_settled_by ["truth", "word", "parts"] []
 J3:mg "settled_by" = some (.ref XS)
 WF:Addr
 fd_many_ahead:FuncData
 VG:Fun K "many_ahead" "many_ahead" XN WF fd_many_ahead
 zdc:Binds K fd_many_ahead ["places", "lies_ahead"] []
 zch:mg "many_ahead" = some (.ref WF)
 Qe:Addr
 fd_compared:FuncData
 zbd:Fun K "compared" "compared" W8 Qe fd_compared
 zfk:Binds K fd_compared ["one", "other"] []
 zfi:mg "compared" = some (.ref Qe)
 X3:Addr
 fd_how_stands:FuncData
 J0:Fun K "how_stands" "how_stands" XX X3 fd_how_stands
 VM:Binds K fd_how_stands ["one", "other"] []
 VF:mg "how_stands" = some (.ref X3)
 WQ:Addr
 fd_looked:FuncData
 Uh:Fun K "looked" "looked" YK WQ fd_looked
 zbz:Binds K fd_looked ["order", "book", "first", "second"] []
 zb2:mg "looked" = some (.ref WQ)
 Jp:Addr
 fd_each_once:FuncData
 Uu:Fun K "each_once" "each_once" Wq Jp fd_each_once
 zdX:Binds K fd_each_once ["things"] []
 zdo:mg "each_once" = some (.ref Jp)
 Qi:Addr
 fd_table_of:FuncData
 zbh:Fun K "table_of" "table_of" Wg Qi fd_table_of
 zfr:Binds K fd_table_of ["order", "book", "things"] []
 zfE:mg "table_of" = some (.ref Qi)
 Qk:Addr
 fd_looks_of:FuncData
 za8:Fun K "looks_of" "looks_of" Wi Qk fd_looks_of
 zfN:Binds K fd_looks_of ["order", "book", "one", "things"] []
 ze7:mg "looks_of" = some (.ref Qk)
 Wb:Addr
 fd_looks_agree:FuncData
 QH:Fun K "looks_agree" "looks_agree" Xx Wb fd_looks_agree
 zbF:Binds K fd_looks_agree ["table"] []
 zbY:mg "looks_agree" = some (.ref Wb)
 Y4:Addr
 fd_against_ranks:FuncData
 Wr:Fun K "against_ranks" "against_ranks" YS Y4 fd_against_ranks
 JR:Binds K fd_against_ranks ["table"] []
 J7:mg "against_ranks" = some (.ref Y4)
 Xy:Addr
 fd_three_against:FuncData
 JQ:Fun K "three_against" "three_against" Yw Xy fd_three_against
 U8:Binds K fd_three_against ["table"] []
 zan:mg "three_against" = some (.ref Xy)
 WX:Addr
 fd_picked_out:FuncData
 VH:Fun K "picked_out" "picked_out" X5 WX fd_picked_out
 zca:Binds K fd_picked_out ["row", "places"] []
 zcp:mg "picked_out" = some (.ref WX)
 Ji:Addr
 fd_ranks_in:FuncData
 Vk:Fun K "ranks_in" "ranks_in" Wj Ji fd_ranks_in
 za2:Binds K fd_ranks_in ["table"] []
 zaT:mg "ranks_in" = some (.ref Ji)
 QT:Addr
 fd_by_size:FuncData
 zcQ:Fun K "by_size" "by_size" JW QT fd_by_size
 zg0:Binds K fd_by_size ["one", "other"] []
 zfV:mg "by_size" = some (.ref QT)
 Q6:Addr
 fd_turning:FuncData
 QR:Fun K "turning" "turning" Jg Q6 fd_turning
 zaf:Binds K fd_turning ["order", "book", "row"] []
 zaa:mg "turning" = some (.ref Q6)
 Jf:Addr
 fd_ranks_of:FuncData
 Vh:Fun K "ranks_of" "ranks_of" Wh Jf fd_ranks_of
 zaY:Binds K fd_ranks_of ["order", "book", "row"] []
 za6:mg "ranks_of" = some (.ref Jf)
 f_back:Addr
 fd_back:FuncData
 zj0:Fun K "back" "back" zcJ f_back fd_back
 znw:Binds K fd_back ["turn"] []
 zmC:mg "back" = some (.ref f_back)
 Ua:Addr
 fd_turned:FuncData
 Um:Fun K "turned" "turned" Qj Ua fd_turned
 zb7:Binds K fd_turned ["row", "turn"] []
 zbU:mg "turned" = some (.ref Ua)
 QG:Addr
 fd_crossed:FuncData
 UT:Fun K "crossed" "crossed" Jc QG fd_crossed
 zcH:Binds K fd_crossed ["order", "book", "row"] []
 zcY:mg "crossed" = some (.ref QG)
 Ym:Addr
 fd__law_next:FuncData
 Yu:Fun K "_law_next" "_law_next" Wn Ym fd__law_next
 YD:Binds K fd__law_next ["deck"] []
 YC:mg "_law_next" = some (.ref Ym)
 Xu:Addr
 fd__law_fraction:FuncData
 J6:Fun K "_law_fraction" "_law_fraction" YX Xu fd__law_fraction
 UV:Binds K fd__law_fraction ["deck"] []
 Uz:mg "_law_fraction" = some (.ref Xu)
 Jx:Addr
 fd__law_book:FuncData
 zaC:Fun K "_law_book" "_law_book" Wu Jx fd__law_book
 zdD:Binds K fd__law_book ["deck"] []
 zdE:mg "_law_book" = some (.ref Jx)
 Jo:Addr
 fd__law_pool:FuncData
 zau:Fun K "_law_pool" "_law_pool" XC Jo fd__law_pool
 zdw:Binds K fd__law_pool ["deck"] []
 zdT:mg "_law_pool" = some (.ref Jo)
 Ql:Addr
 fd__law_row:FuncData
 zbi:Fun K "_law_row" "_law_row" We Ql fd__law_row
 zfH:Binds K fd__law_row ["deck", "book", "pool", "most"] []
 zft:mg "_law_row" = some (.ref Ql)
 Jw:Addr
 fd__law_case:FuncData
 zak:Fun K "_law_case" "_law_case" Ww Jw fd__law_case
 zdy:Binds K fd__law_case ["deck", "field", "pool"] []
 zdS:mg "_law_case" = some (.ref Jw)
 Yz:Addr
 fd__law_order:FuncData
 Xp:Fun K "_law_order" "_law_order" XQ Yz fd__law_order
 WP:Binds K fd__law_order ["deck", "book", "pool", "deep"] []
 WD:mg "_law_order" = some (.ref Yz)
 WY:Addr
 fd__law_mixed:FuncData
 VV:Fun K "_law_mixed" "_law_mixed" XR WY fd__law_mixed
 zcM:Binds K fd__law_mixed ["deck", "row"] []
 zcP:mg "_law_mixed" = some (.ref WY)
 zea:Addr
 Ye:Addr
 cd_looked:fd_looked.code = .ref zea
 ch_looked:PySem.W.codeHdIn K zea Ye=true
 zcj:Addr
 W9:Addr
 cd_turning:fd_turning.code = .ref zcj
 ch_turning:PySem.W.codeHdIn K zcj W9=true
 zcF:Addr
 Wv:Addr
 cd_crossed:fd_crossed.code = .ref zcF
 ch_crossed:PySem.W.codeHdIn K zcF Wv=true
 zb9:mg "len" = none
 Q5:mg "range" = none
 Qu:mg "tuple" = none
 zdU:mg "isinstance" = none
 zmJ:mg "list" = none
 zgH:mg "reversed" = none
 Vz:mg "enumerate" = none
 zoG:mg "zip" = none
 zdB:mg "sorted" = none
 tt:PySem.W.kitOne K (.type "tuple") (.type "tuple")=some true
 st:PySem.W.kitOne K (.type "str") (.type "tuple")=some false
 bt:PySem.W.kitOne K (.type "bool") (.type "tuple")=some false
end K32
namespace K32
open PySem L2 Frac Lw Dig PySem.NumText Nm
open Ord
abbrev dF (p:Int×Int):PyData:=.tuple [.int p.1,.int p.2]
theorem zci {K:PySem.W.Frag}{G:Hp}:∀ ws:List Str,Yl K G (ws.map V.str) (ws.map PyData.str)
 | []=>ZP
 | w::ws=>ZG (Z7 w) (zci ws)
theorem zbI {K:PySem.W.Frag}{G:Hp}:∀ {ws:List Str}{xs:List V},Yl K G xs (ws.map PyData.str)->xs=ws.map V.str
 | [],_,h=>h.nil
 | w::ws,_,h=>by
  obtain ⟨y,ys,rfl,hd,r⟩:=h.cons
  rw[hd.str,zbI r];rfl
section
variable {P:Program}{w:World}{K:PySem.W.Frag}{mg:Str->Option Value}{base:Heap}
theorem Q7 {σ:St}{G:Hp}{ta tb:TE}{x y:Str}(ha:Ev K ta σ G (.str x))(hb:Ev K tb σ G (.str y)):Ev K (tOp rEq ta tb) σ G (.bool (decide (x=y))):=
 JM ha hb λG1 H u v Q s1 s2 hx hy k=>by
  rw[hx.str,hy.str]
  refine ⟨rfl,?_⟩
  have e:decide (V.str x=V.str y)=decide (x=y):=by
   by_cases h:x=y
   ·rw[decide_eq_true h,decide_eq_true (by rw[h])]
   ·rw[decide_eq_false h,decide_eq_false λz=>h (by injection z)]
  rw[e]
  exact k _ G1 H (Yr.refl s2) (Yn _)
theorem zgX {σ:St}{G:Hp}{ta tb:TE}{xs ys:List PyData}(ha:Ev K ta σ G (.list xs))(hb:Ev K tb σ G (.list ys))(hl:xs.length+ys.length<=sizeLine):Ev K (tOp zot ta tb) σ G (.list (xs++ys)):=
 JM ha hb λG1 H u v Q s1 s2 hx hy k=>by
  obtain ⟨p,us,rfl,hp,hus⟩:=hx.lst
  obtain ⟨q,vs,rfl,hq,hvs⟩:=hy.lst
  refine ⟨p,q,us,vs,rfl,rfl,s2 _ _ hp,s2 _ _ hq,by rw[hus.length,hvs.length];exact hl,λl hl=>?_⟩
  have g:=Z5 (o:=.lst (us++vs)) s2 hl
  exact k _ _ _ g (YT Zh ((YB hus hvs).same g.gg))
end
end K32
namespace K32
open PySem L2 Frac Lw Dig PySem.NumText Nm
open Ord Num Look
def Sz (p:Int×Int):Prop:=p.1.natAbs<10 ^ 40/\p.2.natAbs<10 ^ 40
def zon:List PyData->PyData->Prop:=λas d=>∃ p q:Int×Int,as=[dF p,dF q]/\Sz p/\Sz q/\d = .int (cmp p q)
def zl8:List PyData->PyData->Prop:=λas d=>∃ p q:Int×Int,as=[dF p,dF q]/\Sz p/\Sz q/\d = .str (hsA p q).how
def U9:List PyData->PyData->Prop:=λas d=>((∃ x,as=[.str x])\/∃ b,as=[.bool b])/\d = .bool false
def zlP:List PyData->PyData->Prop:=λas d=>∃ a:An,(as=[.str (S "look"),.str a.how]/\d = .str a.t)\/∃ x,x≠S "look" /\ as=[.str x,.str a.how]/\d = .bool (decide (a.how=x))
def zf3:List PyData->PyData->Prop:=λas d=>∃ a:An,as=[.str a.t]/\d = .str a.turn.t
def zkN:List PyData->PyData->Prop:=λas d=>∃ a b:An,as=[.str a.t,.str b.t]/\d = .str (if a = .like then b else a).t
def zlt:List PyData->PyData->Prop:=λas d=>∃ (c:Bool) (a b:An),as=[.bool c,.str a.t,.str b.t]/\d = .str (if c=true then a else b).t
def zlf:List PyData->PyData->Prop:=λas d=>∃ (t:Bool) (x:Str) (b c:Bool),as=[.bool t,.str x,.list [.bool b,.bool c]]/\d = .bool (if t=true then b||c else b&&c)
abbrev JG:List (Str×Str):=[(S "less",S "ahead"),(S "same",S "like"),(S "more",S "behind")]
abbrev Jh:List (Str×Str):=[(S "ahead",S "behind"),(S "like",S "like"),(S "behind",S "ahead")]
theorem ziz (a:An):JG.find? (λr=>decide (r.1=a.how))=some (a.how,a.t):=by cases a <;> decide +kernel
theorem ziC (a:An):Jh.find? (λr=>decide (r.1=a.t))=some (a.t,a.turn.t):=by cases a <;> decide +kernel
theorem zjT (a:An):decide (a.t=S "like")=decide (a = .like):=by cases a <;> decide +kernel
section
variable {P:Program}{w:World}{K:PySem.W.Frag}{mg:Str->Option Value}{base:Heap}
theorem zjs {σ:St}{G:Hp}{tb:TE}{x z v:Str}{rs:List (Str×Str)}(W:Txs K w.params mg x rs)(hb:Ev K tb σ G (.str z))(h:rs.find? (λr=>decide (r.1=z))=some (z,v)):
  Ev K (tOp (λx y H Q=>∃ z a g v u,x = .ref a/\y = .str z/\zcx K w.params a g/\g z=some (v,u)/\Q v H) (tC (.ref W.a)) tb) σ G (.str v):=
 λG1 H s1 s2 Q k=>hb G1 H s1 s2 _ λu G2 H2 g2 hu=>by
  obtain ⟨u',hu'⟩:=W.yes z v h
  rw[hu.str]
  exact ⟨z,W.a,W.g,.str v,u',rfl,rfl,W.D,hu',k _ G2 H2 g2 (Z7 _)⟩
theorem zdP (T:Top K mg):Yi P w K mg base CX0 1 T.Qe T.fd_compared ["one", "other"] (spP K zon):=by
 refine T.zbd.ok QB (λvs H Q E h=>?_) (λcdv A outer s H vs Q E hr h=>?_)
 ·obtain ⟨G,as,d,sg,hv,⟨p,q,rfl,_⟩,_⟩:=h
  rw[hv.length];rfl
 ·obtain ⟨G,as,d,sg,hv,⟨p,q,rfl,hp,hq,rfl⟩,k⟩:=h
  obtain ⟨v1,r1,rfl,h1,hv⟩:=hv.cons
  obtain ⟨v2,r2,rfl,h2,hv⟩:=hv.cons
  cases hv.nil
  have zz:∀ {x:Int},x.natAbs<10 ^ 40->x.natAbs<10 ^ 100:=λh=>Nat.lt_of_lt_of_le h (by decide)
  refine ⟨_,(Ze (ZD (i:=2) QB.nd rfl (Or.inl rfl) (Zw Y9 (ZZ (Xr (K:=K) rfl) (pv 0) Zg (λ_ _=>rfl)) (ZZ (Xr (K:=K) rfl) (pv 1) Zg (λ_ _=>rfl))))
   (Ze (ZD (i:=3) QB.nd rfl (Or.inl rfl) (Zw Y9 (ZZ (Xr (K:=K) rfl) (pv 1) Zg (λ_ _=>rfl)) (ZZ (Xr (K:=K) rfl) (pv 0) Zg (λ_ _=>rfl))))
   (Ze (Yt (ZF V3 (pv 2) (pv 3) (ZR _)) (Zo (Zy (zkk zgc Zg))) ZQ)
   (Ze (Yt (ZF zm6 (pv 2) (pv 3) (ZR _)) (Zo (Zy Zg)) ZQ)
   (Zo (Zy Zg)))))) ,?_⟩
  refine Jb (K:=K) (zdM (JB (Zb rfl h1) Zt rfl rfl) (JB (Zb rfl h2) Zt rfl rfl) (mw (zz hp.1) (zz hq.2)) (Zv _)) sg λv3 G1 H1 g1 h3=>?_
  refine Jb (K:=K) (zdM (JB (Zb rfl (h2.same g1.gg)) Zt rfl rfl) (JB (Zb rfl (h1.same g1.gg)) Zt rfl rfl) (mw (zz hq.1) (zz hp.2)) (Zv _)) g1.gh λv4 G2 H2 g2 h4=>?_
  have g12:=g1.trans g2
  refine zag (ZV (K:=K) (J8 (Zb rfl (h3.same g2.gg)) (Zb rfl h4) (Yn _))) g2.gh (λe G3 H3 g3=>?_) (λe G3 H3 g3=>?_)
  ·have e' := of_decide_eq_true e
   have:cmp p q = -1:=by unfold cmp;rw[if_pos e']
   exact ⟨1,rfl,k (.int (-1)) G3 H3 (g12.trans g3) (by rw[this];exact Zv _)⟩
  ·have e' := of_decide_eq_false e
   refine zag (ZV (K:=K) (J8 (Zb rfl ((h3.same g2.gg).same g3.gg)) (Zb rfl (h4.same g3.gg)) (Yn _))) g3.gh (λf G4 H4 g4=>?_) (λf G4 H4 g4=>?_)
   ·have f' := of_decide_eq_true f
    have:cmp p q=1:=by unfold cmp;rw[if_neg e',if_pos f']
    exact k (.int 1) G4 H4 ((g12.trans g3).trans g4) (by rw[this];exact Zv _)
   ·have f' := of_decide_eq_false f
    have:cmp p q=0:=by unfold cmp;rw[if_neg e',if_neg f']
    exact k (.int 0) G4 H4 ((g12.trans g3).trans g4) (by rw[this];exact Zv _)
theorem zjU (T:Top K mg):Yi P w K mg base CX0 2 T.X3 T.fd_how_stands ["one", "other"] (spP K zl8):=by
 have G_compared:Yi P w K mg base CX0 1 T.Qe T.fd_compared ["one", "other"] (spP K zon):=zdP T
 refine T.J0.ok Va (λvs H Q E h=>?_) (λcdv A outer s H vs Q E hr h=>?_)
 ·obtain ⟨G,as,d,sg,hv,⟨p,q,rfl,_⟩,_⟩:=h
  rw[hv.length];rfl
 ·obtain ⟨G,as,d,sg,hv,⟨p,q,rfl,hp,hq,rfl⟩,k⟩:=h
  obtain ⟨v1,r1,rfl,h1,hv⟩:=hv.cons
  obtain ⟨v2,r2,rfl,h2,hv⟩:=hv.cons
  cases hv.nil
  refine ⟨_,(Ze (ZD (i:=2) Va.nd rfl (Or.inl rfl) (Zx G_compared hr (by rfl) T.zfi T.zbd.kp T.zfk .nil Z3 (Za (pv 0) (Za (pv 1) Zf Zd) Zd)))
   (Ze (Yt (ZF X7 (pv 2) Zg (ZR _)) (Zo (Zy ZK)) ZQ)
   (Zo (Zy (Wy (ZF V3 (pv 2) Zg (ZR _)) ZK ZK))))) ,?_⟩
  refine Jb (K:=K) (Z4 (E:=E0) (R:=zon) (d:=.int (cmp p q)) (Zc (Zb rfl h1) (Zc (Zb rfl h2) Zr)) ⟨p,q,rfl,hp,hq,rfl⟩) sg λv3 G1 H1 g1 h3=>?_
  refine zag (ZV (K:=K) (zbl (Zb rfl h3) Zt)) g1.gh (λe G2 H2 g2=>?_) (λe G2 H2 g2=>?_)
  ·refine ZW (K:=K) (G:=G2) (d:=.str (hsA p q).how) (Qv Zk ?_) g2.gh λv G3 H3 g3 hv=>k v G3 H3 ((g1.trans g2).trans g3) hv
   have e' := of_decide_eq_true e
   unfold cmp at e'
   unfold hsA
   split at e'
   ·cases e'
   ·split at e'
    ·cases e'
    ·rename_i n1 n2;rw[if_neg n1,if_neg n2];rfl
  ·refine ZW (K:=K) (G:=G2) (d:=.str (hsA p q).how) (VN (ZV (K:=K) (J8 (Zb rfl (h3.same g2.gg)) Zt (Yn _))) (λf=>Qv Zk ?_) (λf=>Qv Zk ?_)) g2.gh λv G3 H3 g3 hv=>k v G3 H3 ((g1.trans g2).trans g3) hv
   ·have f' := of_decide_eq_true f
    unfold cmp at f'
    unfold hsA
    split at f'
    ·rename_i n1;rw[if_pos n1];rfl
    ·split at f'
     ·cases f'
     ·cases f'
   ·have f' := of_decide_eq_false f
    have e' := of_decide_eq_false e
    unfold cmp at f' e'
    unfold hsA
    split at f'
    ·exact absurd (by decide) f'
    ·rename_i n1
     rw[if_neg n1] at e' ⊢
     split at f'
     ·rename_i n2;rw[if_pos n2];rfl
     ·rename_i n2;rw[if_neg n2] at e';exact absurd rfl e'
theorem zap (T:Top K mg):Yi P w K mg base CX0 1 T.X6 T.fd_is_open ["part"] (spP K U9):=by
 refine T.Je.ok zfA (λvs H Q E h=>?_) (λcdv A outer s H vs Q E hr h=>?_)
 ·obtain ⟨G,as,d,sg,hv,⟨h1,_⟩,_⟩:=h
  rw[hv.length]
  rcases h1 with ⟨x,rfl⟩ | ⟨b,rfl⟩ <;> rfl
 ·obtain ⟨G,as,d,sg,hv,⟨h0,rfl⟩,k⟩:=h
  refine ⟨_,(Zo (Zy (Yd (zil (K:=K) rfl) (by rfl) T.zdU zo0 (Za (pv 0) (Za (zkB (v:=.ty "tuple") (by rfl) T.Qu zhH rfl) Zf))))) ,?_⟩
  rcases h0 with ⟨x,rfl⟩ | ⟨b,rfl⟩
  ·obtain ⟨v1,r1,rfl,h1,hv⟩:=hv.cons
   cases hv.nil
   exact ZW (K:=K) (zjB (Zb rfl h1) T.st) sg k
  ·obtain ⟨v1,r1,rfl,h1,hv⟩:=hv.cons
   cases hv.nil
   exact ZW (K:=K) (zjB (Zb rfl h1) T.bt) sg k
theorem zcK (T:Top K mg)(W1:Txs K w.params mg "AHEAD" JG):Yi P w K mg base CX0 1 T.QJ T.fd_answer ["word", "how"] (spP K zlP):=by
 refine T.zbX.ok zgW (λvs H Q E h=>?_) (λcdv A outer s H vs Q E hr h=>?_)
 ·obtain ⟨G,as,d,sg,hv,⟨a,h1⟩,_⟩:=h
  rw[hv.length]
  rcases h1 with ⟨rfl,_⟩ | ⟨x,_,rfl,_⟩ <;> rfl
 ·obtain ⟨G,as,d,sg,hv,⟨a,h0⟩,k⟩:=h
  refine ⟨_,(Zo (Zy (Wy (ZF X7 (pv 0) ZK (ZR _)) (ZZ zbG (zb8 (v:=.ref W1.a) (by rfl) W1.m rfl) (pv 1) (λ_ _=>rfl)) (Vj X7 (pv 1) (pv 0) (ZR _))))) ,?_⟩
  rcases h0 with ⟨rfl,rfl⟩ | ⟨x,hx,rfl,rfl⟩
  ·obtain ⟨v1,r1,rfl,h1,hv⟩:=hv.cons
   obtain ⟨v2,r2,rfl,h2,hv⟩:=hv.cons
   cases hv.nil
   exact ZW (K:=K) (VN (ZV (K:=K) (Q7 (Zb rfl h1) Zk)) (λ_=>zjs W1 (Zb rfl h2) (ziz a)) (λz=>absurd (of_decide_eq_false z) (λn=>n rfl))) sg k
  ·obtain ⟨v1,r1,rfl,h1,hv⟩:=hv.cons
   obtain ⟨v2,r2,rfl,h2,hv⟩:=hv.cons
   cases hv.nil
   exact ZW (K:=K) (VN (ZV (K:=K) (Q7 (Zb rfl h1) Zk)) (λz=>absurd (of_decide_eq_true z) hx) (λ_=>Q7 (Zb rfl h2) (Zb rfl h1))) sg k
theorem zc3 (T:Top K mg)(W2:Txs K w.params mg "OTHER_WAY" Jh):Yi P w K mg base CX0 2 T.Xe T.fd_turned_about ["part"] (spP K zf3):=by
 have G_is_open:Yi P w K mg base CX0 1 T.X6 T.fd_is_open ["part"] (spP K U9):=zap T
 refine T.W4.ok zas (λvs H Q E h=>?_) (λcdv A outer s H vs Q E hr h=>?_)
 ·obtain ⟨G,as,d,sg,hv,⟨a,rfl,_⟩,_⟩:=h
  rw[hv.length];rfl
 ·obtain ⟨G,as,d,sg,hv,⟨a,rfl,rfl⟩,k⟩:=h
  obtain ⟨v1,r1,rfl,h1,hv⟩:=hv.cons
  cases hv.nil
  refine ⟨_,(Zo (Zy (Wy (VD (Zx G_is_open hr (by rfl) T.J9 T.Je.kp T.JV .nil Z3 (Za (pv 0) Zf Zd))) (Yg (Za ZK (Za (pv 0) Zf Zd) Zj)) (ZZ zbG (zb8 (v:=.ref W2.a) (by rfl) W2.m rfl) (pv 0) (λ_ _=>rfl))))) ,?_⟩
  exact ZW (K:=K) (VN (zfs (K:=K) (Z4 (E:=E0) (R:=U9) (d:=.bool false) (Zc (Zb rfl h1) Zr) ⟨.inl ⟨_,rfl⟩,rfl⟩)) (λz=>nomatch z) (λ_=>zjs W2 (Zb rfl h1) (ziC a))) sg k
theorem zkO (T:Top K mg):Yi P w K mg base CX0 2 T.Xf T.fd_one_then_other ["one", "other"] (spP K zkN):=by
 have G_is_open:Yi P w K mg base CX0 1 T.X6 T.fd_is_open ["part"] (spP K U9):=zap T
 refine T.JD.ok Vi (λvs H Q E h=>?_) (λcdv A outer s H vs Q E hr h=>?_)
 ·obtain ⟨G,as,d,sg,hv,⟨a,b,rfl,_⟩,_⟩:=h
  rw[hv.length];rfl
 ·obtain ⟨G,as,d,sg,hv,⟨a,b,rfl,rfl⟩,k⟩:=h
  obtain ⟨v1,r1,rfl,h1,hv⟩:=hv.cons
  obtain ⟨v2,r2,rfl,h2,hv⟩:=hv.cons
  cases hv.nil
  refine ⟨_,(Ze (Yt (VD (Zx G_is_open hr (by rfl) T.J9 T.Je.kp T.JV .nil Z3 (Za (pv 0) Zf Zd))) (Zo (Zy (Yg (Za ZK (Za (pv 0) (Za (pv 1) Zf Zd) Zd) Zj)))) ZQ)
   (Zo (Zy (Wy (ZF X7 (pv 0) ZK (ZR _)) (pv 1) (pv 0))))) ,?_⟩
  refine ZJ (zfs (K:=K) (Z4 (E:=E0) (R:=U9) (d:=.bool false) (Zc (Zb rfl h1) Zr) ⟨.inl ⟨_,rfl⟩,rfl⟩)) sg λG1 H1 g1=>?_
  refine ZW (K:=K) (G:=G1) (VN (ZV (K:=K) (Q7 (Zb rfl (h1.same g1.gg)) Zk)) (λz=>?_) (λz=>?_)) g1.gh λv G' H' g hv=>k v G' H' (g1.trans g) hv
  ·rw[zjT] at z
   rw[if_pos (of_decide_eq_true z)]
   exact Zb rfl (h2.same g1.gg)
  ·rw[zjT] at z
   rw[if_neg (of_decide_eq_false z)]
   exact Zb rfl (h1.same g1.gg)
theorem zgg (T:Top K mg):Yi P w K mg base CX0 2 T.V9 T.fd_picked ["case", "one", "other"] (spP K zlt):=by
 have G_is_open:Yi P w K mg base CX0 1 T.X6 T.fd_is_open ["part"] (spP K U9):=zap T
 refine T.zee.ok zg2 (λvs H Q E h=>?_) (λcdv A outer s H vs Q E hr h=>?_)
 ·obtain ⟨G,as,d,sg,hv,⟨c,a,b,rfl,_⟩,_⟩:=h
  rw[hv.length];rfl
 ·obtain ⟨G,as,d,sg,hv,⟨c,a,b,rfl,rfl⟩,k⟩:=h
  obtain ⟨v1,r1,rfl,h1,hv⟩:=hv.cons
  obtain ⟨v2,r2,rfl,h2,hv⟩:=hv.cons
  obtain ⟨v3,r3,rfl,h3,hv⟩:=hv.cons
  cases hv.nil
  refine ⟨_,(Ze (Yt (VD (Zx G_is_open hr (by rfl) T.J9 T.Je.kp T.JV .nil Z3 (Za (pv 0) Zf Zd))) (Zo (Zy (Yg (Za ZK (Za (pv 0) (Za (pv 1) (Za (pv 2) Zf Zd) Zd) Zd) Zj)))) ZQ)
   (Zo (Zy (Wy (VD (pv 0)) (pv 1) (pv 2))))) ,?_⟩
  refine ZJ (zfs (K:=K) (Z4 (E:=E0) (R:=U9) (d:=.bool false) (Zc (Zb rfl h1) Zr) ⟨.inr ⟨_,rfl⟩,rfl⟩)) sg λG1 H1 g1=>?_
  refine ZW (K:=K) (G:=G1) (VN (zfs (K:=K) (Zb rfl (h1.same g1.gg))) (λz=>?_) (λz=>?_)) g1.gh λv G' H' g hv=>k v G' H' (g1.trans g) hv
  ·subst z;exact Zb rfl (h2.same g1.gg)
  ·subst z;exact Zb rfl (h3.same g1.gg)
end
end K32
namespace K32
open PySem L2 Frac Lw Dig PySem.NumText Nm
open Ord Num Look
section
variable {P:Program}{w:World}{K:PySem.W.Frag}{mg:Str->Option Value}{base:Heap}
theorem zgm {σ:St}{G:Hp}{ta:TE}{b:Bool}(h:Ev K ta σ G (.bool b)):Ev K (zlU ta) σ G (.bool (!b)):=
 λG1 H s1 s2 Q k=>h G1 H s1 s2 _ λv G2 H2 g2 hv=>⟨b,hv.bl,k _ G2 H2 g2 (Yn _)⟩
theorem zmn {σ:St}{G:Hp}{ta tb:TE}{t b c:Bool}(ha:Ev K ta σ G (.bool t))(hb:Ev K tb σ G (.list [.bool b,.bool c])):Ev K (tOp (rIn K false) ta tb) σ G (.bool (b==t||c==t)):=
 JM ha hb λG1 H u v Q s1 s2 hu hv k=>by
  obtain ⟨p,xs,rfl,hp,hx⟩:=hv.lst
  obtain ⟨y1,r1,rfl,h1,hx⟩:=hx.cons
  obtain ⟨y2,r2,rfl,h2,hx⟩:=hx.cons
  cases hx.nil
  rw[hu.bl]
  rw[h1.bl,h2.bl] at hp
  refine ⟨p,_,rfl,.inl (SqL.of (s2 _ _ hp)),rfl,rfl,?_⟩
  have e:inV (.bl t) [.bl b,.bl c]=(b==t||c==t):=by cases t <;> cases b <;> cases c <;> rfl
  show Q (.bl (inV (.bl t) [.bl b,.bl c])) H
  rw[e]
  exact k _ G1 H (Yr.refl s2) (Yn _)
theorem za5 (T:Top K mg):Yi P w K mg base CX0 2 T.XS T.fd_settled_by ["truth", "word", "parts"] (spP K zlf):=by
 have G_is_open:Yi P w K mg base CX0 1 T.X6 T.fd_is_open ["part"] (spP K U9):=zap T
 refine T.WM.ok QL (λvs H Q E h=>?_) (λcdv A outer s H vs Q E hr h=>?_)
 ·obtain ⟨G,as,d,sg,hv,⟨t,x,b,c,rfl,_⟩,_⟩:=h
  rw[hv.length];rfl
 ·obtain ⟨G,as,d,sg,hv,⟨t,x,b,c,rfl,rfl⟩,k⟩:=h
  have hu:=hr.units
  obtain ⟨v1,r1,rfl,h1,hv⟩:=hv.cons
  obtain ⟨v2,r2,rfl,h2,hv⟩:=hv.cons
  obtain ⟨v3,r3,rfl,h3,hv⟩:=hv.cons
  cases hv.nil
  refine ⟨_,(Ze (Yt (ZF zcd (pv 0) (pv 2) (by rfl)) (Zo (Zy (pv 0))) ZQ)
   (Ze (zow (x:= "part") (cap:=[]) (js:=[]) (i:=3) (y:= "rest") ⟨rfl,by decide +kernel,by decide +kernel,rfl,(by show ∀ p∈(_:List (Str×NameKind)),p.2=NameKind.free->List.lookup p.1 (Zm Xl).names=some NameKind.cell;decide +kernel),by decide +kernel,by decide +kernel,by decide +kernel⟩ rfl rfl (λ_ _ h=>h) QL.nd rfl rfl (U0 (pv 2)) (λ_ _ _ _=>⟨(zkn (VD (Zx G_is_open hr (by rfl) T.J9 T.Je.kp T.JV .nil Z3 (Za (pv 0) Zf Zd)))),(pv 0)⟩))
   (Ze (Yt (ZF (zgL (K:=K) rfl hu) (pv 3) (Xn Zf) (ZR _)) (Zo (Zy (zj1 (pv 0)))) ZQ)
   (Zo (Zy (Wy (ZF X7 (Yd (Yb (K:=K) rfl) (by rfl) T.zb9 PySem.boot_len (Za (pv 3) Zf Zd)) Zg (ZR _)) (ZZ (Zz (K:=K) rfl) (pv 3) Zg (λ_ _=>rfl)) (Yg (Za (pv 1) (Za (ZZ (Zz (K:=K) rfl) (pv 3) Zg (λ_ _=>rfl)) (Za (ZZ (Zz (K:=K) rfl) (pv 3) Zg (λ_ _=>rfl)) Zf Zu) Zu) Zd)))))))) ,?_⟩
  refine zag (ZV (K:=K) (zmn (Zb rfl h1) (Zb rfl h3))) sg (λz G1 H1 g1=>?_) (λz G1 H1 g1=>?_)
  ·refine ZW (K:=K) (G:=G1) (d:=.bool (if t=true then b||c else b&&c)) (Qv (Zb rfl (h1.same g1.gg)) ?_) g1.gh λv G' H' g hv=>k v G' H' (g1.trans g) hv
   revert z;cases t <;> cases b <;> cases c <;> simp
  ·have h3' : Dat K G1 v3 (.list ([b,c].map PyData.bool)):=h3.same g1.gg
   refine (zeE (K:=K) (G:=G1) [b,c] PyData.bool (λ_=>none) (Zb rfl h3') (by show 2<sizeLine;decide) (λG2 i a x sG ha hx=>?_)).use g1.gh λv4 G2 H2 g2 h4=>?_
   ·exact .inr ⟨rfl,zfs (K:=K) (Z4 (E:=E0) (R:=U9) (d:=.bool false) (Zc (Zb rfl hx) Zr) ⟨.inr ⟨_,rfl⟩,rfl⟩)⟩
   ·have h4' : Dat K G2 v4 (.list []):=by
     have e:[b,c].filterMap (λ_=>(none:Option PyData))=[]:=rfl
     rw[e] at h4;exact h4
    have pl0:Pl 2 (.list []):=zeS λx hx=>by cases hx
    refine zag (ZV (K:=K) (zhs (Zb rfl h4') (zal Zr (by decide)) pl0 pl0 (by decide))) g2.gh (λy G3 H3 g3=>?_) (λy=>?_)
    ·refine ZW (K:=K) (G:=G3) (d:=.bool (if t=true then b||c else b&&c)) (Qv (zgm (Zb rfl (((h1.same g1.gg).same g2.gg).same g3.gg))) ?_) g3.gh λv G' H' g hv=>k v G' H' (((g1.trans g2).trans g3).trans g) hv
     revert z;cases t <;> cases b <;> cases c <;> simp
    ·rw[PySem.Spec.same_self] at y;cases y
def zgO:Sp:=λvs H Q _=>∃ (p:Addr) (n:Nat) (xs:List V),vs=[.ref p,.int (n:Nat)]/\H p=some (.lst xs)/\n<=xs.length/\n<=1000/\
 ∀ l H',H l=none->l≠p->H' l=some (.lst (xs.drop (xs.length-n)).reverse)->H' p=some (.lst (xs.take (xs.length-n)))->(∀ b,b≠l->b≠p->H' b=H b)->Q (.ref l) H'
theorem zic (T:Top K mg):Yi P w K mg base CX0 1 T.zbr T.fd_taken ["told", "many"] zgO:=by
 refine T.zhz.ok zeu (λvs H Q E h=>?_) (λcdv A outer s H vs Q E hr h=>?_)
 ·obtain ⟨p,n,xs,rfl,_⟩:=h
  rfl
 ·obtain ⟨p,n,xs,rfl,hp,hn,hm,k⟩:=h
  have zl:(2000:Nat)<=sizeLine:=by decide
  refine ⟨_,(Ze (ZD (i:=2) zeu.nd rfl (Or.inl rfl) (Xn Zf))
   (Ze (zb4 PassesOwn.never (ZF V3 (Yd (Yb (K:=K) rfl) (by rfl) T.zb9 PySem.boot_len (Za (pv 2) Zf Zd)) (pv 1) (ZR _)) (Zo (J5 (zaM PySem.F.plainAttrs_list PySem.F.slot_list_append PySem.F.type_list_append Wm (pv 2) (Za (zmR PySem.F.plainAttrs_list PySem.F.slot_list_pop PySem.F.type_list_pop znC (pv 0)) Zf Xa)))))
   (Zo (Zy (pv 2))))) ,?_⟩
  refine ⟨(by show 0<=sizeLine;decide),λl hl=>?_⟩
  have nlp:l≠p:=λz=>by subst z;rw[hp] at hl;cases hl
  refine zbq (fun σ H' => ∃ j,j<=n/\σ=[some (.ref p),some (.int (n:Nat)),some (.ref l)]/\H' l=some (.lst (xs.drop (xs.length-j)).reverse)/\H' p=some (.lst (xs.take (xs.length-j)))/\∀ b,b≠l->b≠p->H' b=H b) (fun σ H' => match H' l with | some (.lst ys)=>n-ys.length | _=>0)
   ⟨0,Nat.zero_le _,rfl,by rw[Zh];simp,by rw[Zq (Ne.symm nlp),hp];simp,λb h1 h2=>by rw[Zq h1]⟩ ?_ ?_
  ·rintro σ H1 ⟨j,hj,rfl,h1,h2,h3⟩
   have hlen:((xs.drop (xs.length-j)).reverse).length=j:=by rw[List.length_reverse,List.length_drop];omega
   have hlt:(xs.take (xs.length-j)).length=xs.length-j:=by rw[List.length_take];omega
   have hmu:(match H1 l with | some (.lst ys)=>n-ys.length | _=>0)=n-j:=by rw[h1];show n-_=_;rw[hlen]
   refine ⟨_,rfl,l,_,rfl,.inl (SqL.of h1),_,rfl,_,_,rfl,rfl,_,rfl,?_⟩
   by_cases hjn:j<n
   ·have e:decide (((xs.drop (xs.length-j)).reverse.length:Int)<(n:Nat))=true:=decide_eq_true (by rw[hlen];omega)
    rw[e]
    refine zlJ ?_
    have hy:(xs.take (xs.length-j))[(xs.take (xs.length-j)).length-1]?=some (xs[xs.length-j-1]'(by omega)):=by
     rw[hlt,List.getElem?_take_of_lt (by omega),List.getElem?_eq_getElem]
    have edl:(xs.take (xs.length-j)).dropLast=xs.take (xs.length-(j+1)):=by
     rw[List.dropLast_eq_take,hlt,List.take_take]
     congr 1;omega
    have edr:(xs.drop (xs.length-j)).reverse++[xs[xs.length-j-1]'(by omega)]=(xs.drop (xs.length-(j+1))).reverse:=by
     have:xs.drop (xs.length-(j+1))=xs[xs.length-j-1]'(by omega)::xs.drop (xs.length-j):=by
      rw[List.drop_eq_getElem_cons (by omega:xs.length-(j+1)<xs.length)]
      congr 1
      congr 1;omega
     rw[this,List.reverse_cons]
    refine ⟨_,rfl,.inl ⟨rfl,_,SqL.of h1⟩,_,rfl,.inl ⟨rfl,_,SqL.of h2⟩,p,_,_,rfl,rfl,h2,hy,l,_,_,rfl,rfl,(by rw[Zq nlp];exact h1),(by rw[hlen];omega),?_,?_⟩
    ·refine ⟨j+1,hjn,rfl,by rw[Zh,edr],by rw[Zq (Ne.symm nlp),Zh,edl],λb hb1 hb2=>by rw[Zq hb1,Zq hb2];exact h3 b hb1 hb2⟩
    ·show (match L2.upd _ l _ l with | some (.lst ys)=>n-ys.length | _=>0)<_
     rw[hmu,Zh]
     show n-_<_
     rw[List.length_append,hlen]
     show n-(j+1)<n-j
     omega
   ·have e:decide (((xs.drop (xs.length-j)).reverse.length:Int)<(n:Nat))=false:=decide_eq_false (by rw[hlen];omega)
    rw[e]
    refine zlH ?_
    have:j=n:=by omega
    subst this
    exact ⟨_,rfl,k l H1 hl nlp h1 h2 h3⟩
  ·rintro σ H1 Q1 Q2 hq ⟨v,e1,p',ys,e2,e3,v2,e4,i,j,e5,e6,c,e7,e8⟩
   exact ⟨v,e1,p',ys,e2,e3,v2,e4,i,j,e5,e6,c,e7,hq _ _ e8⟩
end
def zjl:List PyData->PyData->Prop:=λas d=>∃ (x:Str) (n:Nat) (vs:List Tv),as=[.str x,.list (vs.map Tv.d)]/\d=(zj3 ⟨λ_=>.like,λ_ _ _=>.like,λ_ _ _=>.like⟩ n vs).d/\
 ((x=S "then" /\ n=3/\∃ a b,vs=[.an a,.an b])\/(x=S "turn" /\ n=4/\∃ a,vs=[.an a])\/(x=S "pick" /\ n=5/\∃ c a b,vs=[.tr c,.an a,.an b])\/(x=S "not" /\ n=9/\∃ a,vs=[.tr a])\/(x=S "and" /\ n=10/\∃ a b,vs=[.tr a,.tr b])\/(x=S "or" /\ n=11/\∃ a b,vs=[.tr a,.tr b]))
theorem zh0:(S "turn" ≠ S "then" /\ S "pick" ≠ S "then" /\ S "pick" ≠ S "turn")/\(S "not" ≠ S "then" /\ S "not" ≠ S "turn" /\ S "not" ≠ S "pick")/\(S "and" ≠ S "then" /\ S "and" ≠ S "turn" /\ S "and" ≠ S "pick" /\ S "and" ≠ S "not")/\(S "or" ≠ S "then" /\ S "or" ≠ S "turn" /\ S "or" ≠ S "pick" /\ S "or" ≠ S "not")/\S "and" ≠ S "or" := by decide +kernel
section
variable {P:Program}{w:World}{K:PySem.W.Frag}{mg:Str->Option Value}{base:Heap}
theorem JF {G H:Hp}{D:Ends}{σ:St}{tc:TT}{t u:TS}(h:EvT tc σ G true)(s:ZL G H)(k:∀ G' H',Yr G H G' H' -> t D σ H'):zlI tc t u D σ H:=zag h s (λ_=>k) λz=>nomatch z
theorem Jz {σ:St}{G:Hp}{ta tb:TE}{x y:Str}(ha:Ev K ta σ G (.str x))(hb:Ev K tb σ G (.str y))(e:x=y):EvT (zhy (tOp rEq ta tb)) σ G true:=zcO (ZV (K:=K) (Q7 ha hb)) (decide_eq_true e)
theorem Zi {σ:St}{G:Hp}{ta tb:TE}{x y:Str}(ha:Ev K ta σ G (.str x))(hb:Ev K tb σ G (.str y))(e:x≠y):EvT (zhy (tOp rEq ta tb)) σ G false:=zcO (ZV (K:=K) (Q7 ha hb)) (decide_eq_false e)
theorem zmj (T:Top K mg)(W2:Txs K w.params mg "OTHER_WAY" Jh):Yi P w K mg base CX0 3 T.XM T.fd_put_together ["word", "parts"] (spP K zjl):=by
 have G_is_open:Yi P w K mg base CX0 2 T.X6 T.fd_is_open ["part"] (spP K U9):=(zap T).mono (by decide)
 have G_one_then_other:Yi P w K mg base CX0 2 T.Xf T.fd_one_then_other ["one", "other"] (spP K zkN):=zkO T
 have G_turned_about:Yi P w K mg base CX0 2 T.Xe T.fd_turned_about ["part"] (spP K zf3):=zc3 T W2
 have G_picked:Yi P w K mg base CX0 2 T.V9 T.fd_picked ["case", "one", "other"] (spP K zlt):=zgg T
 have G_settled_by:Yi P w K mg base CX0 2 T.XS T.fd_settled_by ["truth", "word", "parts"] (spP K zlf):=za5 T
 obtain ⟨⟨n1,n2,n3⟩,⟨m1,m2,m3⟩,⟨a1,a2,a3,a4⟩,⟨o1,o2,o3,o4⟩,ao⟩:=zh0
 refine T.Qp.ok zah (λvs H Q E h=>?_) (λcdv A outer s H vs Q E hr h=>?_)
 ·obtain ⟨G,as,d,sg,hv,⟨x,n,us,rfl,_⟩,_⟩:=h
  rw[hv.length];rfl
 ·obtain ⟨G,as,d,sg,hv,⟨x,n,us,rfl,rfl,hx⟩,k⟩:=h
  obtain ⟨v1,r1,rfl,h1,hv⟩:=hv.cons
  obtain ⟨v2,r2,rfl,h2,hv⟩:=hv.cons
  cases hv.nil
  refine ⟨_,(Ze (Yt (ZF X7 (pv 0) ZK (ZR _)) (Zo (Zy (Zx G_one_then_other hr (by rfl) T.V8 T.JD.kp T.V7 .nil Z3 (Za (ZZ (Zz (K:=K) rfl) (pv 1) Zg (λ_ _=>rfl)) (Za (ZZ (Zz (K:=K) rfl) (pv 1) Zg (λ_ _=>rfl)) Zf Zu) Zu)))) ZQ)
   (Ze (Yt (ZF X7 (pv 0) ZK (ZR _)) (Zo (Zy (Zx G_turned_about hr (by rfl) T.Qq T.W4.kp T.Qt .nil Z3 (Za (ZZ (Zz (K:=K) rfl) (pv 1) Zg (λ_ _=>rfl)) Zf Zu)))) ZQ)
   (Ze (Yt (ZF X7 (pv 0) ZK (ZR _)) (Zo (Zy (Zx G_picked hr (by rfl) T.zh1 T.zee.kp T.zig .nil Z3 (Za (ZZ (Zz (K:=K) rfl) (pv 1) Zg (λ_ _=>rfl)) (Za (ZZ (Zz (K:=K) rfl) (pv 1) Zg (λ_ _=>rfl)) (Za (ZZ (Zz (K:=K) rfl) (pv 1) Zg (λ_ _=>rfl)) Zf Zu) Zu) Zu)))) ZQ)
   (Ze (Yt (ZF X7 (pv 0) ZK (ZR _)) (Zo (Zy (Wy (VD (Zx G_is_open hr (by rfl) T.J9 T.Je.kp T.JV .nil Z3 (Za (ZZ (Zz (K:=K) rfl) (pv 1) Zg (λ_ _=>rfl)) Zf Zu))) (Yg (Za ZK (Za (ZZ (Zz (K:=K) rfl) (pv 1) Zg (λ_ _=>rfl)) Zf Zu) Zj)) (zj1 (ZZ (Zz (K:=K) rfl) (pv 1) Zg (λ_ _=>rfl)))))) ZQ)
   (Zo (Zy (Zx G_settled_by hr (by rfl) T.J3 T.WM.kp T.J1 .nil Z3 (Za (Vj X7 (pv 0) ZK (ZR _)) (Za (pv 0) (Za (pv 1) Zf Zd) Zd) zfu)))))))) ,?_⟩
  rcases hx with ⟨rfl,rfl,a,b,rfl⟩ | ⟨rfl,rfl,a,rfl⟩ | ⟨rfl,rfl,c,a,b,rfl⟩ | ⟨rfl,rfl,a,rfl⟩ | ⟨rfl,rfl,a,b,rfl⟩ | ⟨rfl,rfl,a,b,rfl⟩
  ·refine JF (Jz (K:=K) (Zb rfl h1) Zk rfl) sg λG1 H1 g1=>?_
   have h2' := h2.same g1.gg
   exact ZW (K:=K) (G:=G1) (Z4 (E:=E0) (R:=zkN) (Zc (YL (Zb rfl h2') Zt rfl rfl) (Zc (YL (Zb rfl h2') Zt rfl rfl) Zr)) ⟨a,b,rfl,rfl⟩) g1.gh λv G' H' g hv=>k v G' H' (g1.trans g) hv
  ·refine ZJ (Zi (K:=K) (Zb rfl h1) Zk n1) sg λG1 H1 g1=>?_
   refine JF (Jz (K:=K) (Zb rfl (h1.same g1.gg)) Zk rfl) g1.gh λG2 H2 g2=>?_
   have g12:=g1.trans g2
   have h2' := h2.same g12.gg
   exact ZW (K:=K) (G:=G2) (Z4 (E:=E0) (R:=zf3) (Zc (YL (Zb rfl h2') Zt rfl rfl) Zr) ⟨a,rfl,rfl⟩) g2.gh λv G' H' g hv=>k v G' H' (g12.trans g) hv
  ·refine ZJ (Zi (K:=K) (Zb rfl h1) Zk n2) sg λG1 H1 g1=>?_
   refine ZJ (Zi (K:=K) (Zb rfl (h1.same g1.gg)) Zk n3) g1.gh λG2 H2 g2=>?_
   have g12:=g1.trans g2
   refine JF (Jz (K:=K) (Zb rfl (h1.same g12.gg)) Zk rfl) g2.gh λG3 H3 g3=>?_
   have g13:=g12.trans g3
   have h2' := h2.same g13.gg
   exact ZW (K:=K) (G:=G3) (Z4 (E:=E0) (R:=zlt) (Zc (YL (Zb rfl h2') Zt rfl rfl) (Zc (YL (Zb rfl h2') Zt rfl rfl) (Zc (YL (Zb rfl h2') Zt rfl rfl) Zr))) ⟨c,a,b,rfl,rfl⟩) g3.gh λv G' H' g hv=>k v G' H' (g13.trans g) hv
  ·refine ZJ (Zi (K:=K) (Zb rfl h1) Zk m1) sg λG1 H1 g1=>?_
   refine ZJ (Zi (K:=K) (Zb rfl (h1.same g1.gg)) Zk m2) g1.gh λG2 H2 g2=>?_
   have g12:=g1.trans g2
   refine ZJ (Zi (K:=K) (Zb rfl (h1.same g12.gg)) Zk m3) g2.gh λG3 H3 g3=>?_
   have g13:=g12.trans g3
   refine JF (Jz (K:=K) (Zb rfl (h1.same g13.gg)) Zk rfl) g3.gh λG4 H4 g4=>?_
   have g14:=g13.trans g4
   have h2' := h2.same g14.gg
   exact ZW (K:=K) (G:=G4) (VN (zfs (K:=K) (Z4 (E:=E0) (R:=U9) (d:=.bool false) (Zc (YL (Zb rfl h2') Zt rfl rfl) Zr) ⟨.inr ⟨_,rfl⟩,rfl⟩)) (λz=>nomatch z) (λ_=>zgm (YL (Zb rfl h2') Zt rfl rfl))) g4.gh λv G' H' g hv=>k v G' H' (g14.trans g) hv
  ·refine ZJ (Zi (K:=K) (Zb rfl h1) Zk a1) sg λG1 H1 g1=>?_
   refine ZJ (Zi (K:=K) (Zb rfl (h1.same g1.gg)) Zk a2) g1.gh λG2 H2 g2=>?_
   have g12:=g1.trans g2
   refine ZJ (Zi (K:=K) (Zb rfl (h1.same g12.gg)) Zk a3) g2.gh λG3 H3 g3=>?_
   have g13:=g12.trans g3
   refine ZJ (Zi (K:=K) (Zb rfl (h1.same g13.gg)) Zk a4) g3.gh λG4 H4 g4=>?_
   have g14:=g13.trans g4
   exact ZW (K:=K) (G:=G4) (Z4 (E:=E0) (R:=zlf) (Zc (Qv (Q7 (Zb rfl (h1.same g14.gg)) Zk) (by rw[decide_eq_false ao])) (Zc (Zb rfl (h1.same g14.gg)) (Zc (Zb rfl (h2.same g14.gg)) Zr))) ⟨false,_,a,b,rfl,rfl⟩) g4.gh λv G' H' g hv=>k v G' H' (g14.trans g) hv
  ·refine ZJ (Zi (K:=K) (Zb rfl h1) Zk o1) sg λG1 H1 g1=>?_
   refine ZJ (Zi (K:=K) (Zb rfl (h1.same g1.gg)) Zk o2) g1.gh λG2 H2 g2=>?_
   have g12:=g1.trans g2
   refine ZJ (Zi (K:=K) (Zb rfl (h1.same g12.gg)) Zk o3) g2.gh λG3 H3 g3=>?_
   have g13:=g12.trans g3
   refine ZJ (Zi (K:=K) (Zb rfl (h1.same g13.gg)) Zk o4) g3.gh λG4 H4 g4=>?_
   have g14:=g13.trans g4
   exact ZW (K:=K) (G:=G4) (Z4 (E:=E0) (R:=zlf) (Zc (Qv (Q7 (Zb rfl (h1.same g14.gg)) Zk) (by rw[decide_eq_true rfl])) (Zc (Zb rfl (h1.same g14.gg)) (Zc (Zb rfl (h2.same g14.gg)) Zr))) ⟨true,_,a,b,rfl,rfl⟩) g4.gh λv G' H' g hv=>k v G' H' (g14.trans g) hv
end
end K32
namespace K32
open PySem L2 Frac Lw Dig PySem.NumText Nm
open Ord Num Look
def RBF (book:List Str)(E:En):List PyData->PyData->Prop:=λas d=>∃ z,z∈book/\((as=[.str (S "look"),.str z]/\d = .str (E.look z).t)\/(as=[.str (S "same"),.str z]/\d = .bool (isA (E.look z) .like)))
def RBM (book:List Str)(num:Int->Int->Prop)(E:En):List PyData->PyData->Prop:=λas d=>∃ z,z∈book/\∃ a b,num a b/\((as=[.str (S "less"),.str z,dF (a,b)]/\d = .list [.bool (isA (E.one z a b) .ahead),.bool (isA (E.two z a b) .ahead)])\/
 (as=[.str (S "same"),.str z,dF (a,b)]/\d = .list [.bool (isA (E.one z a b) .like),.bool (isA (E.two z a b) .like)]))
def RWT (book:List Str)(num:Int->Int->Prop)(E:En):List PyData->PyData->Prop:=λas d=>∃ (x want:Str) (ps:List Str) (vs:List Tv),as=[.str x,.list (vs.map Tv.d)]/\Yc x=some (x,want,ps)/\Tys (· ∈ book) num ps vs/\d=(zj3 E (wix x) vs).d
def cls2 (P:Program)(w:World)(K:PySem.W.Frag)(mg:Str->Option Value)(base:Heap)(book:List Str)(num:Int->Int->Prop)(E:En)(f1 f2:Addr):Shared->Hp->Prop:=λs H=>zg8 P w K mg base 3 f1 2 (spP K (RBF book E)) s H/\zg8 P w K mg base 3 f2 3 (spP K (RBM book num E)) s H
theorem zlB {P:Program}{w:World}{K:PySem.W.Frag}{mg:Str->Option Value}{base:Heap}{book:List Str}{num:Int->Int->Prop}{E:En}{f1 f2:Addr}:∀ (fs:List Addr)(s:Shared)(H:Hp)(s' : Shared)(H' : Hp),Un fs [] H H' s.heap s'.heap->cls2 P w K mg base book num E f1 f2 s H->cls2 P w K mg base book num E f1 f2 s' H' :=
 λ_ _ _ _ _ u C=>⟨C.1.un u,C.2.un u⟩
section
variable {P:Program}{w:World}{K:PySem.W.Frag}{mg:Str->Option Value}{base:Heap}
theorem zom (T:Top K mg)(W2:Txs K w.params mg "OTHER_WAY" Jh)(book:List Str)(num:Int->Int->Prop)(E:En)(f1 f2:Addr):zaJ P w K mg base 4 T.Jq T.fd_word_told ["word", "parts", "by_field", "by_mark"] (λs vs H Q=>cls2 P w K mg base book num E f1 f2 s H/\spC K f1 f2 (RWT book num E) vs H Q E0):=by
 have G_turned_about:Yi P w K mg base CX0 3 T.Xe T.fd_turned_about ["part"] (spP K zf3):=(zc3 T W2).mono (by decide)
 have G_settled_by:Yi P w K mg base CX0 3 T.XS T.fd_settled_by ["truth", "word", "parts"] (spP K zlf):=(za5 T).mono (by decide)
 have G_put_together:Yi P w K mg base CX0 3 T.XM T.fd_put_together ["word", "parts"] (spP K zjl):=zmj T W2
 obtain ⟨w0,w1,w2,w3,w4,w5,w6,w7,w8,w9,w10,w11,w12,w13⟩:=Qm
 refine T.zad.okS zdb (λs vs H Q h=>?_) (λcdv A outer s H vs Q hr h=>?_)
 ·obtain ⟨_,G,as,d,xs,rfl,sg,hv,⟨x,want,ps,us,rfl,_⟩,_⟩:=h
  rw[List.length_append,hv.length];rfl
 ·obtain ⟨⟨C_by_field,C_by_mark⟩,G,as,d,xs,rfl,sg,hv,⟨x,want,ps,us,rfl,hw,hty,rfl⟩,k⟩:=h
  have hu:=hr.units
  obtain ⟨v1,r1,rfl,h1,hv⟩:=hv.cons
  obtain ⟨v2,r2,rfl,h2,hv⟩:=hv.cons
  cases hv.nil
  have go1:∀ {p:Str},Tys (· ∈ book) num [p] us->∃ v,us=[v]/\Ty (· ∈ book) num p v:=λh=>by cases h with | cons a b=>cases b;exact ⟨_,rfl,a⟩
  have go2:∀ {p q:Str},Tys (· ∈ book) num [p,q] us->∃ v u,us=[v,u]/\Ty (· ∈ book) num p v/\Ty (· ∈ book) num q u:=λh=>by cases h with | cons a b=>cases b with | cons b c=>cases c;exact ⟨_,_,rfl,a,b⟩
  have go3:∀ {p q r:Str},Tys (· ∈ book) num [p,q,r] us->∃ v u t,us=[v,u,t]/\Ty (· ∈ book) num p v/\Ty (· ∈ book) num q u/\Ty (· ∈ book) num r t:=λh=>by cases h with | cons a b=>cases b with | cons b c=>cases c with | cons c d=>cases d;exact ⟨_,_,_,rfl,a,b,c⟩
  refine ⟨_,(Ze (Yt (ZF X7 (pv 0) ZK (ZR _)) (Zo (Zy ZK)) ZQ)
   (Ze (Yt (ZF X7 (pv 0) ZK (ZR _)) (Zo (Zy (QZ (i:=2) rfl (Or.inl rfl) (hr.mono (by decide)) rfl C_by_field (Za ZK (Za (ZZ (Zz (K:=K) rfl) (pv 1) Zg (λ_ _=>rfl)) Zf Zu) Zj)))) ZQ)
   (Ze (Yt (ZF X7 (pv 0) ZK (ZR _)) (Zo (Zy (Zx G_turned_about hr (by rfl) T.Qq T.W4.kp T.Qt .nil Z3 (Za (QZ (i:=2) rfl (Or.inl rfl) (hr.mono (by decide)) rfl C_by_field (Za ZK (Za (ZZ (Zz (K:=K) rfl) (pv 1) Zg (λ_ _=>rfl)) Zf Zu) Zj)) Zf Xa)))) ZQ)
   (Ze (Yt (ZF X7 (pv 0) ZK (ZR _)) (Zo (Zy (QZ (i:=2) rfl (Or.inl rfl) (hr.mono (by decide)) rfl C_by_field (Za ZK (Za (ZZ (Zz (K:=K) rfl) (pv 1) Zg (λ_ _=>rfl)) Zf Zu) Zj)))) ZQ)
   (Ze (Yt (ZF X7 (pv 0) ZK (ZR _)) (Zo (Zy (QZ (i:=3) rfl (Or.inl rfl) (hr.mono (by decide)) rfl C_by_mark (Za ZK (Za (ZZ (Zz (K:=K) rfl) (pv 1) Zg (λ_ _=>rfl)) (Za (ZZ (Zz (K:=K) rfl) (pv 1) Zg (λ_ _=>rfl)) Zf Zu) Zu) Zj)))) ZQ)
   (Ze (Yt (ZF X7 (pv 0) ZK (ZR _)) (Zo (Zy (QZ (i:=3) rfl (Or.inl rfl) (hr.mono (by decide)) rfl C_by_mark (Za ZK (Za (ZZ (Zz (K:=K) rfl) (pv 1) Zg (λ_ _=>rfl)) (Za (ZZ (Zz (K:=K) rfl) (pv 1) Zg (λ_ _=>rfl)) Zf Zu) Zu) Zj)))) ZQ)
   (Ze (Yt (ZF X7 (pv 0) ZK (ZR _)) (Zo (Zy (Zx G_settled_by hr (by rfl) T.J3 T.WM.kp T.J1 .nil Z3 (Za zaS (Za ZK (Za (ZZ (Zz (K:=K) rfl) (pv 1) Zg (λ_ _=>rfl)) Zf Zu) Zj) Zj)))) ZQ)
   (Ze (Yt (ZF X7 (pv 0) ZK (ZR _)) (Zo (Zy (Zx G_settled_by hr (by rfl) T.J3 T.WM.kp T.J1 .nil Z3 (Za zaS (Za ZK (Za (ZZ (Zz (K:=K) rfl) (pv 1) Zg (λ_ _=>rfl)) Zf Zu) Zj) Zj)))) ZQ)
   (Zo (Zy (Zx G_put_together hr (by rfl) T.zaP T.Qp.kp T.zaK .nil Z3 (Za (pv 0) (Za (pv 1) Zf Zd) Zd)))))))))))) ,?_⟩
  rcases zjc hw with ⟨rfl,rfl,rfl⟩ | ⟨rfl,rfl,rfl⟩ | ⟨rfl,rfl,rfl⟩ | ⟨rfl,rfl,rfl⟩ | ⟨rfl,rfl,rfl⟩ | ⟨rfl,rfl,rfl⟩ | ⟨rfl,rfl,rfl⟩ | ⟨rfl,rfl,rfl⟩ | ⟨rfl,rfl,rfl⟩ | ⟨rfl,rfl,rfl⟩ | ⟨rfl,rfl,rfl⟩ | ⟨rfl,rfl,rfl⟩ | ⟨rfl,rfl,rfl⟩ | ⟨rfl,rfl,rfl⟩
  ·rw[w0] at k
   refine JF (Jz (K:=K) (Zb rfl h1) Zk rfl) sg λG1 H1 q1=>?_
   have g1:=q1
   have h2' := h2.same g1.gg
   exact ZW (K:=K) (G:=G1) Zk q1.gh λv G' H' g hv=>k v G' H' (g1.trans g) hv
  ·obtain ⟨v,rfl,t1⟩:=go1 hty;obtain ⟨z,hz,rfl⟩:=t1.field;rw[w1] at k
   refine ZJ (Zi (K:=K) (Zb rfl h1) Zk (by decide +kernel)) sg λG1 H1 q1=>?_
   have g1:=q1
   refine JF (Jz (K:=K) (Zb rfl (h1.same g1.gg)) Zk rfl) q1.gh λG2 H2 q2=>?_
   have g2:=g1.trans q2
   have h2' := h2.same g2.gg
   exact ZW (K:=K) (G:=G2) (Vb (R:=RBF book E) rfl (Zc Zk (Zc (YL (Zb rfl h2') Zt rfl rfl) Zr)) rfl ⟨z,hz,.inl ⟨rfl,rfl⟩⟩) q2.gh λv G' H' g hv=>k v G' H' (g2.trans g) hv
  ·obtain ⟨v,rfl,t1⟩:=go1 hty;obtain ⟨z,hz,rfl⟩:=t1.field;rw[w2] at k
   refine ZJ (Zi (K:=K) (Zb rfl h1) Zk (by decide +kernel)) sg λG1 H1 q1=>?_
   have g1:=q1
   refine ZJ (Zi (K:=K) (Zb rfl (h1.same g1.gg)) Zk (by decide +kernel)) q1.gh λG2 H2 q2=>?_
   have g2:=g1.trans q2
   refine JF (Jz (K:=K) (Zb rfl (h1.same g2.gg)) Zk rfl) q2.gh λG3 H3 q3=>?_
   have g3:=g2.trans q3
   have h2' := h2.same g3.gg
   exact ZW (K:=K) (G:=G3) (Z4 (E:=E0) (R:=zf3) (Zc (Vb (R:=RBF book E) rfl (Zc Zk (Zc (YL (Zb rfl h2') Zt rfl rfl) Zr)) rfl ⟨z,hz,.inl ⟨rfl,rfl⟩⟩) Zr) ⟨_,rfl,rfl⟩) q3.gh λv G' H' g hv=>k v G' H' (g3.trans g) hv
  ·obtain ⟨v,u,rfl,t1,t2⟩:=go2 hty;obtain ⟨a,rfl⟩:=t1.order;obtain ⟨b,rfl⟩:=t2.order;rw[w3] at k
   refine ZJ (Zi (K:=K) (Zb rfl h1) Zk (by decide +kernel)) sg λG1 H1 q1=>?_
   have g1:=q1
   refine ZJ (Zi (K:=K) (Zb rfl (h1.same g1.gg)) Zk (by decide +kernel)) q1.gh λG2 H2 q2=>?_
   have g2:=g1.trans q2
   refine ZJ (Zi (K:=K) (Zb rfl (h1.same g2.gg)) Zk (by decide +kernel)) q2.gh λG3 H3 q3=>?_
   have g3:=g2.trans q3
   refine ZJ (Zi (K:=K) (Zb rfl (h1.same g3.gg)) Zk (by decide +kernel)) q3.gh λG4 H4 q4=>?_
   have g4:=g3.trans q4
   refine ZJ (Zi (K:=K) (Zb rfl (h1.same g4.gg)) Zk (by decide +kernel)) q4.gh λG5 H5 q5=>?_
   have g5:=g4.trans q5
   refine ZJ (Zi (K:=K) (Zb rfl (h1.same g5.gg)) Zk (by decide +kernel)) q5.gh λG6 H6 q6=>?_
   have g6:=g5.trans q6
   refine ZJ (Zi (K:=K) (Zb rfl (h1.same g6.gg)) Zk (by decide +kernel)) q6.gh λG7 H7 q7=>?_
   have g7:=g6.trans q7
   refine ZJ (Zi (K:=K) (Zb rfl (h1.same g7.gg)) Zk (by decide +kernel)) q7.gh λG8 H8 q8=>?_
   have g8:=g7.trans q8
   have h2' := h2.same g8.gg
   exact ZW (K:=K) (G:=G8) (Z4 (E:=E0) (R:=zjl) (Zc (Zb rfl (h1.same g8.gg)) (Zc (Zb rfl h2') Zr)) ⟨_,3,_,rfl,rfl,.inl ⟨rfl,rfl,a,b,rfl⟩⟩) q8.gh λv G' H' g hv=>k v G' H' (g8.trans g) hv
  ·obtain ⟨v,rfl,t1⟩:=go1 hty;obtain ⟨a,rfl⟩:=t1.order;rw[w4] at k
   refine ZJ (Zi (K:=K) (Zb rfl h1) Zk (by decide +kernel)) sg λG1 H1 q1=>?_
   have g1:=q1
   refine ZJ (Zi (K:=K) (Zb rfl (h1.same g1.gg)) Zk (by decide +kernel)) q1.gh λG2 H2 q2=>?_
   have g2:=g1.trans q2
   refine ZJ (Zi (K:=K) (Zb rfl (h1.same g2.gg)) Zk (by decide +kernel)) q2.gh λG3 H3 q3=>?_
   have g3:=g2.trans q3
   refine ZJ (Zi (K:=K) (Zb rfl (h1.same g3.gg)) Zk (by decide +kernel)) q3.gh λG4 H4 q4=>?_
   have g4:=g3.trans q4
   refine ZJ (Zi (K:=K) (Zb rfl (h1.same g4.gg)) Zk (by decide +kernel)) q4.gh λG5 H5 q5=>?_
   have g5:=g4.trans q5
   refine ZJ (Zi (K:=K) (Zb rfl (h1.same g5.gg)) Zk (by decide +kernel)) q5.gh λG6 H6 q6=>?_
   have g6:=g5.trans q6
   refine ZJ (Zi (K:=K) (Zb rfl (h1.same g6.gg)) Zk (by decide +kernel)) q6.gh λG7 H7 q7=>?_
   have g7:=g6.trans q7
   refine ZJ (Zi (K:=K) (Zb rfl (h1.same g7.gg)) Zk (by decide +kernel)) q7.gh λG8 H8 q8=>?_
   have g8:=g7.trans q8
   have h2' := h2.same g8.gg
   exact ZW (K:=K) (G:=G8) (Z4 (E:=E0) (R:=zjl) (Zc (Zb rfl (h1.same g8.gg)) (Zc (Zb rfl h2') Zr)) ⟨_,4,_,rfl,rfl,.inr (.inl ⟨rfl,rfl,a,rfl⟩)⟩) q8.gh λv G' H' g hv=>k v G' H' (g8.trans g) hv
  ·obtain ⟨v,u,t,rfl,t1,t2,t3⟩:=go3 hty;obtain ⟨c,rfl⟩:=t1.case;obtain ⟨a,rfl⟩:=t2.order;obtain ⟨b,rfl⟩:=t3.order;rw[w5] at k
   refine ZJ (Zi (K:=K) (Zb rfl h1) Zk (by decide +kernel)) sg λG1 H1 q1=>?_
   have g1:=q1
   refine ZJ (Zi (K:=K) (Zb rfl (h1.same g1.gg)) Zk (by decide +kernel)) q1.gh λG2 H2 q2=>?_
   have g2:=g1.trans q2
   refine ZJ (Zi (K:=K) (Zb rfl (h1.same g2.gg)) Zk (by decide +kernel)) q2.gh λG3 H3 q3=>?_
   have g3:=g2.trans q3
   refine ZJ (Zi (K:=K) (Zb rfl (h1.same g3.gg)) Zk (by decide +kernel)) q3.gh λG4 H4 q4=>?_
   have g4:=g3.trans q4
   refine ZJ (Zi (K:=K) (Zb rfl (h1.same g4.gg)) Zk (by decide +kernel)) q4.gh λG5 H5 q5=>?_
   have g5:=g4.trans q5
   refine ZJ (Zi (K:=K) (Zb rfl (h1.same g5.gg)) Zk (by decide +kernel)) q5.gh λG6 H6 q6=>?_
   have g6:=g5.trans q6
   refine ZJ (Zi (K:=K) (Zb rfl (h1.same g6.gg)) Zk (by decide +kernel)) q6.gh λG7 H7 q7=>?_
   have g7:=g6.trans q7
   refine ZJ (Zi (K:=K) (Zb rfl (h1.same g7.gg)) Zk (by decide +kernel)) q7.gh λG8 H8 q8=>?_
   have g8:=g7.trans q8
   have h2' := h2.same g8.gg
   exact ZW (K:=K) (G:=G8) (Z4 (E:=E0) (R:=zjl) (Zc (Zb rfl (h1.same g8.gg)) (Zc (Zb rfl h2') Zr)) ⟨_,5,_,rfl,rfl,.inr (.inr (.inl ⟨rfl,rfl,c,a,b,rfl⟩))⟩) q8.gh λv G' H' g hv=>k v G' H' (g8.trans g) hv
  ·obtain ⟨v,rfl,t1⟩:=go1 hty;obtain ⟨z,hz,rfl⟩:=t1.field;rw[w6] at k
   refine ZJ (Zi (K:=K) (Zb rfl h1) Zk (by decide +kernel)) sg λG1 H1 q1=>?_
   have g1:=q1
   refine ZJ (Zi (K:=K) (Zb rfl (h1.same g1.gg)) Zk (by decide +kernel)) q1.gh λG2 H2 q2=>?_
   have g2:=g1.trans q2
   refine ZJ (Zi (K:=K) (Zb rfl (h1.same g2.gg)) Zk (by decide +kernel)) q2.gh λG3 H3 q3=>?_
   have g3:=g2.trans q3
   refine JF (Jz (K:=K) (Zb rfl (h1.same g3.gg)) Zk rfl) q3.gh λG4 H4 q4=>?_
   have g4:=g3.trans q4
   have h2' := h2.same g4.gg
   exact ZW (K:=K) (G:=G4) (Vb (R:=RBF book E) rfl (Zc Zk (Zc (YL (Zb rfl h2') Zt rfl rfl) Zr)) rfl ⟨z,hz,.inr ⟨rfl,rfl⟩⟩) q4.gh λv G' H' g hv=>k v G' H' (g4.trans g) hv
  ·obtain ⟨v,rfl,t1⟩:=go1 hty;obtain ⟨a,b,rfl⟩:=t1.mark;rw[w7] at k
   refine ZJ (Zi (K:=K) (Zb rfl h1) Zk (by decide +kernel)) sg λG1 H1 q1=>?_
   have g1:=q1
   refine ZJ (Zi (K:=K) (Zb rfl (h1.same g1.gg)) Zk (by decide +kernel)) q1.gh λG2 H2 q2=>?_
   have g2:=g1.trans q2
   refine ZJ (Zi (K:=K) (Zb rfl (h1.same g2.gg)) Zk (by decide +kernel)) q2.gh λG3 H3 q3=>?_
   have g3:=g2.trans q3
   refine ZJ (Zi (K:=K) (Zb rfl (h1.same g3.gg)) Zk (by decide +kernel)) q3.gh λG4 H4 q4=>?_
   have g4:=g3.trans q4
   refine ZJ (Zi (K:=K) (Zb rfl (h1.same g4.gg)) Zk (by decide +kernel)) q4.gh λG5 H5 q5=>?_
   have g5:=g4.trans q5
   refine ZJ (Zi (K:=K) (Zb rfl (h1.same g5.gg)) Zk (by decide +kernel)) q5.gh λG6 H6 q6=>?_
   have g6:=g5.trans q6
   refine JF (Jz (K:=K) (Zb rfl (h1.same g6.gg)) Zk rfl) q6.gh λG7 H7 q7=>?_
   have g7:=g6.trans q7
   have h2' := h2.same g7.gg
   exact ZW (K:=K) (G:=G7) (Z4 (E:=E0) (R:=zlf) (Zc znh (Zc Zk (Zc (YL (Zb rfl h2') Zt rfl rfl) Zr))) ⟨false,_,a,b,rfl,rfl⟩) q7.gh λv G' H' g hv=>k v G' H' (g7.trans g) hv
  ·obtain ⟨v,rfl,t1⟩:=go1 hty;obtain ⟨a,b,rfl⟩:=t1.mark;rw[w8] at k
   refine ZJ (Zi (K:=K) (Zb rfl h1) Zk (by decide +kernel)) sg λG1 H1 q1=>?_
   have g1:=q1
   refine ZJ (Zi (K:=K) (Zb rfl (h1.same g1.gg)) Zk (by decide +kernel)) q1.gh λG2 H2 q2=>?_
   have g2:=g1.trans q2
   refine ZJ (Zi (K:=K) (Zb rfl (h1.same g2.gg)) Zk (by decide +kernel)) q2.gh λG3 H3 q3=>?_
   have g3:=g2.trans q3
   refine ZJ (Zi (K:=K) (Zb rfl (h1.same g3.gg)) Zk (by decide +kernel)) q3.gh λG4 H4 q4=>?_
   have g4:=g3.trans q4
   refine ZJ (Zi (K:=K) (Zb rfl (h1.same g4.gg)) Zk (by decide +kernel)) q4.gh λG5 H5 q5=>?_
   have g5:=g4.trans q5
   refine ZJ (Zi (K:=K) (Zb rfl (h1.same g5.gg)) Zk (by decide +kernel)) q5.gh λG6 H6 q6=>?_
   have g6:=g5.trans q6
   refine ZJ (Zi (K:=K) (Zb rfl (h1.same g6.gg)) Zk (by decide +kernel)) q6.gh λG7 H7 q7=>?_
   have g7:=g6.trans q7
   refine JF (Jz (K:=K) (Zb rfl (h1.same g7.gg)) Zk rfl) q7.gh λG8 H8 q8=>?_
   have g8:=g7.trans q8
   have h2' := h2.same g8.gg
   exact ZW (K:=K) (G:=G8) (Z4 (E:=E0) (R:=zlf) (Zc znh (Zc Zk (Zc (YL (Zb rfl h2') Zt rfl rfl) Zr))) ⟨true,_,a,b,rfl,rfl⟩) q8.gh λv G' H' g hv=>k v G' H' (g8.trans g) hv
  ·obtain ⟨v,rfl,t1⟩:=go1 hty;obtain ⟨a,rfl⟩:=t1.case;rw[w9] at k
   refine ZJ (Zi (K:=K) (Zb rfl h1) Zk (by decide +kernel)) sg λG1 H1 q1=>?_
   have g1:=q1
   refine ZJ (Zi (K:=K) (Zb rfl (h1.same g1.gg)) Zk (by decide +kernel)) q1.gh λG2 H2 q2=>?_
   have g2:=g1.trans q2
   refine ZJ (Zi (K:=K) (Zb rfl (h1.same g2.gg)) Zk (by decide +kernel)) q2.gh λG3 H3 q3=>?_
   have g3:=g2.trans q3
   refine ZJ (Zi (K:=K) (Zb rfl (h1.same g3.gg)) Zk (by decide +kernel)) q3.gh λG4 H4 q4=>?_
   have g4:=g3.trans q4
   refine ZJ (Zi (K:=K) (Zb rfl (h1.same g4.gg)) Zk (by decide +kernel)) q4.gh λG5 H5 q5=>?_
   have g5:=g4.trans q5
   refine ZJ (Zi (K:=K) (Zb rfl (h1.same g5.gg)) Zk (by decide +kernel)) q5.gh λG6 H6 q6=>?_
   have g6:=g5.trans q6
   refine ZJ (Zi (K:=K) (Zb rfl (h1.same g6.gg)) Zk (by decide +kernel)) q6.gh λG7 H7 q7=>?_
   have g7:=g6.trans q7
   refine ZJ (Zi (K:=K) (Zb rfl (h1.same g7.gg)) Zk (by decide +kernel)) q7.gh λG8 H8 q8=>?_
   have g8:=g7.trans q8
   have h2' := h2.same g8.gg
   exact ZW (K:=K) (G:=G8) (Z4 (E:=E0) (R:=zjl) (Zc (Zb rfl (h1.same g8.gg)) (Zc (Zb rfl h2') Zr)) ⟨_,9,_,rfl,rfl,.inr (.inr (.inr (.inl ⟨rfl,rfl,a,rfl⟩)))⟩) q8.gh λv G' H' g hv=>k v G' H' (g8.trans g) hv
  ·obtain ⟨v,u,rfl,t1,t2⟩:=go2 hty;obtain ⟨a,rfl⟩:=t1.case;obtain ⟨b,rfl⟩:=t2.case;rw[w10] at k
   refine ZJ (Zi (K:=K) (Zb rfl h1) Zk (by decide +kernel)) sg λG1 H1 q1=>?_
   have g1:=q1
   refine ZJ (Zi (K:=K) (Zb rfl (h1.same g1.gg)) Zk (by decide +kernel)) q1.gh λG2 H2 q2=>?_
   have g2:=g1.trans q2
   refine ZJ (Zi (K:=K) (Zb rfl (h1.same g2.gg)) Zk (by decide +kernel)) q2.gh λG3 H3 q3=>?_
   have g3:=g2.trans q3
   refine ZJ (Zi (K:=K) (Zb rfl (h1.same g3.gg)) Zk (by decide +kernel)) q3.gh λG4 H4 q4=>?_
   have g4:=g3.trans q4
   refine ZJ (Zi (K:=K) (Zb rfl (h1.same g4.gg)) Zk (by decide +kernel)) q4.gh λG5 H5 q5=>?_
   have g5:=g4.trans q5
   refine ZJ (Zi (K:=K) (Zb rfl (h1.same g5.gg)) Zk (by decide +kernel)) q5.gh λG6 H6 q6=>?_
   have g6:=g5.trans q6
   refine ZJ (Zi (K:=K) (Zb rfl (h1.same g6.gg)) Zk (by decide +kernel)) q6.gh λG7 H7 q7=>?_
   have g7:=g6.trans q7
   refine ZJ (Zi (K:=K) (Zb rfl (h1.same g7.gg)) Zk (by decide +kernel)) q7.gh λG8 H8 q8=>?_
   have g8:=g7.trans q8
   have h2' := h2.same g8.gg
   exact ZW (K:=K) (G:=G8) (Z4 (E:=E0) (R:=zjl) (Zc (Zb rfl (h1.same g8.gg)) (Zc (Zb rfl h2') Zr)) ⟨_,10,_,rfl,rfl,.inr (.inr (.inr (.inr (.inl ⟨rfl,rfl,a,b,rfl⟩))))⟩) q8.gh λv G' H' g hv=>k v G' H' (g8.trans g) hv
  ·obtain ⟨v,u,rfl,t1,t2⟩:=go2 hty;obtain ⟨a,rfl⟩:=t1.case;obtain ⟨b,rfl⟩:=t2.case;rw[w11] at k
   refine ZJ (Zi (K:=K) (Zb rfl h1) Zk (by decide +kernel)) sg λG1 H1 q1=>?_
   have g1:=q1
   refine ZJ (Zi (K:=K) (Zb rfl (h1.same g1.gg)) Zk (by decide +kernel)) q1.gh λG2 H2 q2=>?_
   have g2:=g1.trans q2
   refine ZJ (Zi (K:=K) (Zb rfl (h1.same g2.gg)) Zk (by decide +kernel)) q2.gh λG3 H3 q3=>?_
   have g3:=g2.trans q3
   refine ZJ (Zi (K:=K) (Zb rfl (h1.same g3.gg)) Zk (by decide +kernel)) q3.gh λG4 H4 q4=>?_
   have g4:=g3.trans q4
   refine ZJ (Zi (K:=K) (Zb rfl (h1.same g4.gg)) Zk (by decide +kernel)) q4.gh λG5 H5 q5=>?_
   have g5:=g4.trans q5
   refine ZJ (Zi (K:=K) (Zb rfl (h1.same g5.gg)) Zk (by decide +kernel)) q5.gh λG6 H6 q6=>?_
   have g6:=g5.trans q6
   refine ZJ (Zi (K:=K) (Zb rfl (h1.same g6.gg)) Zk (by decide +kernel)) q6.gh λG7 H7 q7=>?_
   have g7:=g6.trans q7
   refine ZJ (Zi (K:=K) (Zb rfl (h1.same g7.gg)) Zk (by decide +kernel)) q7.gh λG8 H8 q8=>?_
   have g8:=g7.trans q8
   have h2' := h2.same g8.gg
   exact ZW (K:=K) (G:=G8) (Z4 (E:=E0) (R:=zjl) (Zc (Zb rfl (h1.same g8.gg)) (Zc (Zb rfl h2') Zr)) ⟨_,11,_,rfl,rfl,.inr (.inr (.inr (.inr (.inr ⟨rfl,rfl,a,b,rfl⟩))))⟩) q8.gh λv G' H' g hv=>k v G' H' (g8.trans g) hv
  ·obtain ⟨v,u,rfl,t1,t2⟩:=go2 hty;obtain ⟨z,hz,rfl⟩:=t1.field;obtain ⟨a,b,hab,rfl⟩:=t2.number;rw[w12] at k
   refine ZJ (Zi (K:=K) (Zb rfl h1) Zk (by decide +kernel)) sg λG1 H1 q1=>?_
   have g1:=q1
   refine ZJ (Zi (K:=K) (Zb rfl (h1.same g1.gg)) Zk (by decide +kernel)) q1.gh λG2 H2 q2=>?_
   have g2:=g1.trans q2
   refine ZJ (Zi (K:=K) (Zb rfl (h1.same g2.gg)) Zk (by decide +kernel)) q2.gh λG3 H3 q3=>?_
   have g3:=g2.trans q3
   refine ZJ (Zi (K:=K) (Zb rfl (h1.same g3.gg)) Zk (by decide +kernel)) q3.gh λG4 H4 q4=>?_
   have g4:=g3.trans q4
   refine JF (Jz (K:=K) (Zb rfl (h1.same g4.gg)) Zk rfl) q4.gh λG5 H5 q5=>?_
   have g5:=g4.trans q5
   have h2' := h2.same g5.gg
   exact ZW (K:=K) (G:=G5) (Vb (R:=RBM book num E) rfl (Zc Zk (Zc (YL (Zb rfl h2') Zt rfl rfl) (Zc (YL (Zb rfl h2') Zt rfl rfl) Zr))) rfl ⟨z,hz,a,b,hab,.inl ⟨rfl,rfl⟩⟩) q5.gh λv G' H' g hv=>k v G' H' (g5.trans g) hv
  ·obtain ⟨v,u,rfl,t1,t2⟩:=go2 hty;obtain ⟨z,hz,rfl⟩:=t1.field;obtain ⟨a,b,hab,rfl⟩:=t2.number;rw[w13] at k
   refine ZJ (Zi (K:=K) (Zb rfl h1) Zk (by decide +kernel)) sg λG1 H1 q1=>?_
   have g1:=q1
   refine ZJ (Zi (K:=K) (Zb rfl (h1.same g1.gg)) Zk (by decide +kernel)) q1.gh λG2 H2 q2=>?_
   have g2:=g1.trans q2
   refine ZJ (Zi (K:=K) (Zb rfl (h1.same g2.gg)) Zk (by decide +kernel)) q2.gh λG3 H3 q3=>?_
   have g3:=g2.trans q3
   refine ZJ (Zi (K:=K) (Zb rfl (h1.same g3.gg)) Zk (by decide +kernel)) q3.gh λG4 H4 q4=>?_
   have g4:=g3.trans q4
   refine ZJ (Zi (K:=K) (Zb rfl (h1.same g4.gg)) Zk (by decide +kernel)) q4.gh λG5 H5 q5=>?_
   have g5:=g4.trans q5
   refine JF (Jz (K:=K) (Zb rfl (h1.same g5.gg)) Zk rfl) q5.gh λG6 H6 q6=>?_
   have g6:=g5.trans q6
   have h2' := h2.same g6.gg
   exact ZW (K:=K) (G:=G6) (Vb (R:=RBM book num E) rfl (Zc Zk (Zc (YL (Zb rfl h2') Zt rfl rfl) (Zc (YL (Zb rfl h2') Zt rfl rfl) Zr))) rfl ⟨z,hz,a,b,hab,.inr ⟨rfl,rfl⟩⟩) q6.gh λv G' H' g hv=>k v G' H' (g6.trans g) hv
end
end K32
namespace K32
open PySem L2 Frac Lw Dig PySem.NumText Nm
open Ord Num Look Rdo
theorem zlh {K:PySem.W.Frag}{a:Addr}{xs:List V}{g:TG}{tb:TS}{D:Ends}{σ:St}{H:Hp}(Pv:Nat->St->Hp->Prop)(h0:Pv 0 σ H)(hl:∀ i σ H,i<=xs.length->Pv i σ H->SqT K H a xs)
  (hs:∀ i x σ H,xs.reverse[i]?=some x->Pv i σ H->g x σ H fun σ2 H2=>tb { D with nx:=Pv (i+1),ct:=Pv (i+1),bk:=D.nx } σ2 H2) (hd:∀ σ H,Pv xs.length σ H->D.nx σ H):
  ∃ W:Nat->Nat->St->Hp->Prop,(∃ m,W 0 m σ H)/\∀ i m σ H,W i m σ H->
   ((Itv K a xs.length).stop i H/\D.nx σ H)\/((Itv K a xs.length).go i H/\∃ N:St->Hp->Prop,(∀ σ' H',N σ' H' -> ∃ m',m'<m/\W (i+1) m' σ' H')/\∀ x H',(Itv K a xs.length).yld i H x H' -> g x σ H' fun σ2 H2=>tb { D with nx:=N,ct:=N,bk:=D.nx } σ2 H2):=by
 refine ⟨λi m σ H=>m=xs.length-i/\i<=xs.length/\Pv i σ H,⟨xs.length,by simp,Nat.zero_le _,h0⟩,?_⟩
 rintro i m σ H ⟨rfl,hi,p⟩
 have q:=hl i σ H hi p
 by_cases hlt:i<xs.length
 ·refine .inr ⟨⟨hlt,xs,q,rfl⟩,Pv (i+1),fun σ' H' p' => ⟨xs.length-(i+1),by omega,rfl,hlt,p'⟩,λx H' y=>?_⟩
  obtain ⟨e,y⟩:=y
  subst e
  exact hs i x σ _ (y xs q) p
 ·have e:i=xs.length:=by omega
  subst e
  exact .inl ⟨⟨rfl,xs,q⟩,hd σ H p⟩
theorem zeU {fld:Str->Prop}{num:Int->Int->Prop}:∀ {ws:List Wd}{st st' : List Str},Run fld num st ws st' -> Kinds st->∀ j,∃ st2,Kinds st2/\Run fld num st2 (ws.drop j) st'
 | ws,st,_,h,hk,0=>⟨st,hk,h⟩
 | [],st,_,h,hk,j+1=>⟨st,hk,h⟩
 | w::ws,st,_,h,hk,j+1=>by
  cases h with
  | cons a b=>exact zeU b (Vy a hk) j
def zmo (book:List Str)(num:Int->Int->Prop)(E:En):List PyData->PyData->Prop:=λas d=>∃ (ws:List Wd) (a:An),as=[.tuple (ws.map Wd.d)]/\Ju (· ∈ book) num ws/\(∀ R,ev E ws R = .an a::R)/\ws.length<=900/\d = .str a.t
theorem zhh {fld:Str->Prop}{num:Int->Int->Prop}{E:En}:∀ (ws:List Wd),(ev E ws []).length<=ws.length
 | []=>Nat.le_refl _
 | w::ws=>by
  have ih:=zhh (fld:=fld) (num:=num) (E:=E) ws
  show (push E w (ev E ws [])).length<=ws.length+1
  unfold push
  split
  ·rw[List.length_cons];omega
  ·split
   ·rw[List.length_cons,List.length_drop];omega
   ·rw[List.length_cons];omega
section
variable {P:Program}{w:World}{K:PySem.W.Frag}{mg:Str->Option Value}{base:Heap}
theorem zmu {σ:St}{G:Hp}{tb:TE}{x:Str}{r:Str×Str×List Str}(W:Wds K w.params mg)(hb:Ev K tb σ G (.str x))(h:Yc x=some r):
  Ev K (tOp (λx y H Q=>∃ z a g v u,x = .ref a/\y = .str z/\zcx K w.params a g/\g z=some (v,u)/\Q v H) (tC (.ref W.a)) tb) σ G (.tuple [.str r.2.1,.tuple (r.2.2.map PyData.str)]):=
 λG1 H s1 s2 Q k=>hb G1 H s1 s2 _ λu G2 H2 g2 hu=>by
  obtain ⟨v,u',hg,hd⟩:=W.yes x r h
  rw[hu.str]
  exact ⟨x,W.a,W.g,v,u',rfl,rfl,W.D,hg,k _ G2 H2 g2 (hd G2)⟩
theorem zfP (T:Top K mg)(W:Wds K w.params mg)(W2:Txs K w.params mg "OTHER_WAY" Jh)(book:List Str)(num:Int->Int->Prop)(E:En)(hf:∀ z∈book,Yc z=none)(f1 f2:Addr):
  zaJ P w K mg base 5 T.zaw T.fd_telling ["order", "by_field", "by_mark"] (λs vs H Q=>cls2 P w K mg base book num E f1 f2 s H/\spC K f1 f2 (zmo book num E) vs H Q E0):=by
 have G_word_told:zaJ P w K mg base 4 T.Jq T.fd_word_told ["word", "parts", "by_field", "by_mark"] (λs vs H Q=>cls2 P w K mg base book num E f1 f2 s H/\spC K f1 f2 (RWT book num E) vs H Q E0):=zom T W2 book num E f1 f2
 have G_taken:Yi P w K mg base CX0 4 T.zbr T.fd_taken ["told", "many"] zgO:=(zic T).mono (by decide)
 have hst:=zlB (P:=P) (w:=w) (K:=K) (mg:=mg) (base:=base) (book:=book) (num:=num) (E:=E) (f1:=f1) (f2:=f2)
 refine T.zcr.okS Vq (λs vs H Q h=>?_) (λcdv A outer s H vs Q hr h=>?_)
 ·obtain ⟨_,G,as,d,xs,rfl,sg,hv,⟨ws,a,rfl,_⟩,_⟩:=h
  rw[List.length_append,hv.length];rfl
 ·obtain ⟨hC,G,as,d,xs,rfl,sg,hv,⟨ws,a,rfl,ho,hev,hlen,rfl⟩,k⟩:=h
  have hu:=hr.units
  have zl:(2000:Nat)<=sizeLine:=by decide
  obtain ⟨v1,r1,rfl,h1,hv⟩:=hv.cons
  cases hv.nil
  obtain ⟨po,os,rfl,hpo,hos⟩:=h1.tup
  have hol:os.length=ws.length:=by rw[hos.length,List.length_map]
  refine ⟨_,(Ze (ZD (i:=3) Vq.nd rfl (Or.inl rfl) (Xn Zf))
   (Ze (Wz PassesOwn.never rfl (znA (by rfl) T.zgH (pv 0)) (Yy (i:=4) Vq.nd rfl (Or.inl rfl)) (Zo (Yt (ZF (zkT hu) (pv 4) (zb8 (v:=.ref W.a) (by rfl) W.m rfl) (by rfl)) (Zo (J5 (zaM PySem.F.plainAttrs_list PySem.F.slot_list_append PySem.F.type_list_append Wm (pv 3) (Za (zhY G_word_told hC hst rfl hr (by rfl) T.zdK T.zad.kp T.zd3 (Za (pv 4) (Za (Zx G_taken hr (by rfl) T.zj4 T.zhz.kp T.zkZ .nil Z3 (Za (pv 3) (Za (Yd (Yb (K:=K) rfl) (by rfl) T.zb9 PySem.boot_len (Za (ZZ (Xr (K:=K) rfl) (ZZ zbG (zb8 (v:=.ref W.a) (by rfl) W.m rfl) (pv 4) (λ_ _=>rfl)) Zg (λ_ _=>rfl)) Zf Zu)) Zf Xa) Zd)) (Za (pv 1) (Za (pv 2) Zf Zd) Zd) Xa) Zd)) Zf Xa)))) (Zo (J5 (zaM PySem.F.plainAttrs_list PySem.F.slot_list_append PySem.F.type_list_append Wm (pv 3) (Za (pv 4) Zf Zd)))))))
   (Zo (Zy (ZZ (Zz (K:=K) rfl) (pv 3) Zg (λ_ _=>rfl)))))) ,?_⟩
  refine ⟨(by show 0<=sizeLine;decide),λpt hpt=>?_⟩
  refine ⟨_,rfl,po,os,rfl,(ZX hpt).tup (sg.tup hpo),zlh (λi σ H' => ∃ (v:Option V) (xs:List V) (G' : Hp),σ=[some (.ref po),some (.ref f1),some (.ref f2),some (.ref pt),v]/\H' pt=some (.lst xs)/\Yl K G' xs ((ev E (ws.drop (ws.length-i)) []).map Tv.d).reverse/\ZL G G' /\ ZL G' H' /\ G' pt=none/\ZL H H')
   ⟨_,[],G,rfl,Zh,by rw[Nat.sub_zero,List.drop_length];exact ZP,ZL.refl _,sg.trans (ZX hpt),sg.free hpt,ZX hpt⟩ ?_ ?_ ?_⟩
  ·rintro i σ H' _ ⟨v,xs,G',rfl,_,_,g1,g2,_,_⟩
   exact (g1.trans g2).tup hpo
  ·rintro i x σ H' hx ⟨v,xs,G',rfl,hp,hxs,g1,g2,g3,g4⟩
   have hi:i<ws.length:=by
    have:=(List.getElem?_eq_some_iff.mp hx).1
    rw[List.length_reverse,hol] at this;exact this
   have hdr:ws.drop (ws.length-(i+1))=ws[ws.length-(i+1)]::ws.drop (ws.length-i):=by
    rw[List.drop_eq_getElem_cons (by omega:ws.length-(i+1)<ws.length)]
    congr 2;omega
   obtain ⟨st,hks,hrun⟩:=zeU ho zfW (ws.length-(i+1))
   rw[hdr] at hrun
   have hxd:Dat K G x (ws[ws.length-(i+1)]).d:=by
    obtain ⟨d,e1,e2⟩:=(zbo hos).zjK hx
    rw[List.getElem?_reverse (by rw[List.length_map];exact hi),List.length_map,List.getElem?_map,List.getElem?_eq_getElem (by omega)] at e1
    have e1:some (ws[ws.length-1-i]).d=some d:=e1
    injection e1 with e1
    have e3:ws[ws.length-(i+1)]=ws[ws.length-1-i]:=by congr 1;omega
    rw[e3,e1];exact e2
   have hevs:ev E (ws.drop (ws.length-(i+1))) []=push E ws[ws.length-(i+1)] (ev E (ws.drop (ws.length-i)) []):=by rw[hdr];rfl
   have hsl:=zhh (fld:=(· ∈ book)) (num:=num) (E:=E) (ws.drop (ws.length-i))
   rw[List.length_drop] at hsl
   rw[hevs]
   generalize ws[ws.length-(i+1)]=wd at hrun hxd
   generalize ws.drop (ws.length-i)=wr at hrun hxs hsl
   cases hrun with
   | @cons _ st1 _ _ _ sa sb=>
    obtain ⟨hty,_⟩:=zmO (E:=E) hf sb (Vy sa hks) (vs:=[]) .nil
    generalize ev E wr []=stk at hty hxs hsl
    have hxl:xs.length=stk.length:=by rw[hxs.length,List.length_reverse,List.length_map]
    have hxd' := hxd.same g1
    rcases zae sa hks with ⟨z,st0,rfl,rfl,hz,rfl⟩ | ⟨b,c,st0,rfl,rfl,hbc,rfl⟩ | ⟨want,z,ps,st0,rfl,rfl,n1,n2,hw,hl3,rfl⟩
    ·have e:push E (.t z) stk = .wd (.t z)::stk:=by unfold push;dsimp only;rw[hf z hz]
     rw[e]
     have ez:x=V.str z:=hxd'.str
     subst ez
     refine ⟨_,rfl,W.a,W.g,rfl,W.D,.inl ⟨z,rfl,?_⟩⟩
     rw[W.no z (hf z hz)]
     refine ⟨_,rfl,zlH ?_⟩
     refine ⟨_,rfl,.inl ⟨rfl,_,SqL.of hp⟩,_,rfl,pt,_,_,rfl,rfl,hp,by omega,?_⟩
     refine ⟨_,_,G',rfl,Zh,?_,g1,Qg g2 g3,g3,Qg g4 hpt⟩
     rw[List.map_cons,List.reverse_cons]
     exact JT hxs (Z7 z)
    ·obtain ⟨pn,ns,rfl,hpn,hns⟩:=hxd'.tup
     obtain ⟨y1,s1,rfl,d1,hns⟩:=hns.cons
     obtain ⟨y2,s2,rfl,d2,hns⟩:=hns.cons
     cases hns.nil
     rw[d1.int,d2.int] at hpn
     refine ⟨_,rfl,W.a,W.g,rfl,W.D,.inr ⟨pn,b,c,rfl,g2.tup hpn,?_⟩⟩
     refine ⟨_,rfl,zlH ?_⟩
     refine ⟨_,rfl,.inl ⟨rfl,_,SqL.of hp⟩,_,rfl,pt,_,_,rfl,rfl,hp,by omega,?_⟩
     refine ⟨_,_,G',rfl,Zh,?_,g1,Qg g2 g3,g3,Qg g4 hpt⟩
     show Yl K G' _ ((Tv.wd (.n b c)::stk).map Tv.d).reverse
     rw[List.map_cons,List.reverse_cons]
     exact JT hxs hxd'
    ·have e:push E (.t z) stk=zj3 E (wix z) (stk.take ps.length)::stk.drop ps.length:=by unfold push;dsimp only;rw[hw]
     rw[e]
     have ez:x=V.str z:=hxd'.str
     subst ez
     obtain ⟨u,v',hg,_⟩:=W.yes z _ hw
     refine ⟨_,rfl,W.a,W.g,rfl,W.D,.inl ⟨z,rfl,?_⟩⟩
     rw[hg]
     refine ⟨_,rfl,zlJ ?_⟩
     have hpl:ps.length<=stk.length:=by have:=hty.length;rw[List.length_append] at this;omega
     have hLn:stk.length-(stk.length-ps.length)=ps.length:=by omega
     refine ⟨_,rfl,.inl ⟨rfl,_,SqL.of hp⟩,_,rfl,_,rfl,?_⟩
     refine (zax (K:=K) (G:=G') (Zc (JB (zmu W (Zb rfl (Z7 z)) hw) Zt rfl rfl) Zr)).use g2 λv6 G6 H6 g6 h6=>?_
     rw[h6.int,List.length_map]
     have hp6:=g6.hh _ _ hp
     have g6pt:G6 pt=none:=by
      cases e:G6 pt with
      | none=>rfl
      | some o=>
       rcases g6.fr pt o e with q | q
       ·rw[g3] at q;cases q
       ·rw[hp] at q;cases q
     refine ⟨pt,ps.length,xs,rfl,hp6,by rw[hxl];exact hpl,by omega,λl H7 hl nlp h7l h7p h7o=>?_⟩
     have g6l:G6 l=none:=g6.gh.free hl
     have s67:ZL (L2.upd G6 l (.lst (xs.drop (xs.length-ps.length)).reverse)) H7:=λb o q=>by
      by_cases hb:b=l
      ·subst hb;rw[Zh] at q;rw[← q];exact h7l
      ·rw[Zq hb] at q
       have hbp:b≠pt:=λz=>by subst z;rw[g6pt] at q;cases q
       rw[h7o b hb hbp];exact g6.gh _ _ q
     have hxs6:=hxs.same g6.gg
     have hys:Yl K G6 (xs.drop (xs.length-ps.length)).reverse ((stk.take ps.length).map Tv.d):=by
      have q:=zbo (Q9 (xs.length-ps.length) hxs6)
      rw[List.drop_reverse,List.reverse_reverse,List.length_map,hxl,hLn,← List.map_take] at q
      rw[hxl];exact q
     refine ⟨_,rfl,_,rfl,L2.upd G6 l (.lst (xs.drop (xs.length-ps.length)).reverse),[.str z,.list ((stk.take ps.length).map Tv.d)],_,[.str z,.ref l],rfl,s67,ZG (Z7 z) (ZG (YT Zh (hys.same (ZX g6l))) ZP),⟨z,want,ps,_,rfl,hw,(zaA hty).1,rfl⟩,λv8 G8 H8 g8 h8=>?_⟩
     have g8pt:G8 pt=none:=by
      cases e:G8 pt with
      | none=>rfl
      | some o=>
       rcases g8.fr pt o e with q | q
       ·rw[Zq (Ne.symm nlp),g6pt] at q;cases q
       ·rw[h7p] at q;cases q
     have s68:ZL G6 G8:=(ZX g6l).trans g8.gg
     refine ⟨pt,_,_,rfl,rfl,g8.hh _ _ h7p,by rw[List.length_take];omega,?_⟩
     refine ⟨_,_,G8,rfl,Zh,?_,(g1.trans g6.gg).trans s68,Qg g8.gh g8pt,g8pt,λb o q=>?_⟩
     ·rw[List.map_cons,List.reverse_cons]
      refine JT ?_ h8
      have q:=QS (xs.length-ps.length) (hxs6.same s68)
      rw[List.take_reverse,List.length_map,hxl,hLn,← List.map_drop] at q
      rw[hxl];exact q
     ·have hbp:b≠pt:=Zn q hpt
      have q6:=g6.hh _ _ (g4 _ _ q)
      have hbl:b≠l:=Zn q6 hl
      rw[Zq hbp]
      exact g8.hh _ _ (by rw[h7o b hbl hbp];exact q6)
  ·rintro σ H' ⟨v,xs,G',rfl,hp,hxs,g1,g2,g3,g4⟩
   rw[hol,Nat.sub_self,List.drop_zero,hev] at hxs
   obtain ⟨y,ys,rfl,hy,hr'⟩:=hxs.cons
   cases hr'.nil
   rw[show y=V.str a.t from hy.str] at hp
   exact ⟨_,rfl,pt,_,0,_,rfl,rfl,SqL.of hp,rfl,k _ G H' ⟨ZL.refl _,g1.trans g2,g4,λ_ _ h=>.inl h⟩ (Z7 _)⟩
end
end K32
namespace L2
open PySem PySem.Spec PyProof.Rows
section
variable {X:Cx}{o e:Expr}{es:List Expr}{to:TE}{t:TA}{name:Str}{apos cpos:Pos}{id:String}{r:V->List V->Hp->VK->Prop}
def tTM (r:V->List V->Hp->VK->Prop)(to:TE)(t:TA):TE:=fun σ H Q=>to σ H λx H1=>(∃ p xs,x = .ref p/\H1 p=some (.tup xs))/\t σ H1 λvs H2=>r x vs H2 Q
theorem zmh (slot:Slot "tuple" name id)(hty:typeOf (.builtin id)=pure (.type "method_descriptor"))(hm:MtR X id r)(ho:PE X o to)(ha:PA X (e::es) t)
  (hbase:attributeBase o name X.env (eval o X.env)=eval o X.env:=by rfl)
  (hfew:((backTo cpos (starEach (e::es) X.env)).all (λx=>!x.1)&&(backToKw cpos (keywordEach [] X.env)).all (λx=>x.1.isSome)
   && decide ((e::es).length+([]:List Keyword).length+(if ([]:List Keyword).isEmpty then 0 else 1)<30))=true:=by rfl)
  (hline:(apos.endLine==cpos.line)=true:=by rfl) (hs:starEach (e::es) X.env=(false,eval e X.env)::starEach es X.env:=by rfl) (hplain:(backTo cpos (starEach es X.env)).any (·.1)=false:=by rfl):
  PE X (.Call (.Attribute o name apos) (e::es) [] cpos) (tTM r to t):=by
 intro pins s σ H Q I h
 refine wpAny_Call_method_late hbase hfew hline rfl (thn (ho pins s σ H _ I h) λv s1 ⟨x,H1,I1,r1,⟨p,xs,ex,hp⟩,q1⟩=>?_)
 subst ex
 cases (show v=Value.ref p from r1)
 obtain ⟨_,its,_,pt,nd⟩:=I1.hok p _ hp
 refine ⟨"tuple",id,PySem.F.plainAttrs_tuple,slot,hty,pt.typeIs,λa ea=>?_,?_⟩
 ·cases ea;exact nd
 have hA:=ha cpos pins s1 σ H1 _ I1 q1
 rw[hs] at hA ⊢
 refine Calls.callWith_builtin (by show (false||(backTo cpos (starEach es X.env)).any (·.1))=false;rw[hplain] <;> rfl) (Calls.evalArgs_plain ?_)
 exact thn hA λus s2 ⟨vs,H2,I2,r2,q2⟩=>hm pins s2 σ H2 (.ref p) vs (.ref p) us Q I2 (show RelV (.ref p) (.ref p) from rfl) r2 q2
end
end L2
namespace K32
open PySem L2 Frac Lw Dig PySem.NumText Nm
open Ord Num Look Rdo
section
variable {P:Program}{w:World}{K:PySem.W.Frag}{mg:Str->Option Value}{base:Heap}
theorem zdV {f:List (Int×Int)}{n:Nat}(h:n<f.length):(f.map dF)[n]?=some (dF (f.getD n (0,1))):=by
 rw[List.getElem?_map,List.getD_eq_getElem?_getD,List.getElem?_eq_getElem h];rfl
theorem getD_mem {f:List (Int×Int)}{n:Nat}(h:n<f.length):f.getD n (0,1)∈f:=by
 rw[List.getD_eq_getElem?_getD,List.getElem?_eq_getElem h];exact List.getElem_mem h
theorem zjQ {σ:St}{G:Hp}{i:Nat}{tb:TE}{ws:List Str}{z:Str}{p:Addr}(hi:σ[i]?=some (some (.ref p)))(hp:G p=some (.tup (ws.map V.str)))(hb:Ev K tb σ G (.str z))(hz:z∈ws):Ev K (tTM (zhG K) (Xq i) (ZS tb JH)) σ G (.int (ws.idxOf z:Nat)):=
 λG1 H s1 s2 Q k=>⟨_,hi,⟨p,_,rfl,s2 _ _ (s1 _ _ hp)⟩,hb G1 H s1 s2 _ λu G3 H3 g3 hu=>by
  rw[hu.str]
  exact ⟨p,ws,z,rfl,rfl,SqT.of (g3.hh _ _ (s2 _ _ (s1 _ _ hp))),hz,k _ G3 H3 g3 (Zv _)⟩⟩
theorem zbs (ws:List (Int×Int)):noL (.tuple (ws.map dF))=true:=by
 unfold noL
 induction ws with
 | nil=>rfl
 | cons x r ih=>rw[List.map_cons];unfold zmf;rw[ih];rfl
theorem ze3 (T:Top K mg)(W1:Txs K w.params mg "AHEAD" JG){book:List Str}{f g:List (Int×Int)}(hfl:f.length=book.length)(hgl:g.length=book.length)(hf:∀ p∈f,Sz p)(hg:∀ p∈g,Sz p)
  {H0:Hp}{pb:Addr}{vf vg:V}(hb:H0 pb=some (.tup (book.map V.str))) (hvf:Dat K H0 vf (.tuple (f.map dF))) (hvg:Dat K H0 vg (.tuple (g.map dF)))
  {A:Around}{outer:List Env}{s' : Shared} {H' : Hp} {vs:List V}{Q:VK}{fa c' : Addr} {cl:List (Str×Addr)}(hr:Wx 2 (A.deeper (zkq XF (Zm Yx) s'.heap.objs.size fa (.ref c') cl))) (kp:Kp H0 H') (h:spP K (RBF book (zcI book f g)) vs H' Q E0):
  ∃ t,PSs (zaQ P w K mg base ((["word", "field"]:List Str)++(["place"]:List Str)++(["book", "first", "second"]:List Str)) XF (Zm Yx) fa c' cl A outer s' H') (Y5 Yx) t/\t { nx:=λ_ H' => Q .non H',rt:=Q } (vs.map some++List.replicate (["place"]:List Str).length none++[some (.ref pb),some vf,some vg]) H' := by
 have G_answer:Yi P w K mg base CX0 2 T.QJ T.fd_answer ["word", "how"] (spP K zlP):=(zcK T W1).mono (by decide)
 have G_how_stands:Yi P w K mg base CX0 2 T.X3 T.fd_how_stands ["one", "other"] (spP K zl8):=zjU T
 have hu:=hr.units
 obtain ⟨G,as,d,sg,hv,⟨z,hz,hx⟩,k⟩:=h
 have hi:book.idxOf z<book.length:=List.idxOf_lt_length_of_mem hz
 have hb' := kp.1 _ _ hb
 have hf' := kp.dat _ _ (zbs _) hvf
 have hg' := kp.dat _ _ (zbs _) hvg
 have key:∀ {x:Str}{e:PyData}{v1 v2:V},Dat K H' v1 (.str x)->Dat K H' v2 (.str z)->zlP [.str x,.str (hsA (f.getD (book.idxOf z) (0,1)) (g.getD (book.idxOf z) (0,1))).how] e->(∀ v G' H'',Yr H' H' G' H'' -> Dat K G' v e->Q v H'')->
   ∃ t,PSs (zaQ P w K mg base ((["word", "field"]:List Str)++(["place"]:List Str)++(["book", "first", "second"]:List Str)) XF (Zm Yx) fa c' cl A outer s' H') (Y5 Yx) t/\t { nx:=λ_ H' => Q .non H',rt:=Q } [some v1,some v2,none,some (.ref pb),some vf,some vg] H' := λ{x e v1 v2} h1 h2 hR hk=>by
  refine ⟨_,(Ze (ZD (i:=2) QD.nd rfl (Or.inl rfl) (zmh PySem.F.slot_tuple_index PySem.F.type_tuple_index (zcw (K:=K) rfl) (pv 3) (Za (pv 1) Zf Zd)))
   (Zo (Zy (Zx G_answer hr (by rfl) T.zd9 T.zbX.kp T.zek .nil Z3 (Za (pv 0) (Za (Zx G_how_stands hr (by rfl) T.VF T.J0.kp T.VM .nil Z3 (Za (ZZ (Xr (K:=K) rfl) (pv 4) (pv 2) (λ_ _=>rfl)) (Za (ZZ (Xr (K:=K) rfl) (pv 5) (pv 2) (λ_ _=>rfl)) Zf Zu) Zu)) Zf Xa) Zd))))) ,?_⟩
  refine Jb (K:=K) (G:=H') (zjQ rfl hb' (Zb rfl h2) hz) (ZL.refl _) λv3 G1 H1 g1 h3=>?_
  refine ZW (K:=K) (G:=G1) (Z4 (E:=E0) (R:=zlP) (Zc (Zb rfl (h1.same g1.gg)) (Zc (Z4 (E:=E0) (R:=zl8) (Zc (JB (Zb rfl (hf'.same g1.gg)) (Zb rfl h3) (Xk (by rw[List.length_map];omega)) (zdV (by omega))) (Zc (JB (Zb rfl (hg'.same g1.gg)) (Zb rfl h3) (Xk (by rw[List.length_map];omega)) (zdV (by omega))) Zr)) ⟨_,_,rfl,hf _ (getD_mem (by omega)),hg _ (getD_mem (by omega)),rfl⟩) Zr)) hR) g1.gh λv G' H'' g hv=>hk v G' H'' (g1.trans g) hv
 rcases hx with ⟨rfl,rfl⟩ | ⟨rfl,rfl⟩
 ·obtain ⟨v1,r1,rfl,h1,hv⟩:=hv.cons
  obtain ⟨v2,r2,rfl,h2,hv⟩:=hv.cons
  cases hv.nil
  exact key (h1.same sg) (h2.same sg) ⟨_,.inl ⟨rfl,rfl⟩⟩ λv G' H'' g hv=>by
   rw[hv.str]
   exact k _ G H'' ⟨ZL.refl _,sg.trans g.hh,g.hh,λ_ _ h=>.inl h⟩ (Z7 _)
 ·obtain ⟨v1,r1,rfl,h1,hv⟩:=hv.cons
  obtain ⟨v2,r2,rfl,h2,hv⟩:=hv.cons
  cases hv.nil
  refine key (e:=.bool (isA (hsA (f.getD (book.idxOf z) (0,1)) (g.getD (book.idxOf z) (0,1))) .like)) (h1.same sg) (h2.same sg) ⟨_,.inr ⟨_,by decide +kernel,rfl,?_⟩⟩ λv G' H'' g hv=>by
   rw[hv.bl]
   exact k _ G H'' ⟨ZL.refl _,sg.trans g.hh,g.hh,λ_ _ h=>.inl h⟩ (Yn _)
  congr 1
  generalize hsA _ _=a
  cases a <;> decide +kernel
end
end K32
namespace K32
open PySem L2 Frac Lw Dig PySem.NumText Nm
open Ord Num Look Rdo
def wid (G H:Hp):Hp:=λb=>match G b with
 | some o=>some o
 | none=>match H b with
  | some (.lst _)=>none
  | o=>o
theorem zi6 {G H:Hp}:ZL G (wid G H):=λb o e=>by unfold wid;rw[e]
theorem zna {G H:Hp}(s:ZL G H):ZL (wid G H) H:=λb o e=>by
 unfold wid at e
 cases hg:G b with
 | some o' => rw[hg] at e;dsimp only at e;rw[← e];exact s _ _ hg
 | none=>
  rw[hg] at e
  dsimp only at e
  split at e
  ·cases e
  ·exact e
theorem zmS {G H:Hp}(s:ZL G H):Kp H (wid G H):=by
 refine ⟨λb xs e=>?_,λb o u e=>?_⟩
 ·unfold wid
  cases hg:G b with
  | some o' => rw[s _ _ hg] at e;exact e
  | none=>dsimp only;rw[e]
 ·unfold wid
  cases hg:G b with
  | some o' => rw[s _ _ hg] at e;exact e
  | none=>dsimp only;rw[e]
theorem ziZ {K:PySem.W.Frag}{G H G' H' : Hp}{v:V}{ds:List PyData}(s:ZL G H)(g:Yr (wid G H) H G' H')(hv:Dat K G' v (.list ds))(hf:∀ {G1 G2:Hp}{xs:List V},Yl K G1 xs ds->Yl K G2 xs ds):∃ G'',Yr G H G'' H' /\ Dat K G'' v (.list ds):=by
 obtain ⟨p,xs,rfl,hp,hx⟩:=hv.lst
 cases hg:G p with
 | some o=>
  have e:=g.gg _ _ (zi6 (H:=H) _ _ hg)
  rw[hp] at e
  injection e with e
  refine ⟨G,⟨ZL.refl _,s.trans g.hh,g.hh,λ_ _ h=>.inl h⟩,YT (xs:=xs) (by rw[hg,← e]) (hf hx)⟩
 | none=>
  have hn:H p=none:=by
   rcases g.fr p _ hp with q | q
   ·have hH:=zna s _ _ q
    unfold wid at q
    rw[hg] at q
    dsimp only at q
    rw[hH] at q
    cases q
   ·exact q
  have sG:ZL G (L2.upd G p (.lst xs)):=ZX hg
  refine ⟨L2.upd G p (.lst xs),⟨sG,λb o e=>?_,g.hh,λb o e=>?_⟩,YT Zh (hf hx)⟩
  ·by_cases hb:b=p
   ·subst hb;rw[Zh] at e;rw[← e];exact g.gh _ _ hp
   ·rw[Zq hb] at e;exact g.hh _ _ (s _ _ e)
  ·by_cases hb:b=p
   ·subst hb;exact .inr hn
   ·rw[Zq hb] at e;exact .inl e
theorem zmW {a:An}{x:Str}{b:An}(h:b.how=x):decide (a.how=x)=isA a b:=by
 subst h
 cases a <;> cases b <;> decide +kernel
section
variable {P:Program}{w:World}{K:PySem.W.Frag}{mg:Str->Option Value}{base:Heap}
theorem zhi (T:Top K mg)(W1:Txs K w.params mg "AHEAD" JG){book:List Str}{f g:List (Int×Int)}{num:Int->Int->Prop}(hnum:∀ a b,num a b->Sz (a,b))(hfl:f.length=book.length)(hgl:g.length=book.length)(hf:∀ p∈f,Sz p)(hg:∀ p∈g,Sz p)
  {H0:Hp}{pb:Addr}{vf vg:V}(hb:H0 pb=some (.tup (book.map V.str))) (hvf:Dat K H0 vf (.tuple (f.map dF))) (hvg:Dat K H0 vg (.tuple (g.map dF)))
  {A:Around}{outer:List Env}{s' : Shared} {H' : Hp} {vs:List V}{Q:VK}{fa c' : Addr} {cl:List (Str×Addr)}(hr:Wx 2 (A.deeper (zkq Wc (Zm YZ) s'.heap.objs.size fa (.ref c') cl))) (kp:Kp H0 H') (h:spP K (RBM book num (zcI book f g)) vs H' Q E0):
  ∃ t,PSs (zaQ P w K mg base ((["word", "field", "number"]:List Str)++(["place"]:List Str)++(["book", "first", "second"]:List Str)) Wc (Zm YZ) fa c' cl A outer s' H') (Y5 YZ) t/\t { nx:=λ_ H' => Q .non H',rt:=Q } (vs.map some++List.replicate (["place"]:List Str).length none++[some (.ref pb),some vf,some vg]) H' := by
 have G_answer:Yi P w K mg base CX0 2 T.QJ T.fd_answer ["word", "how"] (spP K zlP):=(zcK T W1).mono (by decide)
 have G_how_stands:Yi P w K mg base CX0 2 T.X3 T.fd_how_stands ["one", "other"] (spP K zl8):=zjU T
 have hu:=hr.units
 obtain ⟨G,as,d,sg,hv,⟨z,hz,a,b,hab,hx⟩,k⟩:=h
 have hi:book.idxOf z<book.length:=List.idxOf_lt_length_of_mem hz
 have kw:=kp.trans (zmS sg)
 have hb' := kw.1 _ _ hb
 have hf' := kw.dat _ _ (zbs _) hvf
 have hg' := kw.dat _ _ (zbs _) hvg
 have key:∀ {x:Str}{c:An}{v1 v2 v3:V},x≠S "look" -> c.how=x->Dat K G v1 (.str x)->Dat K G v2 (.str z)->Dat K G v3 (dF (a,b))->
   (∀ v G' H'',Yr G H' G' H'' -> Dat K G' v (.list [.bool (isA (hsA (f.getD (book.idxOf z) (0,1)) (a,b)) c),.bool (isA (hsA (g.getD (book.idxOf z) (0,1)) (a,b)) c)])->Q v H'')->
   ∃ t,PSs (zaQ P w K mg base ((["word", "field", "number"]:List Str)++(["place"]:List Str)++(["book", "first", "second"]:List Str)) Wc (Zm YZ) fa c' cl A outer s' H') (Y5 YZ) t/\t { nx:=λ_ H' => Q .non H',rt:=Q } [some v1,some v2,some v3,none,some (.ref pb),some vf,some vg] H' := λ{x c v1 v2 v3} hxl hc h1 h2 h3 hk=>by
  have h1' := h1.same (zi6 (H:=H'))
  have h2' := h2.same (zi6 (H:=H'))
  have h3' := h3.same (zi6 (H:=H'))
  refine ⟨_,(Ze (ZD (i:=3) Vr.nd rfl (Or.inr rfl) (zmh PySem.F.slot_tuple_index PySem.F.type_tuple_index (zcw (K:=K) rfl) (pv 4) (Za (pv 1) Zf Zd)))
   (Zo (Zy (zbB (x:= "thing") (cap:=["word", "place", "number"]) (js:=[0,3,2]) ⟨rfl,by decide +kernel,by decide +kernel,rfl,(by show ∀ p∈(_:List (Str×NameKind)),p.2=NameKind.free->List.lookup p.1 (Zm YZ).names=some NameKind.cell;decide +kernel),by decide +kernel,by decide +kernel,by decide +kernel⟩ rfl rfl (λ_ _ h=>h) (zbe (Yg (Za (pv 5) (Za (pv 6) Zf Zd) Zd))) (λ_ _ _ _=>⟨Jv,(Zx G_answer hr (by rfl) T.zd9 T.zbX.kp T.zek .nil Z3 (Za (pv 1) (Za (Zx G_how_stands hr (by rfl) T.VF T.J0.kp T.VM .nil Z3 (Za (ZZ (Xr (K:=K) rfl) (pv 0) (pv 2) (λ_ _=>rfl)) (Za (pv 3) Zf Zd) Zu)) Zf Xa) Zd))⟩))))) ,?_⟩
  refine Jb (K:=K) (G:=wid G H') (zjQ rfl hb' (Zb rfl h2') hz) (zna sg) λv4 G1 H1 g1 h4=>?_
  refine ZW (K:=K) (G:=G1) (d:=.list [.bool (isA (hsA (f.getD (book.idxOf z) (0,1)) (a,b)) c),.bool (isA (hsA (g.getD (book.idxOf z) (0,1)) (a,b)) c)])
   (zgF (K:=K) [f,g] (λl=>.tuple (l.map dF)) (λl=>some (.bool (isA (hsA (l.getD (book.idxOf z) (0,1)) (a,b)) c))) (X4 (Zc (Zb rfl (hf'.same g1.gg)) (Zc (Zb rfl (hg'.same g1.gg)) Zr)) (by show 2<=sizeLine;decide)) (by show 2<sizeLine;decide) (λG2 i l y sG hl hy=>?_)) g1.gh λv G' H'' g2 hv=>?_
  ·have hll:l.length=book.length/\∀ p∈l,Sz p:=by
    match i,hl with
    | 0,hl=>cases hl;exact ⟨hfl,hf⟩
    | 1,hl=>cases hl;exact ⟨hgl,hg⟩
   refine .inl ⟨_,rfl,Qf,Z4 (E:=E0) (R:=zlP) (Zc (Zb rfl ((h1'.same g1.gg).same sG)) (Zc (Z4 (E:=E0) (R:=zl8) (Zc (JB (Zb rfl hy) (Zb rfl (h4.same sG)) (Xk (by rw[List.length_map];omega)) (zdV (by omega))) (Zc (Zb rfl ((h3'.same g1.gg).same sG)) Zr)) ⟨_,(a,b),rfl,hll.2 _ (getD_mem (by omega)),hnum a b hab,rfl⟩) Zr)) ⟨_,.inr ⟨x,hxl,rfl,?_⟩⟩⟩
   rw[zmW hc]
  ·obtain ⟨G'',g3,hv'⟩:=ziZ sg (g1.trans g2) hv (λ{G1 G2 xs} hd=>by
    obtain ⟨y1,r1,rfl,d1,hd⟩:=hd.cons
    obtain ⟨y2,r2,rfl,d2,hd⟩:=hd.cons
    cases hd.nil
    rw[d1.bl,d2.bl]
    exact ZG (Yn _) (ZG (Yn _) ZP))
   exact hk v G'' H'' g3 hv'
 rcases hx with ⟨rfl,rfl⟩ | ⟨rfl,rfl⟩
 ·obtain ⟨v1,r1,rfl,h1,hv⟩:=hv.cons
  obtain ⟨v2,r2,rfl,h2,hv⟩:=hv.cons
  obtain ⟨v3,r3,rfl,h3,hv⟩:=hv.cons
  cases hv.nil
  exact key (c:=.ahead) (by decide +kernel) rfl h1 h2 h3 k
 ·obtain ⟨v1,r1,rfl,h1,hv⟩:=hv.cons
  obtain ⟨v2,r2,rfl,h2,hv⟩:=hv.cons
  obtain ⟨v3,r3,rfl,h3,hv⟩:=hv.cons
  cases hv.nil
  exact key (c:=.like) (by decide +kernel) rfl h1 h2 h3 k
end
end K32
namespace K32
open PySem L2 Frac Lw Dig PySem.NumText Nm
open Ord Num Look Rdo
def zeg (K:PySem.W.Frag)(Pt:Addr)(cr:Nat->Nat->Option Str):Sp:=λvs H Q _=>∃ (G:Hp) (ws:List Wd) (book:List Str) (f g:List (Int×Int)) (num:Int->Int->Prop) (a:An) (vo vf vg:V) (pb:Addr),vs=[vo,.ref pb,vf,vg]/\G Pt=some (.tbl cr)/\ZL G H/\G pb=some (.tup (book.map V.str))/\
 (Dat K G vo (.tuple (ws.map Wd.d))/\Dat K G vf (.tuple (f.map dF))/\Dat K G vg (.tuple (g.map dF)))/\Ju (· ∈ book) num ws/\(∀ a b,num a b->Sz (a,b))/\(f.length=book.length/\g.length=book.length/\(∀ p∈f,Sz p)/\∀ p∈g,Sz p)/\(∀ z∈book,Yc z=none)/\ws.length<=900/\
 (∀ R,ev (zcI book f g) ws R = .an a::R)/\∀ G' H',Yr G H G' H' -> Q (.str a.t) H'
section
variable {P:Program}{w:World}{K:PySem.W.Frag}{mg:Str->Option Value}{base:Heap}
theorem zc5 (T:Top K mg)(M:Bs K mg base)(W:Wds K w.params mg)(W1:Txs K w.params mg "AHEAD" JG)(W2:Txs K w.params mg "OTHER_WAY" Jh):Yi P w K mg base CX0 6 T.WQ T.fd_looked ["order", "book", "first", "second"] (zeg K T.Ye Z6):=by
 refine T.Uh.okC Uy (λvs H Q E h=>?_) (λcdv A outer s H vs Q E hcd hr h=>?_)
 ·obtain ⟨G,ws,book,f,g,num,a,vo,vf,vg,pb,rfl,_⟩:=h
  rfl
 ·obtain ⟨G,ws,book,f,g,num,a,vo,vf,vg,pb,rfl,hP,sg,hpb,⟨ho,hvf,hvg⟩,hord,hnum,⟨hfl,hgl,hf,hg⟩,hwd,hlen,hev,k⟩:=h
  have hu:=hr.units
  have G_telling:=λf1 f2=>zfP (P:=P) (w:=w) (base:=base) T W W2 book num (zcI book f g) hwd f1 f2
  let RH:Addr->Addr->St->Hp->Prop:=λf1 f2 σ H1=>(VB H1 f1 "by_field" XF (Qd Yx) (Y5 Yx) (Zm Yx) (Jl (PyProof.Rows.envOfC "looked" (Zm YK) s.heap.objs.size T.WQ cdv) (Zm Yx).names [])/\
   VB H1 f2 "by_mark" Wc (Qd YZ) (Y5 YZ) (Zm YZ) (Jl (PyProof.Rows.envOfC "looked" (Zm YK) s.heap.objs.size T.WQ cdv) (Zm YZ).names []))/\
   σ=[some vo,some (.ref pb),some vf,some vg,some (.ref f1),some (.ref f2)]/\H1 pb=some (.tup (book.map V.str))/\Dat K H1 vf (.tuple (f.map dF))/\Dat K H1 vg (.tuple (g.map dF))
  have hC:∀ (pins:List (Addr×Obj)) (σ:St) (H1:Hp) (s1:Shared) (f1 f2:Addr),Inv (zfR CX0 P w K mg base ["order", "book", "first", "second", "by_field", "by_mark"] "looked" (Zm YK) T.WQ cdv A outer s H E).nox pins σ H1 s1->RH f1 f2 σ H1->cls2 P w K mg base book num (zcI book f g) f1 f2 s1 H1:=by
   rintro pins σ H1 s1 f1 f2 I ⟨⟨L1,L2⟩,rfl,hb1,hf1,hg1⟩
   refine ⟨znc (js:=[1,2,3]) I QD rfl L1 (λcl us hl doc pm ctv c' => ?_) (λA outer s' H' vs Q fa c' cl hr' kp hl h=>ze3 T W1 hfl hgl hf hg hb1 hf1 hg1 hr' kp h),znc (js:=[1,2,3]) I Vr rfl L2 (λcl us hl doc pm ctv c' => ?_) (λA outer s' H' vs Q fa c' cl hr' kp hl h=>zhi T W1 hnum hfl hgl hf hg hb1 hf1 hg1 hr' kp h)⟩
   ·match us,hl with
    | [_,_],_=>rfl
   ·match us,hl with
    | [_,_,_],_=>rfl
  refine ⟨_,(Ze (zi8 (i:=4) (P:=T.Ye) (cr:=Z6) (q:=XF) QD (hcd.trans T.cd_looked) (PySem.W.codeHd_of_K M.kin T.ch_looked) M.bm rfl rfl Uy.nd rfl rfl)
   (Ze (zi8 (i:=5) (P:=T.Ye) (cr:=Z6) (q:=Wc) Vr (hcd.trans T.cd_looked) (PySem.W.codeHd_of_K M.kin T.ch_looked) M.bm rfl rfl Uy.nd rfl rfl)
   (Zo (Zy (zkA (C:=cls2 P w K mg base book num (zcI book f g)) (sp2:=λf1 f2 _=>spC K f1 f2 (zmo book num (zcI book f g))) (RH:=RH) (λf1 f2 _=>G_telling f1 f2) hC hr (by rfl) T.zg5 T.zcr.kp T.zgl (Za (pv 0) (Za (pv 4) (Za (pv 5) Zf Zd) Zd) Zd)))))) ,?_⟩
  refine ⟨sg _ _ hP,λf1 H1 hf1 s1 L1=>⟨s1 _ _ (sg _ _ hP),λf2 H2 hf2 s2 L2=>?_⟩⟩
  have sH:=s1.trans s2
  have sG:=sg.trans sH
  refine ⟨_,rfl,_,rfl,_,rfl,f1,f2,⟨⟨L1.same λb o u e=>s2 _ _ e,L2⟩,rfl,sG _ _ hpb,hvf.same sG,hvg.same sG⟩,?_⟩
  refine ⟨G,[.tuple (ws.map Wd.d)],.str a.t,[vo],rfl,sG,ZG ho ZP,⟨ws,a,rfl,hord,hev,hlen,rfl⟩,λv G' H' g' hv=>?_⟩
  rw[hv.str]
  exact k G H' ⟨ZL.refl _,sG.trans g'.hh,sH.trans g'.hh,λ_ _ h=>.inl h⟩
end
end K32
namespace K32
open PySem L2 Frac Lw Dig PySem.NumText Nm
open Ord Num Look Rdo
abbrev dOs (ws:List Wd):PyData:=.tuple (ws.map Wd.d)
section
variable {P:Program}{w:World}{K:PySem.W.Frag}{mg:Str->Option Value}{base:Heap}
theorem zjW {σ:St}{G:Hp}{ta tb:TE}{x y:Str}(ha:Ev K ta σ G (.str x))(hb:Ev K tb σ G (.str y)):Ev K (tOp rNe ta tb) σ G (.bool (!decide (x=y))):=
 JM ha hb λG1 H u v Q s1 s2 hu hv k=>by
  rw[hu.str,hv.str]
  refine ⟨rfl,?_⟩
  have e:decide (V.str x=V.str y)=decide (x=y):=decide_eq_decide.mpr ⟨λz=>by injection z,λz=>by rw[z]⟩
  rw[e]
  exact k _ G1 H (Yr.refl s2) (Yn _)
theorem zdH {σ:St}{G:Hp}{ta tf tg:TE}{i:Nat}{ws:List Wd}{book:List Str}{f g:List (Int×Int)}{num:Int->Int->Prop}{a:An}{pb Pt:Addr}{cr:Nat->Nat->Option Str}(hT:G Pt=some (.tbl cr))(hpb:G pb=some (.tup (book.map V.str)))
  (hz:(f.length=book.length/\g.length=book.length/\(∀ p∈f,Sz p)/\∀ p∈g,Sz p)/\(∀ a b,num a b->Sz (a,b))/\∀ z∈book,Yc z=none) (hi:σ[i]?=some (some (.ref pb))) (ha:Ev K ta σ G (dOs ws)) (hf:Ev K tf σ G (.tuple (f.map dF))) (hg:Ev K tg σ G (.tuple (g.map dF)))
  (hord:Ju (· ∈ book) num ws) (hlen:ws.length<=900) (hev:∀ R,ev (zcI book f g) ws R = .an a::R):Ev K (V6 (zeg K Pt cr) [] E0 (ZS ta (ZS (Xq i) (ZS tf (ZS tg JH))))) σ G (.str a.t):=
 λG1 H s1 s2 Q k=>ha G1 H s1 s2 _ λv1 G2 H2 g2 h1=>⟨_,hi,hf G2 H2 (s1.trans g2.gg) g2.gh _ λv2 G3 H3 g3 h2=>hg G3 H3 ((s1.trans g2.gg).trans g3.gg) g3.gh _ λv3 G4 H4 g4 h3=>by
  have g24:=(g2.trans g3).trans g4
  have sG:=s1.trans g24.gg
  exact ⟨G4,ws,book,f,g,num,a,v1,v2,v3,pb,rfl,sG _ _ hT,g4.gh,sG _ _ hpb,⟨(h1.same g3.gg).same g4.gg,h2.same g4.gg,h3⟩,hord,hz.2.1,hz.1,hz.2.2,hlen,hev,λG' H' g' => k _ G' H' (g24.trans g') (Z7 _)⟩⟩
end
end K32
namespace L2
open PySem PySem.Spec PyProof.Rows Lw Nm Frac
structure DkA (n:Nat)(H:Hp)(d c:Addr):Prop where
 ex:∃ (k:Int) (ns:List Int),H d=some (.lst [.ref c,.int k])/\H c=some (.lst (ns.map V.int))/\ns.length<=63/\0<=k/\k+n<=10 ^ 9
section
variable {d c:Addr}{G H G' H' : Hp}{m n:Nat}
theorem DkA.mono (D:DkA n H d c)(h:m<=n):DkA m H d c:=by
 obtain ⟨k,ns,h1,h2,h3,h4,h5⟩:=D.ex
 exact ⟨k,ns,h1,h2,h3,h4,by omega⟩
theorem DkA.same (D:DkA n H d c)(s:ZL H H'):DkA n H' d c:=by
 obtain ⟨k,ns,h1,h2,r⟩:=D.ex
 exact ⟨k,ns,s _ _ h1,s _ _ h2,r⟩
theorem DkA.ne (D:DkA n H d c):c≠d:=by
 obtain ⟨k,ns,h1,h2,_⟩:=D.ex
 rintro rfl
 rw[h1] at h2
 injection h2 with h2
 injection h2 with h2
 cases ns with
 | nil=>cases h2
 | cons x r=>simp at h2
theorem DkA.some (D:DkA n H d c):(∃ o,H d=some o)/\∃ o,H c=some o:=by
 obtain ⟨k,ns,h1,h2,_⟩:=D.ex
 exact ⟨⟨_,h1⟩,_,h2⟩
theorem zeY (k:JP d c H H')(D:DkA n H' d c){p:Addr}(h:H' p=none):H p=none:=by
 obtain ⟨⟨o1,h1⟩,⟨o2,h2⟩⟩:=D.some
 cases e:H p with
 | none=>rfl
 | some o=>
  have nd:p≠d:=λq=>by rw[q,h1] at h;cases h
  have nc:p≠c:=λq=>by rw[q,h2] at h;cases h
  rw[k p o e nd nc] at h;cases h
structure Dk (n:Nat)(d c:Addr)(G H G' H' : Hp):Prop where
 gg:ZL G G'
 gh:ZL G' H'
 fr:∀ b o,G' b=some o->G b=some o\/H b=none
 kp:JP d c H H'
 D0:DkA 0 H' d c
 cn:∀ N,DkA (N+n) H d c->DkA N H' d c
theorem Dk.out (k:Dk n d c G H G' H'){p:Addr}{o:HO}(hp:H p=some o)(hg:G p=none):G' p=none:=by
 cases e:G' p with
 | none=>rfl
 | some u=>
  rcases k.fr p u e with h | h
  ·rw[hg] at h;cases h
  ·rw[hp] at h;cases h
theorem Dk.gd (k:Dk n d c G H G' H')(D:DkA m H d c)(hg:G d=none):G' d=none:=by
 obtain ⟨⟨o,h⟩,_⟩:=D.some
 exact k.out h hg
theorem Dk.gc (k:Dk n d c G H G' H')(D:DkA m H d c)(hg:G c=none):G' c=none:=by
 obtain ⟨_,⟨o,h⟩⟩:=D.some
 exact k.out h hg
theorem Yr.dk (g:Yr G H G' H')(D:DkA m H d c):Dk 0 d c G H G' H' := ⟨g.gg,g.gh,g.fr,ZL.but g.hh,(D.mono (Nat.zero_le _)).same g.hh,λN h=>h.same g.hh⟩
theorem Dk.refl (s:ZL G H)(D:DkA m H d c):Dk 0 d c G H G H:=(Yr.refl s).dk D
theorem Dk.trans {G1 H1:Hp}(a:Dk m d c G H G1 H1)(b:Dk n d c G1 H1 G' H'):Dk (m+n) d c G H G' H' := by
 refine ⟨a.gg.trans b.gg,b.gh,λx o e=>?_,a.kp.trans b.kp,b.D0,λN h=>b.cn N (a.cn (N+n) (by rw[Nat.add_assoc,Nat.add_comm n m];exact h))⟩
 rcases b.fr x o e with h | h
 ·exact a.fr x o h
 ·exact .inr (zeY a.kp a.D0 h)
theorem Dk.up (k:Dk m d c G H G' H')(h:m<=n):Dk n d c G H G' H' := ⟨k.gg,k.gh,k.fr,k.kp,k.D0,λN D=>k.cn N (D.mono (by omega))⟩
theorem Dk.zaH (k:Dk m d c G H G' H')(D:DkA (m+n) H d c):DkA n H' d c:=k.cn n (by rw[Nat.add_comm];exact D)
theorem zly (s:ZL G H)(hd:G d=none)(hc:G c=none)(D:DkA 0 H' d c)(cn:∀ N,DkA (N+n) H d c->DkA N H' d c)(k:JP d c H H'):Dk n d c G H G H' :=
 ⟨ZL.refl _,λb o e=>k b o (s b o e) (Zn e hd) (Zn e hc),λ_ _ e=>.inl e,k,D,cn⟩
variable {K:PySem.W.Frag}{σ:St}
def Dv (K:PySem.W.Frag)(d c:Addr)(n:Nat)(t:TE)(σ:St)(G:Hp)(R:PyData->Prop):Prop:=
 ∀ G1 H,ZL G G1->ZL G1 H->G1 d=none->G1 c=none->DkA n H d c->∀ Q:VK,(∀ v x G' H',R x->Dk n d c G1 H G' H' -> Dat K G' v x->Q v H')->t σ H Q
def DvA (K:PySem.W.Frag)(d c:Addr)(n:Nat)(t:TA)(σ:St)(G:Hp)(R:List PyData->Prop):Prop:=
 ∀ G1 H,ZL G G1->ZL G1 H->G1 d=none->G1 c=none->DkA n H d c->∀ Q:List V->Hp->Prop,(∀ vs xs G' H',R xs->Dk n d c G1 H G' H' -> Yl K G' vs xs->Q vs H')->t σ H Q
theorem Dv.imp {t:TE}{R R' : PyData->Prop}(h:Dv K d c n t σ G R)(hi:∀ x,R x->R' x):Dv K d c n t σ G R' := λG1 H s1 s2 a b D Q k=>h G1 H s1 s2 a b D Q λv x G' H' r=>k v x G' H' (hi x r)
theorem zfa {t:TE}{x:PyData}{R:PyData->Prop}(h:Ev K t σ G x)(hR:R x):Dv K d c 0 t σ G R:=λG1 H s1 s2 a b D Q k=>h G1 H s1 s2 _ λv G' H' g hv=>k v x G' H' hR (g.dk D) hv
theorem zkl:DvA K d c 0 JH σ G (· = []):=λG1 H s1 s2 a b D Q k=>k [] [] G1 H rfl (Dk.refl s2 D) ZP
theorem zit {ta:TE}{t:TA}{R:PyData->Prop}{Rs:List PyData->Prop}(h:Dv K d c m ta σ G R)(h' : DvA K d c n t σ G Rs):DvA K d c (m+n) (ZS ta t) σ G (λxs=>∃ x r,xs=x::r/\R x/\Rs r):=λG1 H s1 s2 a b D Q k=>
 h G1 H s1 s2 a b (D.mono (by omega)) _ λv x G2 H2 hx k2 hv=>h' G2 H2 (s1.trans k2.gg) k2.gh (k2.gd D a) (k2.gc D b) (k2.zaH D) _ λvs xs G3 H3 hxs k3 hvs=>k _ _ G3 H3 ⟨x,xs,rfl,hx,hxs⟩ (k2.trans k3) (ZG (hv.same k3.gg) hvs)
theorem zi5 {ta tb:TE}{r:R2}{Ra Rb R:PyData->Prop}(ha:Dv K d c m ta σ G Ra)(hb:Dv K d c n tb σ G Rb)
  (hr:∀ a b va vb G',Ra a->Rb b->ZL G G' -> Dat K G' va a->Dat K G' vb b->∃ x,R x/\Ev K (tOp r (tC va) (tC vb)) σ G' x):Dv K d c (m+n) (tOp r ta tb) σ G R:=λG1 H s1 s2 a b D Q k=>
 ha G1 H s1 s2 a b (D.mono (by omega)) _ λva x G2 H2 hx k2 hva=>hb G2 H2 (s1.trans k2.gg) k2.gh (k2.gd D a) (k2.gc D b) (k2.zaH D) _ λvb y G3 H3 hy k3 hvb=>by
  have k23:=k2.trans k3
  obtain ⟨z,hz,he⟩:=hr x y va vb G3 hx hy (s1.trans k23.gg) (hva.same k3.gg) hvb
  exact he G3 H3 (ZL.refl _) k3.gh Q λv G4 H4 g4 hv=>k v z G4 H4 hz (k23.trans (g4.dk k3.D0)) hv
theorem zeM {ta tb:TE}{q:Int}{R:PyData->Prop}(ha:Dv K d c m ta σ G λx=>∃ ds:List PyData,x = .list ds/\(ds.length:Int)=q/\∀ e∈ds,R e)(hb:Dv K d c n tb σ G λx=>∃ r:Int,x = .int r/\0<=r/\r<q):Dv K d c (m+n) (tOp (zeA K) ta tb) σ G R:=
 zi5 ha hb λa b va vb G' h1 h2 s hva hvb=>by
  obtain ⟨ds,rfl,hl,hR⟩:=h1
  obtain ⟨r,rfl,r0,r1⟩:=h2
  obtain ⟨j,rfl⟩:=Int.eq_ofNat_of_zero_le r0
  have hj:j<ds.length:=by omega
  exact ⟨ds[j],hR _ (List.getElem_mem hj),YL (n:=j) (zgb hva) (zgb hvb) (Xk hj) (List.getElem?_eq_getElem hj)⟩
theorem Dv.use {t:TE}{R:PyData->Prop}{Q:VK}(h:Dv K d c n t σ G R)(s:ZL G H)(gd:G d=none)(gc:G c=none)(D:DkA n H d c)(k:∀ v x G' H',R x->Dk n d c G H G' H' -> Dat K G' v x->Q v H'):t σ H Q:=h G H (ZL.refl _) s gd gc D Q k
theorem zml {te:TE}{Ed:Ends}{i:Nat}{R:PyData->Prop}(h:Dv K d c n te σ G R)(s:ZL G H)(gd:G d=none)(gc:G c=none)(D:DkA n H d c)(k:∀ v x G' H',R x->Dk n d c G H G' H' -> Dat K G' v x->Ed.nx (σ.set i (some v)) H'):zlO te (zdL i) Ed σ H:=h.use s gd gc D k
theorem zhc {te:TE}{Ed:Ends}{R:PyData->Prop}(h:Dv K d c n te σ G R)(s:ZL G H)(gd:G d=none)(gc:G c=none)(D:DkA n H d c)(k:∀ v x G' H',R x->Dk n d c G H G' H' -> Dat K G' v x->Ed.rt v H'):znM te Ed σ H:=h.use s gd gc D k
def Vc (K:PySem.W.Frag)(n:Nat)(R:List PyData->PyData->Prop):Sp:=λvs H Q _=>∃ (d c:Addr) (G:Hp) (us:List V) (ds:List PyData),vs = .ref d::us/\ZL G H/\G d=none/\G c=none/\DkA n H d c/\Yl K G us ds/\(∃ x,R ds x)/\∀ v x G' H',R ds x->Dk n d c G H G' H' -> Dat K G' v x->Q v H'
theorem X8 {E:XK}{i:Nat}{t:TA}{ds:List PyData}{R:List PyData->PyData->Prop}(hi:σ[i]?=some (some (.ref d)))(h:EvA K t σ G ds)(hR:∃ x,R ds x):Dv K d c n (V6 (Vc K n R) [] E (ZS (Xq i) t)) σ G (R ds):=
 λG1 H s1 s2 a b D Q k=>⟨_,hi,h G1 H s1 s2 _ λvs G2 H2 g2 hv=>by
  have k2:=g2.dk D
  show Vc K n R ((.ref d::vs)++[]) H2 Q E
  rw[List.append_nil]
  exact ⟨d,c,G2,vs,ds,rfl,k2.gh,k2.gd D a,k2.gc D b,D.same g2.hh,hv,hR,λv x G' H' r k3 hx=>k v x G' H' r ((k2.trans k3).up (by omega)) hx⟩⟩
structure WalkG (J:It)(q:Nat)(G:Hp)(items:Nat->V->Prop):Prop where
 go:∀ i H',ZL G H' -> i<q->J.go i H'
 stop:∀ i H',ZL G H' -> q<=i->J.stop i H'
 yld:∀ i H' x H'',ZL G H' -> J.yld i H' x H'' -> H''=H' /\ items i x
theorem znK {wi:TI}{js:List Nat}{te:TE}{H:Hp}{Q:VK}{q p B:Nat}{R:PyData->Prop}(items:Hp->Nat->V->Prop){G1:Hp}(D:DkA (p+B*n) H d c)(s2:ZL G1 H)(gd:G1 d=none)(gc:G1 c=none)
  (hw:∀ Rw:It->Hp->Prop,(∀ J q G2 H2,q<=B->q<sizeLine->Dk p d c G1 H G2 H2->WalkG J q G2 (items G2)->(∀ v ds G' H',ds.length=q->(∀ e∈ds,R e)->Dk (p+B*n) d c G1 H G' H' -> Dat K G' v (.list ds)->Q v H')->Rw J H2)->wi σ H Rw)
  (hc:∀ G2 i x,ZL G1 G2->i<B->items G2 i x->Dv K d c n te (some x::Jm σ js) G2 R):tLC wi js zc6 te σ H Q:=by
 refine hw _ λJ q G2 H2 hq hz k2 W k=>?_
 have D2:DkA (B*n) H2 d c:=k2.zaH D
 refine ⟨λi m ys H' => m=q-i/\i<=q/\∃ (G' : Hp) (ds:List PyData),Dk (i*n) d c G2 H2 G' H' /\ ds.length=i/\Yl K G' ys ds/\∀ e∈ds,R e,⟨q,by omega,by omega,G2,[],by rw[Nat.zero_mul];exact Dk.refl k2.gh k2.D0,rfl,ZP,λe he=>by cases he⟩,?_⟩
 rintro i m ys H' ⟨rfl,hi,G',ds,k3,hl,hys,hall⟩
 have hyl:=hys.length
 have k23:=k2.trans k3
 refine ⟨by omega,?_⟩
 by_cases h:i=q
 ·subst h
  refine .inl ⟨W.stop i H' (k3.gg.trans k3.gh) (Nat.le_refl _),λx hp=>?_⟩
  have g:=Z5 (o:=.lst ys) k3.gh hp
  exact k _ ds _ _ hl hall ((k23.trans (g.dk k3.D0)).up (Nat.add_le_add_left (Nat.mul_le_mul_right n hq) p)) (YT Zh (hys.same g.gg))
 ·refine .inr ⟨W.go i H' (k3.gg.trans k3.gh) (by omega),λx H'' hy=>?_⟩
  obtain ⟨rfl,hit⟩:=W.yld i H' x H'' (k3.gg.trans k3.gh) hy
  refine ziA ?_
  have hb:i<B:=by omega
  have eB:B*n=n+((B-i-1)*n+i*n):=by
   have:B=1+((B-i-1)+i):=by omega
   conv=>lhs;rw[this]
   rw[Nat.add_mul,Nat.add_mul,Nat.one_mul]
  have D3:DkA n H'' d c:=(k3.cn (n+(B-i-1)*n) (by rw[Nat.add_assoc,← eB];exact D2)).mono (by omega)
  refine hc G2 i x k2.gg hb hit G' H'' k3.gg k3.gh (k23.gd D gd) (k23.gc D gc) D3 _ λv e G4 H4 re k4 hv=>?_
  refine ⟨q-(i+1),by omega,rfl,by omega,G4,ds++[e],by rw[Nat.add_mul,Nat.one_mul];exact k3.trans k4,by simp[hl],YB (hys.same k4.gg) (ZG hv ZP),λz hz=>?_⟩
  rcases List.mem_append.mp hz with hz | hz
  ·exact hall z hz
  ·rw[List.mem_singleton.mp hz];exact re
theorem zmk {t:TA}{js:List Nat}{te:TE}{p B:Nat}{R:PyData->Prop}{Rn:Nat->Prop}(hj:DvA K d c p t σ G λxs=>∃ q:Nat,xs=[.int (q:Nat)]/\Rn q/\q<=B)(hB:B<sizeLine)(he:∀ G2 (i:Nat),ZL G G2->i<B->Dv K d c n te (some (.int (0+(i:Int)))::Jm σ js) G2 R):
  Dv K d c (p+B*n) (tLC (zmX t) js zc6 te) σ G λx=>∃ ds:List PyData,x = .list ds/\Rn ds.length/\ds.length<=B/\∀ e∈ds,R e:=λG1 H s1 s2 a b D Q k=>
 znK (q:=B) (R:=R) (λ_ i x=>x = .int (0+(i:Int))) D s2 a b (λRw hR=>hj G1 H s1 s2 a b (D.mono (by omega)) _ λvs xs G2 H2 hx k2 hv=>by
  obtain ⟨q,rfl,hq,hqB⟩:=hx
  obtain ⟨y,ys,rfl,hy,r⟩:=hv.cons
  rw[r.nil,hy.int]
  have z:sizeLine<2 ^ 62:=by decide
  refine ⟨(q:Int),rfl,by omega,by omega,hR _ q G2 H2 hqB (by omega) k2 ⟨λi H' _ h=>?_,λi H' _ h=>?_,λi H' x H'' _ y=>y⟩ λv ds G' H' hl hall kk hv=>k v _ G' H' ⟨ds,rfl,by rw[hl];exact hq,by omega,hall⟩ kk hv⟩
  ·show i<(q:Int).toNat;omega
  ·show (q:Int).toNat<=i;omega) λG2 i x s3 hi hx=>by subst hx;exact he G2 i (s1.trans s3) hi
theorem zns {tl:TE}{js:List Nat}{te:TE}{α:Type}{R:PyData->Prop}(as:List α)(enc:α->PyData)(h:Ev K tl σ G (.tuple (as.map enc)))(hB:as.length<sizeLine)(he:∀ G2 (i:Nat) x,ZL G G2->i<as.length->Dv K d c n te (some x::Jm σ js) G2 R):
  Dv K d c (as.length*n) (tLC (znU K tl) js zc6 te) σ G λx=>∃ ds:List PyData,x = .list ds/\ds.length=as.length/\∀ e∈ds,R e:=λG1 H s1 s2 a b D Q k=>
 znK (q:=as.length) (p:=0) (B:=as.length) (R:=R) (λ_ i x=>True) (by rw[Nat.zero_add];exact D) s2 a b (λRw hR=>h G1 H s1 s2 _ λv G2 H2 g2 hv=>by
  obtain ⟨p,xs,rfl,hp,hxs⟩:=hv.tup
  have hl:xs.length=as.length:=by rw[hxs.length,List.length_map]
  refine ⟨p,rfl,⟨xs,g2.gh.tup hp⟩,hR _ as.length G2 H2 (Nat.le_refl _) hB (g2.dk D) ⟨λi H' s hi=>⟨xs,_,s.tup hp,List.getElem?_eq_getElem (by omega)⟩,λi H' s hi=>⟨xs,s.tup hp,by omega⟩,λi H' x H'' s y=>⟨y.1,True.intro⟩⟩ λv ds G' H' hl' hall kk hv=>k v _ G' H' ⟨ds,rfl,hl',hall⟩ (by rw[Nat.zero_add] at kk;exact kk) hv⟩) λG2 i x s3 hi _=>he G2 i x (s1.trans s3) hi
end
end L2
namespace Look
open PySem Ord Rdo
abbrev vl (book:List Str)(z:Str)(f:Fs):Int×Int:=f.getD (book.idxOf z) (0,1)
theorem zds {L M:Fs->Fs->An}{D:Fs->Prop}(w:Wk L D)(e:∀ f g,D f->D g->M f g=L f g):Wk M D:=by
 refine ⟨λf g hf hg=>by rw[e f g hf hg,e g f hg hf];exact w.anti f g hf hg,λf g h hf hg hh a b=>?_⟩
 rw[e f g hf hg] at a
 rw[e g h hg hh] at b
 rw[e f h hf hh]
 exact w.trans f g h hf hg hh a b
theorem Wk.zor {L M N:Fs->Fs->An}{D:Fs->Prop}(w:Wk L D)(m:Wk M D)(n:Wk N D)(c:Fs->Bool)(hc:∀ f g,D f->D g->L f g = .like->c f=c g):
  Wk (λf g=>if L f g = .like then (if c f=true then M f g else N f g) else L f g) D:=by
 refine ⟨λf g hf hg=>?_,λf g h hf hg hh a b=>?_⟩
 ·show (if L g f = .like then (if c g=true then M g f else N g f) else L g f)=(if L f g = .like then (if c f=true then M f g else N f g) else L f g).turn
  cases e:L f g with
  | like=>
   have e2:L g f = .like:=by rw[w.anti f g hf hg,e];rfl
   rw[e2,if_pos rfl,if_pos rfl,hc f g hf hg e,m.anti f g hf hg,n.anti f g hf hg]
   cases c g <;> rfl
  | ahead=>rw[w.anti f g hf hg,e];rfl
  | behind=>rw[w.anti f g hf hg,e];rfl
 ·have a1:L f g≠.behind:=λz=>a (by rw[z];rfl)
  have b1:L g h≠.behind:=λz=>b (by rw[z];rfl)
  cases e1:L f g with
  | behind=>exact absurd e1 a1
  | ahead=>rw[w.ziU hf hg hh e1 b1];exact λz=>by cases z
  | like=>
   cases e2:L g h with
   | behind=>exact absurd e2 b1
   | ahead=>rw[w.zm0 hf hg hh a1 e2];exact λz=>by cases z
   | like=>
    have n1:L f h≠.behind:=w.trans f g h hf hg hh a1 b1
    have n2:L h f≠.behind:=w.trans h g f hh hg hf (by rw[w.anti g h hg hh,e2];decide) (by rw[w.anti f g hf hg,e1];decide)
    have e3:L f h = .like:=by
     cases e:L f h with
     | like=>rfl
     | behind=>exact absurd e n1
     | ahead=>exact absurd (by rw[w.anti f h hf hh,e];rfl) n2
    rw[e3,if_pos rfl]
    rw[if_pos e1] at a
    rw[if_pos e2] at b
    have cg:=hc f g hf hg e1
    rw[← cg] at b
    cases ec:c f with
    | true=>
     rw[ec,if_pos rfl] at a b
     rw[if_pos rfl]
     exact m.trans f g h hf hg hh a b
    | false=>
     rw[ec,if_neg Bool.false_ne_true] at a b
     rw[if_neg Bool.false_ne_true]
     exact n.trans f g h hf hg hh a b
def znW:Bool->Bool->An
 | true,false=>.ahead
 | false,true=>.behind
 | _,_=>.like
theorem zoS {D:Fs->Prop}(u:Fs->Bool):Wk (λf g=>znW (u f) (u g)) D:=by
 refine ⟨λf g _ _=>?_,λf g h _ _ _ a b=>?_⟩
 ·show znW (u g) (u f)=(znW (u f) (u g)).turn
  cases u f <;> cases u g <;> rfl
 ·revert a b
  cases u f <;> cases u g <;> cases u h <;> decide
theorem zgM {a b:Int×Int}:hsA a b = .like↔a.1*b.2=b.1*a.2:=by
 unfold hsA
 by_cases h1:a.1*b.2<b.1*a.2
 ·rw[if_pos h1];exact ⟨λz=>(by cases z),λz=>(by omega)⟩
 ·rw[if_neg h1]
  by_cases h2:a.1*b.2>b.1*a.2
  ·rw[if_pos h2];exact ⟨λz=>(by cases z),λz=>(by omega)⟩
  ·rw[if_neg h2];exact ⟨λ_=>by omega,λ_=>rfl⟩
theorem zbC {a b:Int×Int}:hsA a b = .ahead↔a.1*b.2<b.1*a.2:=by
 unfold hsA
 by_cases h1:a.1*b.2<b.1*a.2
 ·rw[if_pos h1];exact ⟨λ_=>h1,λ_=>rfl⟩
 ·rw[if_neg h1]
  by_cases h2:a.1*b.2>b.1*a.2
  ·rw[if_pos h2];exact ⟨λz=>(by cases z),λz=>absurd z h1⟩
  ·rw[if_neg h2];exact ⟨λz=>(by cases z),λz=>absurd z h1⟩
theorem zgV {a b p:Int×Int}(ha:1<=a.2)(hb:1<=b.2)(h:a.1*b.2=b.1*a.2):hsA a p=hsA b p:=by
 have key:(a.1*p.2-p.1*a.2)*b.2=(b.1*p.2-p.1*b.2)*a.2:=by
  rw[Int.sub_mul,Int.sub_mul]
  have e1:a.1*p.2*b.2=a.1*b.2*p.2:=by rw[Int.mul_assoc,Int.mul_comm p.2,← Int.mul_assoc]
  have e2:b.1*p.2*a.2=b.1*a.2*p.2:=by rw[Int.mul_assoc,Int.mul_comm p.2,← Int.mul_assoc]
  have e3:p.1*a.2*b.2=p.1*b.2*a.2:=by rw[Int.mul_assoc,Int.mul_comm a.2,← Int.mul_assoc]
  rw[e1,e2,e3,h]
 have s:∀ {x y m n:Int},1<=m->1<=n->x*m=y*n->(x<0↔y<0)/\(0<x↔0<y):=λ{x y m n} hm hn e=>by
  refine ⟨⟨λhx=>?_,λhy=>?_⟩,⟨λhx=>?_,λhy=>?_⟩⟩
  ·have:=Int.mul_neg_of_neg_of_pos hx (show 0<m by omega)
   rcases Int.lt_or_le y 0 with z | z
   ·exact z
   ·have:=Int.mul_nonneg z (show 0<=n by omega);omega
  ·have:=Int.mul_neg_of_neg_of_pos hy (show 0<n by omega)
   rcases Int.lt_or_le x 0 with z | z
   ·exact z
   ·have:=Int.mul_nonneg z (show 0<=m by omega);omega
  ·have:=Int.mul_pos hx (show 0<m by omega)
   rcases Int.lt_or_le 0 y with z | z
   ·exact z
   ·have:=Int.mul_nonneg (show 0<=-y by omega) (show 0<=n by omega)
    rw[Int.neg_mul] at this;omega
  ·have:=Int.mul_pos hy (show 0<n by omega)
   rcases Int.lt_or_le 0 x with z | z
   ·exact z
   ·have:=Int.mul_nonneg (show 0<=-x by omega) (show 0<=m by omega)
    rw[Int.neg_mul] at this;omega
 obtain ⟨s1,s2⟩:=s hb ha key
 unfold hsA
 have q1:(a.1*p.2<p.1*a.2)↔(b.1*p.2<p.1*b.2):=by omega
 have q2:(a.1*p.2>p.1*a.2)↔(b.1*p.2>p.1*b.2):=by omega
 simp only[q1,q2]
theorem zg4 {a b p:Int×Int}(ha:1<=a.2)(hb:1<=b.2)(hp:1<=p.2)(h1:hsA a p = .ahead)(h2:hsA b p≠.ahead):hsA a b = .ahead:=by
 have h1' := zbC.mp h1
 have h2' : ¬ b.1*p.2<p.1*b.2:=λz=>h2 (zbC.mpr z)
 refine zbC.mpr ?_
 rcases Int.lt_or_le (a.1*b.2) (b.1*a.2) with z | z
 ·exact z
 ·have:=zam hp hb ha (by omega) z
  omega
def Gw (book:List Str)(nums:List (Int×Int))(n:Nat)(ws:List Wd):Prop:=Ju (· ∈ book) (λa b=>(a,b)∈nums) ws/\ws.length<=n/\Wk (Z9 book ws) (zf6 book.length)
def zb1 (book:List Str)(nums:List (Int×Int))(z:Str)(n:Nat)(cs:List Wd):Prop:=W5 (· ∈ book) (λa b=>(a,b)∈nums) cs/\cs.length<=n/\
 ∃ c:Int×Int->Bool,(∀ a b:Int×Int,1<=a.2->1<=b.2->a.1*b.2=b.1*a.2->c a=c b)/\∀ f g,zf6 book.length f->zf6 book.length g->hsA (vl book z f) (vl book z g) = .like->∀ R,ev (zcI book f g) cs R = .tr (c (vl book z f))::R
def zlM (book:List Str)(z:Str)(ws:List Wd):Prop:=ws=[.t (S "up"),.t z]\/ws=[.t (S "down"),.t z]
theorem Us:Yc (S "same")=some (S "same",S "case",[S "field"])/\Yc (S "both")=some (S "both",S "case",[S "mark"])/\Yc (S "either")=some (S "either",S "case",[S "mark"])/\Yc (S "and")=some (S "and",S "case",[S "case",S "case"])/\Yc (S "or")=some (S "or",S "case",[S "case",S "case"])/\
  Yc (S "under")=some (S "under",S "mark",[S "field",S "number"])/\Yc (S "is")=some (S "is",S "mark",[S "field",S "number"]):=by decide +kernel
section
variable {E:En}{cs ds:List Wd}{b c:Bool}
theorem zi0 {x:Str}(hx:Yc x=none)(R:List Tv):ev E [.t (S "same"),.t x] R = .tr (isA (E.look x) .like)::R:=by
 show push E (.t (S "same")) (push E (.t x) R)=_
 have e:push E (.t x) R = .wd (.t x)::R:=by unfold push;dsimp only;rw[hx]
 rw[e,WT Us.1,Qm.2.2.2.2.2.2.1];rfl
theorem zeZ {x:Str}(hx:Yc x=none)(p q:Int)(R:List Tv):ev E [.t (S "under"),.t x,.n p q] R = .mk (isA (E.one x p q) .ahead) (isA (E.two x p q) .ahead)::R:=by
 show push E (.t (S "under")) (push E (.t x) (push E (.n p q) R))=_
 have e:∀ R,push E (.t x) R = .wd (.t x)::R:=λR=>by unfold push;dsimp only;rw[hx]
 have e2:push E (.n p q) R = .wd (.n p q)::R:=rfl
 rw[e2,e,WT Us.2.2.2.2.2.1,Qm.2.2.2.2.2.2.2.2.2.2.2.2.1];rfl
theorem zn4 {x:Str}(hx:Yc x=none)(p q:Int)(R:List Tv):ev E [.t (S "is"),.t x,.n p q] R = .mk (isA (E.one x p q) .like) (isA (E.two x p q) .like)::R:=by
 show push E (.t (S "is")) (push E (.t x) (push E (.n p q) R))=_
 have e:∀ R,push E (.t x) R = .wd (.t x)::R:=λR=>by unfold push;dsimp only;rw[hx]
 have e2:push E (.n p q) R = .wd (.n p q)::R:=rfl
 rw[e2,e,WT Us.2.2.2.2.2.2,Qm.2.2.2.2.2.2.2.2.2.2.2.2.2];rfl
theorem zgk (h:∀ R,ev E cs R = .mk b c::R)(R:List Tv):ev E (.t (S "both")::cs) R = .tr (b&&c)::R:=by
 show push E (.t (S "both")) (ev E cs R)=_
 rw[h,WT Us.2.1,Qm.2.2.2.2.2.2.2.1];rfl
theorem zcs (h:∀ R,ev E cs R = .mk b c::R)(R:List Tv):ev E (.t (S "either")::cs) R = .tr (b||c)::R:=by
 show push E (.t (S "either")) (ev E cs R)=_
 rw[h,WT Us.2.2.1,Qm.2.2.2.2.2.2.2.2.1];rfl
theorem zlq (h:∀ R,ev E cs R = .tr b::R)(h' : ∀ R,ev E ds R = .tr c::R)(R:List Tv):ev E (.t (S "and")::(cs++ds)) R = .tr (b&&c)::R:=by
 show push E (.t (S "and")) (ev E (cs++ds) R)=_
 rw[zcb,h',h,WT Us.2.2.2.1,Qm.2.2.2.2.2.2.2.2.2.2.1];rfl
theorem zjC (h:∀ R,ev E cs R = .tr b::R)(h' : ∀ R,ev E ds R = .tr c::R)(R:List Tv):ev E (.t (S "or")::(cs++ds)) R = .tr (b||c)::R:=by
 show push E (.t (S "or")) (ev E (cs++ds) R)=_
 rw[zcb,h',h,WT Us.2.2.2.2.1,Qm.2.2.2.2.2.2.2.2.2.2.2.1];rfl
end
section
variable {book:List Str}{nums:List (Int×Int)}(hb:∀ z∈book,Yc z=none)
include hb
theorem zlu {z:Str}{p q:Int}{bo un:Str}(hz:z∈book)(hp:(p,q)∈nums)(hbo:bo=S "both" \/ bo=S "either")(hun:un=S "under" \/ un=S "is"):zb1 book nums z 4 [.t bo,.t un,.t z,.n p q]:=by
 have hm:zcV (· ∈ book) (λa b=>(a,b)∈nums) [.t un,.t z,.n p q]:=zmV hun hz hp
 have hu:∃ k:An,∀ (f g:Fs) R,ev (zcI book f g) [.t un,.t z,.n p q] R = .mk (isA (hsA (vl book z f) (p,q)) k) (isA (hsA (vl book z g) (p,q)) k)::R:=by
  rcases hun with rfl | rfl
  ·exact ⟨.ahead,λf g R=>zeZ (hb z hz) p q R⟩
  ·exact ⟨.like,λf g R=>zn4 (hb z hz) p q R⟩
 obtain ⟨k,hk⟩:=hu
 refine ⟨?_,Nat.le_refl _,λv=>isA (hsA v (p,q)) k,λa b ha hb' h=>by show isA _ k=isA _ k;rw[zgV ha hb' h],λf g hf hg hl R=>?_⟩
 ·rcases hbo with rfl | rfl
  ·exact zjZ hm
  ·exact zeW hm
 ·have e:hsA (vl book z g) (p,q)=hsA (vl book z f) (p,q):=(zgV (hf.get _) (hg.get _) (zgM.mp hl)).symm
  have hk' := hk f g
  rw[e] at hk'
  rcases hbo with rfl | rfl
  ·rw[zgk hk',Bool.and_self]
  ·rw[zcs hk',Bool.or_self]
theorem znI {z:Str}{n:Nat}{cs:List Wd}(h:zb1 book nums z n cs):zb1 book nums z (n+1) (.t (S "not")::cs):=by
 obtain ⟨h1,h2,c,h3,h4⟩:=h
 exact ⟨znq h1,by rw[List.length_cons];omega,λv=>!c v,λa b ha hb' h=>by show (!c a) = !c b;rw[h3 a b ha hb' h],λf g hf hg hl R=>zjM (h4 f g hf hg hl) R⟩
theorem znE {z:Str}{n m k:Nat}{cs ds:List Wd}{w:Str}(hw:w=S "and" \/ w=S "or")(h:zb1 book nums z n cs)(h' : zb1 book nums z m ds)(hk:n+m+1<=k):zb1 book nums z k (.t w::(cs++ds)):=by
 obtain ⟨h1,h2,c,h3,h4⟩:=h
 obtain ⟨g1,g2,e,g3,g4⟩:=h'
 rcases hw with rfl | rfl
 ·exact ⟨zn7 h1 g1,by rw[List.length_cons,List.length_append];omega,λv=>c v&&e v,λa b ha hb' h=>by show (c a&&e a)=(c b&&e b);rw[h3 a b ha hb' h,g3 a b ha hb' h],λf g hf hg hl R=>zlq (h4 f g hf hg hl) (g4 f g hf hg hl) R⟩
 ·exact ⟨zoA h1 g1,by rw[List.length_cons,List.length_append];omega,λv=>c v||e v,λa b ha hb' h=>by show (c a||e a)=(c b||e b);rw[h3 a b ha hb' h,g3 a b ha hb' h],λf g hf hg hl R=>zjC (h4 f g hf hg hl) (g4 f g hf hg hl) R⟩
theorem zho {n:Nat}(hn:1<=n):Gw book nums n [.t (S "like")]:=⟨zlS,hn,zds zkv λf g _ _=>WN zle⟩
theorem zlw {n m:Nat}{ws:List Wd}(h:Gw book nums n ws)(hm:n+1<=m):Gw book nums m (.t (S "turn")::ws):=⟨zm1 h.1,by rw[List.length_cons];have:=h.2.1;omega,zds h.2.2.turn λf g _ _=>WN (zlv (Xw f g hb h.1))⟩
theorem zls {n m k:Nat}{a b:List Wd}(ha:Gw book nums n a)(hb' : Gw book nums m b)(hk:n+m+1<=k):Gw book nums k (.t (S "then")::(a++b)):=
 ⟨zjL ha.1 hb'.1,by rw[List.length_cons,List.length_append];have:=ha.2.1;have:=hb'.2.1;omega,zds (ha.2.2.zaH hb'.2.2) λf g _ _=>WN (zdk (Xw f g hb ha.1) (Xw f g hb hb'.1))⟩
theorem zby {z:Str}{ws:List Wd}(hz:z∈book)(h:zlM book z ws):(Ju (· ∈ book) (λa b=>(a,b)∈nums) ws/\ws.length=2)/\∃ t:An->An,(t=id\/t=An.turn)/\∀ f g R,ev (zcI book f g) ws R = .an (t (hsA (vl book z f) (vl book z g)))::R:=by
 rcases h with rfl | rfl
 ·exact ⟨⟨zo2 hz,rfl⟩,id,.inl rfl,λf g R=>zok (hb z hz) R⟩
 ·exact ⟨⟨znD hz,rfl⟩,An.turn,.inr rfl,λf g R=>zkP (hb z hz) R⟩
theorem zoh {z:Str}{t:An->An}(ht:t=id\/t=An.turn):Wk (λf g=>t (hsA (vl book z f) (vl book z g))) (zf6 book.length):=by
 rcases ht with rfl | rfl
 ·exact zd6 (book.idxOf z) book.length
 ·exact (zd6 (book.idxOf z) book.length).turn
theorem zgu {z:Str}{n:Nat}{ws:List Wd}(hz:z∈book)(h:zlM book z ws)(hn:2<=n):Gw book nums n ws:=by
 obtain ⟨⟨h1,h2⟩,t,ht,he⟩:=zby hb (nums:=nums) hz h
 exact ⟨h1,by omega,zds (zoh hb ht) λf g _ _=>WN (he f g)⟩
theorem zkd {z:Str}{n m:Nat}{one leaf:List Wd}(hz:z∈book)(h:Gw book nums n one)(hl:zlM book z leaf)(hm:n+5<=m):Gw book nums m (.t (S "pick")::([.t (S "same"),.t z]++(one++leaf))):=by
 obtain ⟨⟨h1,h2⟩,t,ht,he⟩:=zby hb (nums:=nums) hz hl
 refine ⟨zdv (zm2 hz) h.1 h1,by simp only[List.length_cons,List.length_append,List.length_nil];have:=h.2.1;omega,zds ((zoh hb (z:=z) ht).zaH h.2.2) λf g hf hg=>?_⟩
 have e:=WN (zdN (zi0 (E:=zcI book f g) (hb z hz)) (Xw f g hb h.1) (he f g))
 rw[e]
 show (if isA (hsA (vl book z f) (vl book z g)) .like=true then _ else _)=_
 generalize hsA (vl book z f) (vl book z g)=a
 rcases ht with rfl | rfl <;> cases a <;> rfl
theorem zk9 {z:Str}{n m k j:Nat}{one other leaf cs:List Wd}(hz:z∈book)(hl:zlM book z leaf)(hc:zb1 book nums z n cs)(h:Gw book nums m one)(h' : Gw book nums k other)(hj:n+m+k+4<=j):
  Gw book nums j (.t (S "then")::(leaf++(.t (S "pick")::(cs++(one++other))))):=by
 obtain ⟨⟨h1,h2⟩,t,ht,he⟩:=zby hb (nums:=nums) hz hl
 obtain ⟨c1,c2,c,c3,c4⟩:=hc
 have op:=zdv c1 h.1 h'.1
 have lk:∀ f g,zf6 book.length f->zf6 book.length g->(t (hsA (vl book z f) (vl book z g)) = .like↔hsA (vl book z f) (vl book z g) = .like):=λf g _ _=>by
  generalize hsA (vl book z f) (vl book z g)=a
  rcases ht with rfl | rfl <;> cases a <;> decide
 refine ⟨zjL h1 op,by simp only[List.length_cons,List.length_append];have:=h.2.1;have:=h'.2.1;omega,
  zds ((zoh hb (z:=z) ht).zor h.2.2 h'.2.2 (λf=>c (vl book z f)) λf g hf hg e=>c3 _ _ (hf.get _) (hg.get _) (zgM.mp ((lk f g hf hg).mp e))) λf g hf hg=>?_⟩
 by_cases hlk:t (hsA (vl book z f) (vl book z g)) = .like
 ·have e:=WN (zdk (he f g) (zdN (c4 f g hf hg ((lk f g hf hg).mp hlk)) (Xw f g hb h.1) (Xw f g hb h'.1)))
  rw[e]
 ·have e:=WN (zdk (he f g) (Xw f g hb op))
  rw[e,if_neg hlk,if_neg hlk]
theorem zkp {z:Str}{n m:Nat}{p q:Int}{one leaf:List Wd}(hz:z∈book)(hp:(p,q)∈nums)(hq:1<=q)(h:Gw book nums n one)(hl:zlM book z leaf)(hm:n+13<=m):
  Gw book nums m (.t (S "pick")::((.t (S "or")::([.t (S "both"),.t (S "under"),.t z,.n p q]++[.t (S "not"),.t (S "either"),.t (S "under"),.t z,.n p q]))++(one++leaf))):=by
 obtain ⟨⟨h1,h2⟩,t,ht,he⟩:=zby hb (nums:=nums) hz hl
 have hmk:zcV (· ∈ book) (λa b=>(a,b)∈nums) [.t (S "under"),.t z,.n p q]:=zmV (.inl rfl) hz hp
 have hc:=zoA (zjZ hmk) (znq (zeW hmk))
 have wu:Wk (λf g=>t (znW (isA (hsA (vl book z f) (p,q)) .ahead) (isA (hsA (vl book z g) (p,q)) .ahead))) (zf6 book.length):=by
  rcases ht with rfl | rfl
  ·exact zoS _
  ·exact (zoS _).turn
 refine ⟨zdv hc h.1 h1,by simp only[List.length_cons,List.length_append,List.length_nil];have:=h.2.1;omega,zds (wu.zaH h.2.2) λf g hf hg=>?_⟩
 have hmv:∀ R,ev (zcI book f g) [.t (S "under"),.t z,.n p q] R = .mk (isA (hsA (vl book z f) (p,q)) .ahead) (isA (hsA (vl book z g) (p,q)) .ahead)::R:=λR=>zeZ (hb z hz) p q R
 have e:=WN (zdN (zjC (zgk hmv) (zjM (zcs hmv))) (Xw f g hb h.1) (he f g))
 rw[e]
 have k1:=zg4 (a:=vl book z f) (b:=vl book z g) (p:=(p,q)) (hf.get _) (hg.get _) hq
 have k2:=zg4 (a:=vl book z g) (b:=vl book z f) (p:=(p,q)) (hg.get _) (hf.get _) hq
 rw[zd7 (vl book z f) (vl book z g)] at k2
 generalize hsA (vl book z f) (vl book z g)=a at k1 k2
 by_cases u1:hsA (vl book z f) (p,q) = .ahead
 ·by_cases u2:hsA (vl book z g) (p,q) = .ahead
  ·rw[u1,u2];rcases ht with rfl | rfl <;> rfl
  ·have ea:=k1 u1 u2
   have i2:isA (hsA (vl book z g) (p,q)) .ahead=false:=decide_eq_false u2
   rw[u1,i2,ea];rcases ht with rfl | rfl <;> rfl
 ·have i1:isA (hsA (vl book z f) (p,q)) .ahead=false:=decide_eq_false u1
  by_cases u2:hsA (vl book z g) (p,q) = .ahead
  ·have ea:a = .behind:=zfq (k2 u2 u1)
   rw[u2,i1,ea];rcases ht with rfl | rfl <;> rfl
  ·have i2:isA (hsA (vl book z g) (p,q)) .ahead=false:=decide_eq_false u2
   rw[i1,i2];rcases ht with rfl | rfl <;> rfl
end
end Look
namespace L2
open PySem PySem.Spec PyProof.Rows
def zms:R2:=λx y H Q=>∃ (c:Nat) (n:Int),x = .str ⟨#[c]⟩/\y = .int n/\0<=n/\n<=1000/\Q (.str ⟨(List.replicate n.toNat c).toArray⟩) H
theorem zld (c:Nat)(n:Int)(h:0<=n):Txt.mul ⟨#[c]⟩ n=⟨(List.replicate n.toNat c).toArray⟩:=by
 unfold Txt.mul
 have f0:∀ (m:Nat) (acc:List Nat),List.foldl (λx1 x2=>x1++x2) acc.toArray (List.replicate m #[c])=(acc++List.replicate m c).toArray:=λm=>by
  induction m with
  | zero=>intro acc;simp
  | succ m ih=>
   intro acc
   rw[List.replicate_succ,List.foldl_cons]
   have e:acc.toArray ++ #[c]=(acc++[c]).toArray:=by simp
   rw[e,ih,List.replicate_succ,List.append_assoc];rfl
 by_cases h1:n<1
 ·rw[if_pos h1]
  have:n.toNat=0:=by omega
  rw[this];rfl
 ·rw[if_neg h1]
  have:=f0 n.toNat []
  rw[List.nil_append] at this
  split
  ·rename_i z
   have z1:n=1:=by
    rcases (Bool.or_eq_true _ _).mp z with h | h
    ·simpa using h
    ·cases h
   subst z1;rfl
  ·exact congrArg Str.mk this
theorem zg3 {X:Cx}:OpR X (binaryOp .Mult) zms:=by
 intro pins s σ H x y v u Q I rx ry h
 obtain ⟨c,n,rfl,rfl,h0,h1,q⟩:=h
 obtain ⟨t,rfl⟩:=rx
 obtain ⟨t',rfl⟩:=ry
 refine SB.mul ⟨?_,λhn _=>?_,λhn _=>?_⟩ λt' k=>⟨.str ⟨(List.replicate n.toNat c).toArray⟩,H,I.tok _,⟨t',by rw[zld c n h0]⟩,q⟩
 ·rw[decide_eq_false (by omega),decide_eq_false (by omega)];rfl
 ·show ¬ (1:Int)>_
  have:(1:Int)<=(2 ^ 63-1) / n:=(Int.le_ediv_iff_mul_le (by omega)).mpr (by omega)
  omega
 ·show Builtin.Str.tooLong (1*n.toNat)=false
  have:(1000:Nat)<=sizeLine:=by decide
  unfold Builtin.Str.tooLong
  first
   | exact decide_eq_false (by omega)
   | simp;omega
theorem zgn {K:PySem.W.Frag}{σ:St}{G:Hp}{ta tb:TE}{c:Nat}{n:Int}(ha:Ev K ta σ G (.str ⟨#[c]⟩))(hb:Ev K tb σ G (.int n))(h0:0<=n)(h1:n<=1000):Ev K (tOp zms ta tb) σ G (.str ⟨(List.replicate n.toNat c).toArray⟩):=
 JM ha hb λG1 H x y Q s1 s2 hx hy k=>by
  rw[hx.str,hy.int]
  exact ⟨c,n,rfl,rfl,h0,h1,k _ G1 H (Yr.refl s2) (Z7 _)⟩
theorem zjX {K:PySem.W.Frag}{σ:St}{G:Hp}{ta tb:TE}{z:Str}{i:Int}{c:Nat}(ha:Ev K ta σ G (.str z))(hb:Ev K tb σ G (.int i))(hz:z.length<=sizeLine)(hc:atI z.cps.toList i=some c):Ev K (tOp zoy ta tb) σ G (.str ⟨#[c]⟩):=
 JM ha hb λG1 H x y Q s1 s2 hx hy k=>by
  rw[hx.str,hy.int]
  exact ⟨z,i,c,rfl,rfl,hz,hc,k _ G1 H (Yr.refl s2) (Z7 _)⟩
end L2
namespace L2
open PySem PySem.Spec PyProof.Rows Lw Nm Frac
section
variable {K:PySem.W.Frag}{d c l:Addr}{G H G' H' : Hp}{m n:Nat}{σ:St}
theorem DkA.upd {o:HO}(D:DkA n H d c)(hd:l≠d)(hc:l≠c):DkA n (L2.upd H l o) d c:=by
 obtain ⟨k,ns,h1,h2,r⟩:=D.ex
 exact ⟨k,ns,by rw[Zq (Ne.symm hd)];exact h1,by rw[Zq (Ne.symm hc)];exact h2,r⟩
theorem Dk.wr (k:Dk n d c G H G' H')(h0:H l=none)(hg:G' l=none)(hd:l≠d)(hc:l≠c)(o:HO):Dk n d c G H G' (L2.upd H' l o):=
 ⟨k.gg,Qg k.gh hg,k.fr,λb u e h1 h2=>by rw[Zq (Zn e h0)];exact k.kp b u e h1 h2,k.D0.upd hd hc,λN D=>(k.cn N D).upd hd hc⟩
theorem Dk.put {o:HO}(k:Dk n d c G H G' H')(h0:H l=none)(hl:H' l=some o)(hg:G l=none)(hg' : G' l=none):Dk n d c G H (L2.upd G' l o) H' := by
 refine ⟨λb u e=>?_,λb u e=>?_,λb u e=>?_,k.kp,k.D0,k.cn⟩
 ·rw[Zq (Zn e hg)];exact k.gg b u e
 ·by_cases h:b=l
  ·subst h;rw[Zh] at e;rw[hl,e]
  ·rw[Zq h] at e;exact k.gh b u e
 ·by_cases h:b=l
  ·subst h;exact .inr h0
  ·rw[Zq h] at e;exact k.fr b u e
theorem Dk.ned (D:DkA n H d c)(h:H l=none):l≠d/\l≠c:=by
 obtain ⟨⟨o,h1⟩,⟨u,h2⟩⟩:=D.some
 exact ⟨λz=>(by subst z;rw[h1] at h;cases h),λz=>(by subst z;rw[h2] at h;cases h)⟩
theorem DvA.imp {t:TA}{R R' : List PyData->Prop}(h:DvA K d c n t σ G R)(hi:∀ x,R x->R' x):DvA K d c n t σ G R' := λG1 H s1 s2 a b D Q k=>h G1 H s1 s2 a b D Q λv x G' H' r=>k v x G' H' (hi x r)
theorem zke {ta tb:TE}{g:Int->Int->V}{C:Int->Int->Prop}{Ra Rb:Int->Prop}{R:PyData->Prop}(ha:Dv K d c m ta σ G λx=>∃ i:Int,x = .int i/\Ra i)(hb:Dv K d c n tb σ G λx=>∃ i:Int,x = .int i/\Rb i)(hr:∀ i j,Ra i->Rb j->C i j/\∃ x,R x/\∀ G',Dat K G' (g i j) x):Dv K d c (m+n) (tOp (rI C g) ta tb) σ G R:=
 zi5 ha hb λa b va vb G' h1 h2 s hva hvb=>by
  obtain ⟨i,rfl,hi⟩:=h1
  obtain ⟨j,rfl,hj⟩:=h2
  obtain ⟨hc,x,hx,hd⟩:=hr i j hi hj
  exact ⟨x,hx,zdM (zgb hva) (zgb hvb) hc (hd G')⟩
theorem zkh {ta tb:TE}{g:Int->Int->V}{Ra Rb:Int->Prop}{R:PyData->Prop}(ha:Dv K d c m ta σ G λx=>∃ i:Int,x = .int i/\Ra i)(hb:Dv K d c n tb σ G λx=>∃ i:Int,x = .int i/\Rb i)(hr:∀ i j,Ra i->Rb j->∃ x,R x/\∀ G',Dat K G' (g i j) x):Dv K d c (m+n) (tOp (rI0 g) ta tb) σ G R:=
 zi5 ha hb λa b va vb G' h1 h2 s hva hvb=>by
  obtain ⟨i,rfl,hi⟩:=h1
  obtain ⟨j,rfl,hj⟩:=h2
  obtain ⟨x,hx,hd⟩:=hr i j hi hj
  exact ⟨x,hx,J8 (zgb hva) (zgb hvb) (hd G')⟩
end
section
variable {K:PySem.W.Frag}{d c:Addr}{G H:Hp}{n:Nat}{σ:St}{te:TE}{x:PyData}{D:Ends}{rest:TS}{i:Nat}
theorem Yv (h:Ev K te σ G x)(s:ZL G H)(k:∀ v G' H',Yr G H G' H' -> Dat K G' v x->rest D (σ.set i (some v)) H'):zlK (zlO te (zdL i)) rest D σ H:=Jb h s k
theorem W3 {R:PyData->Prop}(h:Dv K d c n te σ G R)(s:ZL G H)(gd:G d=none)(gc:G c=none)(D0:DkA n H d c)(k:∀ v x G' H',R x->Dk n d c G H G' H' -> Dat K G' v x->rest D (σ.set i (some v)) H'):zlK (zlO te (zdL i)) rest D σ H:=zml h s gd gc D0 k
theorem Qw {tc:TT}{t u:TS}{b:Bool}(h:EvT tc σ G b)(s:ZL G H)(k1:b=true->∀ G' H',Yr G H G' H' -> t { D with nx:=rest D } σ H') (k2:b=false->∀ G' H',Yr G H G' H' -> u { D with nx:=rest D } σ H'):zlK (zlI tc t u) rest D σ H:=zag h s k1 k2
theorem zgv {tc:TT}{t u:TS}(h:EvT tc σ G false)(s:ZL G H)(k:∀ G' H',Yr G H G' H' -> u { D with nx:=rest D } σ H'):zlK (zlI tc t u) rest D σ H:=ZJ h s k
theorem zoX {t:TS}(h:t { D with nx:=rest D } σ H):zlK t rest D σ H:=h
theorem Dk.back {G' H' : Hp}(k:Dk n d c G H G' H'):Dk n d c G H G H' := ⟨ZL.refl _,k.gg.trans k.gh,λ_ _ e=>.inl e,k.kp,k.D0,k.cn⟩
theorem DvA.up {t:TA}{m:Nat}{R:List PyData->Prop}(h:DvA K d c m t σ G R)(e:m<=n):DvA K d c n t σ G R:=λG1 H s1 s2 a b D Q k=>h G1 H s1 s2 a b (D.mono e) Q λv x G' H' r q=>k v x G' H' r (q.up e)
end
end L2
namespace K32
open PySem L2 Frac Lw Dig PySem.NumText Nm
open Ord Num Look Rdo
def SzP (p:Int×Int):Prop:=Sz p/\1<=p.2
def RNx:List PyData->PyData->Prop:=λds x=>ds=[]/\∃ r:Int,x = .int r
def RFr:List PyData->PyData->Prop:=λds x=>ds=[]/\∃ p,x=dF p/\SzP p
def zkF:List PyData->PyData->Prop:=λds x=>ds=[]/\∃ ps:List (Int×Int),x = .list (ps.map dF)/\2<=ps.length/\ps.length<=13/\∀ p∈ps,SzP p
theorem DkA.step {N:Nat}{H:Hp}{d c:Addr}{k0:Int}(D:DkA (N+1) H d c)(h:H d=some (.lst [.ref c,.int k0])):DkA N (upd H d (.lst [.ref c,.int (k0+1)])) d c:=by
 have ne:=D.ne
 obtain ⟨k,ns,h1,h2,h3,h4,h5⟩:=D.ex
 rw[h1] at h
 injection h with h
 injection h with h
 simp at h
 subst h
 refine ⟨k+1,ns,Zh,by rw[Zq ne];exact h2,h3,by omega,?_⟩
 push_cast at h5 ⊢
 omega
theorem m2 (i j:Int)(h:0<j):0<=i % j/\i % j<j:=⟨Int.emod_nonneg _ (by omega),Int.emod_lt_of_pos _ h⟩
section
variable {P:Program}{w:World}{K:PySem.W.Frag}{mg:Str->Option Value}{base:Heap}
theorem JL (T:Top K mg):Yi P w K mg base CX0 1 T.Ym T.fd__law_next ["deck"] (Vc K 1 RNx):=by
 refine T.Yu.ok WL (λvs H Q E h=>?_) (λcdv A outer s H vs Q E hr h=>?_)
 ·obtain ⟨d,c,G,us,ds,rfl,_,_,_,_,hd,⟨x,rfl,_⟩,_⟩:=h
  rw[List.length_cons,hd.length];rfl
 ·obtain ⟨d,c,G,us,ds,rfl,sg,gd,gc,D,hd,⟨x,rfl,_⟩,kk⟩:=h
  cases hd.nil
  have nedc:=D.ne
  obtain ⟨k,ns,hdk,hck,few,h0,hk⟩:=id D.ex
  have fin:∀ r:Int,Q (.int r) (upd H d (.lst [.ref c,.int (k+1)])):=λr=>by
   refine kk _ _ G _ ⟨rfl,r,rfl⟩ (zly sg gd gc (DkA.step (N:=0) D hdk) (λN D' => DkA.step D' hdk) λb o e h1 h2=>by rw[Zq h1];exact e) (Zv _)
  have hk9:k<10 ^ 9:=by omega
  have hc:SqL K (upd H d (.lst [.ref c,.int (k+1)])) c (ns.map V.int):=SqL.of (by rw[Zq nedc];exact hck)
  refine ⟨_,(Ze (ZD (i:=1) WL.nd rfl (Or.inl rfl) (ZZ (Zz (K:=K) rfl) (pv 0) Zg (λ_ _=>rfl)))
   (Ze (ZD (i:=2) WL.nd rfl (Or.inl rfl) (ZZ (Zz (K:=K) rfl) (pv 0) Zg (λ_ _=>rfl)))
   (Ze (zji (Zw W6 (pv 2) Zg) (zjo (pv 0) Zg set_list))
   (Ze (Yt (ZF V3 (pv 2) (Yd (Yb (K:=K) rfl) (by rfl) T.zb9 PySem.boot_len (Za (pv 1) Zf Zd)) (ZR _)) (Zo (Zy (ZZ (Zz (K:=K) rfl) (pv 1) (pv 2) (λ_ _=>rfl)))) ZQ)
   (Ze (Yt (ZF X7 (Yd (Yb (K:=K) rfl) (by rfl) T.zb9 PySem.boot_len (Za (pv 1) Zf Zd)) Zg (ZR _)) (Zo (Zy (Zw W6 (Zw Y9 (Zw Y9 (pv 2) (pv 2)) Zg) (pv 2)))) ZQ)
   (Ze (ZD (i:=3) WL.nd rfl (Or.inl rfl) (Zw Z0 (Zw Y9 (Zw W6 (Zw W6 (Zw Z0 (ZZ (Zz (K:=K) rfl) (pv 1) (Zw Z0 (pv 2) (Yd (Yb (K:=K) rfl) (by rfl) T.zb9 PySem.boot_len (Za (pv 1) Zf Zd))) (λ_ _=>rfl)) Zg) (Zw Y9 (pv 2) Zg)) Zg) Zg) Zg))
   (Zo (Zy (Zw Z0 (Zw Y9 (pv 3) (pv 3)) Zg))))))))) ,?_⟩
  refine ⟨_,rfl,d,_,0,_,rfl,rfl,SqL.of hdk,rfl,?_⟩
  refine ⟨_,rfl,d,_,1,_,rfl,rfl,SqL.of hdk,rfl,?_⟩
  refine ⟨_,rfl,_,_,rfl,rfl,_,rfl,d,_,1,1,rfl,rfl,hdk,rfl,?_⟩
  refine ⟨_,rfl,_,rfl,c,_,rfl,.inl hc,_,_,rfl,rfl,_,rfl,?_⟩
  refine zoC (λh=>?_) (λh=>?_)
  ·have h' : k<ns.length:=by
    have:=of_decide_eq_true h
    rw[List.length_map] at this;exact this
   obtain ⟨z,j,hat,_,_⟩:=zep (ns:=ns) h0 h'
   exact ⟨_,rfl,_,rfl,c,_,_,_,rfl,rfl,hc,hat,fin z⟩
  ·refine ⟨_,rfl,c,_,rfl,.inl hc,rfl,_,rfl,?_⟩
   refine zoC (λ_=>?_) (λh2=>?_)
   ·have m1:(k*k).natAbs<=10 ^ 9*10 ^ 9:=zpj (by omega) (by omega)
    exact ⟨_,rfl,_,rfl,_,_,rfl,rfl,mw (by omega) (by omega),_,_,rfl,rfl,mw (by omega) (by decide),_,rfl,_,_,rfl,rfl,fin _⟩
   ·have hp:0<ns.length:=by
     have h3:¬ (V.int ((ns.map V.int).length:Nat)=V.int 0):=λz=>h2 (decide_eq_true z)
     rw[List.length_map] at h3
     have:ns.length≠0:=λz=>h3 (by rw[z];rfl)
     omega
    have hi0:0<=k % ((ns.map V.int).length:Int):=Int.emod_nonneg _ (by rw[List.length_map];omega)
    have hi1:k % ((ns.map V.int).length:Int)<ns.length:=by
     have:=Int.emod_lt_of_pos k (show (0:Int)<((ns.map V.int).length:Int) by rw[List.length_map];omega)
     rw[List.length_map] at this ⊢;exact this
    obtain ⟨z,j,hat,_,_⟩:=zep hi0 hi1
    have hb1:(0:Int)<=z % 2147483629/\z % 2147483629<2147483629:=⟨Int.emod_nonneg _ (by decide),Int.emod_lt_of_pos _ (by decide)⟩
    refine ⟨_,rfl,_,rfl,_,rfl,c,_,rfl,.inl hc,_,_,rfl,rfl,(by rw[List.length_map];omega),c,_,_,_,rfl,rfl,hc,hat,_,_,rfl,rfl,(by show (0:Int)<2147483629;decide),?_⟩
    refine ⟨_,rfl,_,_,rfl,rfl,mw (by omega) (by decide),_,_,rfl,rfl,_,_,rfl,rfl,_,_,rfl,rfl,mw (by omega) (by decide),_,_,rfl,rfl,(by show (0:Int)<2147483587;decide),?_⟩
    (try dsimp only)
    generalize hM:(z % 2147483629+k*7919+5)*50021 % 2147483587=m
    have hm:0<=m/\m<2147483587:=by rw[← hM];exact ⟨Int.emod_nonneg _ (by decide),Int.emod_lt_of_pos _ (by decide)⟩
    exact ⟨_,rfl,_,rfl,_,_,rfl,rfl,mw (by omega) (by omega),_,_,rfl,rfl,(by show (0:Int)<2147483563;decide),fin _⟩
theorem Uk {σ:St}{G:Hp}{ta tb:TE}{ds:List PyData}{i:Int}(ha:Ev K ta σ G (.list ds))(hb:Ev K tb σ G (.int i))(h0:0<=i)(h1:i<ds.length):∃ e,ds[i.toNat]?=some e/\Ev K (tOp (zeA K) ta tb) σ G e:=by
 obtain ⟨j,rfl⟩:=Int.eq_ofNat_of_zero_le h0
 have hj:j<ds.length:=by omega
 exact ⟨ds[j],by rw[Int.toNat_natCast];exact List.getElem?_eq_getElem hj,YL (n:=j) ha hb (Xk hj) (List.getElem?_eq_getElem hj)⟩
theorem zbf {σ:St}{G:Hp}{i j:Int}{r:Int}(h:ziw i j)(e:i ^ j.toNat=r):Ev K (tOp (rI ziw λi j=>.int (i ^ j.toNat)) (tC (.int i)) (tC (.int j))) σ G (.int r):=Qv (zdM Zt Zt h (Zv _)) (by rw[e])
theorem zjA {σ:St}{G:Hp}{ta:TE}{i:Int}(h:Ev K ta σ G (.int i)):Ev K (tUn (rU λi=>.int (-i)) ta) σ G (.int (-i)):=
 λG1 H s1 s2 Q k=>h G1 H s1 s2 _ λv G2 H2 g2 hv=>⟨i,hv.int,k _ G2 H2 g2 (Zv _)⟩
theorem Yk {σ:St}{G:Hp}{ta tb:TE}{i j:Int}(ha:Ev K ta σ G (.int i))(hb:Ev K tb σ G (.int j))(h:0<j):Ev K (tOp (rI (λ_ j=>0<j) λi j=>.int (i % j)) ta tb) σ G (.int (i % j)):=zdM ha hb h (Zv _)
theorem W7 {σ:St}{G:Hp}{ta tb:TE}{i j:Int}(ha:Ev K ta σ G (.int i))(hb:Ev K tb σ G (.int j))(h:0<j)(h' : j.natAbs<10 ^ 100):Ev K (tOp (rI Uw λi j=>.int (i / j)) ta tb) σ G (.int (i / j)):=zdM ha hb ⟨h,w0 h'⟩ (Zv _)
theorem QV {σ:St}{G:Hp}{ta tb:TE}{i j:Int}(ha:Ev K ta σ G (.int i))(hb:Ev K tb σ G (.int j))(h:i.natAbs<10 ^ 100)(h' : j.natAbs<10 ^ 100):Ev K (tOp (rI V5 λi j=>.int (i*j)) ta tb) σ G (.int (i*j)):=zdM ha hb (mw h h') (Zv _)
theorem zc4 {σ:St}{G:Hp}{ta tb:TE}{i j:Int}(ha:Ev K ta σ G (.int i))(hb:Ev K tb σ G (.int j)):Ev K (tOp (rI0 λi j=>.int (i+j)) ta tb) σ G (.int (i+j)):=J8 ha hb (Zv _)
theorem JX {σ:St}{G:Hp}{ta tb:TE}{i j:Int}(ha:Ev K ta σ G (.int i))(hb:Ev K tb σ G (.int j)):Ev K (tOp (rI0 λi j=>.int (i-j)) ta tb) σ G (.int (i-j)):=J8 ha hb (Zv _)
theorem Qo {σ:St}{G:Hp}{ta tb:TE}{a b:Int}(ha:Ev K ta σ G (.int a))(hb:Ev K tb σ G (.int b)):Ev K (zdn (ZS ta (ZS tb JH))) σ G (dF (a,b)):=X4 (Zc ha (Zc hb Zr)) (by show 2<=sizeLine;decide)
theorem zlb {σ:St}{G:Hp}{m:Int}(hm:σ[2]?=some (some (.int m))):Ev K (zhK (ZS (zdn (ZS (tOp (rI0 λi j=>.int (i-j)) (tOp (rI (λ_ j=>0<j) λi j=>.int (i % j)) (Xq 2) (tC (.int 9))) (tC (.int 4))) (ZS (tC (.int 1)) JH))) (ZS (zdn (ZS (tOp (rI0 λi j=>.int (i-j)) (tOp (rI V5 λi j=>.int (i*j)) (tC (.int 2)) (tOp (rI (λ_ j=>0<j) λi j=>.int (i % j)) (Xq 2) (tC (.int 5)))) (tC (.int 5))) (ZS (tC (.int 2)) JH))) (ZS (zdn (ZS (tOp (rI0 λi j=>.int (i-j)) (tOp (rI V5 λi j=>.int (i*j)) (tC (.int 3)) (tOp (rI (λ_ j=>0<j) λi j=>.int (i % j)) (Xq 2) (tC (.int 5)))) (tC (.int 5))) (ZS (tC (.int 3)) JH))) (ZS (zdn (ZS (tOp (rI0 λi j=>.int (i-j)) (tOp (rI V5 λi j=>.int (i*j)) (tC (.int 4)) (tOp (rI (λ_ j=>0<j) λi j=>.int (i % j)) (Xq 2) (tC (.int 6)))) (tC (.int 11))) (ZS (tC (.int 4)) JH))) JH))))) σ G (.list ([(m % 9-4,1),(2*(m % 5)-5,2),(3*(m % 5)-5,3),(4*(m % 6)-11,4)].map dF)):=by
 have b9:=m2 m 9 (by decide)
 have b5:=m2 m 5 (by decide)
 have b6:=m2 m 6 (by decide)
 have b900:=m2 m 900 (by decide)
 have b19:=m2 m 10000000000000000000 (by decide)
 have b17:=m2 m 100000000000000000 (by decide)
 have b3:=m2 m 1000 (by decide)
 exact zal (Zc (Qo (JX (Yk (Zb hm (Zv m)) Zt (by decide)) Zt) Zt)
   (Zc (Qo (JX (QV Zt (Yk (Zb hm (Zv m)) Zt (by decide)) (by decide) (by omega)) Zt) Zt)
   (Zc (Qo (JX (QV Zt (Yk (Zb hm (Zv m)) Zt (by decide)) (by decide) (by omega)) Zt) Zt)
   (Zc (Qo (JX (QV Zt (Yk (Zb hm (Zv m)) Zt (by decide)) (by decide) (by omega)) Zt) Zt) Zr)))) (by show 4<=sizeLine;decide)
theorem zlC {σ:St}{G:Hp}{m:Int}(hm:σ[2]?=some (some (.int m))):Ev K (zhK (ZS (zdn (ZS (tOp (rI0 λi j=>.int (i-j)) (tOp (rI V5 λi j=>.int (i*j)) (tC (.int 7)) (tOp (rI (λ_ j=>0<j) λi j=>.int (i % j)) (Xq 2) (tC (.int 9)))) (tC (.int 31))) (ZS (tC (.int 7)) JH))) (ZS (zdn (ZS (tOp (rI0 λi j=>.int (i-j)) (tOp (rI V5 λi j=>.int (i*j)) (tC (.int 100)) (tOp (rI (λ_ j=>0<j) λi j=>.int (i % j)) (Xq 2) (tC (.int 900)))) (tC (.int 40007))) (ZS (tC (.int 100)) JH))) (ZS (zdn (ZS (tOp (rI (λ_ j=>0<j) λi j=>.int (i % j)) (Xq 2) (tOp (rI ziw λi j=>.int (i ^ j.toNat)) (tC (.int 10)) (tC (.int 19)))) (ZS (tC (.int 1)) JH))) JH)))) σ G (.list ([(7*(m % 9)-31,7),(100*(m % 900)-40007,100),(m % 10000000000000000000,1)].map dF)):=by
 have b9:=m2 m 9 (by decide)
 have b5:=m2 m 5 (by decide)
 have b6:=m2 m 6 (by decide)
 have b900:=m2 m 900 (by decide)
 have b19:=m2 m 10000000000000000000 (by decide)
 have b17:=m2 m 100000000000000000 (by decide)
 have b3:=m2 m 1000 (by decide)
 exact zal (Zc (Qo (JX (QV Zt (Yk (Zb hm (Zv m)) Zt (by decide)) (by decide) (by omega)) Zt) Zt)
   (Zc (Qo (JX (QV Zt (Yk (Zb hm (Zv m)) Zt (by decide)) (by decide) (by omega)) Zt) Zt)
   (Zc (Qo (Yk (Zb hm (Zv m)) (zbf ⟨by decide,by decide,by decide⟩ (by decide +kernel)) (by decide)) Zt) Zr))) (by show 3<=sizeLine;decide)
theorem zlo {σ:St}{G:Hp}{m:Int}(hm:σ[2]?=some (some (.int m))):Ev K (zhK (ZS (zdn (ZS (tOp (rI0 λi j=>.int (i-j)) (tUn (rU λi=>.int (-i)) (tC (.int 5))) (tOp (rI (λ_ j=>0<j) λi j=>.int (i % j)) (Xq 2) (tOp (rI ziw λi j=>.int (i ^ j.toNat)) (tC (.int 10)) (tC (.int 19))))) (ZS (tC (.int 1)) JH))) (ZS (zdn (ZS (tOp (rI0 λi j=>.int (i+j)) (tOp (rI V5 λi j=>.int (i*j)) (tC (.int 10)) (tOp (rI (λ_ j=>0<j) λi j=>.int (i % j)) (Xq 2) (tOp (rI ziw λi j=>.int (i ^ j.toNat)) (tC (.int 10)) (tC (.int 17))))) (tC (.int 1))) (ZS (tOp (rI ziw λi j=>.int (i ^ j.toNat)) (tC (.int 10)) (tC (.int 15))) JH))) (ZS (zdn (ZS (tOp (rI0 λi j=>.int (i-j)) (tOp (rI V5 λi j=>.int (i*j)) (tUn (rU λi=>.int (-i)) (tC (.int 10))) (tOp (rI (λ_ j=>0<j) λi j=>.int (i % j)) (Xq 2) (tOp (rI ziw λi j=>.int (i ^ j.toNat)) (tC (.int 10)) (tC (.int 3))))) (tC (.int 1))) (ZS (tOp (rI ziw λi j=>.int (i ^ j.toNat)) (tC (.int 10)) (tC (.int 15))) JH))) JH)))) σ G (.list ([(-5-m % 10000000000000000000,1),(10*(m % 100000000000000000)+1,1000000000000000),(-10*(m % 1000)-1,1000000000000000)].map dF)):=by
 have b9:=m2 m 9 (by decide)
 have b5:=m2 m 5 (by decide)
 have b6:=m2 m 6 (by decide)
 have b900:=m2 m 900 (by decide)
 have b19:=m2 m 10000000000000000000 (by decide)
 have b17:=m2 m 100000000000000000 (by decide)
 have b3:=m2 m 1000 (by decide)
 exact zal (Zc (Qo (JX (zjA Zt) (Yk (Zb hm (Zv m)) (zbf ⟨by decide,by decide,by decide⟩ (by decide +kernel)) (by decide))) Zt)
   (Zc (Qo (zc4 (QV Zt (Yk (Zb hm (Zv m)) (zbf ⟨by decide,by decide,by decide⟩ (by decide +kernel)) (by decide)) (by decide) (by omega)) Zt) (zbf ⟨by decide,by decide,by decide⟩ (by decide +kernel)))
   (Zc (Qo (JX (QV (zjA Zt) (Yk (Zb hm (Zv m)) (zbf ⟨by decide,by decide,by decide⟩ (by decide +kernel)) (by decide)) (by decide) (by omega)) Zt) (zbf ⟨by decide,by decide,by decide⟩ (by decide +kernel))) Zr))) (by show 3<=sizeLine;decide)
theorem zdl (T:Top K mg):Yi P w K mg base CX0 2 T.Xu T.fd__law_fraction ["deck"] (Vc K 1 RFr):=by
 have G__law_next:Yi P w K mg base CX0 1 T.Ym T.fd__law_next ["deck"] (Vc K 1 RNx):=JL T
 refine T.J6.ok Yq (λvs H Q E h=>?_) (λcdv A outer s H vs Q E hr h=>?_)
 ·obtain ⟨d,c,G,us,ds,rfl,_,_,_,_,hd,⟨x,rfl,_⟩,_⟩:=h
  rw[List.length_cons,hd.length];rfl
 ·obtain ⟨d,c,G,us,ds,rfl,sg,gd,gc,D,hd,⟨x,rfl,_⟩,kk⟩:=h
  cases hd.nil
  refine ⟨_,(Ze (ZD (i:=1) Yq.nd rfl (Or.inl rfl) (Zx G__law_next hr (by rfl) T.YC T.Yu.kp T.YD .nil Z3 (Za (pv 0) Zf Zd)))
   (Ze (ZD (i:=2) Yq.nd rfl (Or.inl rfl) (Zw YF (pv 1) Zg))
   (Ze (ZD (i:=3) Yq.nd rfl (Or.inl rfl) (Xn (Za (Yg (Za (Zw Ja (Zw Z0 (pv 2) Zg) Zg) (Za Zg Zf Zj) Yo)) (Za (Yg (Za (Zw Ja (Zw Y9 Zg (Zw Z0 (pv 2) Zg)) Zg) (Za Zg Zf Zj) Yo)) (Za (Yg (Za (Zw Ja (Zw Y9 Zg (Zw Z0 (pv 2) Zg)) Zg) (Za Zg Zf Zj) Yo)) (Za (Yg (Za (Zw Ja (Zw Y9 Zg (Zw Z0 (pv 2) Zg)) Zg) (Za Zg Zf Zj) Yo)) Zf Xh) Xh) Xh) Xh)))
   (Ze (ZD (i:=4) Yq.nd rfl (Or.inl rfl) (Xn (Za (Yg (Za (Zw Ja (Zw Y9 Zg (Zw Z0 (pv 2) Zg)) Zg) (Za Zg Zf Zj) Yo)) (Za (Yg (Za (Zw Ja (Zw Y9 Zg (Zw Z0 (pv 2) Zg)) Zg) (Za Zg Zf Zj) Yo)) (Za (Yg (Za (Zw Z0 (pv 2) (Zw za4 Zg Zg)) (Za Zg Zf Zj) Yo)) Zf Xh) Xh) Xh)))
   (Ze (ZD (i:=5) Yq.nd rfl (Or.inl rfl) (Xn (Za (Yg (Za (Zw Ja (zkk zgc Zg) (Zw Z0 (pv 2) (Zw za4 Zg Zg))) (Za Zg Zf Zj) Yo)) (Za (Yg (Za (Zw W6 (Zw Y9 Zg (Zw Z0 (pv 2) (Zw za4 Zg Zg))) Zg) (Za (Zw za4 Zg Zg) Zf Yo) Yo)) (Za (Yg (Za (Zw Ja (Zw Y9 (zkk zgc Zg) (Zw Z0 (pv 2) (Zw za4 Zg Zg))) Zg) (Za (Zw za4 Zg Zg) Zf Yo) Yo)) Zf Xh) Xh) Xh)))
   (Zo (Zy (ZZ (Zz (K:=K) rfl) (Zw zgq (Zw zgq (pv 3) (pv 4)) (pv 5)) (Zw Z0 (pv 1) Zg) (λ_ _=>rfl))))))))) ,?_⟩
  refine W3 (K:=K) (d:=d) (c:=c) (X8 (R:=RNx) rfl Zr ⟨.int 0,rfl,0,rfl⟩) sg gd gc D λv1 x G1 H1 hx k1 hv1=>?_
  obtain ⟨_,cell,rfl⟩:=hx
  rw[hv1.int]
  refine Yv (K:=K) (W7 (Zb rfl (Zv cell)) Zt (by decide) (by decide)) k1.gh λv2 G2 H2 g2 hv2=>?_
  rw[hv2.int]
  generalize cell / 10=m
  have b9:0<=m % 9/\m % 9<9:=⟨Int.emod_nonneg _ (by decide),Int.emod_lt_of_pos _ (by decide)⟩
  have b5:0<=m % 5/\m % 5<5:=⟨Int.emod_nonneg _ (by decide),Int.emod_lt_of_pos _ (by decide)⟩
  have b6:0<=m % 6/\m % 6<6:=⟨Int.emod_nonneg _ (by decide),Int.emod_lt_of_pos _ (by decide)⟩
  have b900:0<=m % 900/\m % 900<900:=⟨Int.emod_nonneg _ (by decide),Int.emod_lt_of_pos _ (by decide)⟩
  have b19:0<=m % 10000000000000000000/\m % 10000000000000000000<10000000000000000000:=⟨Int.emod_nonneg _ (by decide),Int.emod_lt_of_pos _ (by decide)⟩
  have b17:0<=m % 100000000000000000/\m % 100000000000000000<100000000000000000:=⟨Int.emod_nonneg _ (by decide),Int.emod_lt_of_pos _ (by decide)⟩
  have b3:0<=m % 1000/\m % 1000<1000:=⟨Int.emod_nonneg _ (by decide),Int.emod_lt_of_pos _ (by decide)⟩
  refine Yv (K:=K) (zlb (m:=m) rfl) g2.gh λv3 G3 H3 g3 hv3=>?_
  refine Yv (K:=K) (zlC (m:=m) rfl) g3.gh λv4 G4 H4 g4 hv4=>?_
  refine Yv (K:=K) (zlo (m:=m) rfl) g4.gh λv5 G5 H5 g5 hv5=>?_
  have bc:0<=cell % 10/\cell % 10<10:=⟨Int.emod_nonneg _ (by decide),Int.emod_lt_of_pos _ (by decide)⟩
  obtain ⟨e,he,hev⟩:=Uk (K:=K) (G:=G5) (i:=cell % 10) (zgX (zgX (Zb (i:=3) (σ:=[some (V.ref d),some (V.int cell),some (V.int m),some v3,some v4,some v5]) rfl (hv3.same (g4.gg.trans g5.gg))) (Zb (i:=4) rfl (hv4.same g5.gg)) (by show 7<=sizeLine;decide)) (Zb (i:=5) rfl hv5) (by show 10<=sizeLine;decide)) (Yk (Zb (i:=1) rfl (Zv cell)) Zt (by decide)) bc.1 bc.2
  have hR:∃ p,e=dF p/\SzP p:=by
   have hm:=List.mem_of_getElem? he
   rw[← List.map_append,← List.map_append] at hm
   obtain ⟨p,hp,rfl⟩:=List.mem_map.mp hm
   refine ⟨p,rfl,?_⟩
   simp only[List.cons_append,List.nil_append,List.mem_cons,List.not_mem_nil,or_false] at hp
   have e40:(10:Nat) ^ 40=10000000000000000000000000000000000000000:=by decide +kernel
   unfold SzP Sz
   rw[e40]
   rcases hp with rfl | rfl | rfl | rfl | rfl | rfl | rfl | rfl | rfl | rfl <;> refine ⟨⟨?_,?_⟩,?_⟩ <;> dsimp only <;> omega
  refine ZW (K:=K) hev g5.gh λv G' H' g' hv=>?_
  exact kk v e G' H' ⟨rfl,hR⟩ ((((((k1.trans (g2.dk k1.D0)).trans (g3.dk (k1.D0.same g2.hh))).trans (g4.dk ((k1.D0.same g2.hh).same g3.hh))).trans (g5.dk (((k1.D0.same g2.hh).same g3.hh).same g4.hh))).trans (g'.dk ((((k1.D0.same g2.hh).same g3.hh).same g4.hh).same g5.hh))).up (by decide)) hv
end
end K32
namespace K32
open PySem L2 Frac Lw Dig PySem.NumText Nm
open Ord Num Look Rdo
def zoN (K:PySem.W.Frag):Sp:=λvs H Q _=>∃ (d c:Addr) (G:Hp),vs=[.ref d]/\ZL G H/\G d=none/\G c=none/\DkA 1 H d c/\
 ∀ (book:List Str) (pb:Addr) (G' H' : Hp),1<=book.length->book.length<=4->(∀ z∈book,Yc z=none)->Dk 1 d c G H G' H' -> G' pb=some (.tup (book.map V.str))->Q (.ref pb) H'
abbrev nms:List Str:=[S "s",S "size",S "sizes",S "x",S "sizesize",S "si",S "xs",S "upp"]
abbrev zl4:List Str:=[S "like",S "up",S "down",S "then",S "turn",S "pick",S "same",S "both",S "not",S "and",S "or",S "under",S "is"]
theorem zlT:∀ z∈nms,Yc z=none:=by decide +kernel
theorem zln:∀ z∈["like", "up", "down", "then", "turn", "pick", "same", "both", "either", "not", "and", "or", "under", "is"].map Str.ofString,z.cps.toList.getLast?≠some 120:=by decide +kernel
theorem zpd (z:Str):Yc (z++S "x")=none:=zbb λh=>zln _ h (by
 have e:(z++S "x").cps.toList=z.cps.toList++[120]:=by
  show (z.cps++(S "x").cps).toList=_
  rw[Array.toList_append];rfl
 rw[e];simp)
def Vd (p n:Nat):Str:=⟨(List.replicate n p).toArray⟩
theorem zgi (p q:Nat):∀ a b:Nat,List.replicate a p++q::List.replicate b p≠[101,105,116,104,101,114]
 | 0,0=>by simp
 | 0,1=>by simp
 | 0,b+2=>by
  rw[List.replicate_succ,List.replicate_succ]
  intro h
  simp at h
  omega
 | 1,0=>by simp[List.replicate_succ]
 | 1,b+1=>by
  rw[List.replicate_succ,List.replicate_succ]
  intro h
  simp at h
  omega
 | a+2,b=>by
  rw[List.replicate_succ,List.replicate_succ]
  intro h
  simp at h
  omega
theorem zfz (p q a b:Nat):(Vd p a++(⟨#[q]⟩:Str)++Vd p b).cps.toList=List.replicate a p++q::List.replicate b p:=by
 show ((List.replicate a p).toArray ++ #[q]++(List.replicate b p).toArray).toList=_
 simp
theorem zlc (p q a b:Nat)(h:(Vd p a++(⟨#[q]⟩:Str)++Vd p b)∉zl4):Yc (Vd p a++(⟨#[q]⟩:Str)++Vd p b)=none:=by
 refine zbb λm=>?_
 have ne:(Vd p a++(⟨#[q]⟩:Str)++Vd p b)≠S "either" := λe=>by
  have:=congrArg (λz:Str=>z.cps.toList) e
  have this:(Vd p a++(⟨#[q]⟩:Str)++Vd p b).cps.toList=(S "either").cps.toList:=this
  rw[zfz] at this
  exact zgi p q a b this
 generalize (Vd p a++(⟨#[q]⟩:Str)++Vd p b)=z at h m ne
 apply h
 simp only[List.map_cons,List.map_nil,List.mem_cons,List.not_mem_nil,or_false] at m ⊢
 rcases m with m | m | m | m | m | m | m | m | m | m | m | m | m | m
 ·exact .inl m
 ·exact .inr (.inl m)
 ·exact .inr (.inr (.inl m))
 ·exact .inr (.inr (.inr (.inl m)))
 ·exact .inr (.inr (.inr (.inr (.inl m))))
 ·exact .inr (.inr (.inr (.inr (.inr (.inl m)))))
 ·exact .inr (.inr (.inr (.inr (.inr (.inr (.inl m))))))
 ·exact .inr (.inr (.inr (.inr (.inr (.inr (.inr (.inl m)))))))
 ·exact absurd m ne
 ·exact .inr (.inr (.inr (.inr (.inr (.inr (.inr (.inr (.inl m))))))))
 ·exact .inr (.inr (.inr (.inr (.inr (.inr (.inr (.inr (.inr (.inl m)))))))))
 ·exact .inr (.inr (.inr (.inr (.inr (.inr (.inr (.inr (.inr (.inr (.inl m))))))))))
 ·exact .inr (.inr (.inr (.inr (.inr (.inr (.inr (.inr (.inr (.inr (.inr (.inl m)))))))))))
 ·exact .inr (.inr (.inr (.inr (.inr (.inr (.inr (.inr (.inr (.inr (.inr (.inr m)))))))))))
theorem UJ (p n:Nat):(Vd p n).length=n:=by rw[QQ];show (List.replicate n p).length=n;exact List.length_replicate
theorem zdJ (x y:Str):(x++y).length=x.length+y.length:=by
 rw[QQ,QQ,QQ]
 show (x.cps++y.cps).toList.length=_
 simp
theorem zk1 {α:Type}(D:List α)(a:Nat)(ha:a<=D.length):(D.drop (HT.sIx D.length 0 (some (a:Int)))).take (HT.sIx D.length D.length none-HT.sIx D.length 0 (some (a:Int)))=D.drop a:=by
 rw[HT.zgB,HT.zbZ,Nat.min_eq_left ha,List.take_of_length_le (by rw[List.length_drop];omega)]
theorem zn3 {α:Type}(D:List α)(m:Nat):(D.drop (HT.sIx D.length 0 none)).take (HT.sIx D.length D.length (some (m:Int))-HT.sIx D.length 0 none)=D.take m:=by
 rw[HT.zbZ,HT.zgB,List.drop_zero,Nat.sub_zero]
 rcases Nat.le_total m D.length with h | h
 ·rw[Nat.min_eq_left h]
 ·rw[Nat.min_eq_right h,List.take_of_length_le h,List.take_of_length_le (Nat.le_refl _)]
section
variable {P:Program}{w:World}{K:PySem.W.Frag}{mg:Str->Option Value}{base:Heap}
theorem zk6 {σ:St}{G:Hp}{ta tb:TE}{x:Str}{ys:List Str}(ha:Ev K ta σ G (.str x))(hb:Ev K tb σ G (.list (ys.map PyData.str))):Ev K (tOp (rIn K false) ta tb) σ G (.bool (decide (x∈ys))):=
 JM ha hb λG1 H u v Q s1 s2 hu hv k=>by
  obtain ⟨p,xs,rfl,hp,hxs⟩:=hv.lst
  have e:=zbI hxs
  subst e
  have fl:(ys.map V.str).all zbx=true:=by
   rw[List.all_eq_true];intro v m;obtain ⟨s,_,rfl⟩:=List.mem_map.mp m;rfl
  have iv:inV (.str x) (ys.map V.str)=decide (x∈ys):=ziG x ys
  rw[hu.str]
  refine ⟨p,_,rfl,.inl (SqL.of (s2 _ _ hp)),rfl,fl,?_⟩
  rw[if_neg Bool.false_ne_true,iv]
  exact k _ G1 H (Yr.refl s2) (Yn _)
theorem zkS (T:Top K mg):Yi P w K mg base CX0 2 T.Jx T.fd__law_book ["deck"] (zoN K):=by
 have G__law_next:Yi P w K mg base CX0 1 T.Ym T.fd__law_next ["deck"] (Vc K 1 RNx):=JL T
 refine T.zaC.ok Z8 (λvs H Q E h=>?_) (λcdv A outer s H vs Q E hr h=>?_)
 ·obtain ⟨d,c,G,rfl,_⟩:=h
  rfl
 ·obtain ⟨d,c,G,rfl,sg,gd,gc,D,kk⟩:=h
  have zl:(2000:Nat)<=sizeLine:=by decide
  refine ⟨_,(Ze (ZD (i:=1) Z8.nd rfl (Or.inl rfl) ZK)
   (Ze (ZD (i:=2) Z8.nd rfl (Or.inl rfl) (Zx G__law_next hr (by rfl) T.YC T.Yu.kp T.YD .nil Z3 (Za (pv 0) Zf Zd)))
   (Ze (ZD (i:=3) Z8.nd rfl (Or.inl rfl) (Zw W6 Zg (Zw Z0 (Zw YF (pv 2) Zg) Zg)))
   (Ze (Yt (ZF X7 (Zw Z0 (Zw YF (pv 2) Zg) Zg) Zg (ZR _)) (Ze (ZD (i:=4) Z8.nd rfl (Or.inl rfl) (zjE (d:=(.list [(.str (Str.ofString "s")),(.str (Str.ofString "size")),(.str (Str.ofString "sizes")),(.str (Str.ofString "x")),(.str (Str.ofString "sizesize")),(.str (Str.ofString "si")),(.str (Str.ofString "xs")),(.str (Str.ofString "upp"))])) (by kernel_rfl)))
   (Zo (Zy (Xc (YM (K:=K) rfl) (by rfl) T.Qu zhH (Za (Uj (zbw (K:=K) rfl) (Uj (zbw (K:=K) rfl) (Zw zgq (pv 4) (pv 4)) (zbt (Zw Z0 (Zw YF (pv 2) Zg) Zg)) zb6) zb6 (zbt (pv 3))) Zf Zu))))) ZQ)
   (Ze (ZD (i:=5) Z8.nd rfl (Or.inl rfl) (Zw Z0 (Zw YF (pv 2) Zg) Zg))
   (Ze (ZD (i:=6) Z8.nd rfl (Or.inl rfl) (Zw Z0 (Zw YF (pv 2) Zg) (Zw Ja Zg (pv 5))))
   (Ze (ZD (i:=7) Z8.nd rfl (Or.inl rfl) (Xn Zf))
   (Ze (Wz PassesOwn.never rfl (Jd (by rfl) T.Q5 (Za (pv 3) Zf Zd)) (Yy (i:=8) Z8.nd rfl (Or.inl rfl)) (Ze (ZD (i:=9) Z8.nd rfl (Or.inl rfl) (ZZ zjp (pv 1) (Zw Z0 (pv 2) Zg) (λ_ _=>rfl)))
   (Ze (ZD (i:=10) Z8.nd rfl (Or.inl rfl) (Zw Vu (Zw Vu (Zw zg3 (pv 9) (pv 5)) (ZZ zjp (pv 1) (Zw Z0 (Zw W6 (Zw YF (pv 2) Zg) (Zw Y9 Zg (pv 8))) Zg) (λ_ _=>rfl))) (Zw zg3 (pv 9) (pv 6))))
   (Ze (Yt (ZF zcd (pv 10) (zjE (d:=(.list [(.str (Str.ofString "like")),(.str (Str.ofString "up")),(.str (Str.ofString "down")),(.str (Str.ofString "then")),(.str (Str.ofString "turn")),(.str (Str.ofString "pick")),(.str (Str.ofString "same")),(.str (Str.ofString "both")),(.str (Str.ofString "not")),(.str (Str.ofString "and")),(.str (Str.ofString "or")),(.str (Str.ofString "under")),(.str (Str.ofString "is"))])) (by kernel_rfl)) (by rfl)) (Zo (ZD (i:=10) Z8.nd rfl (Or.inl rfl) (Zw Vu (pv 10) ZK))) ZQ)
   (Zo (J5 (zaM PySem.F.plainAttrs_list PySem.F.slot_list_append PySem.F.type_list_append Wm (pv 7) (Za (pv 10) Zf Zd))))))))
   (Zo (Zy (Xc (YM (K:=K) rfl) (by rfl) T.Qu zhH (Za (pv 7) Zf Zd)))))))))))) ,?_⟩
  refine Yv (K:=K) Zk sg λv0 G0 H0 g0 hv0=>?_
  rw[hv0.str]
  have k0:=g0.dk D
  refine W3 (K:=K) (d:=d) (c:=c) (X8 (R:=RNx) rfl Zr ⟨.int 0,rfl,0,rfl⟩) g0.gh (k0.gd D gd) (k0.gc D gc) (D.same g0.hh) λv1 x G1 H1 hx k1 hv1=>?_
  obtain ⟨_,cell,rfl⟩:=hx
  rw[hv1.int]
  have k1:=k0.trans k1
  have b4:=m2 (cell / 26) 4 (by decide)
  refine Yv (K:=K) (zc4 Zt (Yk (W7 (Zb rfl (Zv cell)) Zt (by decide) (by decide)) Zt (by decide))) k1.gh λv3 G2 H2 g2 hv3=>?_
  rw[hv3.int]
  obtain ⟨many,hmany⟩:∃ m:Nat,1+cell / 26 % 4=m:=⟨(1+cell / 26 % 4).toNat,by omega⟩
  rw[hmany]
  have bm:1<=many/\many<=4:=by omega
  clear hmany b4
  have k2:=k1.trans (g2.dk k1.D0)
  refine Qw (ZV (K:=K) (zbl (Yk (W7 (Zb rfl (Zv cell)) Zt (by decide) (by decide)) Zt (by decide)) Zt)) g2.gh (λ_ G3 H3 g3=>?_) (λ_ G3 H3 g3=>?_)
  ·have k3:=k2.trans (g3.dk k2.D0)
   refine Yv (K:=K) (x:=.list (nms.map PyData.str)) zja g3.gh λv4 G4 H4 g4 hv4=>?_
   have k4:=k3.trans (g4.dk k3.D0)
   have b8:=m2 (cell / 208) 8 (by decide)
   obtain ⟨at_,hat⟩:∃ m:Nat,cell / 208 % 8=m:=⟨(cell / 208 % 8).toNat,by omega⟩
   have b8' : at_<8:=by omega
   have ev1:Ev K (tSl (znk K) (tSl (znk K) (tOp zot (Xq 4) (Xq 4)) (zkr (tOp (rI (λ_ j=>0<j) λi j=>.int (i % j)) (tOp (rI Uw λi j=>.int (i / j)) (Xq 2) (tC (.int 208))) (tC (.int 8)))) zdO) zdO (zkr (Xq 3))) [some (V.ref d),some (V.str (Str.ofString "abcdefghijklmnopqrstuvwxyz")),some (V.int cell),some (V.int many),some v4,none,none,none,none,none,none] G4 (.list ((((nms++nms).drop at_).take many).map PyData.str)):=by
    refine Qv (zjn (lo:=none) (hi:=some (many:Int)) (zjn (lo:=some (at_:Int)) (hi:=none) (zgX (Zb rfl hv4) (Zb rfl hv4) (by show 16<=sizeLine;decide)) (λH Q q=>⟨_,rfl,_,_,rfl,rfl,⟨by decide,w0 (by decide)⟩,_,_,rfl,rfl,(by show (0:Int)<8;decide),_,rfl,by rw[hat];exact q⟩) (λH Q q=>q)) (λH Q q=>q) (λH Q q=>⟨_,rfl,_,rfl,q⟩)) ?_
    rw[← List.map_append,zk1 _ at_ (by show at_<=16;omega),zn3,List.map_take,List.map_drop]
   refine Ev.use ev1 g4.gh λv5 G5 H5 g5 hv5=>?_
   obtain ⟨p,ys,rfl,hp,hys⟩:=hv5.lst
   have ey:=zbI hys
   subst ey
   refine ⟨p,_,rfl,.inl ⟨SqL.of (g5.gh _ _ hp),λt ht=>?_⟩⟩
   have g6:=Z5 (o:=.tup ((((nms++nms).drop at_).take many).map V.str)) g5.gh ht
   refine kk _ t _ _ ?_ ?_ ?_ ((k4.trans ((g5.trans g6).dk k4.D0)).up (by decide)) Zh
   ·rw[List.length_take,List.length_drop]
    show 1<=min many (16-at_)
    omega
   ·rw[List.length_take];omega
   ·intro z hz
    have:=List.mem_of_mem_drop (List.mem_of_mem_take hz)
    rcases List.mem_append.mp this with h | h <;> exact zlT z h
  ·have k3:=k2.trans (g3.dk k2.D0)
   have b8:=m2 (cell / 208) 8 (by decide)
   obtain ⟨place,hpl⟩:∃ m:Nat,cell / 208 % 8=m:=⟨(cell / 208 % 8).toNat,by omega⟩
   have bp:place<8:=by omega
   refine Yv (K:=K) (x:=.int (place:Nat)) (Qv (Yk (W7 (Zb rfl (Zv cell)) Zt (by decide) (by decide)) Zt (by decide)) (by rw[hpl])) g3.gh λv5 G4 H4 g4 hv5=>?_
   rw[hv5.int]
   have k4:=k3.trans (g4.dk k3.D0)
   have b9:=m2 (cell / 1664) (8-place) (by omega)
   obtain ⟨tail,htl⟩:∃ m:Nat,cell / 1664 % (8-(place:Int))=m:=⟨(cell / 1664 % (8-(place:Int))).toNat,by omega⟩
   have bt:tail<9:=by omega
   refine Yv (K:=K) (x:=.int (tail:Nat)) (Qv (Yk (W7 (Zb rfl (Zv cell)) Zt (by decide) (by decide)) (JX Zt (Zb rfl (Zv (place:Nat)))) (by omega)) (by rw[htl])) g4.gh λv6 G5 H5 g5 hv6=>?_
   rw[hv6.int]
   have k5:=k4.trans (g5.dk k4.D0)
   clear htl b9 hpl b8
   refine ⟨(by show 0<=sizeLine;decide),λl hl=>?_⟩
   obtain ⟨nd,nc⟩:=Dk.ned k5.D0 hl
   have gl:G5 l=none:=g5.gh.free hl
   have k6:Dk 0 d c G5 H5 G5 (upd H5 l (.lst [])):=(Dk.refl g5.gh k5.D0).wr hl gl nd nc _
   refine ⟨_,rfl,(many:Int),rfl,by omega,by omega,JZ (n:=many) (λi σ H' => ∃ (v8 v9 v10:Option V) (xs:List Str),σ=[some (V.ref d),some (V.str (Str.ofString "abcdefghijklmnopqrstuvwxyz")),some (V.int cell),some (V.int many),none,some (V.int place),some (V.int tail),some (V.ref l),v8,v9,v10]/\Dk 0 d c G5 H5 G5 H' /\ H' l=some (.lst (xs.map V.str))/\xs.length=i/\∀ z∈xs,Yc z=none) ⟨_,_,_,[],rfl,k6,Zh,rfl,λz hz=>by cases hz⟩ ?_ ?_⟩
   ·rintro i σ H' hi ⟨v8,v9,v10,xs,rfl,k7,hk,hxl,hws⟩
    have b26:=m2 cell 26 (by decide)
    have cp:=zjF b26.1 b26.2
    refine Yv (K:=K) (zjX (Zb rfl (Z7 letters)) (Yk (Zb rfl (Zv cell)) Zt (by decide)) (by rw[zfY];omega) cp) k7.gh λv9' G6 H6 g6 hv9=>?_
    rw[hv9.str]
    generalize 97+(cell % 26).toNat=p
    have b27:=m2 (cell / 13312+5*(0+(i:Int))) 26 (by decide)
    have cq:=zjF b27.1 b27.2
    generalize hq:97+((cell / 13312+5*(0+(i:Int))) % 26).toNat=q at cq
    have e1:(⟨#[q]⟩:Str).length=1:=rfl
    refine Yv (K:=K) (x:=.str (Vd p place++(⟨#[q]⟩:Str)++Vd p tail)) (zdz (zdz (zgn (n:=(place:Int)) (Zb rfl (Z7 _)) (Zb rfl (Zv _)) (by omega) (by omega)) (zjX (Zb rfl (Z7 letters)) (Yk (zc4 (W7 (Zb rfl (Zv cell)) Zt (by decide) (by decide)) (QV Zt (Zb rfl (Zv _)) (by decide) (by omega))) Zt (by decide)) (by rw[zfY];omega) cq) (by have:=UJ p place;show (Vd p place).length+1<=sizeLine;omega)) (zgn (n:=(tail:Int)) (Zb rfl (Z7 _)) (Zb rfl (Zv _)) (by omega) (by omega)) (by
     have h1:=UJ p place
     have h2:=UJ p tail
     have h3:=zdJ (Vd p place) (⟨#[q]⟩:Str)
     show (Vd p place++(⟨#[q]⟩:Str)).length+(Vd p tail).length<=sizeLine
     omega)) g6.gh λv10' G7 H7 g7 hv10=>?_
    have e10:=hv10.str
    subst e10
    have g67:=g6.trans g7
    have hnl:(Vd p place++(⟨#[q]⟩:Str)++Vd p tail).length<=20:=by
     have h1:=UJ p place
     have h2:=UJ p tail
     have h3:=zdJ (Vd p place) (⟨#[q]⟩:Str)
     have h4:=zdJ (Vd p place++(⟨#[q]⟩:Str)) (Vd p tail)
     omega
    refine Qw (ZV (K:=K) (zk6 (ys:=zl4) (Zb rfl (Z7 _)) zja)) g7.gh (λ_ G8 H8 g8=>?_) (λhni G8 H8 g8=>?_)
    ·refine Jb (K:=K) (zdz (Zb rfl (Z7 _)) (Zk (x:=S "x")) (by have:(S "x").length=1:=(by decide +kernel);omega)) g8.gh λv11 G9 H9 g9 hv11=>?_
     rw[hv11.str]
     have g69:=(g67.trans g8).trans g9
     have hkN:=g69.hh _ _ hk
     refine ⟨_,rfl,.inl ⟨rfl,_,SqL.of hkN⟩,_,rfl,l,_,_,rfl,rfl,hkN,(by rw[List.length_map];omega),?_⟩
     refine ⟨_,_,_,xs++[(Vd p place++(⟨#[q]⟩:Str)++Vd p tail)++S "x"],rfl,((k7.trans (g69.dk k7.D0)).wr hl (g69.out hk gl) nd nc _).back,by rw[Zh,List.map_append];rfl,by rw[List.length_append,hxl];rfl,λz hz=>?_⟩
     rcases List.mem_append.mp hz with hz | hz
     ·exact hws z hz
     ·rw[List.mem_singleton.mp hz];exact zpd _
    ·have g69:=g67.trans g8
     have hkN:=g69.hh _ _ hk
     refine ⟨_,rfl,.inl ⟨rfl,_,SqL.of hkN⟩,_,rfl,l,_,_,rfl,rfl,hkN,(by rw[List.length_map];omega),?_⟩
     refine ⟨_,_,_,xs++[Vd p place++(⟨#[q]⟩:Str)++Vd p tail],rfl,((k7.trans (g69.dk k7.D0)).wr hl (g69.out hk gl) nd nc _).back,by rw[Zh,List.map_append];rfl,by rw[List.length_append,hxl];rfl,λz hz=>?_⟩
     rcases List.mem_append.mp hz with hz | hz
     ·exact hws z hz
     ·rw[List.mem_singleton.mp hz];exact zlc p q place tail (of_decide_eq_false hni)
   ·rintro σ H' ⟨v8,v9,v10,xs,rfl,k7,hk,hxl,hws⟩
    refine ⟨_,rfl,l,_,rfl,.inl ⟨SqL.of hk,λt ht=>?_⟩⟩
    have g8:=Z5 (o:=.tup (xs.map V.str)) k7.gh ht
    exact kk xs t _ _ (by omega) (by omega) hws (((k5.trans k7).trans (g8.dk k7.D0)).up (by decide)) Zh
end
end K32
namespace L2
open PySem PySem.Spec PyProof.Rows
def zgA (h:Heap)(d:Addr)(es:Array DictEntry)(ep:Nat):Prop:=∃ o,h.get? d=some o/\o.ExactDict/\o.data = .dict es ep
theorem zgA.keep {h h' : Heap}{d:Addr}{es:Array DictEntry}{ep:Nat}(x:zgA h d es ep)(k:∀ o,h.get? d=some o->h'.get? d=some o):zgA h' d es ep:=let ⟨o,e,r⟩:=x;⟨o,k o e,r⟩
section
variable {prog:Program}{w:World}{A:Around}{E:Value->Shared->Prop}{s:Shared}
theorem zgA.ty {d:Addr}{es:Array DictEntry}{ep:Nat}(x:zgA s.heap d es ep):s.TypeIs (.ref d) "dict" := let ⟨o,e,c,_⟩:=x;⟨o,e,c.1⟩
abbrev kIt (d:Addr)(n ep:Nat):Obj:={ cls:=.type "dict_keyiterator",data:=.fields #[.ref d,.int 0 0,.int n 0,.int ep 0] }
theorem zlk {d:Addr}{es:Array DictEntry}{ep:Nat}{Q:Value->Shared->Prop}(hd:(d==sysModules)=false)(x:zgA s.heap d es ep)(q:Q (.ref s.heap.objs.size) { s with heap:=s.heap.push (kIt d es.size ep) }):wpAny (model prog w) A (pyIter (.ref d)) Q E s:=by
 have hT:=x.ty
 obtain ⟨o,e,_,hdat⟩:=x
 refine wpAny_pyIter_slot hT F.slot_dict_iter (wpAny_call_entry F.slot_dict_iter hT F.entry_dict_iter ?_ (F.args_dict_iter_1 _))
 unfold Builtin.«dict.__iter__»;refine wpAny_bind ?_;unfold Builtin.Dict.dictSlotNone
 refine wpAny_bind (wpAny_notOrdered_dict hT (wpAny_pure (a:=Value.ref d) ?_))
 refine wpAny_bind (m:=Builtin.Dict.showsAll d) ?_
 unfold Builtin.Dict.showsAll;rw[if_neg (by rw[hd];exact Bool.false_ne_true)]
 exact wpAny_pure (wpAny_bind (wpAny_dictEntries e hdat (wpAny_bind (wpAny_dictEpoch e hdat (wpAny_bind (wpAny_newObj_type (wpAny_pure ⟨_,rfl, "dict_keyiterator",_,⟨_,Heap.get?_push_size _ rfl,rfl⟩,F.slot_dict_keyiterator_next.lookup,q⟩)))))))
theorem zlm {it d:Addr}{i ep:Nat}{es:Array DictEntry}{en:DictEntry}{Q:Option Value->Shared->Prop}(hit:s.heap.IsKeyIter it d i es.size ep)(x:zgA s.heap d es ep)(hx:es[i]?=some en)
  (q:∀ h',h'.IsKeyIter it d (i+1) es.size ep->Heap.SameBut it s.heap h' -> Q (some en.key) { s with heap:=h' }):wpAny (model prog w) A (pyNext (.ref it)) Q E s:=by
 obtain ⟨o,ho,hc,hd⟩:=id hit
 obtain ⟨od,hod,_,hdd⟩:=x
 have ty:=hit.typeIs
 unfold pyNext
 refine wpAny_bind (wpAny_attempt (wpAny_callSpecial?_slot (name:=Str.ofString "__next__") ty F.slot_dict_keyiterator_next (wpAny_call_entry F.slot_dict_keyiterator_next ty F.entry_dict_keyiterator_next (wpAny_bind (wpAny_pure (wpAny_bind (wpAny_bind ?_)))) (F.args_dict_keyiterator_next_1 _))))
 first | refine wpAny_bind (wpAny_typeNameOfWhole_keyiter ty (wpAny_pure (wpAny_bind (wpAny_fieldsOf ho hd ?_)))) | refine wpAny_bind (wpAny_typeNameOf_keyiter ty (wpAny_pure (wpAny_bind (wpAny_fieldsOf ho hd ?_))))
 have own:Builtin.Dict_items.ownsTuple "dict_keyiterator" = false:=by decide
 simp only[own,if_false,Bool.false_eq_true]
 show wpAny _ _ (if (Value.ref d==Value.none)=true then _ else _) _ _ s
 rw[if_neg (λz:(Value.ref d==Value.none)=true=>Bool.false_ne_true z)]
 refine wpAny_bind (wpAny_pure (wpAny_bind (wpAny_dictEntries hod hdd ?_)));rw[if_neg (by simp)]
 refine wpAny_bind (wpAny_pure (wpAny_bind (wpAny_dictEpoch hod hdd ?_)));rw[if_neg (by simp)];refine wpAny_pure ?_
 have lt:i<es.size:=by
  rcases Nat.lt_or_ge i es.size with h | h
  ·exact h
  ·rw[Array.getElem?_eq_none h] at hx;cases hx
 have ee:es[i]=en:=by rw[Array.getElem?_eq_getElem lt] at hx;exact Option.some.inj hx
 simp only[show ¬ ((i:Int)<0) by omega,if_false,Int.toNat_natCast,Array.getElem?_eq_getElem lt];refine wpAny_bind ?_
 first | refine wpAny_bind (wpAny_typeNameOfWhole_keyiter ty (wpAny_pure (wpAny_bind (wpAny_isOneOf_keyiter ty ?_)))) | refine wpAny_bind (wpAny_typeNameOf_keyiter ty (wpAny_pure (wpAny_bind (wpAny_isOneOf_keyiter ty ?_))))
 refine wpAny_bind (m:=setField (.ref it) 1 (rawInt ((i:Int)+1))) (wpAny_setField ho hd (by simp) ?_)
 have hit' : (s.heap.update it (Obj.mapFields (·.setIfInBounds 1 (rawInt ((i:Int)+1))))).IsKeyIter it d (i+1) es.size ep:=⟨_,Heap.get?_update_self _ ho (Obj.isFreed_of_fields (Obj.data_mapFields hd _)),(Obj.cls_mapFields ..).trans hc,by rw[Obj.data_mapFields hd];simp[rawInt]⟩
 refine wpAny_bind (wpAny_holding (wpAny_bind (wpAny_isOneOf_keyiter (s:={ s with heap:=s.heap.update it (Obj.mapFields (·.setIfInBounds 1 (rawInt ((i:Int)+1)))) }) hit'.typeIs ?_)))
 show wpAny _ _ (pure es[i].key) _ _ _
 rw[ee]
 exact wpAny_pure (wpAny_pure ⟨_,rfl,wpAny_pure (q _ hit' (Heap.SameBut.update ..))⟩)
theorem zmH {it d:Addr}{i ep:Nat}{es:Array DictEntry}{Q:Option Value->Shared->Prop}(hh:A.handled=none)(hit:s.heap.IsKeyIter it d i es.size ep)(x:zgA s.heap d es ep)(hx:es.size<=i)
  (q:∀ h',Heap.ExtBut it s.heap h' -> Q none { s with heap:=h' }):wpAny (model prog w) A (pyNext (.ref it)) Q E s:=by
 obtain ⟨o,ho,hc,hd⟩:=id hit
 obtain ⟨od,hod,_,hdd⟩:=x
 have ty:=hit.typeIs
 unfold pyNext
 refine wpAny_bind (wpAny_attempt (wpAny_callSpecial?_slot (name:=Str.ofString "__next__") ty F.slot_dict_keyiterator_next (wpAny_call_entry F.slot_dict_keyiterator_next ty F.entry_dict_keyiterator_next (wpAny_bind (wpAny_pure (wpAny_bind (wpAny_bind ?_)))) (F.args_dict_keyiterator_next_1 _))))
 first | refine wpAny_bind (wpAny_typeNameOfWhole_keyiter ty (wpAny_pure (wpAny_bind (wpAny_fieldsOf ho hd ?_)))) | refine wpAny_bind (wpAny_typeNameOf_keyiter ty (wpAny_pure (wpAny_bind (wpAny_fieldsOf ho hd ?_))))
 have own:Builtin.Dict_items.ownsTuple "dict_keyiterator" = false:=by decide
 simp only[own,if_false,Bool.false_eq_true]
 show wpAny _ _ (if (Value.ref d==Value.none)=true then _ else _) _ _ s
 rw[if_neg (λz:(Value.ref d==Value.none)=true=>Bool.false_ne_true z)]
 refine wpAny_bind (wpAny_pure (wpAny_bind (wpAny_dictEntries hod hdd ?_)));rw[if_neg (by simp)]
 refine wpAny_bind (wpAny_pure (wpAny_bind (wpAny_dictEpoch hod hdd ?_)));rw[if_neg (by simp)];refine wpAny_pure ?_
 simp only[show ¬ ((i:Int)<0) by omega,if_false,Int.toNat_natCast,Array.getElem?_eq_none hx];refine wpAny_bind ?_
 first | refine wpAny_bind (wpAny_typeNameOfWhole_keyiter ty (wpAny_pure ?_)) | refine wpAny_bind (wpAny_typeNameOf_keyiter ty (wpAny_pure ?_))
 refine wpAny_bind (m:=setField (.ref it) 0 .none) (wpAny_setField ho hd (by simp) (wpAny_bind (m:=newExc (.type "StopIteration") []) ?_))
 simp only[newTuple,newExc];refine wpAny_bind (wpAny_newObj_type (wpAny_bind (m:=firstArgMember _ _) (wpAny_of_eq (a:=Value.none) (by first | rfl | (simp only[firstArgMember];rfl)) (wpAny_newObj_type ?_ (by size_fits)))) (by size_fits))
 simp only[raiseNew];refine wpAny_bind (wpAny_handled ?_);rw[show A.in1.handled=none from hh]
 refine wpAny_bind (wpAny_pure (wpAny_throw ?_))
 exact wpAny_bind (wpAny_isInstance (T:= "StopIteration") (b:=true) ⟨_,Heap.get?_push_size _ rfl,rfl⟩ isSubtype_stop (wpAny_pure (q _ (((Heap.SameBut.update ..).extBut.push _).push _))))
theorem zki (hh:A.handled=none)(I d:Addr)(hne:d≠I)(es:Array DictEntry)(ep:Nat):Walks prog w A I [I,d] [I] es.size (λi v=>∃ en,es[i]?=some en/\v=en.key) (λi h=>h.IsKeyIter I d i es.size ep/\zgA h d es ep) where
 sub:=λb hb=>by simp at hb;simp[hb]
 frame:=λ_ _ _ st hk=>⟨st.1.at λo e=>hk I (by simp) o e,st.2.keep λo e=>hk d (by simp) o e⟩
 item:=λi s Q E hi st hQ=>zlm st.1 st.2 (Array.getElem?_eq_getElem hi) λh' hit' hs' => hQ _ h' s.toks ⟨_,Array.getElem?_eq_getElem hi,rfl⟩ ⟨hit',st.2.keep λo e=>hs'.extBut d o hne e⟩ λb o hb e=>hs'.extBut b o (λh=>hb (by simp[h])) e
 done:=λs Q E st hQ=>zmH hh st.1 st.2 (Nat.le_refl _) λh' he' => hQ h' s.toks λb o hb e=>he' b o (λh=>hb (by simp[h])) e
 self:=λ_ _ _ _ st hQ=>wpAny_pyIter_keyiter st.1 hQ
theorem zbL:typeLookup (.type "dict") "__len__" = pure (some (.builtin "dict.__len__")):=by rw[typeLookup_type,builtinLookup_eq_fast];kernel_rfl
theorem zdq {R:Result->Shared->Prop}(hh:A.handled=none)(S d:Addr)(res:Value)(c0:Nat){es:Array DictEntry}{ep:Nat}(hd:(d==sysModules)=false)(x:zgA s.heap d es ep)(hSd:S≠d)
  (hS:s.heap.get? S=some { cls:=.type "list",data:=.seq #[] c0 }) (hn:es.size<=sizeLine)
  (hR:∀ s' acc' c',Moved [S,s.heap.objs.size] (λa b=>b=a) { s with heap:=s.heap.push (kIt d es.size ep) } s' -> s'.heap.get? S=some { cls:=.type "list",dict:=none,data:=.seq acc' c',slots:=#[] }->ItemsOf (λi v=>∃ en,es[i]?=some en/\v=en.key) acc' es.size->R (.ok (.ret res)) s'):
  wpAny (model prog w) A.in1 (Builtin.List.listExtendWith (.ref S) (.ref d) res)
   (λfin s' => match fin with | .done f=>R (.ok f) s' | .again c' => c'.quiet=true/\codeAny (model prog w) A c' R s') (λe s' => R (.error e) s') s:=by
 have hT:=x.ty
 have ltS:=Heap.lt_size hS
 have ltd:d<s.heap.objs.size:=by obtain ⟨o,e,_⟩:=id x;exact Heap.lt_size e
 unfold Builtin.List.listExtendWith
 refine wpAny_bind (wpAny_typeOf hT ?_)
 have z1:Builtin.List.listSameRef (.ref S) (.ref d)=false:=by simp[Builtin.List.listSameRef,hSd]
 rw[if_neg (by rw[z1];decide)]
 refine wpAny_bind (zlk hd x (wpAny_bind (wpAny_holding ?_)))
 have hT1:Shared.TypeIs { s with heap:=s.heap.push (kIt d es.size ep) } (.ref d) "dict" := by
  obtain ⟨o,e,c,_⟩:=id x
  exact ⟨o,Heap.get?_push_of_some _ e,c.1⟩
 unfold Builtin.List.listLengthHint
 refine wpAny_bind (wpAny_specialOf hT1 zbL ?_)
 generalize hid:("dict.__len__" : String)=id0
 wp_delta
 rw[show splitId id0=some ("dict", "__len__") from by subst hid;decide +kernel]
 subst hid
 refine wpAny_bind (wpAny_isInstance (b:=true) hT1 (by rw[isSubtype_type];kernel_rfl) ?_)
 rw[if_neg (show ¬ ((!true)=true) by decide)]
 dsimp only
 rw[if_pos (by decide +kernel)]
 refine wpAny_bind (wpAny_typeOf hT1 (wpAny_pure ?_))
 rw[if_pos (by decide +kernel)]
 refine wpAny_bind (wpAny_rule (wpAny_bind ?_))
 have hSp:(s.heap.push (kIt d es.size ep)).get? S=some { cls:=.type "list",data:=.seq #[] c0 }:=Heap.get?_push_of_some _ hS
 show wpAny _ A.in1 (updateSeq S (·.push .none) >>= λ_=>updateSeq S (·.pop)) _ _ _
 refine wpAny_bind (wpAny_updateSeq (s:={ s with heap:=s.heap.push (kIt d es.size ep) }) hSp rfl ?_)
 have q2:=Heap.get?_update_self (Obj.mapSeq (·.push Value.none)) hSp rfl
 refine wpAny_updateSeq (hz:=by seq_fits) q2 rfl ?_
 have q3:=Heap.get?_update_self (Obj.mapSeq (·.pop)) q2 rfl
 have oth:∀ b o,b≠S->(s.heap.push (kIt d es.size ep)).get? b=some o->(((s.heap.push (kIt d es.size ep)).update S (Obj.mapSeq (·.push Value.none))).update S (Obj.mapSeq (·.pop))).get? b=some o:=
  λb o hb e=>(Heap.get?_update_other _ _ (Ne.symm hb)).trans ((Heap.get?_update_other _ _ (Ne.symm hb)).trans e)
 have ndI:d≠s.heap.objs.size:=Nat.ne_of_lt ltd
 have nSI:S≠s.heap.objs.size:=Nat.ne_of_lt ltS
 have W:=(zki (prog:=prog) (w:=w) (A:=A.in1) (show A.in1.handled=none from hh) s.heap.objs.size d ndI es ep).toS
 have hSf:S∉[s.heap.objs.size,d]:=λhm=>by
  rcases List.mem_cons.mp hm with z | z
  ·exact nSI z
  ·exact hSd (List.mem_singleton.mp z)
 refine wpAny_pure ⟨plainId_quiet F.plain_extend_loop _,codeAny_extend_loopS W hn S hSf _ es.size 0 _ _ _ rfl (Nat.zero_le _) ⟨?_,?_⟩ q3 (ItemsOf.nil _) λs' acc' c' hm hS' hacc=>?_⟩
 ·exact ⟨_,oth _ _ (Ne.symm nSI) (Heap.get?_push_size _ rfl),rfl,rfl⟩
 ·exact x.keep λo e=>oth d o (Ne.symm hSd) (Heap.get?_push_of_some _ e)
 ·exact hR s' acc' c' ⟨λb o hb e=>hm.heap b o hb (oth b o (λh=>hb (by simp[h])) e),hm.gens,hm.drawn,hm.os,hm.toks⟩ hS' hacc
theorem zaN {Q:Value->Shared->Prop}(hh:A.handled=none){d:Addr}{es:Array DictEntry}{ep:Nat}(hd:(d==sysModules)=false)(x:zgA s.heap d es ep)(hn:es.size<=sizeLine)
  (q:∀ s' acc' c',(∀ b o,s.heap.get? b=some o->s'.heap.get? b=some o)->s'={ s with heap:=s'.heap,toks:=s'.toks }->s'.heap.get? s.heap.objs.size=some { cls:=.type "list",dict:=none,data:=.seq acc' c',slots:=#[] }->ItemsOf (λi v=>∃ en,es[i]?=some en/\v=en.key) acc' es.size->Q (.ref s.heap.objs.size) s'):
  wpAny (model prog w) A (call (.type "list") [.ref d]) Q E s:=by
 have ltd:d<s.heap.objs.size:=by obtain ⟨o,e,_⟩:=id x;exact Heap.lt_size e
 refine callType_codes (Q₁:=λobj s₁=>obj = .ref s.heap.objs.size/\s₁={ s with heap:=s.heap.push { cls:=.type "list",data:=.seq #[] } }) F.called_list (F.typeCall_list_1 _) F.entry_list_init (code_list_new _ ⟨rfl,rfl⟩) λobj s1 h1=>?_
 obtain ⟨rfl,rfl⟩:=h1
 have hS:(s.heap.push { cls:=.type "list",data:=.seq #[] }).get? s.heap.objs.size=some { cls:=.type "list",data:=.seq #[] }:=Heap.get?_push_size _ rfl
 refine ⟨⟨_,hS,rfl⟩,F.args_list_init_2 _ _,?_⟩
 refine wpAny_bind (m:=Builtin.List.listItems (.ref s.heap.objs.size)) ?_
 unfold Builtin.List.listItems
 refine wpAny_bind (wpAny_seqItems hS rfl (wpAny_pure ?_))
 refine wpAny_bind (m:=updateSeq s.heap.objs.size (λ_=>#[])) (wpAny_updateSeq hS rfl ?_)
 have hS2:=Heap.get?_update_self (Obj.mapSeq (λ_=>(#[]:Array Value))) hS rfl
 have oth:∀ b o,b≠s.heap.objs.size->(s.heap.push { cls:=.type "list",data:=.seq #[] }).get? b=some o->((s.heap.push { cls:=.type "list",data:=.seq #[] }).update s.heap.objs.size (Obj.mapSeq (λ_=>(#[]:Array Value)))).get? b=some o:=λb o hb e=>(Heap.get?_update_other _ _ (Ne.symm hb)).trans e
 have old:∀ b o,s.heap.get? b=some o->((s.heap.push { cls:=.type "list",data:=.seq #[] }).update s.heap.objs.size (Obj.mapSeq (λ_=>(#[]:Array Value)))).get? b=some o:=λb o e=>oth b o (Nat.ne_of_lt (Heap.lt_size e)) (Heap.get?_push_of_some _ e)
 refine wpAny_bind (wpAny_letGo ?_)
 refine zdq (A:=A.in1) (prog:=prog) (w:=w) (s:={ s with heap:=(s.heap.push { cls:=.type "list",data:=.seq #[] }).update s.heap.objs.size (Obj.mapSeq (λ_=>(#[]:Array Value))) }) (show A.in1.handled=none from hh) s.heap.objs.size d .none _ hd (x.keep λo e=>old d o e) (Nat.ne_of_gt ltd) hS2 hn λs' acc' c' hm hS' hacc=>?_
 refine ⟨rfl,q s' acc' c' (λb o e=>?_) ?_ hS' hacc⟩
 ·have hb:=Heap.lt_size e
  refine hm.heap b o (λhmem=>?_) (Heap.get?_push_of_some _ (old b o e))
  have hsz:((s.heap.push { cls:=.type "list",data:=.seq #[] }).update s.heap.objs.size (Obj.mapSeq (λ_=>(#[]:Array Value)))).objs.size=s.heap.objs.size+1:=by rw[Heap.size_update,Heap.size_push]
  rcases List.mem_cons.mp hmem with z | z
  ·exact zfT hb z
  ·have z' := List.mem_singleton.mp z
   rw[show (Shared.heap { s with heap:=(s.heap.push { cls:=.type "list",data:=.seq #[] }).update s.heap.objs.size (Obj.mapSeq (λ_=>(#[]:Array Value))) }).objs.size=s.heap.objs.size+1 from hsz] at z'
   exact zfT (Nat.lt_succ_of_lt hb) z'
 ·obtain ⟨h1,h2,h3,h4,h5⟩:=s'
  have e1:h2=s.gens:=hm.gens
  have e2:h3=s.drawn:=hm.drawn
  have e3:h5=s.os:=hm.os
  subst e1 e2 e3
  rfl
end
end L2
namespace L2
open PySem PySem.Spec PyProof.Rows
section
variable {prog:Program}{w:World}{K:Type}[DecidableEq K](knd:KeyKind prog w K)
def It2 (h:Heap):List (List K)->List Value->Prop:=Paired λk v=>∃ b,v = .ref b/\IsTupleKey knd h k b
def Xv (h:Heap)(ks:List (List K))(a:Addr):Prop:=∃ o items n,h.get? a=some o/\o.cls = .type "tuple" /\ o.data = .seq items n/\It2 knd h ks items.toList
variable {knd}
theorem It2.inj {h:Heap}:∀ {x y:List (List K)}{vs:List Value},It2 knd h x vs->It2 knd h y vs->x=y
 | _,_,_,.nil,.nil=>rfl
 | _,_,_,.cons ⟨b,e,i⟩ r,.cons ⟨b',e',i'⟩ r' => by
  have z:Value.ref b=Value.ref b' := e.symm.trans e'
  cases z
  rw[i.inj i',It2.inj r r']
theorem Xv.ty {s:Shared}{ks:List (List K)}{a:Addr}(x:Xv knd s.heap ks a):s.TypeIs (.ref a) "tuple" := let ⟨o,_,_,ho,hc,_⟩:=x;⟨o,ho,hc⟩
theorem Xv.inj {h:Heap}{a:Addr}{x y:List (List K)}(hx:Xv knd h x a)(hy:Xv knd h y a):x=y:=by
 obtain ⟨o,its,n,ho,_,hd,hi⟩:=hx
 obtain ⟨o',its',n',ho',_,hd',hi'⟩:=hy
 rw[ho] at ho'
 cases ho'
 rw[hd] at hd'
 cases hd'
 exact hi.inj hi'
theorem It2.map {h h' : Heap}(f:∀ k b,IsTupleKey knd h k b->IsTupleKey knd h' k b):∀ {ks:List (List K)}{vs:List Value},It2 knd h ks vs->It2 knd h' ks vs
 | _,_,.nil=>.nil
 | _,_,.cons ⟨b,e,i⟩ r=>.cons ⟨b,e,f _ _ i⟩ (It2.map f r)
theorem Xv.keeps {h h' : Heap}{ks:List (List K)}{a d:Addr}{o:Obj}{es ep}(x:Xv knd h ks a)(ho:h.get? d=some o)(hd:o.data = .dict es ep)(hs:Heap.SameBut d h h'):Xv knd h' ks a:=by
 obtain ⟨o',its,n,ho',hc,hd',hi⟩:=x
 have ne:a≠d:=by
  rintro rfl
  rw[ho] at ho';cases ho'
  rw[hd] at hd';cases hd'
 exact ⟨o',its,n,(hs.2 a ne).trans ho',hc,hd',hi.map λk b i=>i.keeps ho hd hs⟩
def zkm (knd:KeyKind prog w K)(ks:List (List K)):Int:=reduceHash (Builtin.Tuple.tupleHashOf (ks.map (tupleKeyHash knd)))
def QW (ks:List (List K)):Nat:=(ks.map λk=>k.length+1).sum
variable {A:Around}{E:Value->Shared->Prop}{s:Shared}
theorem zha {ks:List (List K)}{a:Addr}{Q:Int->Shared->Prop}(hu:A.units+1<cLine)(hk:Xv knd s.heap ks a)(h:Q (zkm knd ks) { s with toks:=s.toks+(QW ks+1) }):wpAny (model prog w) A (pyHash (.ref a)) Q E s:=by
 have hT:=hk.ty
 obtain ⟨o,items,n,ho,_,hd,hi⟩:=hk
 unfold pyHash
 first | unfold pyHashByItsType | skip
 first | refine wpAny_bind (wpAny_cRoomFor_or (.inr (by omega)) ?_) | skip
 refine wpAny_bind (wpAny_specialOf hT F.slot_tuple_hash.lookup ?_)
 rw[if_neg (by rw[beq_builtin_none];exact Bool.false_ne_true)]
 refine wpAny_bind (wpAny_specialOf hT F.slot_tuple_hash.lookup ?_)
 refine wpAny_bind (m:=callSpecialIfBoundUnlessNone? (.ref a) "__hash__" _) (wpAny_callSpecialIfBoundUnlessNone?_slot hT F.slot_tuple_hash (wpAny_call_entry F.slot_tuple_hash hT F.entry_tuple_hash (wpAny_bind (m:=Builtin.Tuple.tupleItemsOf (.ref a)) (wpAny_tupleItemsOf ho hd (wpAny_bind ?_))) (F.args_tuple_hash_1 _)))
 rw[← Array.forIn_toList]
 refine wpAny_forIn_list _ (λrest (b:Array Int) s' => ∃ done left,ks=done++left/\It2 knd s.heap left rest/\b.toList=done.map (tupleKeyHash knd)/\s'={ s with toks:=s.toks+QW done }) _ ?_ ?_ _ _ ⟨[],ks,rfl,hi,rfl,rfl⟩
 ·rintro x rest b s' ⟨done,left,rfl,hl,hb,rfl⟩
  cases hl with
  | @cons k _ ks' _ h1 hl' =>
   obtain ⟨c,rfl,hc⟩:=h1
   have hdr:QW (done++[k])=QW done+(k.length+1):=by simp[QW]
   refine wpAny_bind (wpAny_pyHash_tuple (s:={ s with toks:=s.toks+QW done }) (by show A.units+1<cLine;exact hu) hc ?_)
   have fin:({ s with toks:=s.toks+QW done+(k.length+1) }:Shared)={ s with toks:=s.toks+QW (done++[k]) }:=by rw[hdr,Nat.add_assoc]
   first
    | exact wpAny_pure ⟨done++[k],ks',by simp,hl',by simp[hb],fin⟩
    | exact wpAny_bind (wpAny_pure (wpAny_pure ⟨done++[k],ks',by simp,hl',by simp[hb],fin⟩))
 ·rintro b s' ⟨done,left,rfl,hl,hb,rfl⟩
  cases hl
  rw[List.append_nil] at h
  show wpAny _ _ (retInt (Builtin.Tuple.tupleHashOf b.toList)) _ _ _
  rw[hb]
  refine wpAny_ret_mkInt ?_
  unfold zkm at h
  generalize Builtin.Tuple.tupleHashOf (done.map (tupleKeyHash knd))=x at h
  show wpAny _ _ (if (decide (-(2:Int) ^ 63<=x)&&decide (x<2 ^ 63))=true then _ else _) Q E _
  unfold reduceHash at h
  by_cases hr:(decide (-(2:Int) ^ 63<=x)&&decide (x<2 ^ 63))=true
  ·rw[if_pos hr];rw[if_pos hr] at h;exact wpAny_pure (by simpa [Nat.add_assoc] using h)
  ·rw[if_neg hr];rw[if_neg hr] at h;exact wpAny_bind (wpAny_rule (wpAny_pure (by simpa [Nat.add_assoc] using h)))
theorem ziT {x y:List (List K)}{a b:Addr}{P:Fin->Shared->Prop}(hu:A.units<cLine)(hx:Xv knd s.heap x a)(hy:Xv knd s.heap y b)(h:P (.done (.ret (.bool (decide (x=y))))) s):wpAny (model prog w) A (Builtin.«tuple.__eq__» ⟨[.ref a,.ref b],[]⟩) P E s:=by
 have hTb:=hy.ty
 obtain ⟨oa,xs,na,hoa,_,hda,hia⟩:=hx
 obtain ⟨ob,ys,nb,hob,_,hdb,hib⟩:=hy
 refine wpAny_bind (m:=isInstance (.ref b) (.type "tuple")) (wpAny_isInstance hTb isSubtype_tuple_tuple ?_)
 simp only[Bool.not_true,if_false,Bool.false_eq_true]
 refine wpAny_bind (wpAny_tupleItemsOf hoa hda (wpAny_bind (wpAny_tupleItemsOf hob hdb (wpAny_bind ?_))))
 refine wpAny_forIn_list _ (λrest r s' => r.1=none/\s'=s/\∃ x' y' xs' ys',rest=List.zip xs' ys' /\ It2 knd s.heap x' xs' /\ It2 knd s.heap y' ys' /\ decide (x'=y')=decide (x=y)/\(xs'.length==ys'.length)=(xs.size==ys.size)) _ ?_ ?_ _ _ ⟨rfl,rfl,x,y,xs.toList,ys.toList,rfl,hia,hib,rfl,by simp⟩
 ·rintro ⟨u,v⟩ rest r s' ⟨hr,rfl,x',y',xs',ys',hz,hx',hy',hdec,hlen⟩
  cases hx' with
  | nil=>simp at hz
  | @cons k1 u' x'' xs'' h1 hx'' =>
   cases hy' with
   | nil=>simp at hz
   | @cons k2 v' y'' ys'' h2 hy'' =>
    simp only[List.cons.injEq,List.zip_cons_cons,Prod.mk.injEq] at hz
    obtain ⟨⟨rfl,rfl⟩,rfl⟩:=hz
    obtain ⟨c1,rfl,i1⟩:=h1
    obtain ⟨c2,rfl,i2⟩:=h2
    refine wpAny_bind (wpAny_eqBool_tuple hu i1 i2 ?_)
    by_cases hk:k1=k2
    ·subst hk
     rw[decide_eq_true rfl]
     simp only[Bool.not_true,if_false,Bool.false_eq_true]
     refine wpAny_pure ⟨rfl,rfl,x'',y'',xs'',ys'',rfl,hx'',hy'',?_,by simpa using hlen⟩
     rw[← hdec]
     by_cases hxy:x''=y'' <;> simp[hxy]
    ·rw[decide_eq_false hk]
     simp only[Bool.not_false,if_true]
     have hf:decide (x=y)=false:=by rw[← hdec];simp[hk]
     rw[hf] at h
     exact wpAny_bind (wpAny_pure (wpAny_pure (wpAny_pure h)))
 ·rintro ⟨r1,r2⟩ s' ⟨hr,rfl,x',y',xs',ys',hz,hx',hy',hdec,hlen⟩
  simp only at hr
  subst hr
  refine wpAny_pure ?_
  have e:(xs.size==ys.size)=decide (x=y):=by
   rw[← hdec,← hlen]
   cases hx' with
   | nil=>cases hy' with
    | nil=>simp
    | cons _ _=>simp
   | cons _ _=>cases hy' with
    | nil=>simp
    | cons _ _=>simp at hz
  show P (.done (.ret (.bool (xs.size==ys.size)))) s'
  rw[e];exact h
theorem zkz {x y:List (List K)}{a b:Addr}{Q:Bool->Shared->Prop}(hu:A.units+1<cLine)(hx:Xv knd s.heap x a)(hy:Xv knd s.heap y b)(h:Q (decide (x=y)) s):wpAny (model prog w) A (eqBool (.ref a) (.ref b)) Q E s:=by
 unfold eqBool
 try with_reducible refine wpAny_holding ?_
 by_cases hab:(Value.ref a==Value.ref b)=true
 ·rw[if_pos hab]
  have e:a=b:=by have:=eq_of_beq hab;injection this
  subst e
  obtain rfl:=hx.inj hy
  exact wpAny_bind (wpAny_rule (wpAny_pure (by simpa using h)))
 ·rw[if_neg hab]
  exact wpAny_bind (wpAny_richCompare_same_room (op:=.Eq) hx.ty hy.ty F.slot_tuple_eq (wpAny_call_entry F.slot_tuple_eq hx.ty F.entry_tuple_eq (ziT (by show A.units+1<cLine;exact hu) hx hy ⟨_,rfl,(λe=>nomatch e),wpAny_truthy_bool h⟩) (F.args_tuple_eq_2 _ _)) (by omega))
theorem zmi {ks:List K}{a:Addr}{m:Nat}{Q:Bool->Shared->Prop}(hk:IsTupleKey knd s.heap ks a)(h:Q true s):wpAny (model prog w) A (eqIsQuiet (m+1) (.ref a)) Q E s:=by
 have hT:=hk.typeIs
 obtain ⟨o,items,n,ho,_,hd,hi⟩:=hk
 unfold eqIsQuiet
 refine wpAny_bind (wpAny_specialOf hT F.slot_tuple_eq.lookup (wpAny_bind (m:=isInstance (.ref a) (.type "tuple")) (wpAny_isInstance hT isSubtype_tuple_tuple ?_)))
 simp only[Bool.not_true,if_false,Bool.false_eq_true]
 refine wpAny_bind (wpAny_seqItems ho hd (wpAny_bind (m:=forIn items _ _) ?_));rw[← Array.forIn_toList]
 refine wpAny_forIn_list _ (λrest r s' => r.1=none/\s'=s/\∀ v∈rest,carriedByValue v=true) _ ?_ ?_ _ _ ⟨rfl,rfl,hi.byValue⟩
 ·rintro v rest r s' ⟨hr,rfl,hall⟩
  rw[eqIsQuiet_byValue _ (hall v List.mem_cons_self)];refine wpAny_bind (wpAny_pure ?_)
  simp only[Bool.not_true,if_false,Bool.false_eq_true]
  exact wpAny_pure ⟨rfl,rfl,λu hu' => hall u (List.mem_cons_of_mem _ hu')⟩
 ·rintro ⟨r1,r2⟩ s' ⟨hr,rfl,_⟩
  simp only at hr
  subst hr
  exact wpAny_pure h
theorem zmL {ks:List (List K)}{a:Addr}{Q:Bool->Shared->Prop}(hk:Xv knd s.heap ks a)(h:Q true s):wpAny (model prog w) A (eqIsQuiet 8 (.ref a)) Q E s:=by
 have hT:=hk.ty
 obtain ⟨o,items,n,ho,_,hd,hi⟩:=hk
 unfold eqIsQuiet
 refine wpAny_bind (wpAny_specialOf hT F.slot_tuple_eq.lookup (wpAny_bind (m:=isInstance (.ref a) (.type "tuple")) (wpAny_isInstance hT isSubtype_tuple_tuple ?_)))
 simp only[Bool.not_true,if_false,Bool.false_eq_true]
 refine wpAny_bind (wpAny_seqItems ho hd (wpAny_bind (m:=forIn items _ _) ?_));rw[← Array.forIn_toList]
 refine wpAny_forIn_list _ (λrest r s' => r.1=none/\s'=s/\∃ left,It2 knd s.heap left rest) _ ?_ ?_ _ _ ⟨rfl,rfl,ks,hi⟩
 ·rintro v rest r s' ⟨hr,rfl,left,hl⟩
  cases hl with
  | @cons k _ ks' _ h1 hl' =>
   obtain ⟨c,rfl,hc⟩:=h1
   refine wpAny_bind (zmi (m:=6) hc ?_)
   simp only[Bool.not_true,if_false,Bool.false_eq_true]
   exact wpAny_pure ⟨rfl,rfl,ks',hl'⟩
 ·rintro ⟨r1,r2⟩ s' ⟨hr,rfl,_⟩
  simp only at hr
  subst hr
  exact wpAny_pure h
end
def zhZ {prog:Program}{w:World}{K:Type}[DecidableEq K](knd:KeyKind prog w K):HeapKind prog w (List (List K)) where
 is:=Xv knd
 hash:=zkm knd
 draws:=λks=>QW ks+1
 room:=λA=>A.units+1<cLine
 inj:=λhx hy=>hx.inj hy
 keeps:=λx ho hd hs=>x.keeps ho hd hs
 pyHash:=λhu hk h=>zha hu hk h
 eqBool:=λhu hx hy h=>zkz hu hx hy h
 quiet:=λhk h=>zmL hk h
end L2
namespace L2
open PySem PySem.Spec PyProof.Rows
section
variable {X:Cx}
end
section
variable {K:PySem.W.Frag}{σ:St}{G:Hp}{ta tb:TE}{a b d:PyData}
def kD:Key->PyData
 | .inl i=>.int i
 | .inr x=>.str x
theorem zoZ {v:V}{k:Key}(h:Dat K G v (kD k)):v=kV k:=by
 cases k with
 | inl i=>exact h.int
 | inr x=>exact h.str
end
end L2
namespace L2
open PySem PySem.Spec PyProof.Rows
abbrev KX:=List (List Key)
def zcG (k:KX):PyData:=.tuple (k.map λl=>.tuple (l.map kD))
def zoB (P:Program)(w:World)(a:Addr)(xs:List (KX×Addr))(h:Heap):Prop:=(a==sysModules)=false/\xs.length<=sizeLine/\∃ o es ep,h.get? a=some o/\o.ExactDict/\o.data = .dict es ep/\es.toList=xs.map (λx=>entryOfKey (zhZ (Y8 P w)) (x.1,x.2,.bool true))/\(xs.map (·.1)).Nodup
def dX (P:Program)(w:World)(a:Addr)(xs:List (KX×Addr)):HO:=.ext (zoB P w a xs)
def zmM (xs:List (KX×Addr))(k:KX):Bool:=xs.any λx=>decide (x.1=k)
theorem zbu {xs:List (KX×Addr)}{k:KX}:zmM xs k=true↔k∈xs.map (·.1):=by
 unfold zmM
 rw[List.any_eq_true]
 constructor
 ·rintro ⟨x,hx,e⟩
  exact List.mem_map.mpr ⟨x,hx,of_decide_eq_true e⟩
 ·intro h
  obtain ⟨x,hx,e⟩:=List.mem_map.mp h
  exact ⟨x,hx,decide_eq_true e⟩
def zhO (xs:List (KX×Addr))(k:KX)(b:Addr):List (KX×Addr):=if zmM xs k=true then xs else xs++[(k,b)]
theorem zjq {P:Program}{w:World}{H:Hp}{h:Heap}{a:Addr}{xs:List (KX×Addr)}(x:zoB P w a xs h):YJ P w H h a (dX P w a xs):=by
 refine ⟨x,?_,λh1 h2 y k=>?_⟩
 ·obtain ⟨_,_,o,_,_,e,_⟩:=x
  exact ⟨o,e⟩
 ·obtain ⟨z1,z2,o,es,ep,e,r⟩:=y
  exact ⟨z1,z2,o,es,ep,k o e,r⟩
section
variable {X:Cx}{pins:List (Addr×Obj)}{σ:St}{H G:Hp}{s:Shared}
theorem zjS (I:Inv X pins σ H s)(sg:ZL G H):∀ {k:KX}{xs:List V}{its:List Value},Vals xs its->Yl X.K G xs (k.map λl=>.tuple (l.map kD))->It2 (Y8 X.prog X.w) s.heap k its
 | [],_,_,r,h=>by
  have e:=h.nil
  subst e
  cases r
  exact .nil
 | l::k,_,_,r,h=>by
  obtain ⟨y,ys,rfl,hy,hr⟩:=h.cons
  cases r with
  | cons r1 r2=>
   obtain ⟨p,zs,rfl,hp,hz⟩:=Dat.tup hy
   cases r1
   obtain ⟨jts,rj,⟨o,h1,h2,n,h3⟩,zz⟩:=I.tuple (sg.tup hp)
   clear zz
   have e:zs=l.map kV:=by
    clear rj hp hr r2 hy h
    induction l generalizing zs with
    | nil=>exact hz.nil
    | cons q l ih=>
     obtain ⟨u,us,rfl,hu,hus⟩:=hz.cons
     rw[zoZ hu,ih us hus];rfl
   subst e
   exact .cons ⟨p,rfl,o,jts.toArray,n,h1,h2,h3,by simpa using zc7 rj⟩ (zjS I sg r2 hr)
theorem zcB (I:Inv X pins σ H s)(sg:ZL G H){k:KX}{b:Addr}(h:Dat X.K G (.ref b) (zcG k)):Xv (Y8 X.prog X.w) s.heap k b:=by
 obtain ⟨p,xs,e,hp,hx⟩:=Dat.tup h
 cases e
 obtain ⟨its,r,⟨o,h1,h2,n,h3⟩,_⟩:=I.tuple (sg.tup hp)
 exact ⟨o,its.toArray,n,h1,h2,h3,by simpa using zjS I sg r hx⟩
def zmF (P:Program)(w:World):TE:=λ_ H Q=>∀ p,H p=none->Q (.ref p) (upd H p (dX P w p []))
theorem ziy {P:Program}{w:World}(eP:X.prog=P)(ew:X.w=w){pos:Pos}:PE X (.Dict [] [] pos) (zmF P w):=by
 subst eP ew
 exact λpins s σ H Q I h=>
 wpAny_Dict_empty ⟨.ref s.heap.objs.size,_,I.laid (a:=s.heap.objs.size) (o:=dX X.prog X.w s.heap.objs.size []) (t' := s.toks) (λ_ _ q=>Heap.get?_push_of_some _ q) (Nat.le_refl _)
  (zjq ⟨beq_eq_false_iff_ne.mpr (Ne.symm (Nat.ne_of_lt I.big)),Nat.zero_le _,_,#[],0,Heap.get?_push_size _ rfl,⟨rfl,rfl,rfl⟩,rfl,rfl,List.nodup_nil⟩),rfl,h _ (I.hok.fresh (Nat.le_refl _))⟩
def znr (P:Program)(w:World)(K:PySem.W.Frag)(td ty tv:TE):TS:=λD σ H=>tv σ H λv H1=>td σ H1 λx H2=>ty σ H2 λy H3=>∃ (a b:Addr) (k:KX) (xs:List (KX×Addr)) (G:Hp),v = .bl true/\x = .ref a/\y = .ref b/\H3 a=some (dX P w a xs)/\ZL G H3/\Dat K G (.ref b) (zcG k)/\(∀ z∈xs,Dat K G (.ref z.2) (zcG z.1))/\xs.length<sizeLine/\D.nx σ (upd H3 a (dX P w a (zhO xs k b)))
theorem zav {P:Program}{w:World}:∀ (xs:List (KX×Addr))(k:KX),(atKey (xs.map λx=>(x.1,x.2,Value.bool true)) k=none↔k∉xs.map (·.1))
 | [],k=>by simp[atKey]
 | x::r,k=>by
  have ih:=zav (P:=P) (w:=w) r k
  unfold atKey at ih ⊢
  by_cases h:x.1=k
  ·simp[List.find?_cons,h]
  ·have h' : ¬ k=x.1:=λe=>h e.symm
   simp only[List.map_cons,List.find?_cons,h,decide_false,List.mem_cons,h',false_or]
   exact ih
theorem zfg {P:Program}{w:World}(xs:List (KX×Addr))(k:KX)(b:Addr):storedH (xs.map λx=>(x.1,x.2,Value.bool true)) k b (.bool true)=(zhO xs k b).map λx=>(x.1,x.2,Value.bool true):=by
 by_cases h:k∈xs.map (·.1)
 ·have hn:atKey (xs.map λx=>(x.1,x.2,Value.bool true)) k≠none:=λe=>((zav (P:=P) (w:=w) xs k).mp e) h
  obtain ⟨p,hp⟩:=Option.ne_none_iff_exists'.mp hn
  rw[storedH_old hp,zhO,if_pos (zbu.mpr h),List.map_map]
  refine List.map_congr_left λx _=>?_
  show putAt k (.bool true) (x.1,x.2,.bool true)=_
  unfold putAt
  split <;> rfl
 ·rw[storedH_new ((zav (P:=P) (w:=w) xs k).mpr h),zhO,if_neg (λz=>h (zbu.mp z)),List.map_append];rfl
theorem zio {P:Program}{w:World}{K:PySem.W.Frag}(eP:X.prog=P)(ew:X.w=w)(eK:X.K=K){o i value:Expr}{pos pos' : Pos}{td ty tv:TE}(hu:X.A.units+64<cLine)(ho:PE X o td)(hi:PE X i ty)(hv:PE X value tv)(hs:swapsWith value (some (.Subscript o i pos')) pos.line X.env=pure false):
  PS X (.Assign [.Subscript o i pos'] value pos) (znr P w K td ty tv):=by
 subst eP ew eK
 intro pins s σ H D I h
 refine wpAny_Assign_Subscript (thn (hv pins s σ H _ I h) λr s1 ⟨v,H1,I1,rv,q1⟩=>thn (ho pins s1 σ H1 _ I1 q1) λu s2 ⟨x,H2,I2,rx,q2⟩=>thn (hi pins s2 σ H2 _ I2 q2) λiv s3 ⟨y,H3,I3,ry,a,b,k,xs,G,ev,ex,ey,ha,sg,hb,hxs,hl,q3⟩=>?_) hs
 subst ev ex ey
 obtain rfl:r=Value.bool true:=rv
 obtain rfl:u=Value.ref a:=rx
 obtain rfl:iv=Value.ref b:=ry
 obtain ⟨⟨hsm,_,o',es,ep,h1,h2,h3,h4,h5⟩,_⟩:=(show YJ X.prog X.w H3 s3.heap a (dX X.prog X.w a xs) from I3.hok a _ ha)
 have dd:s3.heap.DictOfH (zhZ (Y8 X.prog X.w)) a (xs.map λx=>(x.1,x.2,Value.bool true)):=⟨o',es,ep,h1,h2,h3,by rw[h4,List.map_map];rfl,λz hz=>by
  obtain ⟨x,hx,rfl⟩:=List.mem_map.mp hz
  exact zcB I3 sg (hxs x hx),by rw[List.map_map];exact h5⟩
 refine wpAny_setItem_heap (hsz:=by rw[List.length_map];omega) (show X.A.units+1+1<cLine by omega) (zcB I3 sg hb) dd λh' dd' hs=>?_
 rw[zfg (P:=X.prog) (w:=X.w)] at dd'
 obtain ⟨q,es',ep',hq,g2,g3,g4,_,g5⟩:=dd'
 have hlen:(zhO xs k b).length<=sizeLine:=by
  unfold zhO
  split
  ·omega
  ·rw[List.length_append];show xs.length+1<=sizeLine;omega
 exact ⟨σ,_,zgx I3 (by rw[ha];exact True.intro) hs ⟨q,hq⟩ (zjq ⟨hsm,hlen,q,es',ep',hq,g2,g3,by rw[g4,List.map_map];rfl,by rw[List.map_map] at g5;exact g5⟩),q3⟩
def zoj (P:Program)(w:World):List V->Hp->VK->Prop:=λvs H Q=>∃ (a:Addr) (xs:List (KX×Addr)),vs=[.ref a]/\H a=some (dX P w a xs)/\∀ l,H l=none->Q (.ref l) (upd H l (.lst (xs.map λx=>V.ref x.2)))
theorem ze2 {P:Program}{w:World}(eP:X.prog=P)(ew:X.w=w)(hc:X.calm=true):Ut X (.type "list") (zoj P w):=by
 subst eP ew
 intro pins s σ H xs us Q I r h
 obtain ⟨a,ks,rfl,ha,q⟩:=h
 obtain ⟨u,rfl,rx⟩:=vals1 r
 cases rx
 obtain ⟨⟨hsm,hl,o',es,ep,h1,h2,h3,h4,h5⟩,_⟩:=(show YJ X.prog X.w H s.heap a (dX X.prog X.w a ks) from I.hok a _ ha)
 have hsz:es.size=ks.length:=by rw[← Array.length_toList,h4,List.length_map]
 refine zaN (I.ok.hd hc) hsm ⟨o',h1,h2,h3⟩ (by omega) λs' acc c' hk hs' hS hacc=>?_
 have hv:Vals (ks.map λx=>V.ref x.2) acc.toList:=by
  have e:acc.toList=ks.map λx=>Value.ref x.2:=by
   refine List.ext_getElem? λj=>?_
   rw[List.getElem?_map,Array.getElem?_toList]
   cases ev:acc[j]? with
   | none=>
    have hj:acc.size<=j:=by simpa using ev
    rw[List.getElem?_eq_none (by rw[← hsz,← hacc.1];exact hj)];rfl
   | some v=>
    obtain ⟨en,he,rfl⟩:=hacc.2 j v ev
    rw[← Array.getElem?_toList,h4,List.getElem?_map] at he
    cases ek:ks[j]? with
    | none=>rw[ek] at he;cases he
    | some x=>rw[ek] at he;cases he;rfl
  rw[e]
  have key:∀ l:List (KX×Addr),Vals (l.map λx=>V.ref x.2) (l.map λx=>Value.ref x.2):=λl=>by
   induction l with
   | nil=>exact .nil
   | cons x r ih=>exact .cons rfl ih
  exact key ks
 rw[hs']
 exact ⟨.ref s.heap.objs.size,_,I.laid (t' := s'.toks) hk (Nat.le_refl _) (show YJ X.prog X.w _ s'.heap _ (.lst (ks.map λx=>V.ref x.2)) from ⟨by rw[List.length_map];exact hl,acc.toList,c',hv,by rw[hS]⟩),rfl,q _ (I.hok.fresh (Nat.le_refl _))⟩
end
end L2
namespace L2
open PySem PySem.Spec PyProof.Rows
theorem countIn_strs (z:Str):∀ ss:List Str,countIn (.str z) (ss.map PyData.str)=((ss.countP λs=>decide (s=z):Nat):Int)
 | []=>rfl
 | s::r=>by
  have ih:=countIn_strs z r
  rw[List.map_cons,countIn,List.countP_cons,ih]
  by_cases h:s=z
  ·subst h;simp[same];omega
  ·have h' : ¬ z=s:=λe=>h e.symm
   simp[same,h,h']
section
variable {X:Cx}
def zlZ (K:PySem.W.Frag):V->List V->Hp->VK->Prop:=λx vs H Q=>∃ (p:Addr) (ss:List Str) (z:Str),x = .ref p/\vs=[.str z]/\SqL K H p (ss.map V.str)/\Q (.int ((ss.countP λs=>decide (s=z):Nat):Int)) H
theorem ziM {K:PySem.W.Frag}(eK:X.K=K):MtM X "list.count" (zlZ K):=by
 subst eK
 intro pins s σ H x vs v us Q I rx rv h
 obtain ⟨p,ss,z,rfl,rfl,hp,q⟩:=h
 cases rx
 obtain ⟨u,rfl,ru⟩:=vals1 rv
 obtain ⟨t,rfl⟩:=ru
 obtain ⟨its,r,pl,hl⟩:=I.list hp
 exact count_list_strs pl.isList (ze9 r) ⟨.int _,H,I.tok _,⟨_,by rw[countIn_strs]⟩,q⟩
theorem znG {K:PySem.W.Frag}(eK:X.K=K){o e:Expr}{es:List Expr}{to:TE}{t:TA}{name:Str}{apos cpos:Pos}{T id:String}{r:V->List V->Hp->VK->Prop}(pa:PlainAttrs T)(slot:Slot T name id)(hty:typeOf (.builtin id)=pure (.type "method_descriptor"))(hm:MtR X id r)(ho:PE X o to)(ha:PA X (e::es) t)(h1:attributeBase o name X.env (eval o X.env)=eval o X.env:=by rfl) (h2:((backTo cpos (starEach (e::es) X.env)).all (λx=>!x.1)&&(backToKw cpos (keywordEach [] X.env)).all (λx=>x.1.isSome)&&decide ((e::es).length+([]:List Keyword).length+(if ([]:List Keyword).isEmpty then 0 else 1)<30))=true:=by rfl) (h3:(apos.endLine==cpos.line)=true:=by rfl) (h4:starEach (e::es) X.env=(false,eval e X.env)::starEach es X.env:=by rfl) (h5:(backTo cpos (starEach es X.env)).any (·.1)=false:=by rfl):PE X (.Call (.Attribute o name apos) (e::es) [] cpos) (tBM K T r to t):=by
 subst eK
 exact zaM pa slot hty hm ho ha h1 h2 h3 h4 h5
theorem zcZ {K:PySem.W.Frag}{a:Addr}{xs:List V}{g:TG}{tb:TS}{D:Ends}{σ:St}{H:Hp}(Pv:Nat->St->Hp->Prop)(h0:Pv 0 σ H)(hl:∀ i σ H,i<=xs.length->Pv i σ H->SqL K H a xs)
  (hs:∀ i x σ H p,xs[i]?=some x->Pv i σ H->H p=none->g (.ref p) σ (upd H p (.tup [.int i,x])) fun σ2 H2=>tb { D with nx:=Pv (i+1),ct:=Pv (i+1),bk:=D.nx } σ2 H2) (hd:∀ σ H,Pv xs.length σ H->D.nx σ H):
  ∃ W:Nat->Nat->St->Hp->Prop,(∃ m,W 0 m σ H)/\∀ i m σ H,W i m σ H->
   ((zmT K a).stop i H/\D.nx σ H)\/((zmT K a).go i H/\∃ N:St->Hp->Prop,(∀ σ' H',N σ' H' -> ∃ m',m'<m/\W (i+1) m' σ' H')/\∀ x H',(zmT K a).yld i H x H' -> g x σ H' fun σ2 H2=>tb { D with nx:=N,ct:=N,bk:=D.nx } σ2 H2):=by
 refine ⟨λi m σ H=>m=xs.length-i/\i<=xs.length/\Pv i σ H,⟨xs.length,by simp,Nat.zero_le _,h0⟩,?_⟩
 rintro i m σ H ⟨rfl,hi,p⟩
 have q:=hl i σ H hi p
 by_cases hlt:i<xs.length
 ·refine .inr ⟨⟨xs,_,q,List.getElem?_eq_getElem hlt⟩,Pv (i+1),fun σ' H' p' => ⟨xs.length-(i+1),by omega,rfl,hlt,p'⟩,λx H' y=>?_⟩
  obtain ⟨p',x',hp',rfl,rfl,hx⟩:=y
  exact hs i x' σ H p' (hx xs q) p hp'
 ·have e:i=xs.length:=by omega
  subst e
  exact .inl ⟨⟨xs,q,Nat.le_refl _⟩,hd σ H p⟩
end
end L2
namespace K32
open PySem L2 Frac Lw Dig PySem.NumText Nm
open Ord Num Look Rdo
abbrev dT (f:Fs):PyData:=.tuple (f.map dF)
def OC (book:List Str)(num:Int->Int->Prop)(ws:List Wd):Prop:=Ju (· ∈ book) num ws/\(∀ a b,num a b->Sz (a,b))/\(∀ z∈book,Yc z=none)/\ws.length<=900
def FZ (n:Nat)(f:Fs):Prop:=f.length=n/\∀ p∈f,Sz p
def spB (K:PySem.W.Frag)(Pt:Addr)(cr:Nat->Nat->Option Str)(R:List Str->List PyData->PyData->Prop):Sp:=λvs H Q _=>∃ (G:Hp) (book:List Str) (vo:V) (pb:Addr) (us:List V) (ds:List PyData) (d:PyData),vs=vo :: .ref pb::us/\G Pt=some (.tbl cr)/\ZL G H/\G pb=some (.tup (book.map V.str))/\Yl K G (vo::us) ds/\R book ds d/\
 ∀ v G' H',Yr G H G' H' -> Dat K G' v d->Q v H'
def zjy (book:List Str):List PyData->PyData->Prop:=λds d=>∃ (ws:List Wd) (num:Int->Int->Prop) (f:Fs) (gs:List Fs),ds=[dOs ws,dT f,.list (gs.map dT)]/\OC book num ws/\FZ book.length f/\(∀ g∈gs,FZ book.length g)/\gs.length<=1000/\d = .list (gs.map λg=>.str (Z9 book ws f g).t)
def zlN (L:Fs->Fs->An)(gs:List Fs):PyData:=.list (gs.map λf=>.list (gs.map λg=>.str (L f g).t))
def zoi (book:List Str):List PyData->PyData->Prop:=λds d=>∃ (ws:List Wd) (num:Int->Int->Prop) (gs:List Fs),ds=[dOs ws,.list (gs.map dT)]/\OC book num ws/\(∀ g∈gs,FZ book.length g)/\gs.length<=1000/\d=zlN (Z9 book ws) gs
def zk4:List PyData->PyData->Prop:=λds d=>∃ gs:List Fs,ds=[.tuple (gs.map dT)]/\gs.length<=1000/\d = .list ((XJ gs).map dT)
def zer:List PyData->PyData->Prop:=λds d=>∃ (L:Fs->Fs->An) (gs:List Fs),ds=[zlN L gs]/\gs.length<=1000/\d = .list (gs.map λf=>.int (rk L gs f:Nat))
def zlz:List PyData->PyData->Prop:=λds d=>∃ i j:Nat,ds=[.int (i:Nat),.int (j:Nat)]/\d = .str (zaG i j).t
def zjD:List PyData->PyData->Prop:=λds d=>∃ (L:Fs->Fs->An) (gs:List Fs),ds=[zlN L gs]/\gs.length<=1000/\d = .bool (agree L gs)
def UL (K:PySem.W.Frag):Sp:=λvs H Q _=>∃ (G:Hp) (v1:V) (L:Fs->Fs->An) (gs:List Fs),vs=[v1]/\ZL G H/\Dat K G v1 (zlN L gs)/\gs.length<=1000/\(∀ G' H',Yr G H G' H' -> agree L gs=true->Q .non H')/\∀ p G' H',Yr G H G' H' -> agree L gs=false->Q (.ref p) H'
def zbn (f:Fs):KX:=f.map λp=>[.inl p.1,.inl p.2]
theorem Ul (f:Fs):zcG (zbn f)=dT f:=by
 unfold zcG zbn
 rw[List.map_map];rfl
theorem zei {f g:Fs}(h:zbn f=zbn g):f=g:=by
 unfold zbn at h
 refine (List.map_inj_right λp q z=>?_).mp h
 injection z with z1 z2
 injection z1 with z1
 injection z2 with z2 _
 injection z2 with z2
 exact Prod.ext z1 z2
theorem zeI (gs:List Fs):(XJ gs).length<=gs.length:=by
 have key:∀ (l acc:List Fs),(l.foldl (λacc f=>if (acc.any λg=>decide (g=f))=true then acc else acc++[f]) acc).length<=acc.length+l.length:=by
  intro l
  induction l with
  | nil=>intro acc;simp
  | cons x r ih=>
   intro acc
   rw[List.foldl_cons]
   refine Nat.le_trans (ih _) ?_
   split
   ·rw[List.length_cons];omega
   ·simp only[List.length_append,List.length_cons,List.length_nil];omega
 have:=key gs []
 unfold XJ
 simpa using this
theorem zgt (gs:List Fs)(f:Fs):XJ (gs++[f])=if ((XJ gs).any λg=>decide (g=f))=true then XJ gs else XJ gs++[f]:=by
 unfold XJ
 rw[List.foldl_append];rfl
section
variable {P:Program}{w:World}{K:PySem.W.Frag}{mg:Str->Option Value}{base:Heap}
theorem zbK {σ:St}{G:Hp}{ta:TE}{t:TA}{i:Nat}{pb Pt:Addr}{cr:Nat->Nat->Option Str}{book:List Str}{d0 d:PyData}{ds:List PyData}{R:List Str->List PyData->PyData->Prop}(hT:G Pt=some (.tbl cr))(hpb:G pb=some (.tup (book.map V.str)))(hi:σ[i]?=some (some (.ref pb)))(ha:Ev K ta σ G d0)(h:EvA K t σ G ds)(hR:R book (d0::ds) d):
  Ev K (V6 (spB K Pt cr R) [] E0 (ZS ta (ZS (Xq i) t))) σ G d:=λG1 H s1 s2 Q k=>ha G1 H s1 s2 _ λv1 G2 H2 g2 h1=>⟨_,hi,h G2 H2 (s1.trans g2.gg) g2.gh _ λvs G3 H3 g3 h3=>by
  have g23:=g2.trans g3
  have sG:=s1.trans g23.gg
  refine ⟨G3,book,v1,pb,vs,d0::ds,d,by simp,sG _ _ hT,g3.gh,sG _ _ hpb,ZG (h1.same g3.gg) h3,hR,λv G' H' g' hv=>k v G' H' (g23.trans g') hv⟩⟩
theorem zfw (T:Top K mg)(M:Bs K mg base)(W:Wds K w.params mg)(W1:Txs K w.params mg "AHEAD" JG)(W2:Txs K w.params mg "OTHER_WAY" Jh):Yi P w K mg base CX0 7 T.Qk T.fd_looks_of ["order", "book", "one", "things"] (spB K T.Ye Z6 zjy):=by
 have G_looked:Yi P w K mg base CX0 6 T.WQ T.fd_looked ["order", "book", "first", "second"] (zeg K T.Ye Z6):=zc5 T M W W1 W2
 refine T.za8.ok zdR (λvs H Q E h=>?_) (λcdv A outer s H vs Q E hr h=>?_)
 ·obtain ⟨G,book,vo,pb,us,ds,d,rfl,_,_,_,hd,⟨ws,num,f,gs,rfl,_⟩,_⟩:=h
  have:=hd.length
  simp only[List.length_cons,List.length_nil] at this ⊢
  omega
 ·obtain ⟨G,book,vo,pb,us,ds,d,rfl,hT,sg,hpb,hd,⟨ws,num,f,gs,rfl,⟨o1,o2,o3,o4⟩,hf,hgs,hl,rfl⟩,k⟩:=h
  obtain ⟨v0,r0,e0,h0,hd⟩:=hd.cons
  cases e0
  rename Yl K G us _=>hd
  obtain ⟨v1,r1,rfl,h1,hd⟩:=hd.cons
  obtain ⟨v2,r2,rfl,h2,hd⟩:=hd.cons
  cases hd.nil
  have zl:(2000:Nat)<=sizeLine:=by decide
  refine ⟨_,(Zo (Zy (zbB (x:= "other") (cap:=["order", "book", "one"]) (js:=[0,1,2]) ⟨rfl,by decide +kernel,by decide +kernel,rfl,(by show ∀ p∈(_:List (Str×NameKind)),p.2=NameKind.free->List.lookup p.1 (Zm Wi).names=some NameKind.cell;decide +kernel),by decide +kernel,by decide +kernel,by decide +kernel⟩ rfl rfl (λ_ _ h=>h) (U0 (pv 3)) (λ_ _ _ _=>⟨Jv,(Zx G_looked hr (by rfl) T.zb2 T.Uh.kp T.zbz .nil Z3 (Za (pv 1) (Za (pv 2) (Za (pv 3) (Za (pv 0) Zf Zd) Zd) Zd) Zd))⟩)))) ,?_⟩
  refine ZW (K:=K) (zeE (js:=[0,1,2]) gs dT (λg=>some (.str (Z9 book ws f g).t)) (Zb rfl h2) (by omega) λG2 i g x s3 hg hx=>lc1 Qf (zdH (s3 _ _ hT) (s3 _ _ hpb) ⟨⟨hf.1,(hgs g (List.mem_of_getElem? hg)).1,hf.2,(hgs g (List.mem_of_getElem? hg)).2⟩,o2,o3⟩ rfl (Zb rfl (h0.same s3)) (Zb rfl (h1.same s3)) (Zb rfl hx) o1 o4 (Xw f g o3 o1))) sg λv G' H' g' hv=>k v G' H' g' ?_
  rw[Vp] at hv;exact hv
theorem ziB (T:Top K mg)(M:Bs K mg base)(W:Wds K w.params mg)(W1:Txs K w.params mg "AHEAD" JG)(W2:Txs K w.params mg "OTHER_WAY" Jh):Yi P w K mg base CX0 8 T.Qi T.fd_table_of ["order", "book", "things"] (spB K T.Ye Z6 zoi):=by
 have G_looks_of:Yi P w K mg base CX0 7 T.Qk T.fd_looks_of ["order", "book", "one", "things"] (spB K T.Ye Z6 zjy):=zfw T M W W1 W2
 refine T.zbh.ok zdx (λvs H Q E h=>?_) (λcdv A outer s H vs Q E hr h=>?_)
 ·obtain ⟨G,book,vo,pb,us,ds,d,rfl,_,_,_,hd,⟨ws,num,gs,rfl,_⟩,_⟩:=h
  have:=hd.length
  simp only[List.length_cons,List.length_nil] at this ⊢
  omega
 ·obtain ⟨G,book,vo,pb,us,ds,d,rfl,hT,sg,hpb,hd,⟨ws,num,gs,rfl,oc,hgs,hl,rfl⟩,k⟩:=h
  obtain ⟨v0,r0,e0,h0,hd⟩:=hd.cons
  cases e0
  rename Yl K G us _=>hd
  obtain ⟨v2,r2,rfl,h2,hd⟩:=hd.cons
  cases hd.nil
  have zl:(2000:Nat)<=sizeLine:=by decide
  refine ⟨_,(Zo (Zy (zbB (x:= "one") (cap:=["order", "book", "things"]) (js:=[0,1,2]) ⟨rfl,by decide +kernel,by decide +kernel,rfl,(by show ∀ p∈(_:List (Str×NameKind)),p.2=NameKind.free->List.lookup p.1 (Zm Wg).names=some NameKind.cell;decide +kernel),by decide +kernel,by decide +kernel,by decide +kernel⟩ rfl rfl (λ_ _ h=>h) (U0 (pv 2)) (λ_ _ _ _=>⟨Jv,(Zx G_looks_of hr (by rfl) T.ze7 T.za8.kp T.zfN .nil Z3 (Za (pv 1) (Za (pv 2) (Za (pv 0) (Za (pv 3) Zf Zd) Zd) Zd) Zd))⟩)))) ,?_⟩
  refine ZW (K:=K) (zeE (js:=[0,1,2]) gs dT (λf=>some (.list (gs.map λg=>.str (Z9 book ws f g).t))) (Zb rfl h2) (by omega) λG2 i f x s3 hf hx=>lc1 Qf (zbK (s3 _ _ hT) (s3 _ _ hpb) rfl (Zb rfl (h0.same s3)) (Zc (Zb rfl hx) (Zc (Zb rfl (h2.same s3)) Zr)) ⟨ws,num,f,gs,rfl,oc,hgs f (List.mem_of_getElem? hf),hgs,hl,rfl⟩)) sg λv G' H' g' hv=>k v G' H' g' ?_
  rw[Vp] at hv;exact hv
theorem zkf (T:Top K mg):Yi P w K mg base CX0 2 T.Jp T.fd_each_once ["things"] (spP K zk4):=by
 refine T.Uu.ok J4 (λvs H Q E h=>?_) (λcdv A outer s H vs Q E hr h=>?_)
 ·obtain ⟨G,as,d,sg,hv,⟨gs,rfl,_⟩,_⟩:=h
  rw[hv.length];rfl
 ·obtain ⟨G,as,d,sg,hv,⟨gs,rfl,hl,rfl⟩,k⟩:=h
  obtain ⟨v1,r1,rfl,h1,hv⟩:=hv.cons
  cases hv.nil
  have hu:=hr.units
  have zl:(2000:Nat)<=sizeLine:=by decide
  obtain ⟨pt,vs,rfl,hpt,hvs⟩:=h1.tup
  have hvl:vs.length=gs.length:=by rw[hvs.length,List.length_map]
  refine ⟨_,(Ze (ZD (i:=1) J4.nd rfl (Or.inl rfl) (ziy (P:=P) (w:=w) rfl rfl))
   (Ze (Wz PassesOwn.never rfl (zbe (pv 0)) (Yy (i:=2) J4.nd rfl (Or.inl rfl)) (Zo (zio (P:=P) (w:=w) (K:=K) rfl rfl rfl hu (pv 1) (pv 2) zaS (by rfl))))
   (Zo (Zy (Xc (ze2 (P:=P) (w:=w) rfl rfl rfl) (by rfl) T.zmJ zeN (Za (pv 1) Zf Zd)))))) ,?_⟩
  refine λpk hpk=>?_
  have gpk:G pk=none:=sg.free hpk
  refine ⟨_,rfl,pt,rfl,⟨vs,(sg.trans (ZX hpk)).tup hpt⟩,zlg (xs:=vs) (λi σ H' => ∃ (v:Option V) (xs:List (KX×Addr)),σ=[some (.ref pt),some (.ref pk),v]/\(∀ b o,b≠pk->H b=some o->H' b=some o)/\H' pk=some (dX P w pk xs)/\xs.map (·.1)=(XJ (gs.take i)).map zbn/\(∀ z∈xs,Dat K G (.ref z.2) (zcG z.1))/\∀ b,H b=none->b≠pk->H' b=none)
   ⟨_,[],rfl,λb o n e=>by rw[Zq n];exact e,Zh,rfl,(λz hz=>(by cases hz)),λb e n=>by rw[Zq n];exact e⟩ ?_ ?_ ?_⟩
  ·rintro i σ H' _ ⟨v,xs,rfl,kp,_⟩
   have sG' : ZL G H' := λb o e=>kp b o (Zn e gpk) (sg b o e)
   exact sG'.tup hpt
  ·rintro i x σ H' hx ⟨v,xs,rfl,kp,hk,hkeys,hdat,hfr⟩
   have hi:i<gs.length:=by have:=(List.getElem?_eq_some_iff.mp hx).1;omega
   obtain ⟨dd,hdd,hxd⟩:=hvs.zjK hx
   rw[List.getElem?_map,List.getElem?_eq_getElem hi] at hdd
   have hdd:some (dT gs[i])=some dd:=hdd
   injection hdd with hdd
   subst hdd
   obtain ⟨px,ys,rfl,hpx,hys⟩:=hxd.tup
   have sG' : ZL G H' := λb o e=>kp b o (Zn e gpk) (sg b o e)
   have hlx:xs.length<=gs.length:=by
    have e1:xs.length=(XJ (gs.take i)).length:=by have:=congrArg List.length hkeys;simpa using this
    have:=zeI (gs.take i)
    rw[List.length_take] at this
    omega
   have hxk:Dat K G (.ref px) (zcG (zbn gs[i])):=by rw[Ul];exact hxd
   refine ⟨_,rfl,_,rfl,pk,px,zbn gs[i],xs,G,rfl,rfl,rfl,hk,sG',hxk,hdat,by omega,?_⟩
   refine ⟨_,zhO xs (zbn gs[i]) px,rfl,λb o n e=>by rw[Zq n];exact kp b o n e,Zh,?_,λz hz=>?_,λb e n=>by rw[Zq n];exact hfr b e n⟩
   ·have ht:gs.take (i+1)=gs.take i++[gs[i]]:=by rw[List.take_succ,List.getElem?_eq_getElem hi];rfl
    rw[ht,zgt]
    have hiff:zmM xs (zbn gs[i])=true↔((XJ (gs.take i)).any λg=>decide (g=gs[i]))=true:=by
     rw[zbu,hkeys,List.any_eq_true]
     constructor
     ·intro h
      obtain ⟨g,hg,e⟩:=List.mem_map.mp h
      exact ⟨g,hg,decide_eq_true (zei e)⟩
     ·rintro ⟨g,hg,e⟩
      exact List.mem_map.mpr ⟨g,hg,by rw[of_decide_eq_true e]⟩
    unfold zhO
    by_cases h:zmM xs (zbn gs[i])=true
    ·rw[if_pos h,if_pos (hiff.mp h)];exact hkeys
    ·rw[if_neg h,if_neg (λz=>h (hiff.mpr z)),List.map_append,List.map_append,hkeys];rfl
   ·unfold zhO at hz
    split at hz
    ·exact hdat z hz
    ·rcases List.mem_append.mp hz with hz | hz
     ·exact hdat z hz
     ·rw[List.mem_singleton.mp hz];exact hxk
  ·rintro σ H' ⟨v,xs,rfl,kp,hk,hkeys,hdat,hfr⟩
   refine ⟨_,rfl,pk,xs,rfl,hk,λl hlf=>?_⟩
   have sG' : ZL G H' := λb o e=>kp b o (Zn e gpk) (sg b o e)
   have sH' : ZL H H' := λb o e=>kp b o (Zn e hpk) e
   have g1:=Z5 (o:=.lst (xs.map λx=>V.ref x.2)) sG' hlf
   refine k _ _ _ ((zeT sg sH').trans g1) (YT Zh ?_)
   have ht:gs.take vs.length=gs:=by rw[hvl];exact List.take_length
   rw[ht] at hkeys
   have key:∀ (xs:List (KX×Addr)) (us:List Fs),xs.map (·.1)=us.map zbn->(∀ z∈xs,Dat K G (.ref z.2) (zcG z.1))->Yl K G (xs.map λx=>V.ref x.2) (us.map dT):=by
    intro xs
    induction xs with
    | nil=>
     intro us e _
     cases us with
     | nil=>exact ZP
     | cons u r=>cases e
    | cons x r ih=>
     intro us e hd
     cases us with
     | nil=>cases e
     | cons u q=>
      simp only[List.map_cons,List.cons.injEq] at e
      have:=hd x List.mem_cons_self
      rw[e.1,Ul] at this
      exact ZG this (ih q e.2 λz hz=>hd z (List.mem_cons_of_mem _ hz))
   exact (key xs _ hkeys hdat).same g1.gg
theorem zex (T:Top K mg):Yi P w K mg base CX0 1 T.Ji T.fd_ranks_in ["table"] (spP K zer):=by
 refine T.Vk.ok zd5 (λvs H Q E h=>?_) (λcdv A outer s H vs Q E hr h=>?_)
 ·obtain ⟨G,as,d,sg,hv,⟨L,gs,rfl,_⟩,_⟩:=h
  rw[hv.length];rfl
 ·obtain ⟨G,as,d,sg,hv,⟨L,gs,rfl,hl,rfl⟩,k⟩:=h
  obtain ⟨v1,r1,rfl,h1,hv⟩:=hv.cons
  cases hv.nil
  have zl:(2000:Nat)<=sizeLine:=by decide
  refine ⟨_,(Zo (Zy (zbB (x:= "row") (cap:=[]) (js:=[]) ⟨rfl,by decide +kernel,by decide +kernel,rfl,(by show ∀ p∈(_:List (Str×NameKind)),p.2=NameKind.free->List.lookup p.1 (Zm Wj).names=some NameKind.cell;decide +kernel),by decide +kernel,by decide +kernel,by decide +kernel⟩ rfl rfl (λ_ _ h=>h) (U0 (pv 0)) (λ_ _ _ _=>⟨Jv,(znG (K:=K) rfl PySem.F.plainAttrs_list PySem.F.slot_list_count PySem.F.type_list_count (ziM (K:=K) rfl) (pv 0) (Za ZK Zf Zj))⟩)))) ,?_⟩
  refine ZW (K:=K) (zeE (js:=[]) gs (λf=>.list (gs.map λg=>.str (L f g).t)) (λf=>some (.int (rk L gs f:Nat))) (Zb rfl h1) (by omega) λG2 i f x s3 hf hx=>lc1 Qf ?_) sg λv G' H' g' hv=>k v G' H' g' (by rw[Vp] at hv;exact hv)
  refine λG1 H1 s1 s2 Q' k' => ?_
  have hx' := hx.same s1
  obtain ⟨p,ys,rfl,hp,hys⟩:=hx'.lst
  have e:ys=(gs.map λg=>(L f g).t).map V.str:=zbI (ws:=gs.map λg=>(L f g).t) (by rw[List.map_map];exact hys)
  subst e
  have hp' := s2 _ _ hp
  refine ⟨_,rfl,.inl ⟨rfl,_,SqL.of hp'⟩,p,gs.map λg=>(L f g).t,S "behind",rfl,rfl,SqL.of hp',k' _ G1 H1 (Yr.refl s2) ?_⟩
  have ec:(gs.map λg=>(L f g).t).countP (λs=>decide (s=S "behind"))=rk L gs f:=by
   rw[List.countP_map]
   unfold rk
   congr 1
   funext g
   show decide ((L f g).t=An.behind.t)=decide (L f g = .behind)
   exact decide_eq_decide.mpr zkE
  rw[ec]
  exact Zv _
theorem zj5 (T:Top K mg):Yi P w K mg base CX0 1 T.QT T.fd_by_size ["one", "other"] (spP K zlz):=by
 refine T.zcQ.ok ze5 (λvs H Q E h=>?_) (λcdv A outer s H vs Q E hr h=>?_)
 ·obtain ⟨G,as,d,sg,hv,⟨i,j,rfl,_⟩,_⟩:=h
  rw[hv.length];rfl
 ·obtain ⟨G,as,d,sg,hv,⟨i,j,rfl,rfl⟩,k⟩:=h
  obtain ⟨v1,r1,rfl,h1,hv⟩:=hv.cons
  obtain ⟨v2,r2,rfl,h2,hv⟩:=hv.cons
  cases hv.nil
  refine ⟨_,(Ze (Yt (ZF V3 (pv 0) (pv 1) (ZR _)) (Zo (Zy ZK)) ZQ)
   (Zo (Zy (Wy (ZF zm6 (pv 0) (pv 1) (ZR _)) ZK ZK)))) ,?_⟩
  refine zag (ZV (K:=K) (J8 (Zb rfl h1) (Zb rfl h2) (Yn _))) sg (λe G1 H1 g1=>?_) (λe G1 H1 g1=>?_)
  ·have e' : (i:Int)<j:=of_decide_eq_true e
   have:zaG i j = .ahead:=by unfold zaG;rw[if_pos (by omega)]
   exact k _ G1 H1 g1 (by rw[this];exact Z7 _)
  ·have e' : ¬ (i:Int)<j:=of_decide_eq_false e
   refine ZW (K:=K) (d:=.str (zaG i j).t) (VN (ZV (K:=K) (J8 (Zb rfl (h1.same g1.gg)) (Zb rfl (h2.same g1.gg)) (Yn _))) (λz=>?_) (λz=>?_)) g1.gh λv G2 H2 g2 hv=>k v G2 H2 (g1.trans g2) hv
   ·have z' : (i:Int)>j:=of_decide_eq_true z
    have:zaG i j = .behind:=by unfold zaG;rw[if_neg (by omega),if_pos (by omega)]
    rw[this];exact Zk
   ·have z' : ¬ (i:Int)>j:=of_decide_eq_false z
    have:zaG i j = .like:=by unfold zaG;rw[if_neg (by omega),if_neg (by omega)]
    rw[this];exact Zk
end
end K32
namespace K32
open PySem L2 Frac Lw Dig PySem.NumText Nm
open Ord Num Look Rdo
abbrev tNx (K:PySem.W.Frag)(i:Nat):TE:=V6 (Vc K 1 RNx) [] E0 (ZS (Xq i) JH)
abbrev zfe (a b:TE):TE:=tOp (rI (λ_ j=>0<j) λi j=>.int (i % j)) a b
abbrev tLn (K:PySem.W.Frag)(i:Nat):TE:=tCB (λxs H Q=>∃ p ys,xs=[.ref p]/\(SqL K H p ys\/SqT K H p ys)/\Q (.int ys.length) H) (ZS (Xq i) JH)
def FOk (n:Nat)(f:Fs):Prop:=f.length=n/\∀ p∈f,SzP p
theorem FOk.fz {n:Nat}{f:Fs}(h:FOk n f):FZ n f:=⟨h.1,λp hp=>(h.2 p hp).1⟩
theorem FOk.pos {n:Nat}{f:Fs}(h:FOk n f):zf6 n f:=⟨h.1,λp hp=>(h.2 p hp).2⟩
def RRw:List PyData->PyData->Prop:=λds x=>∃ (book:List Str) (pool:List (Int×Int)) (most:Nat) (fs:List Fs),ds=[.tuple (book.map PyData.str),.list (pool.map dF),.int (most:Nat)]/\(book.length<=4/\1<=pool.length/\pool.length<=13/\most<=60)/\(∀ p∈pool,SzP p)/\x = .tuple (fs.map dT)/\fs.length<=most/\∀ f∈fs,FOk book.length f
theorem zlA:∀ ds:List PyData,(∀ e∈ds,∃ p,e=dF p/\SzP p)->∃ ps:List (Int×Int),ds=ps.map dF/\∀ p∈ps,SzP p
 | [],_=>⟨[],rfl,λf hf=>by cases hf⟩
 | x::r,h=>by
  obtain ⟨fs,e,h'⟩:=zlA r λe he=>h e (List.mem_cons_of_mem _ he)
  obtain ⟨f,ef,hf⟩:=h x List.mem_cons_self
  exact ⟨f::fs,by rw[e,ef];rfl,λg hg=>by
   rcases List.mem_cons.mp hg with rfl | hg
   ·exact hf
   ·exact h' g hg⟩
theorem zd8 {x y:List Str}(h:x.map PyData.str=y.map PyData.str):x=y:=(List.map_inj_right (λ_ _ z=>by injection z)).mp h
theorem zlY {p q:Int×Int}(h:dF p=dF q):p=q:=by
 injection h with z;injection z with z1 z2;injection z2 with z2 _;injection z1 with z1;injection z2 with z2;exact Prod.ext z1 z2
theorem zgK {x y:List (Int×Int)}(h:x.map dF=y.map dF):x=y:=(List.map_inj_right λ_ _ z=>zlY z).mp h
section
variable {P:Program}{w:World}{K:PySem.W.Frag}{mg:Str->Option Value}{base:Heap}{d c:Addr}{G:Hp}{σ:St}
theorem zdQ {i:Nat}(hi:σ[i]?=some (some (.ref d))):Dv K d c 1 (tNx K i) σ G λx=>∃ r:Int,x = .int r/\True:=
 (X8 (R:=RNx) hi Zr ⟨.int 0,rfl,0,rfl⟩).imp λx h=>by obtain ⟨_,r,rfl⟩:=h;exact ⟨r,rfl,trivial⟩
theorem zel {m n:Nat}{ta tb:TE}{B:Int}(ha:Dv K d c m ta σ G λx=>∃ i:Int,x = .int i/\True)(hb:Dv K d c n tb σ G λx=>∃ i:Int,x = .int i/\(0<i/\i<=B)):Dv K d c (m+n) (zfe ta tb) σ G λx=>∃ r:Int,x = .int r/\0<=r/\r<B:=
 zke ha hb λi j _ hj=>⟨hj.1,_,⟨i % j,rfl,by have:=m2 i j hj.1;omega,by have:=m2 i j hj.1;omega⟩,λ_=>Zv _⟩
theorem zoz {i:Int}{R:Int->Prop}(h:R i):Dv K d c 0 (tC (.int i)) σ G λx=>∃ j:Int,x = .int j/\R j:=zfa Zt ⟨i,rfl,h⟩
theorem znd {a b:Int}{R:PyData->Prop}(h1:R (.int a))(h2:R (.int b)):Dv K d c 0 (zhK (ZS (tC (.int a)) (ZS (tC (.int b)) JH))) σ G λx=>∃ ds:List PyData,x = .list ds/\(ds.length:Int)=2/\∀ e∈ds,R e:=
 zfa (zal (Zc Zt (Zc Zt Zr)) (by show 2<=sizeLine;decide)) ⟨_,rfl,rfl,λe he=>by
  rcases List.mem_cons.mp he with rfl | he
  ·exact h1
  ·rw[List.mem_singleton.mp he];exact h2⟩
theorem zko (T:Top K mg):Yi P w K mg base CX0 3 T.Jo T.fd__law_pool ["deck"] (Vc K 15 zkF):=by
 have G__law_next:Yi P w K mg base CX0 2 T.Ym T.fd__law_next ["deck"] (Vc K 1 RNx):=(JL T).mono (by decide)
 have G__law_fraction:Yi P w K mg base CX0 2 T.Xu T.fd__law_fraction ["deck"] (Vc K 1 RFr):=zdl T
 refine T.zau.ok zcC (λvs H Q E h=>?_) (λcdv A outer s H vs Q E hr h=>?_)
 ·obtain ⟨d,c,G,us,ds,rfl,_,_,_,_,hd,⟨x,rfl,_⟩,_⟩:=h
  rw[List.length_cons,hd.length];rfl
 ·obtain ⟨d,c,G,us,ds,rfl,sg,gd,gc,D,hd,⟨x,rfl,_⟩,kk⟩:=h
  cases hd.nil
  refine ⟨_,(Zo (Zy (zbB (x:= "k") (cap:=["deck"]) (js:=[0]) ⟨rfl,by decide +kernel,by decide +kernel,rfl,(by show ∀ p∈(_:List (Str×NameKind)),p.2=NameKind.free->List.lookup p.1 (Zm XC).names=some NameKind.cell;decide +kernel),by decide +kernel,by decide +kernel,by decide +kernel⟩ rfl rfl (λ_ _ h=>h) (Jd (by rfl) T.Q5 (Za (Zw W6 Zg (Zw Z0 (Zx G__law_next hr (by rfl) T.YC T.Yu.kp T.YD .nil Z3 (Za (pv 0) Zf Zd)) (ZZ (Zz (K:=K) rfl) (Xn (Za Zg (Za Zg Zf Zj) Zj)) (Zw Z0 (Zx G__law_next hr (by rfl) T.YC T.Yu.kp T.YD .nil Z3 (Za (pv 0) Zf Zd)) Zg) (λ_ _=>rfl)))) Zf Yo)) (λ_ _ _ _=>⟨Jv,(Zx G__law_fraction hr (by rfl) T.Uz T.J6.kp T.UV .nil Z3 (Za (pv 1) Zf Zd))⟩)))) ,?_⟩
  have hj:DvA K d c 2 (ZS (tOp (rI0 λi j=>.int (i+j)) (tC (.int 2)) (zfe (tNx K 0) (tOp (zeA K) (zhK (ZS (tC (.int 4)) (ZS (tC (.int 12)) JH))) (zfe (tNx K 0) (tC (.int 2)))))) JH) [some (V.ref d)] G λxs=>∃ q:Nat,xs=[.int (q:Nat)]/\2<=q/\q<=13:=
   ((zit (zkh (Ra:=λi=>i=2) (Rb:=λi=>0<=i/\i<12) (R:=λx=>∃ q:Nat,x = .int (q:Nat)/\2<=q/\q<=13) (zoz rfl) (zel (B:=12) (zdQ rfl) (zeM (q:=2) (R:=λx=>∃ i:Int,x = .int i/\(0<i/\i<=12)) (znd ⟨4,rfl,by decide⟩ ⟨12,rfl,by decide⟩) (zel (B:=2) (zdQ rfl) (zoz (by decide))))) λi j hi hj=>⟨.int (2+j),⟨(2+j).toNat,by rw[Int.toNat_of_nonneg (by omega)],by omega,by omega⟩,λ_=>by rw[hi];exact Zv _⟩) zkl).up (by decide)).imp λxs hx=>by
    obtain ⟨x,r,rfl,⟨q,rfl,h1,h2⟩,rfl⟩:=hx
    exact ⟨q,rfl,h1,h2⟩
  refine zhc (K:=K) (d:=d) (c:=c) (n:=15) (zmk (p:=2) (B:=13) (n:=1) (R:=λx=>∃ p,x=dF p/\SzP p) (Rn:=λq=>2<=q) hj (by decide) λG2 i s2 hi=>(X8 (R:=RFr) rfl Zr ⟨dF (0,1),rfl,(0,1),rfl,⟨by decide,by decide⟩,by decide⟩).imp λx h=>h.2) sg gd gc D λv x G' H' hx k1 hv=>?_
  obtain ⟨ds,rfl,h2,h13,hall⟩:=hx
  obtain ⟨ps,rfl,hps⟩:=zlA ds hall
  rw[List.length_map] at h2 h13
  exact kk v _ G' H' ⟨rfl,ps,rfl,h2,h13,hps⟩ k1 hv
theorem zmm (T:Top K mg):Yi P w K mg base CX0 2 T.Ql T.fd__law_row ["deck", "book", "pool", "most"] (Vc K 241 RRw):=by
 have G__law_next:Yi P w K mg base CX0 1 T.Ym T.fd__law_next ["deck"] (Vc K 1 RNx):=JL T
 refine T.zbi.ok Qx (λvs H Q E h=>?_) (λcdv A outer s H vs Q E hr h=>?_)
 ·obtain ⟨d,c,G,us,ds,rfl,_,_,_,_,hd,⟨x,book,pool,most,fs,rfl,_⟩,_⟩:=h
  rw[List.length_cons,hd.length];rfl
 ·obtain ⟨d,c,G,us,ds,rfl,sg,gd,gc,D,hd,⟨x,book,pool,most,fs0,rfl,⟨b1,b2,b3,b4⟩,hpl,_⟩,kk⟩:=h
  obtain ⟨v1,r1,rfl,h1,hd⟩:=hd.cons
  obtain ⟨v2,r2,rfl,h2,hd⟩:=hd.cons
  obtain ⟨v3,r3,rfl,h3,hd⟩:=hd.cons
  cases hd.nil
  rw[h3.int]
  have zl:(2000:Nat)<=sizeLine:=by decide
  refine ⟨_,(Ze (ZD (i:=4) Qx.nd rfl (Or.inl rfl) (Xn Zf))
   (Ze (Wz PassesOwn.never rfl (Jd (by rfl) T.Q5 (Za (Zw Z0 (Zx G__law_next hr (by rfl) T.YC T.Yu.kp T.YD .nil Z3 (Za (pv 0) Zf Zd)) (Zw W6 (pv 3) Zg)) Zf Yo)) (Yy (i:=5) Qx.nd rfl (Or.inl rfl)) (Zo (J5 (zaM PySem.F.plainAttrs_list PySem.F.slot_list_append PySem.F.type_list_append Wm (pv 4) (Za (Xc (YM (K:=K) rfl) (by rfl) T.Qu zhH (Za (zbB (x:= "name") (cap:=["pool", "deck"]) (js:=[2,0]) ⟨rfl,by decide +kernel,by decide +kernel,rfl,(by show ∀ p∈(_:List (Str×NameKind)),p.2=NameKind.free->List.lookup p.1 (Zm We).names=some NameKind.cell;decide +kernel),by decide +kernel,by decide +kernel,by decide +kernel⟩ rfl rfl (λ_ _ h=>h) (zbe (pv 1)) (λ_ _ _ _=>⟨Jv,(ZZ (Zz (K:=K) rfl) (pv 1) (Zw Z0 (Zx G__law_next hr (by rfl) T.YC T.Yu.kp T.YD .nil Z3 (Za (pv 2) Zf Zd)) (Yd (Yb (K:=K) rfl) (by rfl) T.zb9 PySem.boot_len (Za (pv 1) Zf Zd))) (λ_ _=>rfl))⟩)) Zf Qz)) Zf Xa)))))
   (Zo (Zy (Xc (YM (K:=K) rfl) (by rfl) T.Qu zhH (Za (pv 4) Zf Zd)))))) ,?_⟩
  refine ⟨(by show 0<=sizeLine;decide),λl hl=>?_⟩
  obtain ⟨nd,nc⟩:=Dk.ned D hl
  have gl:G l=none:=sg.free hl
  have k0:Dk 0 d c G H G (upd H l (.lst [])):=(Dk.refl sg D).wr hl gl nd nc _
  have dv1:Dv K d c 1 (zfe (tNx K 0) (tOp (rI0 λi j=>.int (i+j)) (Xq 3) (tC (.int 1)))) [some (V.ref d),some v1,some v2,some (V.int most),some (V.ref l),none] G (λx=>∃ r:Int,x = .int r/\0<=r/\r<most+1):=
   zel (m:=1) (n:=0) (zdQ rfl) (zfa (zc4 (Zb rfl (Zv _)) Zt) ⟨_,rfl,by omega,by omega⟩)
  refine Dv.use dv1 k0.gh gd gc (k0.cn 1 (D.mono (by decide))) λv5 x5 G1 H1 hx5 k1 hv5=>?_
  obtain ⟨r,rfl,r0,r1⟩:=hx5
  obtain ⟨many,rfl⟩:=Int.eq_ofNat_of_zero_le r0
  rw[hv5.int]
  have gl1:G1 l=none:=k1.out Zh gl
  have hk1:H1 l=some (.lst []):=k1.kp _ _ Zh nd nc
  have k1:=k0.trans k1
  refine ⟨(many:Int),rfl,by omega,by omega,JZ (n:=many) (λi σ H' => ∃ (v5:Option V) (G' : Hp) (xs:List V) (fs:List Fs),σ=[some (V.ref d),some v1,some v2,some (V.int most),some (V.ref l),v5]/\Dk (1+i*4) d c G H G' H' /\ G' l=none/\H' l=some (.lst xs)/\Yl K G' xs (fs.map dT)/\fs.length=i/\∀ f∈fs,FOk book.length f) ⟨_,G1,[],[],rfl,k1,gl1,hk1,ZP,rfl,λf hf=>by cases hf⟩ ?_ ?_⟩
  ·rintro i σ H' hi ⟨v5,G',xs,fs,rfl,k2,gl2,hk2,hxs,hfl,hfs⟩
   have D2:DkA 4 H' d c:=k2.cn 4 (D.mono (by omega))
   have hp2:=h2.same k2.gg
   refine ⟨_,rfl,.inl ⟨rfl,_,SqL.of hk2⟩,?_⟩
   have dv2:Dv K d c (book.length*1) (tLC (znU K (Xq 1)) [2,0] zc6 (tOp (zeA K) (Xq 1) (zfe (tNx K 2) (tLn K 1)))) [some (V.ref d),some v1,some v2,some (V.int most),some (V.ref l),some (V.int (0+(i:Int)))] G' (λx=>∃ ds:List PyData,x = .list ds/\ds.length=book.length/\∀ e∈ds,∃ p,e=dF p/\SzP p):=
    zns (n:=1) book PyData.str (Zb rfl (h1.same k2.gg)) (by omega) λG3 j x s3 hj=>zeM (m:=0) (n:=1) (q:=(pool.length:Nat)) (zfa (Zb rfl (hp2.same s3)) ⟨_,rfl,by rw[List.length_map],λe he=>by
     obtain ⟨p,hp,rfl⟩:=List.mem_map.mp he
     exact ⟨p,rfl,hpl p hp⟩⟩) (zel (m:=1) (n:=0) (zdQ rfl) (zfa (zaB (Zc (Zb rfl (hp2.same s3)) Zr)) ⟨_,rfl,by rw[List.length_map];omega,by rw[List.length_map];omega⟩))
   refine Dv.use dv2 k2.gh (k2.gd D gd) (k2.gc D gc) (D2.mono (by omega)) λv6 x6 G3 H3 hx6 k3 hv6=>?_
   obtain ⟨ds,rfl,hdl,hds⟩:=hx6
   obtain ⟨f,rfl,hf⟩:=zlA ds hds
   obtain ⟨p,ys,rfl,hp,hys⟩:=hv6.lst
   refine ⟨p,ys,rfl,.inl ⟨SqL.of (k3.gh _ _ hp),λt ht=>?_⟩⟩
   have g4:=Z5 (o:=.tup ys) k3.gh ht
   have hk3:H3 l=some (.lst xs):=k3.kp _ _ hk2 nd nc
   have gl3:G3 l=none:=k3.out hk2 gl2
   have ntl:t≠l:=λz=>by subst z;rw[hk3] at ht;cases ht
   have hk4:upd H3 t (.tup ys) l=some (.lst xs):=by rw[Zq (Ne.symm ntl)];exact hk3
   refine ⟨l,_,_,rfl,rfl,hk4,(by have:=hxs.length;rw[List.length_map] at this;omega),?_⟩
   have k34:=k2.trans (k3.trans (g4.dk k3.D0))
   refine ⟨_,upd G3 t (.tup ys),xs++[V.ref t],fs++[f],rfl,(k34.wr hl (by rw[Zq (Ne.symm ntl)];exact gl3) nd nc _).up (by omega),by rw[Zq (Ne.symm ntl)];exact gl3,Zh,?_,by rw[List.length_append,hfl];rfl,λg hg=>?_⟩
   ·rw[List.map_append]
    exact YB (hxs.same (k3.gg.trans g4.gg)) (ZG (YW (SqT.of Zh) (hys.same g4.gg)) ZP)
   ·rcases List.mem_append.mp hg with hg | hg
    ·exact hfs g hg
    ·rw[List.mem_singleton.mp hg];exact ⟨by rw[List.length_map] at hdl;exact hdl,hf⟩
  ·rintro σ H' ⟨v5,G',xs,fs,rfl,k2,gl2,hk2,hxs,hfl,hfs⟩
   refine ⟨_,rfl,l,_,rfl,.inl ⟨SqL.of hk2,λt ht=>?_⟩⟩
   have g8:=Z5 (o:=.tup xs) k2.gh ht
   exact kk (.ref t) _ _ _ ⟨book,pool,most,fs,rfl,⟨b1,b2,b3,b4⟩,hpl,rfl,by omega,hfs⟩ ((k2.trans (g8.dk k2.D0)).up (by omega)) (YW (SqT.of Zh) (hxs.same g8.gg))
end
end K32
namespace K32
open PySem L2 Frac Lw Dig PySem.NumText Nm
open Ord Num Look Rdo
def Mk (z:Str)(pool:List (Int×Int))(m:List Wd):Prop:=∃ (bo un:Str) (p q:Int),(bo=S "both" \/ bo=S "either")/\(un=S "under" \/ un=S "is")/\(p,q)∈pool/\m=[.t bo,.t un,.t z,.n p q]
def Cs (z:Str)(pool:List (Int×Int))(cs:List Wd):Prop:=Mk z pool cs\/(∃ m,Mk z pool m/\cs = .t (S "not")::m)\/∃ (x:Str) (m m' : List Wd),(x=S "and" \/ x=S "or")/\Mk z pool m/\Mk z pool m' /\ cs = .t x::(m++m')
theorem zhV {book:List Str}{z:Str}{pool:List (Int×Int)}{m:List Wd}(hb:∀ z∈book,Yc z=none)(hz:z∈book)(h:Mk z pool m):zb1 book pool z 4 m:=by
 obtain ⟨bo,un,p,q,h1,h2,h3,rfl⟩:=h
 exact zlu hb hz h3 h1 h2
theorem zib {book:List Str}{z:Str}{pool:List (Int×Int)}{cs:List Wd}(hb:∀ z∈book,Yc z=none)(hz:z∈book)(h:Cs z pool cs):zb1 book pool z 9 cs:=by
 rcases h with h | ⟨m,h,rfl⟩ | ⟨x,m,m',hx,h,h',rfl⟩
 ·obtain ⟨a,b,r⟩:=zhV hb hz h
  exact ⟨a,by omega,r⟩
 ·obtain ⟨a,b,r⟩:=znI hb (zhV hb hz h)
  exact ⟨a,by omega,r⟩
 ·exact znE hb hx (zhV hb hz h) (zhV hb hz h') (by decide)
def RCs:List PyData->PyData->Prop:=λds x=>∃ (z:Str) (pool:List (Int×Int)) (cs:List Wd),ds=[.str z,.list (pool.map dF)]/\(1<=pool.length/\pool.length<=13)/\x=dOs cs/\Cs z pool cs
theorem zjd {z:Str}{pool:List (Int×Int)}{m:List Wd}(h:Mk z pool m):m.length=4:=by obtain ⟨_,_,_,_,_,_,_,rfl⟩:=h;rfl
section
variable {P:Program}{w:World}{K:PySem.W.Frag}{mg:Str->Option Value}{base:Heap}{d c:Addr}{G:Hp}{σ:St}
theorem Y0 {ta tb:TE}{x y:List Wd}(ha:Ev K ta σ G (dOs x))(hb:Ev K tb σ G (dOs y))(hne:x≠[])(hl:x.length+y.length<=900):Ev K (tOp (ze1 K) ta tb) σ G (dOs (x++y)):=
 Qv (zk0 ha hb (by simpa using hne) (by rw[List.length_map,List.length_map];have:(2000:Nat)<=sizeLine:=(by decide);omega)) (by show PyData.tuple _=PyData.tuple _;rw[List.map_append])
theorem zbP {tb:TE}{x y:Str}{i:Int}(hb:Ev K tb σ G (.int i))(h0:0<=i)(h1:i<2):∃ z,(z=x\/z=y)/\Ev K (tOp (zeA K) (zhK (ZS (tC (.str x)) (ZS (tC (.str y)) JH))) tb) σ G (.str z):=by
 obtain ⟨e,he,hev⟩:=Uk (K:=K) (zal (Zc (Zk (x:=x)) (Zc (Zk (x:=y)) Zr)) (by show 2<=sizeLine;decide)) hb h0 h1
 have:i=0\/i=1:=by omega
 rcases this with rfl | rfl
 ·have e1:e = .str x:=(Option.some.inj he).symm
  subst e1;exact ⟨x,.inl rfl,hev⟩
 ·have e1:e = .str y:=(Option.some.inj he).symm
  subst e1;exact ⟨y,.inr rfl,hev⟩
theorem zeJ {ta tb:TE}{pool:List (Int×Int)}{i:Int}(ha:Ev K ta σ G (.list (pool.map dF)))(hb:Ev K tb σ G (.int i))(h0:0<=i)(h1:i<pool.length):∃ p,p∈pool/\Ev K (tOp (zeA K) ta tb) σ G (dF p):=by
 obtain ⟨e,he,hev⟩:=Uk (K:=K) ha hb h0 (by rw[List.length_map];exact h1)
 obtain ⟨p,hp,rfl⟩:=List.mem_map.mp (List.mem_of_getElem? he)
 exact ⟨p,hp,hev⟩
theorem zlj (T:Top K mg):Yi P w K mg base CX0 2 T.Jw T.fd__law_case ["deck", "field", "pool"] (Vc K 1 RCs):=by
 have G__law_next:Yi P w K mg base CX0 1 T.Ym T.fd__law_next ["deck"] (Vc K 1 RNx):=JL T
 refine T.zak.ok YQ (λvs H Q E h=>?_) (λcdv A outer s H vs Q E hr h=>?_)
 ·obtain ⟨d,c,G,us,ds,rfl,_,_,_,_,hd,⟨x,z,pool,cs,rfl,_⟩,_⟩:=h
  rw[List.length_cons,hd.length];rfl
 ·obtain ⟨d,c,G,us,ds,rfl,sg,gd,gc,D,hd,⟨x,z,pool,cs0,rfl,⟨p1,p2⟩,_⟩,kk⟩:=h
  obtain ⟨v1,r1,rfl,h1,hd⟩:=hd.cons
  obtain ⟨v2,r2,rfl,h2,hd⟩:=hd.cons
  cases hd.nil
  rw[h1.str]
  have zl:(2000:Nat)<=sizeLine:=by decide
  refine ⟨_,(Ze (ZD (i:=3) YQ.nd rfl (Or.inl rfl) (Zx G__law_next hr (by rfl) T.YC T.Yu.kp T.YD .nil Z3 (Za (pv 0) Zf Zd)))
   (Ze (ZD (i:=4) YQ.nd rfl (Or.inl rfl) (Xn Zf))
   (Ze (Wz PassesOwn.never rfl (Jd (by rfl) T.Q5 (Za Zg Zf Zj)) (Yy (i:=5) YQ.nd rfl (Or.inl rfl)) (Ze (ZD (i:=6) YQ.nd rfl (Or.inl rfl) (Zw YF (pv 3) (Zw W6 Zg (Zw Y9 Zg (pv 5)))))
   (Ze (ZD (i:=7) YQ.nd rfl (Or.inl rfl) (Yg (Za ZK (Za (pv 1) (Za (ZZ (Zz (K:=K) rfl) (pv 2) (Zw Z0 (Zw YF (pv 6) Zg) (Yd (Yb (K:=K) rfl) (by rfl) T.zb9 PySem.boot_len (Za (pv 2) Zf Zd))) (λ_ _=>rfl)) Zf Zu) Zd) Zj)))
   (Ze (Yt (ZF V3 (Zw Z0 (pv 6) Zg) Zg (ZR _)) (Zo (ZD (i:=7) YQ.nd rfl (Or.inl rfl) (Zw (Yh (K:=K) rfl) (Yg (Za ZK Zf Zj)) (Uj (zlr (K:=K) rfl) (pv 7) (zbt Zg) zb6)))) ZQ)
   (Zo (J5 (zaM PySem.F.plainAttrs_list PySem.F.slot_list_append PySem.F.type_list_append Wm (pv 4) (Za (Zw (Yh (K:=K) rfl) (Yg (Za (ZZ (Zz (K:=K) rfl) (Xn (Za ZK (Za ZK Zf Zj) Zj)) (Zw Z0 (Zw YF (pv 6) Zg) Zg) (λ_ _=>rfl)) Zf Zu)) (pv 7)) Zf Yo))))))))
   (Ze (Yt (ZF V3 (Zw Z0 (pv 3) Zg) Zg (ZR _)) (Zo (Zy (ZZ (Zz (K:=K) rfl) (pv 4) Zg (λ_ _=>rfl)))) ZQ)
   (Ze (Yt (ZF V3 (Zw Z0 (pv 3) Zg) Zg (ZR _)) (Zo (Zy (Zw (Yh (K:=K) rfl) (Yg (Za ZK Zf Zj)) (ZZ (Zz (K:=K) rfl) (pv 4) Zg (λ_ _=>rfl))))) ZQ)
   (Zo (Zy (Zw (Yh (K:=K) rfl) (Zw (Yh (K:=K) rfl) (Yg (Za (ZZ (Zz (K:=K) rfl) (Xn (Za ZK (Za ZK Zf Zj) Zj)) (Zw Z0 (pv 3) Zg) (λ_ _=>rfl)) Zf Zu)) (ZZ (Zz (K:=K) rfl) (pv 4) Zg (λ_ _=>rfl))) (ZZ (Zz (K:=K) rfl) (pv 4) Zg (λ_ _=>rfl)))))))))) ,?_⟩
  refine W3 (K:=K) (d:=d) (c:=c) (zdQ rfl) sg gd gc D λv3 x G1 H1 hx k1 hv3=>?_
  obtain ⟨cell,rfl,_⟩:=hx
  rw[hv3.int]
  refine ⟨(by show 0<=sizeLine;decide),λl hl=>?_⟩
  obtain ⟨nd,nc⟩:=Dk.ned k1.D0 hl
  have gl:G1 l=none:=k1.gh.free hl
  have k2:Dk 0 d c G1 H1 G1 (upd H1 l (.lst [])):=(Dk.refl k1.gh k1.D0).wr hl gl nd nc _
  refine ⟨(2:Int),rfl,by decide,by decide,JZ (n:=2) (λi σ H' => ∃ (v5 v6 v7:Option V) (G' : Hp) (xs:List V) (ms:List (List Wd)),σ=[some (V.ref d),some (V.str z),some v2,some (V.int cell),some (V.ref l),v5,v6,v7]/\Dk 0 d c G1 H1 G' H' /\ G' l=none/\H' l=some (.lst xs)/\Yl K G' xs (ms.map dOs)/\ms.length=i/\∀ m∈ms,Mk z pool m) ⟨_,_,_,G1,[],[],rfl,k2,gl,Zh,ZP,rfl,λm hm=>by cases hm⟩ ?_ ?_⟩
  ·rintro i σ H' hi ⟨v5,v6,v7,G',xs,ms,rfl,k3,gl3,hk3,hxs,hml,hms⟩
   refine Yv (K:=K) (W7 (Zb rfl (Zv cell)) (zc4 Zt (QV Zt (Zb rfl (Zv (0+(i:Int)))) (by decide) (by omega))) (by omega) (by omega)) k3.gh λv6' G4 H4 g4 hv6=>?_
   rw[hv6.int]
   generalize cell / (64+2000*(0+(i:Int)))=more
   have hp4:Dat K G4 v2 (.list (pool.map dF)):=h2.same (k1.gg.trans (k3.gg.trans g4.gg))
   have bl:=m2 (more / 8) (pool.length:Nat) (by omega)
   obtain ⟨pq,hpq,evp⟩:=zeJ (K:=K) (G:=G4) (pool:=pool) (σ:=[some (V.ref d),some (V.str z),some v2,some (V.int cell),some (V.ref l),some (V.int (0+(i:Int))),some (V.int more),v7]) (ta:=Xq 2) (tb:=zfe (tOp (rI Uw λi j=>.int (i / j)) (Xq 6) (tC (.int 8))) (tLn K 2)) (Zb rfl hp4) (Yk (W7 (Zb rfl (Zv more)) Zt (by decide) (by decide)) (Qv (zaB (Zc (Zb rfl hp4) Zr)) (by rw[List.length_map])) (by omega)) bl.1 bl.2
   refine Yv (K:=K) (x:=dOs [.t (S "under"),.t z,.n pq.1 pq.2]) (X4 (Zc Zk (Zc (Zb rfl (Z7 z)) (Zc evp Zr))) (by show 3<=sizeLine;decide)) g4.gh λv7' G5 H5 g5 hv7=>?_
   have g45:=g4.trans g5
   have fin:∀ (un:Str) (v:V) (G6 H6:Hp),(un=S "under" \/ un=S "is")->Yr G' H' G6 H6->Dat K G6 v (dOs [.t un,.t z,.n pq.1 pq.2])->∃ (bo:Str),(bo=S "both" \/ bo=S "either")/\Ev K (tOp (ze1 K) (zdn (ZS (tOp (zeA K) (zhK (ZS (tC (.str (S "both"))) (ZS (tC (.str (S "either"))) JH))) (zfe (tOp (rI Uw λi j=>.int (i / j)) (Xq 6) (tC (.int 4))) (tC (.int 2)))) JH)) (Xq 7)) [some (V.ref d),some (V.str z),some v2,some (V.int cell),some (V.ref l),some (V.int (0+(i:Int))),some (V.int more),some v] G6 (dOs [.t bo,.t un,.t z,.n pq.1 pq.2]):=λun v G6 H6 hun g6 hv=>by
    have b2:=m2 (more / 4) 2 (by decide)
    obtain ⟨bo,hbo,evb⟩:=zbP (K:=K) (G:=G6) (x:=S "both") (y:=S "either") (σ:=[some (V.ref d),some (V.str z),some v2,some (V.int cell),some (V.ref l),some (V.int (0+(i:Int))),some (V.int more),some v]) (tb:=zfe (tOp (rI Uw λi j=>.int (i / j)) (Xq 6) (tC (.int 4))) (tC (.int 2))) (Yk (W7 (Zb rfl (Zv more)) Zt (by decide) (by decide)) Zt (by decide)) b2.1 b2.2
    exact ⟨bo,hbo,Y0 (x:=[.t bo]) (y:=[.t un,.t z,.n pq.1 pq.2]) (X4 (Zc evb Zr) (by show 1<=sizeLine;decide)) (Zb rfl hv) (by simp) (by show 4<=900;decide)⟩
   refine Qw (ZV (K:=K) (J8 (Yk (Zb rfl (Zv more)) Zt (by decide)) Zt (Yn _))) g5.gh (λ_ G6 H6 g6=>?_) (λ_ G6 H6 g6=>?_)
   ·have g46:=g45.trans g6
    refine Jb (K:=K) (d:=dOs [.t (S "is"),.t z,.n pq.1 pq.2]) (Y0 (x:=[.t (S "is")]) (y:=[.t z,.n pq.1 pq.2]) (X4 (Zc Zk Zr) (by show 1<=sizeLine;decide)) (Qv (znp (lo:=some 1) (hi:=none) (Zb rfl (hv7.same g6.gg)) (λH Q q=>⟨1,rfl,q⟩) (λH Q q=>q)) (by rfl)) (by simp) (by show 3<=900;decide)) g6.gh λv8 G7 H7 g7 hv8=>?_
    have g47:=g46.trans g7
    obtain ⟨bo,hbo,evc⟩:=fin (S "is") v8 G7 H7 (.inr rfl) g47 hv8
    refine ⟨_,rfl,.inl ⟨rfl,_,SqL.of (g47.hh _ _ hk3)⟩,?_⟩
    refine evc.use g47.gh λv9 G9 H9 g9 hv9=>?_
    have g49:=g47.trans g9
    have hk9:=g49.hh _ _ hk3
    refine ⟨l,_,_,rfl,rfl,hk9,(by have:=hxs.length;rw[List.length_map] at this;omega),?_⟩
    refine ⟨_,_,_,G9,xs++[v9],ms++[[.t bo,.t (S "is"),.t z,.n pq.1 pq.2]],rfl,(k3.trans (g49.dk k3.D0)).wr hl (g49.out hk3 gl3) nd nc _,g49.out hk3 gl3,Zh,?_,by rw[List.length_append,hml];rfl,λm hm=>?_⟩
    ·rw[List.map_append]
     exact YB (hxs.same g49.gg) (ZG hv9 ZP)
    ·rcases List.mem_append.mp hm with hm | hm
     ·exact hms m hm
     ·rw[List.mem_singleton.mp hm];exact ⟨bo,(S "is"),pq.1,pq.2,hbo,(.inr rfl),hpq,rfl⟩
   ·have g46:=g45.trans g6
    obtain ⟨bo,hbo,evc⟩:=fin (S "under") v7' G6 H6 (.inl rfl) g46 (hv7.same g6.gg)
    refine ⟨_,rfl,.inl ⟨rfl,_,SqL.of (g46.hh _ _ hk3)⟩,?_⟩
    refine evc.use g46.gh λv9 G9 H9 g9 hv9=>?_
    have g49:=g46.trans g9
    have hk9:=g49.hh _ _ hk3
    refine ⟨l,_,_,rfl,rfl,hk9,(by have:=hxs.length;rw[List.length_map] at this;omega),?_⟩
    refine ⟨_,_,_,G9,xs++[v9],ms++[[.t bo,.t (S "under"),.t z,.n pq.1 pq.2]],rfl,(k3.trans (g49.dk k3.D0)).wr hl (g49.out hk3 gl3) nd nc _,g49.out hk3 gl3,Zh,?_,by rw[List.length_append,hml];rfl,λm hm=>?_⟩
    ·rw[List.map_append]
     exact YB (hxs.same g49.gg) (ZG hv9 ZP)
    ·rcases List.mem_append.mp hm with hm | hm
     ·exact hms m hm
     ·rw[List.mem_singleton.mp hm];exact ⟨bo,(S "under"),pq.1,pq.2,hbo,(.inl rfl),hpq,rfl⟩
  ·rintro σ H' ⟨v5,v6,v7,G',xs,ms,rfl,k3,gl3,hk3,hxs,hml,hms⟩
   have k4:Dk 0 d c G1 H1 (upd G' l (.lst xs)) H' := k3.put hl hk3 gl gl3
   have sG:ZL G' (upd G' l (.lst xs)):=λb o e=>by rw[Zq (Zn e gl3)];exact e
   match ms,hml,hms,hxs with
   | [m0,m1],_,hms,hxs=>
   have hm0:Mk z pool m0:=hms m0 (by simp)
   have hm1:Mk z pool m1:=hms m1 (by simp)
   have l0:=zjd hm0
   have l1:=zjd hm1
   have hM:Dat K (upd G' l (.lst xs)) (.ref l) (.list [dOs m0,dOs m1]):=YT Zh (hxs.same sG)
   generalize upd G' l (.lst xs)=G4 at k4 hM
   have k14:=k1.trans k4
   have M0:∀ {G5:Hp},ZL G4 G5->Ev K (tOp (zeA K) (Xq 4) (tC (.int 0))) [some (V.ref d),some (V.str z),some v2,some (V.int cell),some (V.ref l),v5,v6,v7] G5 (dOs m0):=λs=>YL (n:=0) (Zb rfl (hM.same s)) Zt (Xk (i:=0) (by show 0<2;decide)) rfl
   have M1:∀ {G5:Hp},ZL G4 G5->Ev K (tOp (zeA K) (Xq 4) (tC (.int 1))) [some (V.ref d),some (V.str z),some v2,some (V.int cell),some (V.ref l),v5,v6,v7] G5 (dOs m1):=λs=>YL (n:=1) (Zb rfl (hM.same s)) Zt (Xk (i:=1) (by show 1<2;decide)) rfl
   have FIN:∀ (v:V) (cs:List Wd) (G5 H5:Hp),Yr G4 H' G5 H5->Dat K G5 v (dOs cs)->Cs z pool cs->Q v H5:=λv cs G5 H5 g5 hv hc=>kk v _ G5 H5 ⟨z,pool,cs,rfl,⟨p1,p2⟩,rfl,hc⟩ ((k14.trans (g5.dk k4.D0)).up (by decide)) hv
   refine Qw (ZV (K:=K) (J8 (Yk (Zb rfl (Zv cell)) Zt (by decide)) Zt (Yn _))) k4.gh (λ_ G5 H5 g5=>?_) (λ_ G5 H5 g5=>?_)
   ·exact ZW (K:=K) (M0 g5.gg) g5.gh λv G6 H6 g6 hv=>FIN v m0 G6 H6 (g5.trans g6) hv (.inl hm0)
   refine Qw (ZV (K:=K) (J8 (Yk (Zb rfl (Zv cell)) Zt (by decide)) Zt (Yn _))) g5.gh (λ_ G6 H6 g6=>?_) (λ_ G6 H6 g6=>?_)
   ·have g56:=g5.trans g6
    exact ZW (K:=K) (Y0 (x:=[.t (S "not")]) (X4 (Zc Zk Zr) (by show 1<=sizeLine;decide)) (M0 g56.gg) (by simp) (by show 1+m0.length<=900;omega)) g6.gh λv G7 H7 g7 hv=>FIN v _ G7 H7 (g56.trans g7) hv (.inr (.inl ⟨m0,hm0,rfl⟩))
   ·have g56:=g5.trans g6
    have b2:=m2 cell 2 (by decide)
    obtain ⟨x,hx,evx⟩:=zbP (K:=K) (G:=G6) (x:=S "and") (y:=S "or") (σ:=[some (V.ref d),some (V.str z),some v2,some (V.int cell),some (V.ref l),v5,v6,v7]) (tb:=zfe (Xq 3) (tC (.int 2))) (Yk (Zb rfl (Zv cell)) Zt (by decide)) b2.1 b2.2
    refine ZW (K:=K) (Y0 (x:=[.t x]++m0) (y:=m1) (Y0 (x:=[.t x]) (X4 (Zc evx Zr) (by show 1<=sizeLine;decide)) (M0 g56.gg) (by simp) (by show 1+m0.length<=900;omega)) (M1 g56.gg) (by simp) (by show (m0.length+1)+m1.length<=900;omega)) g6.gh λv G7 H7 g7 hv=>?_
    exact FIN v _ G7 H7 (g56.trans g7) hv (.inr (.inr ⟨x,m0,m1,hx,hm0,hm1,rfl⟩))
end
end K32
namespace K32
open PySem L2 Frac Lw Dig PySem.NumText Nm
open Ord Num Look Rdo
def oN:Nat->Nat
 | 0=>1
 | n+1=>2*oN n+4
def lN:Nat->Nat
 | 0=>2
 | n+1=>2*lN n+16
theorem znv (n:Nat):1<=oN n:=by cases n with | zero=>exact Nat.le_refl _ | succ n=>show 1<=2*oN n+4;omega
theorem zhU (n:Nat):2<=lN n:=by cases n with | zero=>exact Nat.le_refl _ | succ n=>show 2<=2*lN n+16;omega
def ROr (n:Nat):List PyData->PyData->Prop:=λds x=>∃ (book:List Str) (pool:List (Int×Int)) (deep:Nat) (ws:List Wd),ds=[.tuple (book.map PyData.str),.list (pool.map dF),.int (deep:Nat)]/\deep<=n/\(1<=book.length/\book.length<=4/\1<=pool.length/\pool.length<=13)/\(∀ p∈pool,SzP p)/\(∀ z∈book,Yc z=none)/\x=dOs ws/\Gw book pool (lN n) ws
theorem zbJ {n:Nat}{book:List Str}{pool:List (Int×Int)}{i:Int}{x:PyData}(h:ROr n [.tuple (book.map PyData.str),.list (pool.map dF),.int i] x):∃ ws,x=dOs ws/\Gw book pool (lN n) ws:=by
 obtain ⟨bk,pl,dp,ws,e,_,_,_,_,rfl,g⟩:=h
 injection e with e1 e
 injection e with e2 e
 injection e1 with e1
 injection e2 with e2
 have q1:=zd8 e1
 have q2:=zgK e2
 subst q1 q2
 exact ⟨ws,rfl,g⟩
theorem zjr {n:Nat}{book:List Str}{pool:List (Int×Int)}{deep:Nat}(hd:deep<=n)(hb:1<=book.length/\book.length<=4/\1<=pool.length/\pool.length<=13)(hp:∀ p∈pool,SzP p)(hw:∀ z∈book,Yc z=none):∃ x,ROr n [.tuple (book.map PyData.str),.list (pool.map dF),.int (deep:Nat)] x:=
 ⟨_,book,pool,deep,[.t (S "like")],rfl,hd,hb,hp,hw,rfl,zho hw (by have:=zhU n;omega)⟩
theorem zkQ {z:Str}{pool:List (Int×Int)}{x:PyData}(h:RCs [.str z,.list (pool.map dF)] x):∃ cs,x=dOs cs/\Cs z pool cs:=by
 obtain ⟨z',pl,cs,e,_,rfl,g⟩:=h
 injection e with e1 e
 injection e with e2 e
 injection e1 with e1
 injection e2 with e2
 have q2:=zgK e2
 subst e1 q2
 exact ⟨cs,rfl,g⟩
theorem zme {z:Str}{pool:List (Int×Int)}(p1:1<=pool.length)(p2:pool.length<=13):∃ x,RCs [.str z,.list (pool.map dF)] x:=by
 cases pool with
 | nil=>cases p1
 | cons p r=>exact ⟨_,z,p::r,[.t (S "both"),.t (S "under"),.t z,.n p.1 p.2],rfl,⟨p1,p2⟩,rfl,.inl ⟨S "both",S "under",p.1,p.2,.inl rfl,.inl rfl,List.mem_cons_self,rfl⟩⟩
def zn8:Sp:=λ_ _ _ _=>False
section
variable {P:Program}{w:World}{K:PySem.W.Frag}{mg:Str->Option Value}{base:Heap}{d c:Addr}{G:Hp}{σ:St}
theorem ziK {ta tb:TE}{book:List Str}{i:Int}(ha:Ev K ta σ G (.tuple (book.map PyData.str)))(hb:Ev K tb σ G (.int i))(h0:0<=i)(h1:i<book.length):∃ z,z∈book/\Ev K (tOp (zlL K) ta tb) σ G (.str z):=by
 obtain ⟨j,rfl⟩:=Int.eq_ofNat_of_zero_le h0
 have hj:j<book.length:=by omega
 exact ⟨book[j],List.getElem_mem hj,JB (n:=j) ha hb (by rw[List.length_map];exact Xk hj) (by rw[List.getElem?_map,List.getElem?_eq_getElem hj];rfl)⟩
theorem zeP {t:TE}{ws:List Wd}(h:Ev K t σ G (dOs ws)):Dv K d c 0 t σ G λx=>∃ w,x=dOs w/\w=ws:=zfa h ⟨ws,rfl,rfl⟩
theorem zb0 {m n:Nat}{ta tb:TE}{Ra Rb:List Wd->Prop}(ha:Dv K d c m ta σ G λx=>∃ w,x=dOs w/\Ra w)(hb:Dv K d c n tb σ G λx=>∃ w,x=dOs w/\Rb w)(h:∀ a b,Ra a->Rb b->a≠[]/\a.length+b.length<=900):Dv K d c (m+n) (tOp (ze1 K) ta tb) σ G λx=>∃ w,x=dOs w/\∃ a b,w=a++b/\Ra a/\Rb b:=
 zi5 ha hb λa b va vb G' h1 h2 s hva hvb=>by
  obtain ⟨x,rfl,hx⟩:=h1
  obtain ⟨y,rfl,hy⟩:=h2
  exact ⟨_,⟨x++y,rfl,x,y,rfl,hx,hy⟩,Y0 (zgb hva) (zgb hvb) (h x y hx hy).1 (h x y hx hy).2⟩
theorem zco (T:Top K mg)(N:Nat)(sp:Sp)(hsp:∀ m,N=m+1->sp=Vc K (oN m) (ROr m))(hn:lN N<=800)(G__law_order:Yi P w K mg base CX0 (N+2) T.Yz T.fd__law_order ["deck", "book", "pool", "deep"] sp):Yi P w K mg base CX0 (N+3) T.Yz T.fd__law_order ["deck", "book", "pool", "deep"] (Vc K (oN N) (ROr N)):=by
 have on:=znv N
 have G__law_next:Yi P w K mg base CX0 (N+2) T.Ym T.fd__law_next ["deck"] (Vc K 1 RNx):=(JL T).mono (by omega)
 have G__law_case:Yi P w K mg base CX0 (N+2) T.Jw T.fd__law_case ["deck", "field", "pool"] (Vc K 1 RCs):=(zlj T).mono (by omega)
 refine T.Xp.ok Ys (λvs H Q E h=>?_) (λcdv A outer s H vs Q E hr h=>?_)
 ·obtain ⟨d,c,G,us,ds,rfl,_,_,_,_,hd,⟨x,book,pool,deep,ws,rfl,_⟩,_⟩:=h
  rw[List.length_cons,hd.length];rfl
 ·obtain ⟨d,c,G,us,ds,rfl,sg,gd,gc,D,hd,⟨x,book,pool,deep,ws0,rfl,hdeep,⟨b1,b2,p1,p2⟩,hpl,hwd,_⟩,kk⟩:=h
  obtain ⟨v1,r1,rfl,h1,hd⟩:=hd.cons
  obtain ⟨v2,r2,rfl,h2,hd⟩:=hd.cons
  obtain ⟨v3,r3,rfl,h3,hd⟩:=hd.cons
  cases hd.nil
  rw[h3.int]
  have FIN:∀ (v:V) (ws:List Wd) (G5 H5:Hp),Dk (oN N) d c G H G5 H5->Dat K G5 v (dOs ws)->Gw book pool (lN N) ws->Q v H5:=λv ws G5 H5 g5 hv hc=>kk v _ G5 H5 ⟨book,pool,deep,ws,rfl,hdeep,⟨b1,b2,p1,p2⟩,hpl,hwd,rfl,hc⟩ g5 hv
  refine ⟨_,(Ze (ZD (i:=4) Ys.nd rfl (Or.inl rfl) (Zx G__law_next hr (by rfl) T.YC T.Yu.kp T.YD .nil Z3 (Za (pv 0) Zf Zd)))
   (Ze (ZD (i:=5) Ys.nd rfl (Or.inl rfl) (ZZ (Xr (K:=K) rfl) (pv 1) (Zw Z0 (Zw YF (pv 4) Zg) (Yd (Yb (K:=K) rfl) (by rfl) T.zb9 PySem.boot_len (Za (pv 1) Zf Zd))) (λ_ _=>rfl)))
   (Ze (ZD (i:=6) Ys.nd rfl (Or.inl rfl) (Yg (Za (ZZ (Zz (K:=K) rfl) (Xn (Za ZK (Za ZK Zf Zj) Zj)) (Zw Z0 (Zw YF (pv 4) Zg) Zg) (λ_ _=>rfl)) (Za (pv 5) Zf Zd) Zu)))
   (Ze (Yt ((pw_or (ZF X7 (pv 3) Zg (ZR _)) (pw_or1 (ZF V3 (Zw Z0 (pv 4) Zg) Zg (ZR _))))).pt (Zo (Zy (ZZ (Zz (K:=K) rfl) (Xn (Za (pv 6) (Za (pv 6) (Za (Yg (Za ZK Zf Zj)) Zf Xh) Zd) Zd)) (Zw Z0 (Zw YF (pv 4) Zg) Zg) (λ_ _=>rfl)))) ZQ)
   (Ze (ZD (i:=7) Ys.nd rfl (Or.inl rfl) (Zx G__law_order hr (by rfl) T.WD T.Xp.kp T.WP .nil Z3 (Za (pv 0) (Za (pv 1) (Za (pv 2) (Za (Zw Ja (pv 3) Zg) Zf Yo) Zd) Zd) Zd)))
   (Ze (Yt (ZF V3 (Zw Z0 (pv 4) Zg) Zg (ZR _)) (Zo (Zy (Zw (Yh (K:=K) rfl) (Zw (Yh (K:=K) rfl) (Yg (Za ZK Zf Zj)) (pv 7)) (Zx G__law_order hr (by rfl) T.WD T.Xp.kp T.WP .nil Z3 (Za (pv 0) (Za (pv 1) (Za (pv 2) (Za (Zw Ja (pv 3) Zg) Zf Yo) Zd) Zd) Zd))))) ZQ)
   (Ze (Yt (ZF X7 (Zw Z0 (pv 4) Zg) Zg (ZR _)) (Zo (Zy (Zw (Yh (K:=K) rfl) (Yg (Za ZK Zf Zj)) (pv 7)))) ZQ)
   (Ze (Yt (ZF X7 (Zw Z0 (pv 4) Zg) Zg (ZR _)) (Zo (Zy (Zw (Yh (K:=K) rfl) (Zw (Yh (K:=K) rfl) (Yg (Za ZK (Za ZK (Za (pv 5) Zf Zd) Zj) Zj)) (pv 7)) (pv 6)))) ZQ)
   (Ze (ZD (i:=8) Ys.nd rfl (Or.inl rfl) (Zx G__law_order hr (by rfl) T.WD T.Xp.kp T.WP .nil Z3 (Za (pv 0) (Za (pv 1) (Za (pv 2) (Za Zg Zf Zj) Zd) Zd) Zd)))
   (Ze (Yt (ZF V3 (Zw Z0 (pv 4) Zg) Zg (ZR _)) (Zo (Zy (Zw (Yh (K:=K) rfl) (Zw (Yh (K:=K) rfl) (Zw (Yh (K:=K) rfl) (Zw (Yh (K:=K) rfl) (Zw (Yh (K:=K) rfl) (Yg (Za ZK Zf Zj)) (pv 6)) (Yg (Za ZK Zf Zj))) (Zx G__law_case hr (by rfl) T.zdS T.zak.kp T.zdy .nil Z3 (Za (pv 0) (Za (pv 5) (Za (pv 2) Zf Zd) Zd) Zd))) (pv 7)) (pv 8)))) ZQ)
   (Ze (ZD (i:=9) Ys.nd rfl (Or.inl rfl) (Yg (Za ZK (Za (pv 5) (Za (ZZ (Zz (K:=K) rfl) (pv 2) (Zw Z0 (Zw YF (pv 4) Zg) (Yd (Yb (K:=K) rfl) (by rfl) T.zb9 PySem.boot_len (Za (pv 2) Zf Zd))) (λ_ _=>rfl)) Zf Zu) Zd) Zj)))
   (Zo (Zy (Zw (Yh (K:=K) rfl) (Zw (Yh (K:=K) rfl) (Zw (Yh (K:=K) rfl) (Zw (Yh (K:=K) rfl) (Zw (Yh (K:=K) rfl) (Yg (Za ZK (Za ZK (Za ZK Zf Zj) Zj) Zj)) (pv 9)) (Yg (Za ZK (Za ZK Zf Zj) Zj))) (pv 9)) (pv 7)) (pv 6))))))))))))))) ,?_⟩
  refine W3 (K:=K) (d:=d) (c:=c) (zdQ rfl) sg gd gc (D.mono (by omega)) λv4 x G1 H1 hx k1 hv4=>?_
  obtain ⟨cell,rfl,_⟩:=hx
  rw[hv4.int]
  have bl:=m2 (cell / 9) (book.length:Nat) (by omega)
  have h11:=h1.same k1.gg
  obtain ⟨z,hz,evz⟩:=ziK (K:=K) (G:=G1) (book:=book) (σ:=[some (V.ref d),some v1,some v2,some (V.int deep),some (V.int cell),none,none,none,none,none]) (ta:=Xq 1) (tb:=zfe (tOp (rI Uw λi j=>.int (i / j)) (Xq 4) (tC (.int 9))) (tLn K 1)) (Zb rfl h11) (Yk (W7 (Zb rfl (Zv cell)) Zt (by decide) (by decide)) (Qv (zax (Zc (Zb rfl h11) Zr)) (by rw[List.length_map])) (by omega)) bl.1 bl.2
  refine Yv (K:=K) evz k1.gh λv5 G2 H2 g2 hv5=>?_
  rw[hv5.str]
  have b2' := m2 (cell / 36) 2 (by decide)
  obtain ⟨u,hu,evu⟩:=zbP (K:=K) (G:=G2) (x:=S "up") (y:=S "down") (σ:=[some (V.ref d),some v1,some v2,some (V.int deep),some (V.int cell),some (V.str z),none,none,none,none]) (tb:=zfe (tOp (rI Uw λi j=>.int (i / j)) (Xq 4) (tC (.int 36))) (tC (.int 2))) (Yk (W7 (Zb rfl (Zv cell)) Zt (by decide) (by decide)) Zt (by decide)) b2'.1 b2'.2
  have hleaf:zlM book z [.t u,.t z]:=by rcases hu with rfl | rfl;exact .inl rfl;exact .inr rfl
  refine Yv (K:=K) (x:=dOs [.t u,.t z]) (X4 (Zc evu (Zc (Zb rfl (Z7 z)) Zr)) (by show 2<=sizeLine;decide)) g2.gh λv6 G3 H3 g3 hv6=>?_
  have g23:=g2.trans g3
  have k3:=k1.trans (g23.dk k1.D0)
  generalize hLf:([.t u,.t z]:List Wd)=leaf at hv6 hleaf
  have lfl:leaf.length=2:=by rw[← hLf];rfl
  clear hLf
  have PICK:∀ (G4 H4:Hp),Yr G3 H3 G4 H4->znM (tOp (zeA K) (zhK (ZS (Xq 6) (ZS (Xq 6) (ZS (zdn (ZS (tC (.str (S "like"))) JH)) JH)))) (zfe (tOp (rI Uw λi j=>.int (i / j)) (Xq 4) (tC (.int 72))) (tC (.int 3)))) { nx:=λx H' => False,rt:=Q } [some (V.ref d),some v1,some v2,some (V.int deep),some (V.int cell),some (V.str z),some v6,none,none,none] H4:=λG4 H4 g4=>by
   have b3:=m2 (cell / 72) 3 (by decide)
   obtain ⟨e,he,hev⟩:=Uk (K:=K) (G:=G4) (i:=cell / 72 % 3) (σ:=[some (V.ref d),some v1,some v2,some (V.int deep),some (V.int cell),some (V.str z),some v6,none,none,none]) (zal (Zc (Zb (i:=6) rfl (hv6.same g4.gg)) (Zc (Zb (i:=6) rfl (hv6.same g4.gg)) (Zc (X4 (Zc (Zk (x:=S "like")) Zr) (by show 1<=sizeLine;decide)) Zr))) (by show 3<=sizeLine;decide)) (Yk (W7 (Zb (i:=4) rfl (Zv cell)) Zt (by decide) (by decide)) Zt (by decide)) b3.1 b3.2
   have hR:∃ ws,e=dOs ws/\Gw book pool (lN N) ws:=by
    have hm:=List.mem_of_getElem? he
    simp only[List.mem_cons,List.not_mem_nil,or_false] at hm
    rcases hm with rfl | rfl | rfl
    ·exact ⟨leaf,rfl,zgu hwd hz hleaf (zhU N)⟩
    ·exact ⟨leaf,rfl,zgu hwd hz hleaf (zhU N)⟩
    ·exact ⟨[.t (S "like")],rfl,zho hwd (by have:=zhU N;omega)⟩
   obtain ⟨ws,rfl,hg⟩:=hR
   exact ZW (K:=K) hev g4.gh λv G5 H5 g5 hv=>FIN v ws G5 H5 ((k3.trans ((g4.trans g5).dk k3.D0)).up (by omega)) hv hg
  have b9:=m2 cell 9 (by decide)
  refine Qw (zhn (ZV (K:=K) (zbl (Zb rfl (Zv _)) Zt)) λ_=>ZV (K:=K) (J8 (Yk (Zb rfl (Zv cell)) Zt (by decide)) Zt (Yn _))) g3.gh (λ_ G4 H4 g4=>PICK G4 H4 g4) (λhne G4 H4 g4=>?_)
  have hd1:deep≠0:=by
   rintro rfl
   rw[Bool.or_eq_false_iff] at hne
   exact absurd hne.1 (by decide)
  obtain ⟨dp,rfl⟩:∃ dp,deep=dp+1:=⟨deep-1,by omega⟩
  clear hne PICK
  obtain ⟨n,rfl⟩:∃ n,N=n+1:=⟨N-1,by omega⟩
  obtain rfl:=hsp n rfl
  have on:=znv n
  have hn' : 2*lN n+16<=800:=hn
  have k4:=k3.trans (g4.dk k3.D0)
  have D4:=k4.cn (oN n+(oN n+1)) (D.mono (by show _<=2*oN n+4;omega))
  have gd4:=k4.gd D gd
  have gc4:=k4.gc D gc
  have hb4:=h1.same k4.gg
  have hp4:=h2.same k4.gg
  have hv6:=hv6.same g4.gg
  have EX:∀ dd:Nat,dd<=n->∃ x,ROr n [.tuple (book.map PyData.str),.list (pool.map dF),.int (dd:Nat)] x:=λdd h=>zjr h ⟨b1,b2,p1,p2⟩ hpl hwd
  have hdn:dp<=n:=by omega
  have DM:∀ {σ' : St} {G' : Hp},σ'[3]?=some (some (.int ((dp+1:Nat):Int)))->Ev K (tOp (rI0 λi j=>.int (i-j)) (Xq 3) (tC (.int 1))) σ' G' (.int (dp:Nat)):=λe=>Qv (JX (Zb e (Zv _)) Zt) (by congr 1;omega)
  refine W3 (K:=K) (d:=d) (c:=c) (n:=oN n) ((X8 (R:=ROr n) rfl (Zc (Zb rfl hb4) (Zc (Zb rfl hp4) (Zc (DM rfl) Zr))) (EX dp hdn)).imp λx hx=>zbJ hx) g4.gh gd4 gc4 (D4.mono (by omega)) λv7 x7 G5 H5 hx7 k5 hv7=>?_
  obtain ⟨one,rfl,gone⟩:=hx7
  have D5:DkA (oN n+1) H5 d c:=k5.zaH D4
  have hv6:=hv6.same k5.gg
  have k5:=k4.trans k5
  have gd5:=k5.gd D gd
  have gc5:=k5.gc D gc
  have l1:=gone.2.1
  refine Qw (ZV (K:=K) (J8 (Yk (Zb rfl (Zv cell)) Zt (by decide)) Zt (Yn _))) k5.gh (λ_ G6 H6 g6=>?_) (λ_ G6 H6 g6=>?_)
  ·have k6:=k5.trans (g6.dk k5.D0)
   refine zhc (K:=K) (d:=d) (c:=c) (n:=0+oN n) (zb0 (zeP (Y0 (x:=[.t (S "then")]) (y:=one) (X4 (Zc Zk Zr) (by show 1<=sizeLine;decide)) (Zb rfl (hv7.same g6.gg)) (by simp) (by show 1+one.length<=900;omega))) ((X8 (R:=ROr n) rfl (Zc (Zb rfl (h1.same k6.gg)) (Zc (Zb rfl (h2.same k6.gg)) (Zc (DM rfl) Zr))) (EX dp hdn)).imp λx hx=>zbJ hx) λa b ha hb=>⟨by rw[ha];simp,by rw[ha];have:=hb.2.1;show (one.length+1)+b.length<=900;omega⟩) g6.gh (k6.gd D gd) (k6.gc D gc) ((D5.same g6.hh).mono (by omega)) λv x G7 H7 hx k7 hv=>?_
   obtain ⟨ws,rfl,a,b,rfl,rfl,hb⟩:=hx
   exact FIN v _ G7 H7 ((k6.trans k7).up (by show _<=2*oN n+4;omega)) hv (zls hwd gone hb (by show _<=2*lN n+16;omega))
  have g56:=g6
  have k6:=k5.trans (g6.dk k5.D0)
  refine Qw (ZV (K:=K) (zbl (Yk (Zb rfl (Zv cell)) Zt (by decide)) Zt)) g6.gh (λ_ G7 H7 g7=>?_) (λ_ G7 H7 g7=>?_)
  ·have k7:=k6.trans (g7.dk k6.D0)
   refine ZW (K:=K) (Y0 (x:=[.t (S "turn")]) (y:=one) (X4 (Zc Zk Zr) (by show 1<=sizeLine;decide)) (Zb rfl ((hv7.same g6.gg).same g7.gg)) (by simp) (by show 1+one.length<=900;omega)) g7.gh λv G8 H8 g8 hv=>?_
   exact FIN v _ G8 H8 ((k7.trans (g8.dk k7.D0)).up (by show _<=2*oN n+4;omega)) hv (zlw hwd gone (by show _<=2*lN n+16;omega))
  have k7:=k6.trans (g7.dk k6.D0)
  have g57:=g6.trans g7
  refine Qw (ZV (K:=K) (zbl (Yk (Zb rfl (Zv cell)) Zt (by decide)) Zt)) g7.gh (λ_ G8 H8 g8=>?_) (λ_ G8 H8 g8=>?_)
  ·have k8:=k7.trans (g8.dk k7.D0)
   have g58:=g57.trans g8
   refine ZW (K:=K) (Y0 (x:=[.t (S "pick"),.t (S "same"),.t z]++one) (y:=leaf) (Y0 (x:=[.t (S "pick"),.t (S "same"),.t z]) (y:=one) (X4 (Zc Zk (Zc Zk (Zc (Zb rfl (Z7 z)) Zr))) (by show 3<=sizeLine;decide)) (Zb rfl (hv7.same g58.gg)) (by simp) (by show 3+one.length<=900;omega)) (Zb rfl (hv6.same g58.gg)) (by simp) (by show (one.length+1+1+1)+leaf.length<=900;omega)) g8.gh λv G9 H9 g9 hv=>?_
   refine FIN v _ G9 H9 ((k8.trans (g9.dk k8.D0)).up (by show _<=2*oN n+4;omega)) hv ?_
   have e:[.t (S "pick"),.t (S "same"),.t z]++one++leaf=(.t (S "pick")::([.t (S "same"),.t z]++(one++leaf)):List Wd):=by rw[List.append_assoc];rfl
   rw[e]
   exact zkd hwd hz gone hleaf (by show _<=2*lN n+16;omega)
  have k8:=k7.trans (g8.dk k7.D0)
  have g58:=g57.trans g8
  have gd8:=k8.gd D gd
  have gc8:=k8.gc D gc
  refine W3 (K:=K) (d:=d) (c:=c) (n:=oN n) ((X8 (R:=ROr n) rfl (Zc (Zb rfl (h1.same k8.gg)) (Zc (Zb rfl (h2.same k8.gg)) (Zc Zt Zr))) (EX 0 (Nat.zero_le _))).imp λx hx=>zbJ hx) g8.gh gd8 gc8 ((D5.same g58.hh).mono (by omega)) λv8 x8 G9 H9 hx8 k9' hv8=>?_
  obtain ⟨other,rfl,goth⟩:=hx8
  have l2:=goth.2.1
  have D9:DkA 1 H9 d c:=k9'.zaH (D5.same g58.hh)
  have k9:=k8.trans k9'
  have s59:=g58.gg.trans k9'.gg
  have hv7:=hv7.same s59
  have hv6:=hv6.same s59
  refine Qw (ZV (K:=K) (J8 (Yk (Zb rfl (Zv cell)) Zt (by decide)) Zt (Yn _))) k9.gh (λ_ Ga Ha ga=>?_) (λ_ Ga Ha ga=>?_)
  ·have ka:=k9.trans (ga.dk k9.D0)
   refine zhc (K:=K) (d:=d) (c:=c) (n:=0+1+0+0) (zb0 (zb0 (zb0 (zeP (Y0 (x:=[.t (S "then")]++leaf) (y:=[.t (S "pick")]) (Y0 (x:=[.t (S "then")]) (y:=leaf) (X4 (Zc Zk Zr) (by show 1<=sizeLine;decide)) (Zb rfl (hv6.same ga.gg)) (by simp) (by show 1+leaf.length<=900;omega)) (X4 (Zc Zk Zr) (by show 1<=sizeLine;decide)) (by simp) (by show (leaf.length+1)+1<=900;omega)))
    ((X8 (R:=RCs) rfl (Zc (Zb rfl (Z7 z)) (Zc (Zb rfl (h2.same ka.gg)) Zr)) (zme p1 p2)).imp λx hx=>zkQ hx) λa b ha hb=>⟨by rw[ha];simp,by rw[ha];have:=(zib hwd hz hb).2.1;simp only[List.length_append,List.length_cons,List.length_nil];omega⟩)
    (zeP (Zb rfl (hv7.same ga.gg))) λa b ha hb=>⟨by obtain ⟨x,y,rfl,rfl,_⟩:=ha;simp,by obtain ⟨x,y,rfl,rfl,hc⟩:=ha;have:=(zib hwd hz hc).2.1;rw[hb];simp only[List.length_append,List.length_cons,List.length_nil];omega⟩)
    (zeP (Zb rfl (hv8.same ga.gg))) λa b ha hb=>⟨by obtain ⟨x,y,rfl,⟨x',y',rfl,rfl,_⟩,_⟩:=ha;simp,by obtain ⟨x,y,rfl,⟨x',y',rfl,rfl,hc⟩,rfl⟩:=ha;have:=(zib hwd hz hc).2.1;rw[hb];simp only[List.length_append,List.length_cons,List.length_nil];omega⟩) ga.gh (ka.gd D gd) (ka.gc D gc) (D9.same ga.hh) λv x Gb Hb hx kb hv=>?_
   obtain ⟨ws,rfl,a,b,rfl,⟨a',b',rfl,⟨a'',cs,rfl,rfl,hcs⟩,rfl⟩,rfl⟩:=hx
   refine FIN v _ Gb Hb ((ka.trans kb).up (by show _<=2*oN n+4;omega)) hv ?_
   have e:[.t (S "then")]++leaf++[.t (S "pick")]++cs++b'++b=(.t (S "then")::(leaf++(.t (S "pick")::(cs++(b'++b)))):List Wd):=by simp[List.append_assoc]
   rw[e]
   exact zk9 hwd hz hleaf (zib hwd hz hcs) gone goth (by show _<=2*lN n+16;omega)
  have ka:=k9.trans (ga.dk k9.D0)
  have hpa:=h2.same ka.gg
  have bp:=m2 (cell / 288) (pool.length:Nat) (by omega)
  obtain ⟨pq,hpq,evp⟩:=zeJ (K:=K) (G:=Ga) (pool:=pool) (σ:=[some (V.ref d),some v1,some v2,some (V.int (dp+1:Nat)),some (V.int cell),some (V.str z),some v6,some v7,some v8,none]) (ta:=Xq 2) (tb:=zfe (tOp (rI Uw λi j=>.int (i / j)) (Xq 4) (tC (.int 288))) (tLn K 2)) (Zb rfl hpa) (Yk (W7 (Zb rfl (Zv cell)) Zt (by decide) (by decide)) (Qv (zaB (Zc (Zb rfl hpa) Zr)) (by rw[List.length_map])) (by omega)) bp.1 bp.2
  refine Yv (K:=K) (x:=dOs [.t (S "under"),.t z,.n pq.1 pq.2]) (X4 (Zc Zk (Zc (Zb rfl (Z7 z)) (Zc evp Zr))) (by show 3<=sizeLine;decide)) ga.gh λv9 Gb Hb gb hv9=>?_
  have kb:=ka.trans (gb.dk ka.D0)
  have sab:=ga.gg.trans gb.gg
  generalize hmk:([.t (S "under"),.t z,.n pq.1 pq.2]:List Wd)=mark at hv9
  have ml:mark.length=3:=by rw[← hmk];rfl
  refine ZW (K:=K) (Y0 (x:=[.t (S "pick"),.t (S "or"),.t (S "both")]++mark++[.t (S "not"),.t (S "either")]++mark++one) (y:=leaf) (Y0 (x:=[.t (S "pick"),.t (S "or"),.t (S "both")]++mark++[.t (S "not"),.t (S "either")]++mark) (y:=one) (Y0 (x:=[.t (S "pick"),.t (S "or"),.t (S "both")]++mark++[.t (S "not"),.t (S "either")]) (y:=mark) (Y0 (x:=[.t (S "pick"),.t (S "or"),.t (S "both")]++mark) (y:=[.t (S "not"),.t (S "either")]) (Y0 (x:=[.t (S "pick"),.t (S "or"),.t (S "both")]) (y:=mark) (X4 (Zc Zk (Zc Zk (Zc Zk Zr))) (by show 3<=sizeLine;decide)) (Zb rfl hv9) (by simp) (by simp only[List.length_append,List.length_cons,List.length_nil];omega)) (X4 (Zc Zk (Zc Zk Zr)) (by show 2<=sizeLine;decide)) (by simp) (by simp only[List.length_append,List.length_cons,List.length_nil];omega)) (Zb rfl hv9) (by simp) (by simp only[List.length_append,List.length_cons,List.length_nil];omega)) (Zb rfl (hv7.same sab)) (by simp) (by simp only[List.length_append,List.length_cons,List.length_nil];omega)) (Zb rfl (hv6.same sab)) (by simp) (by simp only[List.length_append,List.length_cons,List.length_nil];omega)) gb.gh λv Gc Hc gc' hv=>?_
  refine FIN v _ Gc Hc ((kb.trans (gc'.dk kb.D0)).up (by show _<=2*oN n+4;omega)) hv ?_
  have e:[.t (S "pick"),.t (S "or"),.t (S "both")]++mark++[.t (S "not"),.t (S "either")]++mark++one++leaf=(.t (S "pick")::((.t (S "or")::([.t (S "both"),.t (S "under"),.t z,.n pq.1 pq.2]++[.t (S "not"),.t (S "either"),.t (S "under"),.t z,.n pq.1 pq.2]))++(one++leaf)):List Wd):=by rw[← hmk];simp[List.append_assoc]
  rw[e]
  exact zkp hwd hz hpq (hpl pq hpq).2 gone hleaf (by show _<=2*lN n+16;omega)
theorem zgC (T:Top K mg):Yi P w K mg base CX0 3 T.Yz T.fd__law_order ["deck", "book", "pool", "deep"] (Vc K (oN 0) (ROr 0)):=zco T 0 zn8 (λm e=>by cases e) (by decide) (T.Xp.ok Ys (λvs H Q E h=>h.elim) (λcdv A outer s H vs Q E hr h=>h.elim))
theorem zdd (T:Top K mg)(n:Nat)(hn:lN (n+1)<=800)(h:Yi P w K mg base CX0 (n+3) T.Yz T.fd__law_order ["deck", "book", "pool", "deep"] (Vc K (oN n) (ROr n))):Yi P w K mg base CX0 (n+4) T.Yz T.fd__law_order ["deck", "book", "pool", "deep"] (Vc K (oN (n+1)) (ROr (n+1))):=zco T (n+1) _ (λm e=>by injection e with e;subst e;rfl) hn h
end
end K32
namespace K32
open PySem L2 Frac Lw Dig PySem.NumText Nm
open Ord Num Look Rdo
section
variable {P:Program}{w:World}{K:PySem.W.Frag}{mg:Str->Option Value}{base:Heap}
theorem zcX {α:Type}{l:List α}{i:Nat}{x:α}(h:l[i]?=some x){p:α->Prop}(h1:∀ y∈l.take i,p y)(h2:p x):∀ y∈l.take (i+1),p y:=λy hy=>by
 rw[List.take_succ,h] at hy
 rcases List.mem_append.mp hy with hy | hy
 ·exact h1 y hy
 ·have:y=x:=by simpa using hy
  rw[this];exact h2
theorem zbk (T:Top K mg):Yi P w K mg base CX0 2 T.Y4 T.fd_against_ranks ["table"] (UL K):=by
 have G_ranks_in:Yi P w K mg base CX0 1 T.Ji T.fd_ranks_in ["table"] (spP K zer):=zex T
 have G_by_size:Yi P w K mg base CX0 1 T.QT T.fd_by_size ["one", "other"] (spP K zlz):=zj5 T
 refine T.Wr.ok Yp (λvs H Q E h=>?_) (λcdv A outer s H vs Q E hr h=>?_)
 ·obtain ⟨G,v1,L,gs,rfl,_⟩:=h
  rfl
 ·obtain ⟨G,v1,L,gs,rfl,sg,h1,hl,k1,k2⟩:=h
  have zl:(2000:Nat)<=sizeLine:=by decide
  refine ⟨_,(Ze (ZD (i:=1) Yp.nd rfl (Or.inl rfl) (Zx G_ranks_in hr (by rfl) T.zaT T.Vk.kp T.za2 .nil Z3 (Za (pv 0) Zf Zd)))
   (Ze (Wz PassesOwn.never rfl (zec (by rfl) T.Vz (Za (pv 0) Zf Zd)) (zcT (n:=2) rfl (XH (Yy (i:=2) Yp.nd rfl (Or.inl rfl)) (XH (Yy (i:=3) Yp.nd rfl (Or.inl rfl)) zac)) (by rfl)) (Zo (Wz PassesOwn.never rfl (zec (by rfl) T.Vz (Za (pv 3) Zf Zd)) (zcT (n:=2) rfl (XH (Yy (i:=4) Yp.nd rfl (Or.inl rfl)) (XH (Yy (i:=5) Yp.nd rfl (Or.inl rfl)) zac)) (by rfl)) (Zo (Yt (ZF ziP (pv 5) (Zx G_by_size hr (by rfl) T.zfV T.zcQ.kp T.zg0 .nil Z3 (Za (ZZ (Zz (K:=K) rfl) (pv 1) (pv 2) (λ_ _=>rfl)) (Za (ZZ (Zz (K:=K) rfl) (pv 1) (pv 4) (λ_ _=>rfl)) Zf Zu) Zu)) (ZR _)) (Zo (Zy (Yg (Za (pv 2) (Za (pv 4) Zf Zd) Zd)))) ZQ)))))
   (Zo (Zy zay)))) ,?_⟩
  refine Jb (K:=K) (Z4 (E:=E0) (R:=zer) (Zc (Zb rfl h1) Zr) ⟨L,gs,rfl,hl,rfl⟩) sg λv2 G1 H1 g1 h2=>?_
  have h11:=h1.same g1.gg
  obtain ⟨pt,rows,rfl,hpt,hrows⟩:=h11.lst
  have hrl:rows.length=gs.length:=by rw[hrows.length,List.length_map]
  have RKx:∀ {σ' : St} {G' : Hp} {j i:Nat},ZL G1 G' -> σ'[1]?=some (some v2)->σ'[j]?=some (some (.int (i:Nat)))->∀ f,gs[i]?=some f->Ev K (tOp (zeA K) (Xq 1) (Xq j)) σ' G' (.int (rk L gs f:Nat)):=λ{σ' G' j i} s e1 e2 f hf=>by
   have hi:i<gs.length:=(List.getElem?_eq_some_iff.mp hf).1
   exact YL (n:=i) (Zb e1 (h2.same s)) (Zb e2 (Zv _)) (by rw[List.length_map];exact Xk hi) (by rw[List.getElem?_map,hf];rfl)
  refine ⟨_,rfl,pt,rfl,⟨rows,SqL.of (g1.gh _ _ hpt)⟩,zcZ (xs:=rows) (λi σ H' => ∃ (v2' v3 v4 v5:Option V) (G' : Hp),σ=[some (.ref pt),some v2,v2',v3,v4,v5]/\Yr G1 H1 G' H' /\ ∀ f∈gs.take i,∀ g∈gs,L f g=zaG (rk L gs f) (rk L gs g)) ⟨_,_,_,_,G1,rfl,Yr.refl g1.gh,λf hf=>by simp at hf⟩ ?_ ?_ ?_⟩
  ·rintro i σ H' _ ⟨v2',v3,v4,v5,G',rfl,g,_⟩
   exact SqL.of (g.hh _ _ (g1.gh _ _ hpt))
  ·rintro i x σ H' p hx ⟨v2',v3,v4,v5,G',rfl,g,hok⟩ hp
   have hi:i<gs.length:=by have:=(List.getElem?_eq_some_iff.mp hx).1;omega
   have hgi:gs[i]?=some gs[i]:=List.getElem?_eq_getElem hi
   obtain ⟨dd,hdd,hxd⟩:=hrows.zjK hx
   rw[List.getElem?_map,hgi] at hdd
   have hdd:some (PyData.list (gs.map λg=>.str (L gs[i] g).t))=some dd:=hdd
   injection hdd with hdd
   subst hdd
   generalize gs[i]=f at hgi hxd
   have gp:=Z5 (o:=.tup [.int (i:Nat),x]) g.gh hp
   have gA:=g.trans gp
   refine ⟨p,_,rfl,SqT.of Zh,rfl,_,_,rfl,_,_,rfl,rfl,?_⟩
   obtain ⟨px,ys,rfl,hpx,hys⟩:=hxd.lst
   have hyl:ys.length=gs.length:=by rw[hys.length,List.length_map]
   have hpx' := gA.hh _ _ (g1.gh _ _ hpx)
   refine ⟨_,rfl,px,rfl,⟨ys,SqL.of hpx'⟩,zcZ (xs:=ys) (λj σ H' => ∃ (v4 v5:Option V) (G' : Hp),σ=[some (.ref pt),some v2,some (.int (i:Nat)),some (.ref px),v4,v5]/\Yr G1 H1 G' H' /\ ∀ g∈gs.take j,L f g=zaG (rk L gs f) (rk L gs g)) ⟨_,_,_,rfl,gA,λg hg=>by simp at hg⟩ ?_ ?_ ?_⟩
   ·rintro j σ H' _ ⟨v4,v5,G',rfl,g,_⟩
    exact SqL.of (g.hh _ _ (g1.gh _ _ hpx))
   ·rintro j y σ H2 q hy ⟨v4,v5,G2,rfl,gB,hok2⟩ hq
    have hj:j<gs.length:=by have:=(List.getElem?_eq_some_iff.mp hy).1;omega
    have hgj:gs[j]?=some gs[j]:=List.getElem?_eq_getElem hj
    obtain ⟨dd,hdd,hyd⟩:=hys.zjK hy
    rw[List.getElem?_map,hgj] at hdd
    have hdd:some (PyData.str (L f gs[j]).t)=some dd:=hdd
    injection hdd with hdd
    subst hdd
    generalize gs[j]=g' at hgj hyd
    have gq:=Z5 (o:=.tup [.int (j:Nat),y]) gB.gh hq
    have gC:=gB.trans gq
    refine ⟨q,_,rfl,SqT.of Zh,rfl,_,_,rfl,_,_,rfl,rfl,?_⟩
    refine zag (ZV (K:=K) (zjW (Zb rfl (hyd.same gC.gg)) (Z4 (E:=E0) (R:=zlz) (Zc (RKx gC.gg rfl rfl f hgi) (Zc (RKx gC.gg rfl rfl g' hgj) Zr)) ⟨_,_,rfl,rfl⟩))) gC.gh (λe G3 H3 g3=>?_) (λe G3 H3 g3=>?_)
    ·refine ⟨_,rfl,_,rfl,(by show 2<=sizeLine;decide),λt ht=>?_⟩
     have gD:=gC.trans g3
     have gt:=Z5 (o:=.tup [V.int (i:Nat),V.int (j:Nat)]) gD.gh ht
     refine k2 t _ _ (g1.trans (gD.trans gt)) ?_
     cases ea:agree L gs with
     | false=>rfl
     | true=>
      unfold agree at ea
      have:=of_decide_eq_true (List.all_eq_true.mp (List.all_eq_true.mp ea f (List.mem_of_getElem? hgi)) g' (List.mem_of_getElem? hgj))
      rw[this,decide_eq_true rfl] at e
      cases e
    ·have e' : L f g'=zaG (rk L gs f) (rk L gs g'):=by
      by_cases z:(L f g').t=(zaG (rk L gs f) (rk L gs g')).t
      ·exact zkE.mp z
      ·rw[decide_eq_false z] at e;cases e
     exact ⟨_,_,G3,rfl,gC.trans g3,zcX hgj hok2 e'⟩
   ·rintro σ H2 ⟨v4,v5,G2,rfl,gB,hok2⟩
    have ht:gs.take ys.length=gs:=by rw[hyl];exact List.take_length
    rw[ht] at hok2
    exact ⟨_,_,_,_,G2,rfl,gB,zcX hgi hok hok2⟩
  ·rintro σ H' ⟨v2',v3,v4,v5,G',rfl,g,hok⟩
   have ht:gs.take rows.length=gs:=by rw[hrl];exact List.take_length
   rw[ht] at hok
   refine k1 G' H' (g1.trans g) ?_
   unfold agree
   exact List.all_eq_true.mpr λf hf=>List.all_eq_true.mpr λg hg=>decide_eq_true (hok f hf g hg)
theorem zh3 (T:Top K mg):Yi P w K mg base CX0 3 T.Wb T.fd_looks_agree ["table"] (spP K zjD):=by
 have G_against_ranks:Yi P w K mg base CX0 2 T.Y4 T.fd_against_ranks ["table"] (UL K):=zbk T
 refine T.QH.ok zaO (λvs H Q E h=>?_) (λcdv A outer s H vs Q E hr h=>?_)
 ·obtain ⟨G,as,d,sg,hv,⟨L,gs,rfl,_⟩,_⟩:=h
  rw[hv.length];rfl
 ·obtain ⟨G,as,d,sg,hv,⟨L,gs,rfl,hl,rfl⟩,k⟩:=h
  obtain ⟨v1,r1,rfl,h1,hv⟩:=hv.cons
  cases hv.nil
  refine ⟨_,(Zo (Zy (Vj zjk (Zx G_against_ranks hr (by rfl) T.J7 T.Wr.kp T.JR .nil Z3 (Za (pv 0) Zf Zd)) zay (ZR _)))) ,?_⟩
  refine ⟨_,rfl,G,v1,L,gs,rfl,sg,h1,hl,λG' H' g ha=>?_,λp G' H' g ha=>?_⟩
  ·refine ⟨rfl,?_⟩
   rw[ha] at k
   exact k _ G' H' g (Yn _)
  ·refine ⟨rfl,?_⟩
   rw[ha] at k
   exact k _ G' H' g (Yn _)
end
end K32
namespace L2
open PySem PySem.Spec PyProof.Rows
abbrev YE:=KX×Addr×Int
def zl3 (x:YE)(z:KX×Addr×Value):Prop:=z.1=x.1/\z.2.1=x.2.1/\∃ t,z.2.2 = .int x.2.2 t
def zoJ (P:Program)(w:World)(a:Addr)(xs:List YE)(h:Heap):Prop:=(a==sysModules)=false/\xs.length<=sizeLine/\∃ (zs:List (KX×Addr×Value)) (o:Obj) (es:Array DictEntry) (ep:Nat),h.get? a=some o/\o.ExactDict/\o.data = .dict es ep/\es.toList=zs.map (entryOfKey (zhZ (Y8 P w)))/\Paired zl3 xs zs/\(xs.map (·.1)).Nodup
def dY (P:Program)(w:World)(a:Addr)(xs:List YE):HO:=.ext (zoJ P w a xs)
theorem zjN {P:Program}{w:World}{H:Hp}{h:Heap}{a:Addr}{xs:List YE}(x:zoJ P w a xs h):YJ P w H h a (dY P w a xs):=by
 refine ⟨x,?_,λh1 h2 y k=>?_⟩
 ·obtain ⟨_,_,_,o,_,_,e,_⟩:=x
  exact ⟨o,e⟩
 ·obtain ⟨z1,z2,zs,o,es,ep,e,r⟩:=y
  exact ⟨z1,z2,zs,o,es,ep,k o e,r⟩
theorem yk:∀ {xs:List YE}{zs:List (KX×Addr×Value)},Paired zl3 xs zs->zs.map (·.1)=xs.map (·.1)/\∀ z∈zs,∃ x∈xs,zl3 x z
 | _,_,.nil=>⟨rfl,λ_ h=>by cases h⟩
 | _,_,.cons r t=>by
  obtain ⟨h1,h2⟩:=yk t
  refine ⟨by rw[List.map_cons,List.map_cons,h1,r.1],λz hz=>?_⟩
  rcases List.mem_cons.mp hz with rfl | hz
  ·exact ⟨_,List.mem_cons_self,r⟩
  ·obtain ⟨x,hx,e⟩:=h2 z hz
   exact ⟨x,List.mem_cons_of_mem _ hx,e⟩
theorem zfJ {zs:List (KX×Addr×Value)}{k:KX}(h:k∉zs.map (·.1)):atKey zs k=none:=by
 unfold atKey
 rw[Option.map_eq_none_iff,List.find?_eq_none]
 intro z hz e
 exact h (List.mem_map.mpr ⟨z,hz,of_decide_eq_true e⟩)
theorem zhj:∀ {xs:List YE}{zs:List (KX×Addr×Value)},Paired zl3 xs zs->∀ {k:KX}{b:Addr}{n:Int},(xs.map (·.1)).Nodup->(k,b,n)∈xs->∃ t,atKey zs k=some (b,.int n t)
 | _,_,.nil,k,b,n,_,h=>by cases h
 | _,_,.cons (a:=x) (b:=z) r t,k,b,n,hn,h=>by
  unfold atKey
  rcases List.mem_cons.mp h with e | h
  ·obtain ⟨r1,r2,u,r3⟩:=r
   subst e
   refine ⟨u,?_⟩
   rw[List.find?_cons,decide_eq_true r1]
   show some z.2=some (b,.int n u)
   congr 1
   exact Prod.ext r2 r3
  ·have hn' : x.1∉_/\_:=List.nodup_cons.mp hn
   have ne:¬ z.1=k:=λe=>hn'.1 (List.mem_map.mpr ⟨_,h,by rw[← e,r.1]⟩)
   rw[List.find?_cons,decide_eq_false ne]
   exact zhj t hn'.2 h
section
variable {X:Cx}{pins:List (Addr×Obj)}{σ:St}{H G:Hp}{s:Shared}
def zmE (P:Program)(w:World):TE:=λ_ H Q=>∀ p,H p=none->Q (.ref p) (upd H p (dY P w p []))
theorem ziJ {P:Program}{w:World}(eP:X.prog=P)(ew:X.w=w){pos:Pos}:PE X (.Dict [] [] pos) (zmE P w):=by
 subst eP ew
 exact λpins s σ H Q I h=>
 wpAny_Dict_empty ⟨.ref s.heap.objs.size,_,I.laid (a:=s.heap.objs.size) (o:=dY X.prog X.w s.heap.objs.size []) (t' := s.toks) (λ_ _ q=>Heap.get?_push_of_some _ q) (Nat.le_refl _)
  (zjN ⟨beq_eq_false_iff_ne.mpr (Ne.symm (Nat.ne_of_lt I.big)),Nat.zero_le _,[],_,#[],0,Heap.get?_push_size _ rfl,⟨rfl,rfl,rfl⟩,rfl,rfl,.nil,List.nodup_nil⟩),rfl,h _ (I.hok.fresh (Nat.le_refl _))⟩
theorem zno (I:Inv X pins σ H s)(sg:ZL G H){a:Addr}{xs:List YE}(ha:H a=some (dY X.prog X.w a xs))(hxs:∀ z∈xs,Dat X.K G (.ref z.2.1) (zcG z.1)):(a==sysModules)=false/\∃ zs,Paired zl3 xs zs/\s.heap.DictOfH (zhZ (Y8 X.prog X.w)) a zs/\(xs.map (·.1)).Nodup:=by
 obtain ⟨⟨hsm,_,zs,o',es,ep,h1,h2,h3,h4,h5,h6⟩,_⟩:=(show YJ X.prog X.w H s.heap a (dY X.prog X.w a xs) from I.hok a _ ha)
 obtain ⟨q1,q2⟩:=yk h5
 refine ⟨hsm,zs,h5,⟨o',es,ep,h1,h2,h3,h4,λz hz=>?_,by rw[q1];exact h6⟩,h6⟩
 obtain ⟨x,hx,r⟩:=q2 z hz
 have:=zcB I sg (hxs x hx)
 rw[← r.1,← r.2.1] at this
 exact this
def znl (P:Program)(w:World)(K:PySem.W.Frag)(td ty tv:TE):TS:=λD σ H=>tv σ H λv H1=>td σ H1 λx H2=>ty σ H2 λy H3=>∃ (n:Int) (a b:Addr) (k:KX) (xs:List YE) (G:Hp),v = .int n/\x = .ref a/\y = .ref b/\H3 a=some (dY P w a xs)/\ZL G H3/\Dat K G (.ref b) (zcG k)/\(∀ z∈xs,Dat K G (.ref z.2.1) (zcG z.1))/\k∉xs.map (·.1)/\xs.length<sizeLine/\D.nx σ (upd H3 a (dY P w a (xs++[(k,b,n)])))
theorem zik {P:Program}{w:World}{K:PySem.W.Frag}(eP:X.prog=P)(ew:X.w=w)(eK:X.K=K){o i value:Expr}{pos pos' : Pos}{td ty tv:TE}(hu:X.A.units+64<cLine)(ho:PE X o td)(hi:PE X i ty)(hv:PE X value tv)(hs:swapsWith value (some (.Subscript o i pos')) pos.line X.env=pure false):
  PS X (.Assign [.Subscript o i pos'] value pos) (znl P w K td ty tv):=by
 subst eP ew eK
 intro pins s σ H D I h
 refine wpAny_Assign_Subscript (thn (hv pins s σ H _ I h) λr s1 ⟨v,H1,I1,rv,q1⟩=>thn (ho pins s1 σ H1 _ I1 q1) λu s2 ⟨x,H2,I2,rx,q2⟩=>thn (hi pins s2 σ H2 _ I2 q2) λiv s3 ⟨y,H3,I3,ry,n,a,b,k,xs,G,ev,ex,ey,ha,sg,hb,hxs,hk,hl,q3⟩=>?_) hs
 subst ev ex ey
 obtain ⟨tk,rfl⟩:∃ t,r=Value.int n t:=rv
 obtain rfl:u=Value.ref a:=rx
 obtain rfl:iv=Value.ref b:=ry
 obtain ⟨hsm,zs,pr,dd,hnd⟩:=zno I3 sg ha hxs
 obtain ⟨q1,_⟩:=yk pr
 have hlz:zs.length=xs.length:=by have:=congrArg List.length q1;simpa using this
 refine wpAny_setItem_heap (hsz:=by omega) (show X.A.units+1+1<cLine by omega) (zcB I3 sg hb) dd λh' dd' hs=>?_
 rw[storedH_new (zfJ (by rw[q1];exact hk))] at dd'
 obtain ⟨q,es',ep',hq,g2,g3,g4,_,g5⟩:=dd'
 refine ⟨σ,_,zgx I3 (by rw[ha];exact True.intro) hs ⟨q,hq⟩ (zjN ⟨hsm,?_,zs++[(k,b,.int n tk)],q,es',ep',hq,g2,g3,g4,pr.snoc ⟨rfl,rfl,tk,rfl⟩,?_⟩),q3⟩
 ·rw[List.length_append];show xs.length+1<=sizeLine;omega
 ·rw[List.map_append] at g5 ⊢
  rw[← q1];exact g5
def zoP (P:Program)(w:World)(K:PySem.W.Frag):R2:=λx y H Q=>∃ (n:Int) (a b b' : Addr) (k:KX) (xs:List YE) (G:Hp),x = .ref a/\y = .ref b/\H a=some (dY P w a xs)/\ZL G H/\Dat K G (.ref b) (zcG k)/\(∀ z∈xs,Dat K G (.ref z.2.1) (zcG z.1))/\(k,b',n)∈xs/\Q (.int n) H
theorem zox {P:Program}{w:World}{K:PySem.W.Frag}(eP:X.prog=P)(ew:X.w=w)(eK:X.K=K)(hu:X.A.units+64<cLine):IxR X (zoP P w K):=by
 subst eP ew eK
 intro value slice pins s σ H x y v u Q I rx ry h hs
 obtain ⟨n,a,b,b',k,xs,G,rfl,rfl,ha,sg,hb,hxs,hm,q⟩:=h
 cases rx
 cases ry
 obtain ⟨hsm,zs,pr,dd,hnd⟩:=zno I sg ha hxs
 obtain ⟨t,ht⟩:=zhj pr hnd hm
 have hT:s.TypeIs (.ref a) "dict" := dd.typeIs
 have h2:wpAny (model X.prog X.w) X.A (getItem (.ref a) (.ref b)) (EP X pins σ Q) X.xe s:=wpAny_getItem_heap (show X.A.units+1+1<cLine by omega) (zcB I sg hb) dd ht ⟨.int n,H,I.tok _,⟨t,rfl⟩,q⟩
 unfold subscriptTail
 refine wpAny_bind ?_
 rw[getitemInPython_of_ne hT.not_modules]
 refine wpAny_bind (wpAny_specialOf hT slot_dict_getitem.lookup ?_)
 have fin:wpAny (model X.prog X.w) X.A (subscripted slice false (.ref a) (.ref b)) (λr s₃=>wpAny (model X.prog X.w) X.A (letTemporaryGo value (.ref a) r >>= λ_=>pure r) (EP X pins σ Q) X.xe s₃) X.xe s:=by
  rw[hs]
  exact wpAny_operating (wpAny_mono h2 (λr s₃ h₃=>wpAny_bind (wpAny_letTemporaryGo (wpAny_pure h₃))) λ_ _ x=>x)
 first
  | exact wpAny_pure (wpAny_bind fin)
  | exact wpAny_bind (wpAny_pure (wpAny_bind fin))
  | exact wpAny_bind fin
end
end L2
namespace L2
open PySem PySem.Spec PyProof.Rows
structure Zap (z TI TO i1 i2:Addr)(f1 f2:List Addr):Prop where
 iz:TI≠z
 oz:TO≠z
 az:i1≠z
 bz:i2≠z
 io:TI≠TO
 ia:TI≠i1
 ib:TI≠i2
 oa:TO≠i1
 ob:TO≠i2
 ab:i1≠i2
 z1:z∉f1
 z2:z∉f2
 o1:TO∉f1
 o2:TO∉f2
 b1:i2∉f1
 a2:i1∉f2
section
variable {prog:Program}{w:World}{A:Around}{E:Value->Shared->Prop}{s:Shared}{z TI TO i1 i2:Addr}{f1 f2:List Addr}{n1 n2 k:Nat}{P1 P2:Nat->Value->Prop}{S1 S2:Nat->Heap->Prop}{a b:Value}
theorem W0 {c d:Addr}{f:List Addr}(h:d∉f)(hc:c∈f):c≠d:=λe=>h (e ▸ hc)
theorem zkG {Q:Value->Shared->Prop}(Z:Zap z TI TO i1 i2 f1 f2)(D1:Draws prog w A i1 f1 n1 P1 S1)(D2:Draws prog w A i2 f2 n2 P2 S2)(hz:IsZip s.heap z TI TO .none)(ht:IsPair s.heap TI (.ref i1) (.ref i2))(ho:IsPair s.heap TO a b)(t1:S1 k s.heap)(t2:S2 k s.heap)(k1:k<n1)(k2:k<n2)
  (q:∀ x y h' tk,P1 k x->P2 k y->IsZip h' z TI TO (rawInt s.heap.objs.size)->IsPair h' TO x y->S1 (k+1) h' -> S2 (k+1) h' -> IsPair h' s.heap.objs.size x y->
   (∀ c o,c≠z->c≠TO->c≠i1->c≠i2->s.heap.get? c=some o->h'.get? c=some o)->Q (.ref s.heap.objs.size) { s with heap:=h',toks:=tk }):
  wpAny (model prog w) A (Builtin.«zip.__next__» ⟨[.ref z],[]⟩) (λfin s' => ∃ v,fin = .done (.ret v)/\Q v s') E s:=by
 refine wpAny_bind (m:=field (.ref z) 2) (wpAny_field hz rfl (x:=.bool false) rfl (wpAny_bind (m:=field (.ref z) 3) (wpAny_field hz rfl (x:=.ref TI) rfl (wpAny_bind (wpAny_seqItems ht rfl ?_)))))
 refine wpAny_bind (m:=Builtin.SmallTypes.ownedTupleIsFree (.ref z)) ?_
 unfold Builtin.SmallTypes.ownedTupleIsFree;refine wpAny_bind (wpAny_field hz rfl (x:=.none) rfl (wpAny_pure ?_));rw[if_pos (by simp)]
 refine wpAny_bind (wpAny_rule (wpAny_bind (wpAny_field hz rfl (x:=.ref TO) rfl (wpAny_bind (wpAny_setField_rec hz (by simp) λg1 (z1:IsZip g1 z TI TO .ellipsis) e1=>wpAny_bind ?_)))))
 simp only[List.zipIdx_cons,List.forIn_cons,List.zipIdx_nil,List.forIn_nil]
 refine wpAny_bind (wpAny_bind (wpAny_onRaise (wpAny_bind (m:=Builtin.SmallTypes.nextOf (.ref i1)) ?_)))
 refine D1.item k _ _ _ k1 (D1.frame _ _ _ t1 λc hc o e=>e1.extBut _ _ (W0 Z.z1 hc) e) λx g2 tk2 px u1 e2=>wpAny_pure ?_
 dsimp only at e2 ⊢
 have o2:IsPair g2 TO a b:=e2.extBut _ _ Z.oa (e1.extBut _ _ Z.oz ho)
 refine wpAny_bind (wpAny_seqItems o2 rfl (wpAny_bind (wpAny_updateSeq_pair o2 λg3 (o3:IsPair g3 TO x b) e3=>wpAny_bind (wpAny_letGo (wpAny_pure ?_)))))
 refine wpAny_bind (wpAny_bind (wpAny_onRaise (wpAny_bind (m:=Builtin.SmallTypes.nextOf (.ref i2)) ?_)))
 refine D2.item k _ _ _ k2 (D2.frame _ _ _ t2 λc hc o e=>e3.extBut _ _ (W0 Z.o2 hc) (e2.extBut _ _ (W0 Z.a2 hc) (e1.extBut _ _ (W0 Z.z2 hc) e))) λy g4 tk4 py u2 e4=>wpAny_pure ?_
 dsimp only at e4 ⊢
 have o4:IsPair g4 TO x b:=e4.extBut _ _ Z.ob o3
 refine wpAny_bind (wpAny_seqItems o4 rfl (wpAny_bind (wpAny_updateSeq_pair o4 λg5 (o5:IsPair g5 TO x y) e5=>wpAny_bind (wpAny_letGo (wpAny_pure (wpAny_pure (wpAny_bind (wpAny_seqItems o5 rfl (wpAny_bind (wpAny_newTuple ?_))))))))))
 have z5:IsZip g5 z TI TO .ellipsis:=e5.extBut _ _ Z.oz.symm (e4.extBut _ _ Z.bz.symm (e3.extBut _ _ Z.oz.symm (e2.extBut _ _ Z.az.symm z1)))
 have sz:g5.objs.size=s.heap.objs.size:=by rw[e5.1,e4.1,e3.1,e2.1,e1.1]
 have kp:∀ c o,c≠z->c≠TO->c≠i1->c≠i2->s.heap.get? c=some o->g5.get? c=some o:=λc o c1 c2 c3 c4 e=>e5.extBut _ _ c2 (e4.extBut _ _ c4 (e3.extBut _ _ c2 (e2.extBut _ _ c3 (e1.extBut _ _ c1 e))))
 have u15:S1 (k+1) g5:=D1.frame _ _ _ u1 λc hc o e=>e5.extBut _ _ (W0 Z.o1 hc) (e4.extBut _ _ (W0 Z.b1 hc) (e3.extBut _ _ (W0 Z.o1 hc) e))
 have u25:S2 (k+1) g5:=D2.frame _ _ _ u2 λc hc o e=>e5.extBut _ _ (W0 Z.o2 hc) e
 have lz:=Heap.lt_size z5
 refine wpAny_bind (m:=Builtin.SmallTypes.ownedTupleHandOut (.ref z) (.ref g5.objs.size)) ?_
 unfold Builtin.SmallTypes.ownedTupleHandOut
 have z6:IsZip (g5.push { cls:=.type "tuple",data:=.seq #[x,y] }) z TI TO .ellipsis:=Heap.get?_push_of_some _ z5
 refine wpAny_bind (wpAny_setField_rec z6 (by simp) λg7 (z7:IsZip g7 z TI TO (rawInt g5.objs.size)) e7=>wpAny_setField_rec z7 (by simp) λg8 (z8:IsZip g8 z TI TO (rawInt g5.objs.size)) e8=>?_)
 have up:∀ c o,c≠z->g5.get? c=some o->g8.get? c=some o:=λc o c1 e=>e8.extBut _ _ c1 (e7.extBut _ _ c1 (Heap.get?_push_of_some _ e))
 have t8:IsPair g8 g5.objs.size x y:=e8.extBut _ _ (Nat.ne_of_gt lz) (e7.extBut _ _ (Nat.ne_of_gt lz) (Heap.get?_push_size _ rfl))
 refine wpAny_pure ⟨.ref g5.objs.size,rfl,?_⟩
 rw[sz] at z8 t8 ⊢
 exact q x y g8 _ px py z8 (up _ _ Z.oz o5) (D1.frame _ _ _ u15 λc hc o e=>up c o (W0 Z.z1 hc) e) (D2.frame _ _ _ u25 λc hc o e=>up c o (W0 Z.z2 hc) e) t8 λc o c1 c2 c3 c4 e=>up c o c1 (kp c o c1 c2 c3 c4 e)
theorem znf {Q:Fin->Shared->Prop}(Z:Zap z TI TO i1 i2 f1 f2)(D1:Draws prog w A i1 f1 n1 P1 S1)(D2:Draws prog w A i2 f2 n2 P2 S2)(hz:IsZip s.heap z TI TO .none)(ht:IsPair s.heap TI (.ref i1) (.ref i2))(ho:IsPair s.heap TO a b)(t1:S1 k s.heap)(t2:S2 k s.heap)(hk:k=n1\/(k<n1/\k=n2))
  (q:∀ h' e tk,(∀ c o,c≠z->c≠TO->c≠i1->c≠i2->s.heap.get? c=some o->h'.get? c=some o)->(∃ o,h'.get? e=some o/\o.cls = .type "StopIteration")->E (.ref e) { s with heap:=h',toks:=tk }):
  wpAny (model prog w) A (Builtin.«zip.__next__» ⟨[.ref z],[]⟩) Q E s:=by
 refine wpAny_bind (m:=field (.ref z) 2) (wpAny_field hz rfl (x:=.bool false) rfl (wpAny_bind (m:=field (.ref z) 3) (wpAny_field hz rfl (x:=.ref TI) rfl (wpAny_bind (wpAny_seqItems ht rfl ?_)))))
 refine wpAny_bind (m:=Builtin.SmallTypes.ownedTupleIsFree (.ref z)) ?_
 unfold Builtin.SmallTypes.ownedTupleIsFree;refine wpAny_bind (wpAny_field hz rfl (x:=.none) rfl (wpAny_pure ?_));rw[if_pos (by simp)]
 refine wpAny_bind (wpAny_rule (wpAny_bind (wpAny_field hz rfl (x:=.ref TO) rfl (wpAny_bind (wpAny_setField_rec hz (by simp) λg1 (z1:IsZip g1 z TI TO .ellipsis) e1=>wpAny_bind ?_)))))
 simp only[List.zipIdx_cons,List.forIn_cons,List.zipIdx_nil,List.forIn_nil]
 refine wpAny_bind (wpAny_bind (wpAny_onRaise (wpAny_bind (m:=Builtin.SmallTypes.nextOf (.ref i1)) ?_)))
 have fr1:S1 k g1:=D1.frame _ _ _ t1 λc hc o e=>e1.extBut _ _ (W0 Z.z1 hc) e
 rcases hk with rfl | ⟨k1,rfl⟩
 ·refine D1.done _ _ _ fr1 λg2 e e2 he=>?_
  obtain ⟨oe,hoe,hce⟩:=he
  have z2:IsZip g2 z TI TO .ellipsis:=e2 _ _ Z.az.symm z1
  have ez:e≠z:=λx=>by subst x;rw[z2] at hoe;cases hoe;simp at hce
  exact wpAny_setField_rec z2 (by simp) λg3 _ e3=>q g3 e _ (λc o c1 _ c3 _ x=>e3.extBut _ _ c1 (e2 _ _ c3 (e1.extBut _ _ c1 x))) ⟨oe,e3.extBut _ _ ez hoe,hce⟩
 ·refine D1.item k _ _ _ k1 fr1 λx g2 tk2 px u1 e2=>wpAny_pure ?_
  dsimp only at e2 ⊢
  have o2:IsPair g2 TO a b:=e2.extBut _ _ Z.oa (e1.extBut _ _ Z.oz ho)
  refine wpAny_bind (wpAny_seqItems o2 rfl (wpAny_bind (wpAny_updateSeq_pair o2 λg3 (o3:IsPair g3 TO x b) e3=>wpAny_bind (wpAny_letGo (wpAny_pure ?_)))))
  refine wpAny_bind (wpAny_bind (wpAny_onRaise (wpAny_bind (m:=Builtin.SmallTypes.nextOf (.ref i2)) ?_)))
  refine D2.done _ _ _ (D2.frame _ _ _ t2 λc hc o e=>e3.extBut _ _ (W0 Z.o2 hc) (e2.extBut _ _ (W0 Z.a2 hc) (e1.extBut _ _ (W0 Z.z2 hc) e))) λg4 e e4 he=>?_
  dsimp only at e4 ⊢
  obtain ⟨oe,hoe,hce⟩:=he
  have z4:IsZip g4 z TI TO .ellipsis:=e4 _ _ Z.bz.symm (e3.extBut _ _ Z.oz.symm (e2.extBut _ _ Z.az.symm z1))
  have ez:e≠z:=λx=>by subst x;rw[z4] at hoe;cases hoe;simp at hce
  exact wpAny_setField_rec z4 (by simp) λg5 _ e5=>q g5 e _ (λc o c1 c2 c3 c4 x=>e5.extBut _ _ c1 (e4 _ _ c4 (e3.extBut _ _ c2 (e2.extBut _ _ c3 (e1.extBut _ _ c1 x))))) ⟨oe,e5.extBut _ _ ez hoe,hce⟩
end
end L2
namespace L2
open PySem PySem.Spec PyProof.Rows
abbrev lIt (l:Addr):Obj:={ cls:=.type "list_iterator",data:=.fields #[.ref l,.int 0 0] }
abbrev yq2 (h:Heap)(l1 l2:Addr):Heap:=(h.push (lIt l1)).push (lIt l2)
abbrev yq4 (h:Heap)(l1 l2:Addr):Heap:=((yq2 h l1 l2).push { cls:=.type "tuple",data:=.seq #[.ref h.objs.size,.ref (h.push (lIt l1)).objs.size] }).push { cls:=.type "tuple",data:=.seq #[.none,.none] }
abbrev yq5 (h:Heap)(l1 l2:Addr):Heap:=(yq4 h l1 l2).push { cls:=.type "zip",data:=.fields #[.none,.bool false,.bool false,.ref (yq2 h l1 l2).objs.size,.ref ((yq2 h l1 l2).push { cls:=.type "tuple",data:=.seq #[.ref h.objs.size,.ref (h.push (lIt l1)).objs.size] }).objs.size] }
theorem IsList.zj8 {h:Heap}{l:Addr}{xs:Array Value}(hl:h.IsList l xs)(o:Obj):(h.push o).IsList l xs:=by
 obtain ⟨ob,e,r⟩:=hl
 exact ⟨ob,Heap.get?_push_of_some _ e,r⟩
theorem zi2 (l1 l2:Addr)(xs ys:Array Value):
  Meets (Builtin.«zip.__new__» ⟨[.type "zip",.ref l1,.ref l2],[]⟩) (λ_ R s=>s.heap.IsList l1 xs/\s.heap.IsList l2 ys/\R (.ok (.ret (.ref (yq4 s.heap l1 l2).objs.size))) { s with heap:=yq5 s.heap l1 l2 }):=
 .of_wp λprog w A R s h=>by
  obtain ⟨hp,g,d,tk,os⟩:=s;obtain ⟨t1,t2,h⟩:=h
  have q0:=sub_zip
  have q1:Heap.IsList (Shared.heap ⟨hp,g,d,tk,os⟩) l1 xs:=t1
  have q2:Heap.IsList (Shared.heap ⟨hp.push (lIt l1),g,d,tk,os⟩) l2 ys:=IsList.zj8 t2 _
  wp_walk using wpAny_pyIter_list q1,wpAny_pyIter_list q2
  exact ⟨_,rfl,h⟩
section
variable {prog:Program}{w:World}{A:Around}{E:Value->Shared->Prop}{s:Shared}
theorem zhE {l1 l2:Addr}{xs ys:Array Value}{Q:Value->Shared->Prop}(q1:s.heap.IsList l1 xs)(q2:s.heap.IsList l2 ys)
  (h:∀ h',IsZip h' (s.heap.objs.size+4) (s.heap.objs.size+2) (s.heap.objs.size+3) .none->IsPair h' (s.heap.objs.size+2) (.ref s.heap.objs.size) (.ref (s.heap.objs.size+1))->IsPair h' (s.heap.objs.size+3) .none .none->
   h'.IsListIter s.heap.objs.size l1 0->h'.IsListIter (s.heap.objs.size+1) l2 0->(∀ c o,s.heap.get? c=some o->h'.get? c=some o)->Q (.ref (s.heap.objs.size+4)) { s with heap:=h' }):
  wpAny (model prog w) A (call (.type "zip") [.ref l1,.ref l2]) Q E s:=by
 refine callType_new F.called_zip (by decide) (F.typeCall_zip_2 _ _) (F.newCall_zip_2 _ _) (λobj=>F.args_object_init_3 obj _ _) F.entry_zip_new (zi2 l1 l2 xs ys) ⟨q1,q2,?_⟩
 have a1:(s.heap.push (lIt l1)).objs.size=s.heap.objs.size+1:=Heap.size_push ..
 have a2:(yq2 s.heap l1 l2).objs.size=s.heap.objs.size+2:=by rw[Heap.size_push,a1]
 have a3:((yq2 s.heap l1 l2).push { cls:=.type "tuple",data:=.seq #[.ref s.heap.objs.size,.ref (s.heap.push (lIt l1)).objs.size] }).objs.size=s.heap.objs.size+3:=by rw[Heap.size_push,a2]
 have a4:(yq4 s.heap l1 l2).objs.size=s.heap.objs.size+4:=by rw[Heap.size_push,a3]
 have u:∀ {hh:Heap}{o:Obj}{c:Addr}{ob:Obj},hh.get? c=some ob->(hh.push o).get? c=some ob:=λe=>Heap.get?_push_of_some _ e
 have g5:(yq5 s.heap l1 l2).get? (yq4 s.heap l1 l2).objs.size=some _:=Heap.get?_push_size _ rfl
 have g4:(yq5 s.heap l1 l2).get? ((yq2 s.heap l1 l2).push { cls:=.type "tuple",data:=.seq #[.ref s.heap.objs.size,.ref (s.heap.push (lIt l1)).objs.size] }).objs.size=some _:=u (Heap.get?_push_size _ rfl)
 have g3:(yq5 s.heap l1 l2).get? (yq2 s.heap l1 l2).objs.size=some _:=u (u (Heap.get?_push_size _ rfl))
 have g2:(yq5 s.heap l1 l2).get? (s.heap.push (lIt l1)).objs.size=some (lIt l2):=u (u (u (Heap.get?_push_size _ rfl)))
 have g1:(yq5 s.heap l1 l2).get? s.heap.objs.size=some (lIt l1):=u (u (u (u (Heap.get?_push_size _ rfl))))
 rw[a2,a3,a4] at g5
 rw[a1,a2] at g3
 rw[a3] at g4
 rw[a1] at g2
 show _/\_
 rw[a4]
 exact ⟨⟨_,g5,rfl⟩,h _ g5 g3 g4 ⟨_,g1,rfl,rfl⟩ ⟨_,g2,rfl,rfl⟩ λc o x=>u (u (u (u (u x))))⟩
theorem zgy {z TI TO i1 i2:Addr}{f1 f2:List Addr}{n1 n2 k:Nat}{P1 P2:Nat->Value->Prop}{S1 S2:Nat->Heap->Prop}{a b:Value}{Q:Option Value->Shared->Prop}(Z:Zap z TI TO i1 i2 f1 f2)(D1:Draws prog w A.in1 i1 f1 n1 P1 S1)(D2:Draws prog w A.in1 i2 f2 n2 P2 S2)(hz:IsZip s.heap z TI TO .none)(ht:IsPair s.heap TI (.ref i1) (.ref i2))(ho:IsPair s.heap TO a b)
  (t1:S1 k s.heap) (t2:S2 k s.heap) (k1:k<n1) (k2:k<n2)
  (q:∀ x y h' tk,P1 k x->P2 k y->IsZip h' z TI TO (rawInt s.heap.objs.size)->IsPair h' TO x y->S1 (k+1) h' -> S2 (k+1) h' -> IsPair h' s.heap.objs.size x y->
   (∀ c o,c≠z->c≠TO->c≠i1->c≠i2->s.heap.get? c=some o->h'.get? c=some o)->Q (some (.ref s.heap.objs.size)) { s with heap:=h',toks:=tk }):wpAny (model prog w) A (pyNext (.ref z)) Q E s:=by
 have hT:s.TypeIs (.ref z) "zip" := ⟨_,hz,rfl⟩
 unfold pyNext
 exact wpAny_bind (wpAny_attempt (wpAny_callSpecial?_slot (name:=Str.ofString "__next__") hT F.slot_zip_next (wpAny_call_entry F.slot_zip_next hT F.entry_zip_next (zkG Z D1 D2 hz ht ho t1 t2 k1 k2 λx y h' tk p1 p2 b1 b2 b3 b4 b5 b6=>wpAny_pure (q x y h' tk p1 p2 b1 b2 b3 b4 b5 b6)) (F.args_zip_next_1 _))))
theorem zhF {z TI TO i1 i2:Addr}{f1 f2:List Addr}{n1 n2 k:Nat}{P1 P2:Nat->Value->Prop}{S1 S2:Nat->Heap->Prop}{a b:Value}{Q:Option Value->Shared->Prop}(Z:Zap z TI TO i1 i2 f1 f2)(D1:Draws prog w A.in1 i1 f1 n1 P1 S1)(D2:Draws prog w A.in1 i2 f2 n2 P2 S2)(hz:IsZip s.heap z TI TO .none)(ht:IsPair s.heap TI (.ref i1) (.ref i2))(ho:IsPair s.heap TO a b)
  (t1:S1 k s.heap) (t2:S2 k s.heap) (hk:k=n1\/(k<n1/\k=n2))
  (q:∀ h' tk,(∀ c o,c≠z->c≠TO->c≠i1->c≠i2->s.heap.get? c=some o->h'.get? c=some o)->Q none { s with heap:=h',toks:=tk }):wpAny (model prog w) A (pyNext (.ref z)) Q E s:=by
 have hT:s.TypeIs (.ref z) "zip" := ⟨_,hz,rfl⟩
 unfold pyNext
 refine wpAny_bind (wpAny_attempt (wpAny_callSpecial?_slot (name:=Str.ofString "__next__") hT F.slot_zip_next (wpAny_call_entry F.slot_zip_next hT F.entry_zip_next (znf Z D1 D2 hz ht ho t1 t2 hk λh' e tk hk' he=>?_) (F.args_zip_next_1 _))))
 obtain ⟨o,ho',hc⟩:=he
 exact wpAny_bind (wpAny_isInstance (T:= "StopIteration") (b:=true) ⟨o,ho',hc⟩ isSubtype_stop (wpAny_pure (q _ _ hk')))
end
def znJ (K:PySem.W.Frag)(a1 a2:Addr):It:=
 ⟨λi H=>∃ xs x ys y,SqL K H a1 xs/\xs[i]?=some x/\SqL K H a2 ys/\ys[i]?=some y,λi H v H' => ∃ p x y,H p=none/\v = .ref p/\H'=upd H p (.tup [x,y])/\(∀ xs,SqL K H a1 xs->xs[i]?=some x)/\∀ ys,SqL K H a2 ys->ys[i]?=some y,
  λi H=>∃ xs ys,SqL K H a1 xs/\SqL K H a2 ys/\(i=xs.length\/(i<xs.length/\i=ys.length))⟩
theorem zhb {P:Program}{w:World}{K:PySem.W.Frag}{elts:List Expr}{tk:Nat}{tpos:Pos}{a1 a2 z TI TO i1 i2:Addr}(Z:Zap z TI TO i1 i2 [i1,a1] [i2,a2])(n1:a1≠i1)(n2:a2≠i2):Turn P w K (.Tuple elts tk tpos) (znJ K a1 a2) [z,TI,TO,i1,i2] z (λi h=>IsZip h z TI TO .none/\IsPair h TI (.ref i1) (.ref i2)/\(∃ a b,IsPair h TO a b)/\h.IsListIter i1 a1 i/\h.IsListIter i2 a2 i) where
 mem:=by simp
 obj:=λi h st c hc=>by
  obtain ⟨hz,ht,⟨a,b,ho⟩,⟨o1,e1,_,d1⟩,⟨o2,e2,_,d2⟩⟩:=st
  simp only[List.mem_cons,List.not_mem_nil,or_false] at hc
  rcases hc with rfl | rfl | rfl | rfl | rfl
  ·exact ⟨_,hz,λv q=>by cases q⟩
  ·exact ⟨_,ht,λv q=>by cases q⟩
  ·exact ⟨_,ho,λv q=>by cases q⟩
  ·exact ⟨o1,e1,λv q=>by rw[d1] at q;cases q⟩
  ·exact ⟨o2,e2,λv q=>by rw[d2] at q;cases q⟩
 keep:=λi h h' st k=>by
  obtain ⟨hz,ht,⟨a,b,ho⟩,⟨o1,e1,r1⟩,⟨o2,e2,r2⟩⟩:=st
  exact ⟨k z (by simp) _ hz,k TI (by simp) _ ht,⟨a,b,k TO (by simp) _ ho⟩,⟨o1,k i1 (by simp) _ e1,r1⟩,⟨o2,k i2 (by simp) _ e2,r2⟩⟩
 item:=by
  intro X hP hw hK hc i pins s σ H E I hf st hg
  subst hP hw hK
  obtain ⟨xs,x,ys,y,hq1,hx,hq2,hy⟩:=hg
  obtain ⟨its1,rv1,p1,_⟩:=I.list hq1
  obtain ⟨its2,rv2,p2,_⟩:=I.list hq2
  obtain ⟨u1,hu1,ru1⟩:=rv1.get hx
  obtain ⟨u2,hu2,ru2⟩:=rv2.get hy
  obtain ⟨hz,ht,⟨a,b,ho⟩,t1,t2⟩:=st
  have l1:i<its1.toArray.size:=by have:=(List.getElem?_eq_some_iff.mp hu1).1;simpa using this
  have l2:i<its2.toArray.size:=by have:=(List.getElem?_eq_some_iff.mp hu2).1;simpa using this
  have hh:X.A.in1.handled=none:=I.ok.hd hc
  refine zgy Z (Draws.list hh i1 a1 n1 its1.toArray) (Draws.list hh i2 a2 n2 its2.toArray) hz ht ho ⟨t1,p1.isList⟩ ⟨t2,p2.isList⟩ l1 l2 λx' y' h' tk' hP1 hP2 b1 b2 b3 b4 b5 b6=>?_
  have ex:x'=u1:=by
   have:its1[i]?=some x' := by simpa using hP1
   rw[hu1] at this;exact (Option.some.inj this).symm
  have ey:y'=u2:=by
   have:its2[i]?=some y' := by simpa using hP2
   rw[hu2] at this;exact (Option.some.inj this).symm
  subst ex ey
  refine ⟨_,rfl,wpAny_letOwnedTupleGo_zip b1 λh2 hz2 hs2=>?_⟩
  have zt:z≠s.heap.objs.size:=Nat.ne_of_lt (Heap.lt_size hz)
  have new:YJ X.prog X.w (upd H s.heap.objs.size (.tup [x,y])) h2 s.heap.objs.size (.tup [x,y]):=
   ⟨by show 2<=sizeLine;decide,[x',y'],.cons ru1 (.cons ru2 .nil),⟨_,(hs2.2 _ (Ne.symm zt)).trans b5,rfl,_,rfl⟩,_,(hs2.2 _ (Ne.symm zt)).trans b5,rfl⟩
  have kk:∀ b o,b∉[z,TI,TO,i1,i2]->s.heap.get? b=some o->h2.get? b=some o:=λb o hb q=>by
   simp only[List.mem_cons,List.not_mem_nil,or_false,not_or] at hb
   exact (hs2.2 b hb.1).trans (b6 b o hb.1 hb.2.2.1 hb.2.2.2.1 hb.2.2.2.2 q)
  have fresh:=I.hok.fresh (Nat.le_refl s.heap.objs.size)
  refine ⟨.ref s.heap.objs.size,_,I.Ud (t' := tk') kk hf (Nat.le_refl _) new,rfl,⟨_,x,y,fresh,rfl,rfl,λzs hy' => by rw[I.Ue hy' hq1];exact hx,λzs hy' => by rw[I.Ue hy' hq2];exact hy⟩,⟨hz2,?_,⟨_,_,(hs2.2 TO Z.oz).trans b2⟩,?_,?_⟩,λc hc=>?_⟩
  ·exact (hs2.2 TI Z.iz).trans (b6 TI _ Z.iz Z.io Z.ia Z.ib ht)
  ·obtain ⟨o3,g1,g2⟩:=b3.1
   exact ⟨o3,(hs2.2 i1 Z.az).trans g1,g2⟩
  ·obtain ⟨o3,g1,g2⟩:=b4.1
   exact ⟨o3,(hs2.2 i2 Z.bz).trans g1,g2⟩
  ·have lt:∃ o,s.heap.get? c=some o:=by
    simp only[List.mem_cons,List.not_mem_nil,or_false] at hc
    rcases hc with rfl | rfl | rfl | rfl | rfl
    ·exact ⟨_,hz⟩
    ·exact ⟨_,ht⟩
    ·exact ⟨_,ho⟩
    ·obtain ⟨o,e,_⟩:=t1;exact ⟨o,e⟩
    ·obtain ⟨o,e,_⟩:=t2;exact ⟨o,e⟩
   obtain ⟨o,e⟩:=lt
   rw[Zq (Nat.ne_of_lt (Heap.lt_size e))];exact (hf c hc).1
 done:=by
  intro X hP hw hK hc i pins s σ H E I hf st hg
  subst hP hw hK
  obtain ⟨xs,ys,hq1,hq2,hi⟩:=hg
  obtain ⟨its1,rv1,p1,_⟩:=I.list hq1
  obtain ⟨its2,rv2,p2,_⟩:=I.list hq2
  have e1:=rv1.length
  have e2:=rv2.length
  obtain ⟨hz,ht,⟨a,b,ho⟩,t1,t2⟩:=st
  have hh:X.A.in1.handled=none:=I.ok.hd hc
  refine zhF Z (Draws.list hh i1 a1 n1 its1.toArray) (Draws.list hh i2 a2 n2 its2.toArray) hz ht ho ⟨t1,p1.isList⟩ ⟨t2,p2.isList⟩ (by simp only[List.size_toArray];omega) λh' tk' b6=>?_
  exact ⟨rfl,I.turns (t' := tk') (λc u hc' q=>by
   simp only[List.mem_cons,List.not_mem_nil,or_false,not_or] at hc'
   exact b6 c u hc'.1 hc'.2.2.1 hc'.2.2.2.1 hc'.2.2.2.2 q) hf⟩
 self:=λ_ _ _ _ _ st h=>wpAny_pyIter_zip st.1 h
theorem zjm {n l1 l2:Nat}(b1:l1<n)(b2:l2<n):Zap (n+4) (n+2) (n+3) n (n+1) [n,l1] [n+1,l2]:=by
 have h:∀ {a b c:Nat},a≠b->a≠c->a∉[b,c]:=λh1 h2 hm=>by
  rcases List.mem_cons.mp hm with e | e
  ·exact h1 e
  ·exact h2 (List.mem_singleton.mp e)
 constructor
 all_goals first
  | exact h (by omega) (by omega)
  | (show (_:Nat)≠_;omega)
theorem zim {K:PySem.W.Frag}{a1 a2:Addr}{xs ys:List V}{g:TG}{tb:TS}{D:Ends}{σ:St}{H:Hp}(Pv:Nat->St->Hp->Prop)(h0:Pv 0 σ H)(hxy:xs.length=ys.length)(hl:∀ i σ H,i<=xs.length->Pv i σ H->SqL K H a1 xs/\SqL K H a2 ys)
  (hs:∀ i x y σ H p,xs[i]?=some x->ys[i]?=some y->Pv i σ H->H p=none->g (.ref p) σ (upd H p (.tup [x,y])) fun σ2 H2=>tb { D with nx:=Pv (i+1),ct:=Pv (i+1),bk:=D.nx } σ2 H2) (hd:∀ σ H,Pv xs.length σ H->D.nx σ H):
  ∃ W:Nat->Nat->St->Hp->Prop,(∃ m,W 0 m σ H)/\∀ i m σ H,W i m σ H->
   ((znJ K a1 a2).stop i H/\D.nx σ H)\/((znJ K a1 a2).go i H/\∃ N:St->Hp->Prop,(∀ σ' H',N σ' H' -> ∃ m',m'<m/\W (i+1) m' σ' H')/\∀ x H',(znJ K a1 a2).yld i H x H' -> g x σ H' fun σ2 H2=>tb { D with nx:=N,ct:=N,bk:=D.nx } σ2 H2):=by
 refine ⟨λi m σ H=>m=xs.length-i/\i<=xs.length/\Pv i σ H,⟨xs.length,by simp,Nat.zero_le _,h0⟩,?_⟩
 rintro i m σ H ⟨rfl,hi,p⟩
 obtain ⟨q1,q2⟩:=hl i σ H hi p
 by_cases hlt:i<xs.length
 ·refine .inr ⟨⟨xs,_,ys,_,q1,List.getElem?_eq_getElem hlt,q2,List.getElem?_eq_getElem (by omega)⟩,Pv (i+1),fun σ' H' p' => ⟨xs.length-(i+1),by omega,rfl,hlt,p'⟩,λx H' y=>?_⟩
  obtain ⟨p',x',y',hp',rfl,rfl,hx,hy⟩:=y
  exact hs i x' y' σ H p' (hx xs q1) (hy ys q2) p hp'
 ·have e:i=xs.length:=by omega
  subst e
  exact .inl ⟨⟨xs,ys,q1,q2,.inl rfl⟩,hd σ H p⟩
section
variable {X:Cx}
def zo5 (K:PySem.W.Frag)(ta:TA):TI:=fun σ H R=>ta σ H λvs H1=>∃ a1 a2,vs=[.ref a1,.ref a2]/\(∃ xs,SqL K H1 a1 xs)/\(∃ ys,SqL K H1 a2 ys)/\R (znJ K a1 a2) H1
theorem boot_zip:bootBuiltins "zip" = some (.type "zip"):=by decide +kernel
theorem zkL {K:PySem.W.Frag}(eK:X.K=K){a b:Expr}{ta:TA}{p pos:Pos}{elts:List Expr}{tk:Nat}{tpos:Pos}(hg:Gl X "zip")(hm:X.mg "zip" = none)(ha:PA X [a,b] ta)(hs:starEach [a,b] X.env=[(false,eval a X.env),(false,eval b X.env)]:=by rfl) (hs2:starEach [b] X.env=[(false,eval b X.env)]:=by rfl):
  PI X (.Tuple elts tk tpos) (.Call (.Name "zip" p) [a,b] [] pos) (zo5 K ta):=by
 subst eK
 intro pins s σ H R I h
 refine Call_ (WW I hg hm boot_zip (PyProof.Rows.callWith_type1 (thn (ha pos pins s σ H _ I h) λus s1 ⟨vs,H1,I1,r1,q1⟩=>?_) (by rw[hs,hs2]) (by rw[hs2];rfl)))
 obtain ⟨l1,l2,e,⟨xs,hq1⟩,⟨ys,hq2⟩,q⟩:=q1
 subst e
 cases r1 with
 | cons r rr=>
  cases rr with
  | cons r' rr=>
   cases rr
   cases (show _=Value.ref l1 from r)
   cases (show _=Value.ref l2 from r')
   obtain ⟨its1,rv1,p1,_⟩:=I1.list hq1
   obtain ⟨its2,rv2,p2,_⟩:=I1.list hq2
   have b1:l1<s1.heap.objs.size:=by obtain ⟨o,e,_⟩:=id p1.isList;exact Heap.lt_size e
   have b2:l2<s1.heap.objs.size:=by obtain ⟨o,e,_⟩:=id p2.isList;exact Heap.lt_size e
   refine zhE (show s1.heap.IsList l1 its1.toArray from p1.isList) (show s1.heap.IsList l2 its2.toArray from p2.isList) λh' hz ht ho i1 i2 hk=>?_
   have Z:=zjm b1 b2
   refine wpAny_pyIter_zip hz ⟨s1.heap.objs.size+4,_,_,_,H1,rfl,I1.kept (t' := s1.toks) hk,zhb Z (Nat.ne_of_lt b1) (Nat.ne_of_lt (Nat.lt_succ_of_lt b2)),⟨hz,ht,⟨_,_,ho⟩,i1,i2⟩,λc hc=>?_,q⟩
   have hc' : s1.heap.objs.size<=c:=by
    simp only[List.mem_cons,List.not_mem_nil,or_false] at hc
    rcases hc with rfl | rfl | rfl | rfl | rfl
    ·exact Nat.le_add_right _ _
    ·exact Nat.le_add_right _ _
    ·exact Nat.le_add_right _ _
    ·exact Nat.le_refl _
    ·exact Nat.le_add_right _ _
   exact I1.zjx hc' (I1.hok.fresh hc')
end
end L2
namespace K32
open PySem L2 Frac Lw Dig PySem.NumText Nm
open Ord Num Look Rdo
def zoF:Sp:=λ_ _ _ _=>False
def zhD (K:PySem.W.Frag):Sp:=λvs H Q _=>∃ (G:Hp) (v1:V) (L:Fs->Fs->An) (gs:List Fs),vs=[v1]/\ZL G H/\Dat K G v1 (zlN L gs)/\gs.length<=1000/\agree L gs=true/\∀ G' H',Yr G H G' H' -> Q .non H'
def znN (book:List Str):List PyData->PyData->Prop:=λds d=>∃ (ws:List Wd) (num:Int->Int->Prop) (gs:List Fs),ds=[dOs ws,.tuple (gs.map dT)]/\OC book num ws/\(∀ g∈gs,FZ book.length g)/\gs.length<=1000/\Wk (Z9 book ws) (· ∈ gs)/\d = .list (gs.map λg=>.int (rk (Z9 book ws) (XJ gs) g:Nat))
section
variable {P:Program}{w:World}{K:PySem.W.Frag}{mg:Str->Option Value}{base:Heap}
theorem zbH (T:Top K mg):Yi P w K mg base CX0 1 T.WX T.fd_picked_out ["row", "places"] zoF:=by
 refine T.VH.ok zb3 (λvs H Q E h=>h.elim) (λcdv A outer s H vs Q E hr h=>h.elim)
theorem zif (T:Top K mg):Yi P w K mg base CX0 4 T.Xy T.fd_three_against ["table"] (zhD K):=by
 have G_against_ranks:Yi P w K mg base CX0 3 T.Y4 T.fd_against_ranks ["table"] (UL K):=(zbk T).mono (by decide)
 have G_looks_agree:Yi P w K mg base CX0 3 T.Wb T.fd_looks_agree ["table"] (spP K zjD):=zh3 T
 have G_picked_out:Yi P w K mg base CX0 3 T.WX T.fd_picked_out ["row", "places"] zoF:=(zbH T).mono (by decide)
 refine T.JQ.ok Xg (λvs H Q E h=>?_) (λcdv A outer s H vs Q E hr h=>?_)
 ·obtain ⟨G,v1,L,gs,rfl,_⟩:=h
  rfl
 ·obtain ⟨G,v1,L,gs,rfl,sg,h1,hl,ha,k⟩:=h
  refine ⟨_,(Ze (ZD (i:=1) Xg.nd rfl (Or.inl rfl) (Zx G_against_ranks hr (by rfl) T.J7 T.Wr.kp T.JR .nil Z3 (Za (pv 0) Zf Zd)))
   (Ze (Yt (ZF zjk (pv 1) zay (ZR _)) (Zo (Zy zay)) ZQ)
   (Ze (Wz PassesOwn.never rfl (Jd (by rfl) T.Q5 (Za (Yd (Yb (K:=K) rfl) (by rfl) T.zb9 PySem.boot_len (Za (pv 0) Zf Zd)) Zf Xa)) (Yy (i:=2) Xg.nd rfl (Or.inl rfl)) (Ze (ZD (i:=3) Xg.nd rfl (Or.inr rfl) (Yg (Za (ZZ (Xr (K:=K) rfl) (pv 1) Zg (λ_ _=>rfl)) (Za (ZZ (Xr (K:=K) rfl) (pv 1) Zg (λ_ _=>rfl)) (Za (pv 2) Zf Zd) Zu) Zu)))
   (Zo (Yt (zmv (VD (Zx G_looks_agree hr (by rfl) T.zbY T.QH.kp T.zbF .nil Z3 (Za (zbB (x:= "place") (cap:=["table", "three"]) (js:=[0,3]) ⟨rfl,by decide +kernel,by decide +kernel,rfl,(by show ∀ p∈(_:List (Str×NameKind)),p.2=NameKind.free->List.lookup p.1 (Zm Yw).names=some NameKind.cell;decide +kernel),by decide +kernel,by decide +kernel,by decide +kernel⟩ rfl rfl (λ_ _ h=>h) (zbe (pv 3)) (λ_ _ _ _=>⟨Jv,(Zx G_picked_out hr (by rfl) T.zcp T.VH.kp T.zca .nil Z3 (Za (ZZ (Zz (K:=K) rfl) (pv 1) (pv 0) (λ_ _=>rfl)) (Za (pv 2) Zf Zd) Zu))⟩)) Zf Qz)))) (Zo (Zy (pv 3))) ZQ))))
   (Zo (Zy zay))))) ,?_⟩
  refine ⟨_,rfl,G,v1,L,gs,rfl,sg,h1,hl,λG' H' g _=>?_,λp G' H' g ha' => by rw[ha] at ha';cases ha'⟩
  exact ⟨_,rfl,rfl,_,rfl,zlJ (k _ _ g)⟩
theorem zmr {σ:St}{G:Hp}{tb:TE}{i:Nat}{pd b' : Addr}{xs:List YE}{k:KX}{n:Int}(hG:G pd=some (dY P w pd xs))(hx:∀ z∈xs,Dat K G (.ref z.2.1) (zcG z.1))(ha:σ[i]?=some (some (.ref pd)))(hb:Ev K tb σ G (zcG k))(hm:(k,b',n)∈xs):Ev K (tOp (zoP P w K) (Xq i) tb) σ G (.int n):=
 λG1 H s1 s2 Q kk=>⟨_,ha,hb G1 H s1 s2 _ λv G2 H2 g2 hv=>by
  obtain ⟨p,us,rfl,_,_⟩:=Dat.tup hv
  exact ⟨n,pd,p,b',k,xs,G2,rfl,rfl,g2.gh _ _ (g2.gg _ _ (s1 _ _ hG)),g2.gh,hv,λz hz=>(hx z hz).same (s1.trans g2.gg),hm,kk _ G2 H2 g2 (Zv _)⟩⟩
theorem zfO (gs:List Fs):(XJ gs).Nodup:=by
 have key:∀ (l acc:List Fs),acc.Nodup->(l.foldl (λacc f=>if (acc.any λg=>decide (g=f))=true then acc else acc++[f]) acc).Nodup:=by
  intro l
  induction l with
  | nil=>intro acc h;exact h
  | cons x r ih=>
   intro acc h
   rw[List.foldl_cons]
   refine ih _ ?_
   by_cases z:(acc.any λg=>decide (g=x))=true
   ·rw[if_pos z];exact h
   ·rw[if_neg z]
    refine List.nodup_append.mpr ⟨h,by simp,λa ha b hb e=>?_⟩
    have hb' : b=x:=by simpa using hb
    exact z (List.any_eq_true.mpr ⟨a,ha,decide_eq_true (e.trans hb')⟩)
 exact key gs [] List.nodup_nil
theorem zbc (T:Top K mg)(M:Bs K mg base)(W:Wds K w.params mg)(W1:Txs K w.params mg "AHEAD" JG)(W2:Txs K w.params mg "OTHER_WAY" Jh):Yi P w K mg base CX0 9 T.Jf T.fd_ranks_of ["order", "book", "row"] (spB K T.Ye Z6 znN):=by
 have G_table_of:Yi P w K mg base CX0 8 T.Qi T.fd_table_of ["order", "book", "things"] (spB K T.Ye Z6 zoi):=ziB T M W W1 W2
 have G_each_once:Yi P w K mg base CX0 8 T.Jp T.fd_each_once ["things"] (spP K zk4):=(zkf T).mono (by decide)
 have G_three_against:Yi P w K mg base CX0 8 T.Xy T.fd_three_against ["table"] (zhD K):=(zif T).mono (by decide)
 have G_ranks_in:Yi P w K mg base CX0 8 T.Ji T.fd_ranks_in ["table"] (spP K zer):=(zex T).mono (by decide)
 refine T.Vh.ok Xj (λvs H Q E h=>?_) (λcdv A outer s H vs Q E hr h=>?_)
 ·obtain ⟨G,book,vo,pb,us,ds,d,rfl,_,_,_,hd,⟨ws,num,gs,rfl,_⟩,_⟩:=h
  have:=hd.length
  simp only[List.length_cons,List.length_nil] at this ⊢
  omega
 ·obtain ⟨G,book,vo,pb,us,ds,d,rfl,hT,sg,hpb,hd,⟨ws,num,gs,rfl,oc,hgs,hl,wk,rfl⟩,k⟩:=h
  obtain ⟨v0,r0,e0,h0,hd⟩:=hd.cons
  cases e0
  rename Yl K G us _=>hd
  obtain ⟨v2,r2,rfl,h2,hd⟩:=hd.cons
  cases hd.nil
  have hu:=hr.units
  have hul:=zeI gs
  have zl:(2000:Nat)<=sizeLine:=by decide
  refine ⟨_,(Ze (ZD (i:=3) Xj.nd rfl (Or.inr rfl) (Zx G_each_once hr (by rfl) T.zdo T.Uu.kp T.zdX .nil Z3 (Za (pv 2) Zf Zd)))
   (Ze (ZD (i:=4) Xj.nd rfl (Or.inl rfl) (Zx G_table_of hr (by rfl) T.zfE T.zbh.kp T.zfr .nil Z3 (Za (pv 0) (Za (pv 1) (Za (pv 3) Zf Zd) Zd) Zd)))
   (Ze (ZD (i:=5) Xj.nd rfl (Or.inl rfl) (Zx G_three_against hr (by rfl) T.zan T.JQ.kp T.U8 .nil Z3 (Za (pv 4) Zf Zd)))
   (Ze (Yt (ZF zk2 (pv 5) zay (ZR _)) zgw ZQ)
   (Ze (ZD (i:=6) Xj.nd rfl (Or.inr rfl) (ziJ (P:=P) (w:=w) rfl rfl))
   (Ze (Wz PassesOwn.never rfl (zkL (K:=K) rfl (by rfl) T.zoG (Za (pv 3) (Za (Zx G_ranks_in hr (by rfl) T.zaT T.Vk.kp T.za2 .nil Z3 (Za (pv 4) Zf Zd)) Zf Xa) Zd)) (zcT (n:=2) rfl (XH (Yy (i:=7) Xj.nd rfl (Or.inl rfl)) (XH (Yy (i:=8) Xj.nd rfl (Or.inl rfl)) zac)) (by rfl)) (Zo (zik (P:=P) (w:=w) (K:=K) rfl rfl rfl hu (pv 6) (pv 7) (pv 8) (by rfl))))
   (Zo (Zy (zbB (x:= "thing") (cap:=["ranks"]) (js:=[6]) ⟨rfl,by decide +kernel,by decide +kernel,rfl,(by show ∀ p∈(_:List (Str×NameKind)),p.2=NameKind.free->List.lookup p.1 (Zm Wh).names=some NameKind.cell;decide +kernel),by decide +kernel,by decide +kernel,by decide +kernel⟩ rfl rfl (λ_ _ h=>h) (zbe (pv 2)) (λ_ _ _ _=>⟨Jv,(ZZ (zox (P:=P) (w:=w) (K:=K) rfl rfl rfl hu) (pv 1) (pv 0) (λ_ _=>rfl))⟩)))))))))) ,?_⟩
  refine Jb (K:=K) (Z4 (E:=E0) (R:=zk4) (Zc (Zb rfl h2) Zr) ⟨gs,rfl,hl,rfl⟩) sg λv3 G1 H1 g1 h3=>?_
  refine Jb (K:=K) (zbK (R:=zoi) (d:=zlN (Z9 book ws) (XJ gs)) (g1.gg _ _ hT) (g1.gg _ _ hpb) rfl (Zb rfl (h0.same g1.gg)) (Zc (Zb rfl h3) Zr) ⟨ws,num,XJ gs,rfl,oc,λg hg=>hgs g ((Qh gs g).mp hg),by omega,rfl⟩) g1.gh λv4 G2 H2 g2 h4=>?_
  have ag:agree (Z9 book ws) (XJ gs)=true:=(zcU _ _).mpr (wk.sub λf hf=>(Qh gs f).mp hf)
  refine ⟨_,rfl,G2,v4,Z9 book ws,XJ gs,rfl,g2.gh,h4,by omega,ag,λG3 H3 g3=>?_⟩
  refine ⟨_,rfl,rfl,_,rfl,zlH ?_⟩
  refine λpd hpd=>?_
  have g03:=(g1.trans g2).trans g3
  have gpd:G3 pd=none:=g3.gh.free hpd
  have s3:ZL G3 (upd H3 pd (dY P w pd [])):=g3.gh.trans (ZX hpd)
  have h3' := h3.same (g2.gg.trans g3.gg)
  obtain ⟨p3,ys,rfl,hp3,hys⟩:=h3'.lst
  have hyl:ys.length=(XJ gs).length:=by rw[hys.length,List.length_map]
  refine ⟨_,rfl,_,rfl,G3,_,_,s3,ZG (h4.same g3.gg) ZP,⟨Z9 book ws,XJ gs,rfl,by omega,rfl⟩,λv5 G4 H4 g4 h5=>?_⟩
  obtain ⟨p5,zs,rfl,hp5,hzs⟩:=h5.lst
  have hzl:zs.length=(XJ gs).length:=by rw[hzs.length,List.length_map]
  have gpd4:G4 pd=none:=by
   cases e:G4 pd with
   | none=>rfl
   | some o=>
    rcases g4.fr pd o e with h | h
    ·rw[gpd] at h;cases h
    ·rw[Zh] at h;cases h
  have np3:p3≠pd:=Zn hp3 gpd
  have np5:p5≠pd:=Zn hp5 gpd4
  refine ⟨p3,p5,rfl,⟨ys,SqL.of (g4.gh _ _ (g4.gg _ _ hp3))⟩,⟨zs,SqL.of (g4.gh _ _ hp5)⟩,zim (xs:=ys) (ys:=zs) (λi σ H' => ∃ (vt vr:Option V) (xs:List YE),σ=[some vo,some (.ref pb),some v2,some (.ref p3),some v4,some .non,some (.ref pd),vt,vr]/\(∀ b o,b≠pd->H4 b=some o->H' b=some o)/\H' pd=some (dY P w pd xs)/\xs.map (λx=>(x.1,x.2.2))=((XJ gs).take i).map (λf=>(zbn f,((rk (Z9 book ws) (XJ gs) f:Nat):Int)))/\∀ z∈xs,Dat K G4 (.ref z.2.1) (zcG z.1))
   ⟨_,_,[],rfl,λb o n e=>e,g4.hh _ _ Zh,rfl,λz hz=>by cases hz⟩ (by omega) ?_ ?_ ?_⟩
  ·rintro i σ H' _ ⟨vt,vr,xs,rfl,kp,_⟩
   exact ⟨SqL.of (kp _ _ np3 (g4.gh _ _ (g4.gg _ _ hp3))),SqL.of (kp _ _ np5 (g4.gh _ _ hp5))⟩
  ·rintro i x y σ H' p hx hy ⟨vt,vr,xs,rfl,kp,hk,hxs,hdat⟩ hp
   have hi:i<(XJ gs).length:=by have:=(List.getElem?_eq_some_iff.mp hx).1;omega
   have hgi:(XJ gs)[i]?=some (XJ gs)[i]:=List.getElem?_eq_getElem hi
   obtain ⟨dd,hdd,hxd⟩:=hys.zjK hx
   rw[List.getElem?_map,hgi] at hdd
   have hdd:some (dT (XJ gs)[i])=some dd:=hdd
   injection hdd with hdd
   subst hdd
   obtain ⟨de,hde,hyd⟩:=hzs.zjK hy
   rw[List.getElem?_map,hgi] at hde
   have hde:some (PyData.int (rk (Z9 book ws) (XJ gs) (XJ gs)[i]:Nat))=some de:=hde
   injection hde with hde
   subst hde
   have nd:=zfO gs
   have hnew:(XJ gs)[i]∉(XJ gs).take i:=λh=>by
    obtain ⟨j,hj,e⟩:=List.mem_take_iff_getElem.mp h
    exact List.pairwise_iff_getElem.mp nd j i (by omega) hi (by omega) e
   generalize (XJ gs)[i]=f at hgi hxd hyd hnew
   obtain ⟨px,us,rfl,hpx,hus⟩:=Dat.tup hxd
   have ey:=hyd.int
   subst ey
   refine ⟨p,_,rfl,SqT.of Zh,rfl,_,_,rfl,_,_,rfl,rfl,?_⟩
   have npp:pd≠p:=λe=>by rw[← e,hk] at hp;cases hp
   have sG4:ZL G4 (upd H' p (.tup [.ref px,.int (rk (Z9 book ws) (XJ gs) f:Nat)])):=λb o e=>ZX hp b o (kp b o (Zn e gpd4) (g4.gh b o e))
   have hkeys:xs.map (·.1)=((XJ gs).take i).map zbn:=by
    have:=congrArg (List.map Prod.fst) hxs
    rw[List.map_map,List.map_map] at this
    exact this
   have hxl:xs.length<=(XJ gs).length:=by
    have:=congrArg List.length hkeys
    rw[List.length_map,List.length_map,List.length_take] at this
    omega
   have hpx4:Dat K G4 (.ref px) (zcG (zbn f)):=by rw[Ul];exact hxd.same g4.gg
   refine ⟨_,rfl,_,rfl,_,rfl,_,pd,px,zbn f,xs,G4,rfl,rfl,rfl,by rw[Zq npp];exact hk,sG4,hpx4,hdat,?_,by omega,?_⟩
   ·rw[hkeys]
    intro h
    obtain ⟨g,hg,e⟩:=List.mem_map.mp h
    rw[zei e] at hg
    exact hnew hg
   ·refine ⟨_,_,xs++[(zbn f,px,((rk (Z9 book ws) (XJ gs) f:Nat):Int))],rfl,λb o n e=>?_,Zh,?_,λz hz=>?_⟩
    ·rw[Zq n]
     exact ZX hp b o (kp b o n e)
    ·rw[List.map_append,hxs,List.take_succ,hgi,List.map_append];rfl
    ·rcases List.mem_append.mp hz with hz | hz
     ·exact hdat z hz
     ·rw[List.mem_singleton.mp hz];exact hpx4
  ·rintro σ H5 ⟨vt,vr,xs,rfl,kp,hk,hxs,hdat⟩
   have ht:(XJ gs).take ys.length=XJ gs:=by rw[hyl];exact List.take_length
   rw[ht] at hxs
   have g35:Yr G3 H3 (upd G4 pd (dY P w pd xs)) H5:=by
    refine ⟨λb o e=>?_,λb o e=>?_,λb o e=>?_,λb o e=>?_⟩
    ·rw[Zq (Zn e gpd)];exact g4.gg b o e
    ·by_cases hb:b=pd
     ·subst hb;rw[Zh] at e;rw[hk];exact e
     ·rw[Zq hb] at e;exact kp b o hb (g4.gh b o e)
    ·have hb:b≠pd:=Zn e hpd
     exact kp b o hb (g4.hh b o (by rw[Zq hb];exact e))
    ·by_cases hb:b=pd
     ·subst hb;exact .inr hpd
     ·rw[Zq hb] at e
      rcases g4.fr b o e with h | h
      ·exact .inl h
      ·rw[Zq hb] at h;exact .inr h
   have s45:ZL G4 (upd G4 pd (dY P w pd xs)):=λb o e=>by rw[Zq (Zn e gpd4)];exact e
   have g05:=g03.trans g35
   refine ZW (K:=K) (zgF (js:=[6]) gs dT (λg=>some (.int (rk (Z9 book ws) (XJ gs) g:Nat))) (Zb rfl (h2.same g05.gg)) (by omega) λG6 i g x s6 hg hx=>lc1 Qf ?_) g35.gh λv G' H' g' hv=>k v G' H' (g05.trans g') (by rw[Vp] at hv;exact hv)
   have hm:(zbn g,((rk (Z9 book ws) (XJ gs) g:Nat):Int))∈xs.map (λx=>(x.1,x.2.2)):=by
    rw[hxs]
    exact List.mem_map.mpr ⟨g,(Qh gs g).mpr (List.mem_of_getElem? hg),rfl⟩
   obtain ⟨⟨k1,b',n'⟩,hm1,hm2⟩:=List.mem_map.mp hm
   injection hm2 with hm2 hm3
   have hm2:k1=zbn g:=hm2
   have hm3:n'=((rk (Z9 book ws) (XJ gs) g:Nat):Int):=hm3
   subst hm2 hm3
   exact zmr (s6 _ _ Zh) (λz hz=>(hdat z hz).same (s45.trans s6)) rfl (Zb rfl (by rw[Ul];exact hx)) hm1
end
end K32
namespace StbG
open PySem PyProof.Rows
def R (f:Keyed->Int)(xs:Array Keyed)(i:Nat):Int:=match xs[i]? with
 | some p=>f p
 | none=>0
theorem zhM {f:Keyed->Int}{xs ys:Array Keyed}{i j:Nat}(h:xs[i]?=ys[j]?):R f xs i=R f ys j:=by unfold R;rw[h]
structure SB (κ:SortKind)(a₀:Array Keyed)(st:SortSt):Prop where
 perm:(arrOf st).Perm a₀
 kind:kindOf st=κ
 failed:failedOf st=none
 pend:pendingOf st = #[]
theorem SB.size {κ:SortKind}{a₀:Array Keyed}{st:SortSt}(h:SB κ a₀ st):(arrOf st).size=a₀.size:=h.perm.size_eq
theorem SB.setArr {κ:SortKind}{a₀:Array Keyed}{st:SortSt}(h:SB κ a₀ st){xs:Array Keyed}(hp:xs.Perm (arrOf st)):SB κ a₀ (PyProof.Rows.setArr st xs):=⟨hp.trans h.perm,h.kind,h.failed,h.pend⟩
def Srt (ρ:Keyed->Int)(xs:Array Keyed)(n:Nat):Prop:=∀ i j,i<=j->j<n->R ρ xs i<=R ρ xs j
def Up (ρ τ:Keyed->Int)(xs:Array Keyed)(n:Nat):Prop:=∀ i j,i<j->j<n->R ρ xs i<R ρ xs j\/(R ρ xs i=R ρ xs j/\R τ xs i<=R τ xs j)
def Dn (ρ τ:Keyed->Int)(xs:Array Keyed)(n:Nat):Prop:=∀ i j,i<j->j<n->R ρ xs j<R ρ xs i\/(R ρ xs i=R ρ xs j/\R τ xs j<=R τ xs i)
def Rs (τ:Keyed->Int)(N:Nat)(xs:Array Keyed)(n:Nat):Prop:=∀ i j,i<j->n<=j->j<N->R τ xs i<=R τ xs j
variable {ρ τ:Keyed->Int}{κ:SortKind}
theorem Rs.mono {N n m:Nat}{xs:Array Keyed}(h:Rs τ N xs n)(k:n<=m):Rs τ N xs m:=λi j a b c=>h i j a (by omega) c
theorem Up.le {xs:Array Keyed}{n:Nat}(h:Up ρ τ xs n):Srt ρ xs n:=λi j hij hj=>by
 rcases Nat.lt_or_eq_of_le hij with q | rfl
 ·rcases h i j q hj with z | z <;> omega
 ·exact Int.le_refl _
theorem zmD {xs:Array Keyed}{a n N:Nat}(hu:Up ρ τ xs a)(hr:Rs τ N xs a)(hs:Srt ρ xs n)(hn:n<=N):Up ρ τ xs n:=λi j hij hj=>by
 have le:=hs i j (Nat.le_of_lt hij) hj
 by_cases h:j<a
 ·exact hu i j hij h
 ·have:=hr i j hij (by omega) (by omega)
  omega
theorem zjI {xs:Array Keyed}{i j:Nat}(hj:j<=xs.size)(k:Nat):(i<=k/\k<j->R ρ (mirror xs i j ((j-i) / 2)) k=R ρ xs (i+j-1-k)/\R τ (mirror xs i j ((j-i) / 2)) k=R τ xs (i+j-1-k))/\
  (¬ (i<=k/\k<j)->R ρ (mirror xs i j ((j-i) / 2)) k=R ρ xs k/\R τ (mirror xs i j ((j-i) / 2)) k=R τ xs k):=by
 have e:=getElem?_mirror_all (i:=i) hj k
 refine ⟨λh=>?_,λh=>?_⟩
 ·rw[if_pos h] at e;exact ⟨zhM e,zhM e⟩
 ·rw[if_neg h] at e;exact ⟨zhM e,zhM e⟩
theorem znV {xs:Array Keyed}{src d:Nat}(hs:src<xs.size)(hd:d<=src)(k:Nat):(k=src-d->R ρ (bubble xs src d) k=R ρ xs src/\R τ (bubble xs src d) k=R τ xs src)/\
  (src-d<k/\k<=src->R ρ (bubble xs src d) k=R ρ xs (k-1)/\R τ (bubble xs src d) k=R τ xs (k-1))/\(k<src-d\/src<k->R ρ (bubble xs src d) k=R ρ xs k/\R τ (bubble xs src d) k=R τ xs k):=by
 have e:=getElem?_bubble hs d hd k
 refine ⟨λh=>?_,λh=>?_,λh=>?_⟩
 ·rw[if_pos h] at e;exact ⟨zhM e,zhM e⟩
 ·rw[if_neg (by omega),if_pos h] at e;exact ⟨zhM e,zhM e⟩
 ·rw[if_neg (by omega),if_neg (by omega)] at e;exact ⟨zhM e,zhM e⟩
theorem zhp {xs:Array Keyed}{g x:Nat}(hx:x<=xs.size)(hg:g<=x)(h1:Dn ρ τ xs g)(h2:∀ i,i<g->g<x->R ρ xs g<R ρ xs i)(h3:∀ i,g<=i->i<x->R ρ xs i=R ρ xs g)(h4:∀ i j,i<j->g<=i->j<x->R τ xs i<=R τ xs j):
  Dn ρ τ (mirror xs g x ((x-g) / 2)) x:=λi j hij hj=>by
 have mi:=zjI (ρ:=ρ) (τ:=τ) (i:=g) hx i
 have mj:=zjI (ρ:=ρ) (τ:=τ) (i:=g) hx j
 by_cases c1:g<=i
 ·obtain ⟨a1,a2⟩:=mi.1 ⟨c1,by omega⟩
  obtain ⟨b1,b2⟩:=mj.1 ⟨by omega,hj⟩
  rw[a1,a2,b1,b2]
  have q1:=h3 (g+x-1-i) (by omega) (by omega)
  have q2:=h3 (g+x-1-j) (by omega) (by omega)
  exact .inr ⟨by omega,h4 _ _ (by omega) (by omega) (by omega)⟩
 ·obtain ⟨a1,a2⟩:=mi.2 (by omega)
  rw[a1,a2]
  by_cases c2:g<=j
  ·obtain ⟨b1,b2⟩:=mj.1 ⟨c2,hj⟩
   rw[b1,b2]
   have q2:=h3 (g+x-1-j) (by omega) (by omega)
   have:=h2 i (by omega) (by omega)
   exact .inl (by omega)
  ·obtain ⟨b1,b2⟩:=mj.2 (by omega)
   rw[b1,b2]
   exact h1 i j hij (by omega)
theorem zcu {xs:Array Keyed}{N g x:Nat}(hx:x<=xs.size)(h:Rs τ N xs x):Rs τ N (mirror xs g x ((x-g) / 2)) x:=λi j hij h1 h2=>by
 have mi:=zjI (ρ:=τ) (τ:=τ) (i:=g) hx i
 obtain ⟨_,b2⟩:=(zjI (ρ:=τ) (τ:=τ) (i:=g) hx j).2 (by omega)
 rw[b2]
 by_cases c1:g<=i/\i<x
 ·rw[(mi.1 c1).2];exact h _ _ (by omega) (by omega) h2
 ·rw[(mi.2 c1).2];exact h _ _ hij (by omega) h2
section
variable {prog:Program}{w:World}{A:Around}{E:Value->Shared->Prop}{s:Shared}{a₀:Array Keyed}
def Cmp (prog:Program)(w:World)(A:Around)(E:Value->Shared->Prop)(s:Shared)(ρ:Keyed->Int)(κ:SortKind)(a₀:Array Keyed):Prop:=∀ {st:SortSt}{i j:Nat}{Q:Option Bool->SortSt->Prop},SB κ a₀ st->i<a₀.size->j<a₀.size->Q (some (decide (R ρ (arrOf st) i<R ρ (arrOf st) j))) st->wpS (model prog w) A E s (ltAt' i j) Q st
theorem zl9 {st:SortSt}{a nrem:Nat}{Q:AscSt->SortSt->Prop}(ik:Cmp prog w A E s ρ κ a₀)(hn:nrem<=a₀.size)(a1:1<=a)(an:a<=nrem)(hB:SB κ a₀ st)(hs:Srt ρ (arrOf st) a)
  (k:∀ n,a<=n->n<=nrem->Srt ρ (arrOf st) n->(n=nrem\/R ρ (arrOf st) n<R ρ (arrOf st) (n-1))->Q (none,n) st):wpS (model prog w) A E s (ascLoop a nrem) Q st:=by
 unfold ascLoop
 refine wpS_forRange (I:=λx c s2=>s2=st/\c=(none,x)/\Srt ρ (arrOf st) x) ?turn ?over ⟨rfl,rfl,hs⟩
 case over=>
  rintro c s2 ⟨rfl,rfl,h⟩
  rw[Nat.max_eq_right an] at h ⊢
  exact k nrem an (Nat.le_refl _) h (.inl rfl)
 case turn=>
  rintro x c s2 x1 x2 ⟨rfl,rfl,h⟩
  dsimp only
  refine wpS_bind (ik hB (by omega) (by omega) ?_)
  by_cases less:R ρ (arrOf s2) x<R ρ (arrOf s2) (x-1)
  ·rw[decide_eq_true less]
   simp only[if_true]
   exact wpS_pure (k x x1 (by omega) h (.inr less))
  ·rw[decide_eq_false less]
   simp only[Bool.false_eq_true,if_false]
   refine wpS_pure ⟨rfl,rfl,λi j hij hj=>?_⟩
   by_cases c:j<x
   ·exact h i j hij c
   ·have e:j=x:=by omega
    subst e
    by_cases e2:i=j
    ·rw[e2];exact Int.le_refl _
    ·have:=h i (j-1) (by omega) (by omega)
     omega
abbrev Good (ρ τ:Keyed->Int)(κ:SortKind)(a₀:Array Keyed)(st:SortSt)(n:Nat):Prop:=SB κ a₀ st/\Up ρ τ (arrOf st) n/\Rs τ a₀.size (arrOf st) n
theorem zjh {st:SortSt}{n nrem:Nat}{Q:Option Nat->SortSt->Prop}(ik:Cmp prog w A E s ρ κ a₀)(hn:nrem<=a₀.size)(n1:1<=n)(nn:n<=nrem)(hB:SB κ a₀ st)(hd:Dn ρ τ (arrOf st) n)(hr:Rs τ a₀.size (arrOf st) n)
  (k:∀ m st',Good ρ τ κ a₀ st' m->1<=m->m<=nrem->Q (some m) st'):wpS (model prog w) A E s (tail3 n nrem) Q st:=by
 have hsz:n<=(arrOf st).size:=by rw[hB.size];omega
 have u:Up ρ τ (mirror (arrOf st) 0 n ((n-0) / 2)) n:=λi j hij hj=>by
  obtain ⟨a1,a2⟩:=(zjI (ρ:=ρ) (τ:=τ) (i:=0) hsz i).1 ⟨Nat.zero_le _,by omega⟩
  obtain ⟨b1,b2⟩:=(zjI (ρ:=ρ) (τ:=τ) (i:=0) hsz j).1 ⟨Nat.zero_le _,hj⟩
  rw[a1,a2,b1,b2]
  have:=hd (0+n-1-j) (0+n-1-i) (by omega) (by omega)
  omega
 have r:Rs τ a₀.size (mirror (arrOf st) 0 n ((n-0) / 2)) n:=zcu hsz hr
 unfold tail3
 refine wpS_bind (wpS_reverse (wpS_bind (zl9 ik hn n1 nn (hB.setArr (mirror_perm _ _ _ _)) (Up.le u) λm m1 m2 sm _=>?_)))
 exact wpS_pure (k m _ ⟨hB.setArr (mirror_perm _ _ _ _),zmD u r sm (by omega),Rs.mono r m1⟩ (by omega) m2)
structure zfK (ρ τ:Keyed->Int)(κ:SortKind)(a₀:Array Keyed)(st:SortSt)(x g:Nat):Prop where
 b:SB κ a₀ st
 lt:g<x
 d:Dn ρ τ (arrOf st) g
 hi:∀ i,i<g->R ρ (arrOf st) g<R ρ (arrOf st) i
 eq:∀ i,g<=i->i<x->R ρ (arrOf st) i=R ρ (arrOf st) g
 r:Rs τ a₀.size (arrOf st) g
theorem zfK.close {st:SortSt}{x g:Nat}(f:zfK ρ τ κ a₀ st x g)(hx:x<=a₀.size):SB κ a₀ (setArr st (mirror (arrOf st) g x ((x-g) / 2)))/\Dn ρ τ (mirror (arrOf st) g x ((x-g) / 2)) x/\Rs τ a₀.size (mirror (arrOf st) g x ((x-g) / 2)) x/\∀ k,R ρ (mirror (arrOf st) g x ((x-g) / 2)) k=R ρ (arrOf st) k:=by
 have hs:x<=(arrOf st).size:=by rw[f.b.size];exact hx
 have lt:=f.lt
 refine ⟨f.b.setArr (mirror_perm _ _ _ _),zhp hs (Nat.le_of_lt lt) f.d (λi h _=>f.hi i h) f.eq λi j a b c=>f.r i j a (by omega) (by omega),zcu hs (f.r.mono (Nat.le_of_lt lt)),λk=>?_⟩
 by_cases c:g<=k/\k<x
 ·rw[((zjI (ρ:=ρ) (τ:=τ) (i:=g) hs k).1 c).1,f.eq _ (by omega) (by omega),f.eq k c.1 c.2]
 ·rw[((zjI (ρ:=ρ) (τ:=τ) (i:=g) hs k).2 c).1]
theorem zfK.one {st:SortSt}{x:Nat}(f:zfK ρ τ κ a₀ st x (x-1)):Dn ρ τ (arrOf st) x:=λi j hij hj=>by
 have lt:=f.lt
 by_cases c:j<x-1
 ·exact f.d i j hij c
 ·have e:j=x-1:=by omega
  subst e
  exact .inl (f.hi i hij)
theorem zmQ {st:SortSt}{n nrem:Nat}{Q:DescSt->SortSt->Prop}(ik:Cmp prog w A E s ρ κ a₀)(hn:nrem<=a₀.size)(nn:n+1<=nrem)(f0:zfK ρ τ κ a₀ st (n+1) n)
  (k:∀ m q st',zfK ρ τ κ a₀ st' m (m-(q+1))->q+1<=m->m<=nrem->Q (none,m,q) st'):wpS (model prog w) A E s (descLoop (n+1) nrem) Q st:=by
 unfold descLoop
 refine wpS_forRange (I:=λx c st' => ∃ q,c=(none,x,q)/\zfK ρ τ κ a₀ st' x (x-(q+1))/\q+1<=x) ?turn ?over ⟨0,rfl,by simpa using f0,by omega⟩
 case over=>
  rintro c st' ⟨q,rfl,f,hq⟩
  rw[show max (n+1) nrem=nrem from Nat.max_eq_right nn] at f hq ⊢
  exact k nrem q st' f hq (Nat.le_refl _)
 case turn=>
  rintro x c st' hx1 hx2 ⟨q,rfl,f,hq⟩
  dsimp only
  have lx:R ρ (arrOf st') (x-1)=R ρ (arrOf st') (x-(q+1)):=f.eq _ (by omega) (by omega)
  refine wpS_bind (ik f.b (by omega) (by omega) ?_)
  by_cases less:R ρ (arrOf st') x<R ρ (arrOf st') (x-1)
  ·rw[decide_eq_true less]
   simp only[if_true]
   have nextF:∀ st2,SB κ a₀ st2->Dn ρ τ (arrOf st2) x->Rs τ a₀.size (arrOf st2) x->(∀ z,R ρ (arrOf st2) z=R ρ (arrOf st') z)->zfK ρ τ κ a₀ st2 (x+1) (x+1-(0+1)):=λst2 b d r e=>by
    refine ⟨b,by omega,by simpa using d,λi hi=>?_,λi h1 h2=>?_,by simpa using r⟩
    ·have hi' : i<x:=by omega
     rw[show x+1-(0+1)=x by omega,e,e]
     by_cases c:i<x-(q+1)
     ·have:=f.hi i c;omega
     ·have:=f.eq i (by omega) hi';omega
    ·have:i=x+1-(0+1):=by omega
     rw[this]
   by_cases hq0:q>0
   ·rw[if_pos hq0]
    obtain ⟨c1,c2,c3,c4⟩:=f.close (by omega)
    exact wpS_bind (wpS_reverse (wpS_pure ⟨0,rfl,nextF _ c1 c2 c3 c4,by omega⟩))
   ·rw[if_neg hq0]
    have e0:q=0:=by omega
    subst e0
    exact wpS_pure ⟨0,rfl,nextF st' f.b (zfK.one (by simpa using f)) (f.r.mono (by omega)) λ_=>rfl,by omega⟩
  ·rw[decide_eq_false less]
   simp only[Bool.false_eq_true,if_false]
   refine wpS_bind (ik f.b (by omega) (by omega) ?_)
   by_cases more:R ρ (arrOf st') (x-1)<R ρ (arrOf st') x
   ·rw[decide_eq_true more]
    simp only[if_true]
    exact wpS_pure (k x q st' f hq (by omega))
   ·rw[decide_eq_false more]
    simp only[Bool.false_eq_true,if_false]
    have ee:x+1-(q+1+1)=x-(q+1):=by omega
    have f' : zfK ρ τ κ a₀ st' (x+1) (x-(q+1)):=⟨f.b,by omega,f.d,f.hi,λi h1 h2=>by
     by_cases c:i<x
     ·exact f.eq i h1 c
     ·have:i=x:=by omega
      subst this;omega,f.r⟩
    exact wpS_pure ⟨q+1,rfl,by rw[ee];exact f',by omega⟩
theorem zaZ {st:SortSt}{n nrem:Nat}{Q:Option Nat->SortSt->Prop}(ik:Cmp prog w A E s ρ κ a₀)(hn:nrem<=a₀.size)(nn:n+1<=nrem)(f0:zfK ρ τ κ a₀ st (n+1) n)(k:∀ m st',Good ρ τ κ a₀ st' m->1<=m->m<=nrem->Q (some m) st'):
  wpS (model prog w) A E s (descPart n nrem) Q st:=by
 unfold descPart
 refine wpS_bind (wpS_lift (wpAny_rule ⟨rfl,wpS_bind (zmQ ik hn nn f0 λm q st' f hq hm=>?_)⟩))
 dsimp only
 by_cases hq0:q>0
 ·rw[if_pos hq0]
  obtain ⟨c1,c2,c3,_⟩:=f.close (by omega)
  exact wpS_bind (wpS_reverse (zjh ik hn (by omega) hm c1 c2 c3 k))
 ·rw[if_neg hq0]
  have e0:q=0:=by omega
  subst e0
  exact zjh ik hn (by omega) hm f.b (zfK.one (by simpa using f)) (f.r.mono (by omega)) k
theorem zkY {st:SortSt}{nrem:Nat}{Q:Option Nat->SortSt->Prop}(ik:Cmp prog w A E s ρ κ a₀)(hn:nrem<=a₀.size)(n1:1<=nrem)(hB:SB κ a₀ st)(r0:Rs τ a₀.size (arrOf st) 0)(k:∀ m st',Good ρ τ κ a₀ st' m->1<=m->m<=nrem->Q (some m) st'):
  wpS (model prog w) A E s (countRun' 0 nrem) Q st:=by
 have u1:Up ρ τ (arrOf st) 1:=λi j a b=>by omega
 rw[countRun0_eq]
 refine wpS_bind (zl9 ik hn (Nat.le_refl 1) n1 hB u1.le λn m1 m2 sn hor=>?_)
 have un:Up ρ τ (arrOf st) n:=zmD u1 (r0.mono (by omega)) sn (by omega)
 have g:Good ρ τ κ a₀ st n:=⟨hB,un,r0.mono (by omega)⟩
 dsimp only
 by_cases e:n=nrem
 ·rw[if_pos (by simpa using e)];exact wpS_pure (k n st g m1 m2)
 rw[if_neg (by simpa using e)]
 have lt:R ρ (arrOf st) n<R ρ (arrOf st) (n-1):=hor.resolve_left e
 by_cases c:n>1
 ·rw[if_pos c]
  refine wpS_bind (ik hB (by omega) (by omega) ?_)
  by_cases rose:R ρ (arrOf st) 0<R ρ (arrOf st) (n-1)
  ·rw[decide_eq_true rose]
   simp only[if_true]
   exact wpS_pure (k n st g m1 m2)
  ·rw[decide_eq_false rose]
   simp only[Bool.false_eq_true,if_false]
   have all:∀ i,0<=i->i<n->R ρ (arrOf st) i=R ρ (arrOf st) 0:=λi _ hi=>by
    have a1:=sn 0 i (Nat.zero_le _) hi
    have a2:=sn i (n-1) (by omega) (by omega)
    omega
   have f:zfK ρ τ κ a₀ st n 0:=⟨hB,by omega,λi j _ h=>by omega,λi h=>by omega,all,r0⟩
   obtain ⟨c1,c2,c3,c4⟩:=f.close (by omega)
   refine wpS_bind (wpS_reverse (zaZ ik hn (by omega) ⟨c1,by omega,c2,λi hi=>?_,λi h1 h2=>?_,c3⟩ k))
   ·show R ρ (mirror (arrOf st) 0 n ((n-0) / 2)) n<R ρ (mirror (arrOf st) 0 n ((n-0) / 2)) i
    rw[c4,c4]
    have:=all i (Nat.zero_le _) hi
    have:=all (n-1) (Nat.zero_le _) (by omega)
    omega
   ·have:i=n:=by omega
    rw[this]
 ·rw[if_neg c]
  have e1:n=1:=by omega
  subst e1
  exact zaZ ik hn (by omega) ⟨hB,by omega,λi j _ h=>by omega,λi h=>by (have:i=0:=by omega);subst this;exact lt,λi h1 h2=>by (have:i=1:=by omega);rw[this],r0.mono (by omega)⟩ k
theorem ziu {st:SortSt}{n ok:Nat}{Q:Bool->SortSt->Prop}(ik:Cmp prog w A E s ρ κ a₀)(hn:n<=a₀.size)(o1:1<=ok)(o2:ok<=n)(g0:Good ρ τ κ a₀ st ok)(kk:∀ st',Good ρ τ κ a₀ st' n->Q true st'):wpS (model prog w) A E s (binarySort' 0 n ok) Q st:=by
 rw[binarySort'_eq]
 simp only[Nat.zero_add]
 refine wpS_bind (wpS_mono (wpS_forRange (I:=λk c st' => c=(none,())/\Good ρ τ κ a₀ st' k) (Q:=λc st' => c=(none,())/\Good ρ τ κ a₀ st' n) ?turn ?over ⟨rfl,by rw[Nat.max_eq_left o1];exact g0⟩) λc st' ⟨e,g⟩=>by subst e;exact wpS_pure (kk st' g))
 case over=>
  rintro c st' ⟨e,g⟩
  rw[Nat.max_eq_left o1,Nat.max_eq_right o2] at g
  exact ⟨e,g⟩
 case turn=>
  rintro k c st' k1 k2 ⟨rfl,hB,u,r⟩
  have ks:k<a₀.size:=by omega
  have srt:=u.le
  refine wpS_bind (wpS_mono (wpS_forRange (I:=λx c s2=>s2=st' /\ ∃ lo hi,c=(none,lo,hi)/\lo<=hi/\hi<=k/\hi-lo<=k-x/\(∀ i,i<lo->R ρ (arrOf st') i<=R ρ (arrOf st') k)/\∀ i,hi<=i->i<k->R ρ (arrOf st') k<R ρ (arrOf st') i)
   (Q:=λc s2=>s2=st' /\ ∃ lo hi,c=(none,lo,hi)/\lo<=k/\(∀ i,i<lo->R ρ (arrOf st') i<=R ρ (arrOf st') k)/\∀ i,lo<=i->i<k->R ρ (arrOf st') k<R ρ (arrOf st') i) ?look ?found ⟨rfl,0,k,rfl,Nat.zero_le _,Nat.le_refl _,by omega,λi h=>by omega,λi a b=>by omega⟩) ?put)
  case found=>
   rintro c s2 ⟨rfl,lo,hi,rfl,a1,a2,a3,a4,a5⟩
   have:lo=hi:=by omega
   subst this
   exact ⟨rfl,lo,lo,rfl,a2,a4,a5⟩
  case look=>
   rintro x c s2 _ hx ⟨rfl,lo,hi,rfl,a1,a2,a3,a4,a5⟩
   dsimp only
   by_cases ge:lo ≥ hi
   ·rw[if_pos ge]
    have:lo=hi:=by omega
    subst this
    exact wpS_pure ⟨rfl,lo,lo,rfl,a2,a4,a5⟩
   ·rw[if_neg ge]
    refine wpS_bind (ik hB ks (by omega) ?_)
    by_cases less:R ρ (arrOf s2) k<R ρ (arrOf s2) ((lo+hi) / 2)
    ·rw[decide_eq_true less]
     simp only[if_true]
     exact wpS_pure ⟨rfl,lo,(lo+hi) / 2,rfl,by omega,by omega,by omega,a4,λi b1 b2=>Int.lt_of_lt_of_le less (srt _ _ b1 b2)⟩
    ·rw[decide_eq_false less]
     simp only[Bool.false_eq_true,if_false]
     exact wpS_pure ⟨rfl,(lo+hi) / 2+1,hi,rfl,by omega,by omega,by omega,λi b1=>Int.le_trans (srt i ((lo+hi) / 2) (by omega) (by omega)) (Int.not_lt.mp less),a5⟩
  case put=>
   rintro c s2 ⟨rfl,lo,hi,rfl,a2,a4,a5⟩
   show wpS _ _ _ _ (do moveDown' k lo;pure (ForInStep.yield (none,()))) _ _
   have kz:k<(arrOf s2).size:=by rw[hB.size];exact ks
   have ed:k-(k-lo)=lo:=by omega
   rw[moveDown'_eq]
   refine wpS_bind (wpS_modify (wpS_pure ⟨rfl,hB.setArr (bubble_perm _ _ _),λi j hij hj=>?_,λi j hij h1 h2=>?_⟩))
   ·show R ρ (bubble (arrOf s2) k (k-lo)) i<R ρ (bubble (arrOf s2) k (k-lo)) j\/(R ρ (bubble (arrOf s2) k (k-lo)) i=R ρ (bubble (arrOf s2) k (k-lo)) j/\R τ (bubble (arrOf s2) k (k-lo)) i<=R τ (bubble (arrOf s2) k (k-lo)) j)
    have bi:=znV (ρ:=ρ) (τ:=τ) kz (show k-lo<=k by omega) i
    have bj:=znV (ρ:=ρ) (τ:=τ) kz (show k-lo<=k by omega) j
    rw[ed] at bi bj
    rcases Nat.lt_trichotomy i lo with c1 | c1 | c1
    ·obtain ⟨p1,p2⟩:=bi.2.2 (.inl c1)
     rw[p1,p2]
     rcases Nat.lt_trichotomy j lo with c2 | c2 | c2
     ·obtain ⟨q1,q2⟩:=bj.2.2 (.inl c2)
      rw[q1,q2];exact u i j hij (by omega)
     ·obtain ⟨q1,q2⟩:=bj.1 c2
      rw[q1,q2]
      have z1:=a4 i c1
      have z2:=r i k (by omega) (Nat.le_refl _) ks
      omega
     ·obtain ⟨q1,q2⟩:=bj.2.1 ⟨c2,by omega⟩
      rw[q1,q2];exact u i (j-1) (by omega) (by omega)
    ·obtain ⟨p1,p2⟩:=bi.1 c1
     obtain ⟨q1,q2⟩:=bj.2.1 ⟨by omega,by omega⟩
     rw[p1,p2,q1,q2]
     exact .inl (a5 (j-1) (by omega) (by omega))
    ·obtain ⟨p1,p2⟩:=bi.2.1 ⟨c1,by omega⟩
     obtain ⟨q1,q2⟩:=bj.2.1 ⟨by omega,by omega⟩
     rw[p1,p2,q1,q2]
     exact u (i-1) (j-1) (by omega) (by omega)
   ·show R τ (bubble (arrOf s2) k (k-lo)) i<=R τ (bubble (arrOf s2) k (k-lo)) j
    have bi:=znV (ρ:=ρ) (τ:=τ) kz (show k-lo<=k by omega) i
    rw[ed] at bi
    obtain ⟨_,q2⟩:=(znV (ρ:=ρ) (τ:=τ) kz (show k-lo<=k by omega) j).2.2 (.inr (by omega))
    rw[q2]
    rcases Nat.lt_trichotomy i lo with c1 | c1 | c1
    ·rw[(bi.2.2 (.inl c1)).2];exact r i j hij (by omega) h2
    ·rw[(bi.1 c1).2];exact r k j (by omega) (by omega) h2
    ·by_cases c2:i<=k
     ·rw[(bi.2.1 ⟨c1,c2⟩).2];exact r (i-1) j (by omega) (by omega) h2
     ·rw[(bi.2.2 (.inr (by omega))).2];exact r i j hij (by omega) h2
theorem zjf {st:SortSt}{Q:Unit->SortSt->Prop}(ik:Cmp prog w A E s ρ κ a₀)(hB:SB κ a₀ st)(z2:2<=a₀.size)(z64:a₀.size<64)(r0:Rs τ a₀.size (arrOf st) 0)
  (kk:∀ st',(arrOf st').Perm a₀->failedOf st'=none->Up ρ τ (arrOf st') a₀.size->Q () st'):wpS (model prog w) A E s sortRuns' Q st:=by
 have mr:minRun' a₀.size a₀.size 0=a₀.size:=by
  obtain ⟨f,hf⟩:∃ f,a₀.size=f+1:=⟨a₀.size-1,by omega⟩
  have q:minRun' (f+1) a₀.size 0=a₀.size:=by rw[minRun'_succ,if_pos z64];rfl
  rwa [← hf] at q
 rw[sortRuns'_eq]
 refine wpS_bind (wpS_get (show wpS _ _ _ _ _ _ _ from ?_))
 dsimp only
 simp only[hB.size,mr]
 have fin:∀ st' n,n=a₀.size->Good ρ τ κ a₀ st' n->(arrOf (setPending st' ((pendingOf st').push (0,n,0)))).Perm a₀/\failedOf (setPending st' ((pendingOf st').push (0,n,0)))=none/\pendingOf (setPending st' ((pendingOf st').push (0,n,0))) = #[(0,n,0)]/\Up ρ τ (arrOf (setPending st' ((pendingOf st').push (0,n,0)))) n:=λst' n _ g=>
  ⟨g.1.perm,g.1.failed,by show (pendingOf st').push _=_;rw[g.1.pend];rfl,g.2.1⟩
 refine wpS_bind (wpS_mono (wpS_forRange
  (I:=λx c st' => (x=0/\c=(none,0)/\SB κ a₀ st' /\ Rs τ a₀.size (arrOf st') 0)\/(1<=x/\c=(none,a₀.size)/\(arrOf st').Perm a₀/\failedOf st'=none/\pendingOf st' = #[(0,a₀.size,0)]/\Up ρ τ (arrOf st') a₀.size))
  (Q:=λc st' => c=(none,a₀.size)/\(arrOf st').Perm a₀/\failedOf st'=none/\pendingOf st' = #[(0,a₀.size,0)]/\Up ρ τ (arrOf st') a₀.size) ?turn ?over (.inl ⟨rfl,rfl,hB,r0⟩)) ?post)
 case over=>
  rintro c st' (⟨hx,_⟩ | ⟨_,r⟩)
  ·omega
  ·exact r
 case turn=>
  rintro x c st' _ hx (⟨rfl,rfl,hB',r'⟩ | ⟨hx1,rfl,hD⟩)
  ·dsimp only
   rw[if_neg (show ¬ (0 ≥ a₀.size) by omega)]
   simp only[Nat.sub_zero,Nat.min_self,Nat.zero_add]
   refine wpS_bind (zkY ik (Nat.le_refl _) (show 1<=a₀.size by omega) hB' r' λm st2 g2 m1 m2=>?_)
   dsimp only
   by_cases lt:m<a₀.size
   ·rw[if_pos lt]
    refine wpS_bind (wpS_lift (wpAny_rule ⟨rfl,wpS_bind (ziu ik (Nat.le_refl _) m1 m2 g2 λst3 g3=>?_)⟩))
    simp only[Bool.not_true,Bool.false_eq_true,if_false]
    have nb:(pendingOf st3).back?=none:=by rw[g3.1.pend];rfl
    refine wpS_bind (wpS_get (show wpS _ _ _ _ _ _ _ from ?_))
    rw[nb]
    exact wpS_bind (wpS_modify (wpS_pure (.inr ⟨by omega,rfl,fin st3 _ rfl g3⟩)))
   ·rw[if_neg lt]
    have em:m=a₀.size:=by omega
    subst em
    have nb:(pendingOf st2).back?=none:=by rw[g2.1.pend];rfl
    refine wpS_bind (wpS_get (show wpS _ _ _ _ _ _ _ from ?_))
    rw[nb]
    exact wpS_bind (wpS_modify (wpS_pure (.inr ⟨by omega,rfl,fin st2 _ rfl g2⟩)))
  ·dsimp only
   rw[if_pos (show a₀.size ≥ a₀.size from Nat.le_refl _)]
   exact wpS_pure ⟨rfl,hD⟩
 case post=>
  rintro c st' ⟨rfl,p,f,pd,u⟩
  dsimp only
  refine wpS_bind (wpS_mono (wpS_forRange (I:=λ_ c s2=>s2=st' /\ c=(none,())) (Q:=λc s2=>s2=st' /\ c=(none,())) (λx c s2 _ _ ⟨e1,e2⟩=>?_) (λ_ _ q=>q) ⟨rfl,rfl⟩) λc s2 ⟨e1,e2⟩=>?_)
  ·subst e1 e2
   exact wpS_pure (kk _ p f u)
  ·subst e1 e2
   refine wpS_bind (wpS_get (show wpS _ _ _ _ _ _ _ from ?_))
   rw[if_pos (show (pendingOf s2).size<=1 by rw[pd];exact Nat.le_refl 1)]
   exact wpS_pure ⟨rfl,rfl⟩
end
end StbG
namespace L2
open PySem PySem.Spec PyProof.Rows
theorem zgR:∀ {xs:List V}{us:List Value},Vals xs us->∀ {i:Nat}{u:Value},us[i]?=some u->∃ x,xs[i]?=some x/\RelV x u
 | _,_,.nil,_,_,e=>by simp at e
 | _,_,.cons r _,0,_,e=>by simp at e;subst e;exact ⟨_,rfl,r⟩
 | _,_,.cons _ h,i+1,_,e=>by simpa using zgR h (by simpa using e)
theorem zaV:∀ {xs:List V}{us:List Value},xs.length=us.length->(∀ (i:Nat) x u,xs[i]?=some x->us[i]?=some u->RelV x u)->Vals xs us
 | [],[],_,_=>.nil
 | x::xs,u::us,hl,h=>.cons (h 0 x u rfl rfl) (zaV (by simpa using hl) λi y v e1 e2=>h (i+1) y v (by simpa using e1) (by simpa using e2))
 | [],_::_,hl,_=>by simp at hl
 | _::_,[],hl,_=>by simp at hl
theorem VP:∀ {ns:List Int}{us:List Value},Vals (ns.map V.int) us->IntsAre us ns
 | [],_,h=>by cases h;exact .nil
 | n::ns,_,h=>by
  cases h with
  | cons r h' =>
   obtain ⟨t,rfl⟩:=r
   exact .cons n t (VP h')
abbrev gV (g:Nat->Int)(n:Nat):List V:=(List.range n).map λi=>V.int (g i)
theorem zg7 {g:Nat->Int}{n i:Nat}{us:List Value}{u:Value}(h:Vals (gV g n) us)(e:us[i]?=some u):i<n/\∃ t,u = .int (g i) t:=by
 obtain ⟨x,hx,r⟩:=zgR h e
 rw[List.getElem?_map] at hx
 have hi:i<n:=by
  have:=(List.getElem?_eq_some_iff.mp e).1
  have hl:=h.length
  rw[List.length_map,List.length_range] at hl
  omega
 rw[List.getElem?_range hi] at hx
 have:V.int (g i)=x:=Option.some.inj hx
 subst this
 exact ⟨hi,r⟩
section
variable {g:Nat->Int}{n:Nat}{keys items:List Value}
theorem zh5 (hk:Vals (gV g n) keys)(ha:Vals (gV (λi=>(i:Nat)) n) items){p:Keyed}(h:p∈keys.zip items):∃ m,m<n/\∃ t t',p=(.int (g m) t,.int (m:Nat) t'):=by
 obtain ⟨i,hi⟩:=List.getElem?_of_mem h
 rw[List.getElem?_zip_eq_some] at hi
 obtain ⟨h1,t,e1⟩:=zg7 hk hi.1
 obtain ⟨_,t',e2⟩:=zg7 ha hi.2
 exact ⟨i,h1,t,t',Prod.ext e1 e2⟩
def nO (p:Keyed):Nat:=(numOf p.2).toNat
theorem zjP (hk:Vals (gV g n) keys)(ha:Vals (gV (λi=>(i:Nat)) n) items):(keys.zip items).map nO=List.range n:=by
 have l1:=hk.length
 have l2:=ha.length
 rw[List.length_map,List.length_range] at l1 l2
 refine List.ext_getElem? λi=>?_
 rw[List.getElem?_map]
 by_cases h:i<n
 ·have e1:keys[i]?=some keys[i]:=List.getElem?_eq_getElem (by omega)
  have e2:items[i]?=some items[i]:=List.getElem?_eq_getElem (by omega)
  have e3:(keys.zip items)[i]?=some (keys[i],items[i]):=by rw[List.getElem?_zip_eq_some];exact ⟨e1,e2⟩
  obtain ⟨_,t,e⟩:=zg7 ha e2
  rw[e3,List.getElem?_range h]
  show some (nO (keys[i],items[i]))=some i
  unfold nO
  rw[e];simp[numOf]
 ·rw[List.getElem?_eq_none (by simp;omega),List.getElem?_eq_none (by simp;omega)];rfl
theorem zmI (hk:Vals (gV g n) keys)(ha:Vals (gV (λi=>(i:Nat)) n) items){xs:Array Keyed}(hp:xs.toList.Perm (keys.zip items))(hu:StbG.Up (λp=>numOf p.1) (λp=>numOf p.2) xs n):
  ∃ out:List Nat,out.Perm (List.range n)/\out.Pairwise (λi j=>g i<g j\/(g i=g j/\i<j))/\Vals (out.map λi=>V.int (i:Nat)) (xs.map (·.2)).toList:=by
 have hsz:xs.size=n:=by
  have:=hp.length_eq
  have l1:=hk.length
  have l2:=ha.length
  rw[List.length_map,List.length_range] at l1 l2
  rw[List.length_zip,Array.length_toList] at this
  omega
 have mem:∀ (i:Nat) (p:Keyed),xs[i]?=some p->∃ m,m<n/\∃ t t',p=(.int (g m) t,.int (m:Nat) t'):=λi p e=>zh5 hk ha (hp.mem_iff.mp (by
  have:=Array.mem_of_getElem? e
  exact Array.mem_toList_iff.mpr this))
 have hout:∀ (i:Nat) (p:Keyed),xs[i]?=some p->StbG.R (λp=>numOf p.1) xs i=g (nO p)/\StbG.R (λp=>numOf p.2) xs i=(nO p:Nat):=λi p e=>by
  obtain ⟨m,_,t,t',rfl⟩:=mem i p e
  constructor
  ·unfold StbG.R;rw[e];simp[numOf,nO]
  ·unfold StbG.R;rw[e];simp[numOf,nO]
 have hnd:(xs.toList.map nO).Nodup:=by
  have:=hp.map nO
  rw[zjP hk ha] at this
  exact this.nodup_iff.mpr List.nodup_range
 refine ⟨xs.toList.map nO,by rw[← zjP hk ha];exact hp.map _,?_,?_⟩
 ·rw[List.pairwise_iff_getElem]
  intro i j hi hj hij
  have hj' : j<xs.size:=by simpa using hj
  have e1:xs[i]?=some xs[i]:=Array.getElem?_eq_getElem (by omega)
  have e2:xs[j]?=some xs[j]:=Array.getElem?_eq_getElem hj'
  obtain ⟨a1,a2⟩:=hout i _ e1
  obtain ⟨b1,b2⟩:=hout j _ e2
  have:=hu i j hij (by omega)
  rw[a1,a2,b1,b2] at this
  have q1:(xs.toList.map nO)[i]=nO xs[i]:=by simp
  have q2:(xs.toList.map nO)[j]=nO xs[j]:=by simp
  have ne:=List.pairwise_iff_getElem.mp hnd i j hi hj hij
  rw[q1,q2] at ne ⊢
  have ne' : nO xs[i]≠nO xs[j]:=ne
  omega
 ·refine zaV (by simp) λi x u h1 h2=>?_
  have hi:i<xs.size:=by
   have:=(List.getElem?_eq_some_iff.mp h2).1
   simpa using this
  have e1:xs[i]?=some xs[i]:=Array.getElem?_eq_getElem hi
  obtain ⟨m,_,t,t',e⟩:=mem i _ e1
  have hx:x=V.int (nO xs[i]:Nat):=by
   rw[List.getElem?_map,List.getElem?_map] at h1
   have:xs.toList[i]?=some xs[i]:=by simp[hi]
   rw[this] at h1
   exact (Option.some.inj h1).symm
  have hu' : u=xs[i].2:=by
   have:(xs.map (·.2)).toList[i]?=some xs[i].2:=by simp[hi]
   rw[this] at h2
   exact (Option.some.inj h2).symm
  rw[hx,hu',e]
  exact ⟨t',by simp[nO,numOf]⟩
theorem ziR (hk:Vals (gV g n) keys)(ha:Vals (gV (λi=>(i:Nat)) n) items):StbG.Rs (λp=>numOf p.2) (keys.toArray.zip items.toArray).size (keys.toArray.zip items.toArray) 0:=λi j hij _ hj=>by
 have at_:∀ i,i<(keys.toArray.zip items.toArray).size->StbG.R (λp=>numOf p.2) (keys.toArray.zip items.toArray) i=(i:Nat):=λi hi=>by
  have e:(keys.toArray.zip items.toArray)[i]?=some (keys.toArray.zip items.toArray)[i]:=Array.getElem?_eq_getElem hi
  have e' : (keys.zip items)[i]?=some (keys.toArray.zip items.toArray)[i]:=by
   have:(keys.toArray.zip items.toArray).toList=keys.zip items:=by rw[ksk_zip]
   rw[← this,Array.getElem?_toList];exact e
  rw[List.getElem?_zip_eq_some] at e'
  obtain ⟨_,t,e2⟩:=zg7 ha e'.2
  unfold StbG.R
  rw[e]
  show numOf (keys.toArray.zip items.toArray)[i].2=_
  rw[e2];rfl
 rw[at_ i (by omega),at_ j hj]
 omega
end
theorem zi1 {prog:Program}{w:World}{A:Around}{E:Value->Shared->Prop}{s:Shared}{a₀:Array Keyed}(ik:IntKeys a₀):StbG.Cmp prog w A E s (λp=>numOf p.1) oneType' a₀:=λ{st i j Q} hB hi hj hq=>wpS_ltK ⟨hB.perm,hB.kind,hB.failed,hB.pend⟩ ik hi hj hq
section
variable {X:Cx}{pins:List (Addr×Obj)}{σ:St}{H:Hp}{s:Shared}{g:Nat->Int}{n:Nat}{D kS:Addr}{P:PySem.Fin->Shared->Prop}{A:Around}{E:Value->Shared->Prop}{items:List Value}
def exO (a:Addr)(o:Obj):HO:=.ext λh=>h.get? a=some o
theorem zjY {Pr:Program}{w:World}{h:Heap}{a:Addr}{o:Obj}{H:Hp}(e:h.get? a=some o):YJ Pr w H h a (exO a o):=⟨e,⟨o,e⟩,λ_ _ p q=>q _ p⟩
theorem Inv.exO {a:Addr}{o:Obj}(I:Inv X pins σ H s)(h:H a=some (L2.exO a o)):s.heap.get? a=some o:=(show YJ X.prog X.w H s.heap a (L2.exO a o) from I.hok a _ h).1
theorem zk3 {keys:List Value}{e e1:Nat}(I:Inv X pins σ H s)(hD:H D=some (exO D (seqObj "list" #[] e1)))(hK:H kS=some (.lst (gV g n)))(hkD:kS≠D)(n64:n<64)(hk:Vals (gV g n) keys)(ha:Vals (gV (λi=>(i:Nat)) n) items)
  (hoK:s.heap.get? kS=some (seqObj "list" keys.toArray e))
  (k:∀ out:List Nat,out.Perm (List.range n)->out.Pairwise (λi j=>g i<g j\/(g i=g j/\i<j))->∀ s',Inv X pins σ (upd (upd H kS (.lst [])) D (.lst (out.map λi=>V.int (i:Nat)))) s' -> P (.done (.ret .none)) s'):
  wpAny (model X.prog X.w) A (ksk_end D false items.toArray e1 (.ref kS) keys.toArray) P E s:=by
 have zl:(2000:Nat)<=sizeLine:=by decide
 have l1:=hk.length
 have l2:=ha.length
 rw[List.length_map,List.length_range] at l1 l2
 have ik:IntsAre keys.toArray.toList ((List.range n).map g):=by
  rw[List.toList_toArray]
  exact VP (by rw[List.map_map];exact hk)
 have hzs:(keys.toArray.zip items.toArray).size=n:=by rw[Array.size_zip,List.size_toArray,List.size_toArray];omega
 have ez:(keys.toArray.zip items.toArray).toList=keys.zip items:=by rw[ksk_zip]
 have TAIL:∀ st:SortSt,(arrOf st).Perm (keys.toArray.zip items.toArray)->failedOf st=none->StbG.Up (λp=>numOf p.1) (λp=>numOf p.2) (arrOf st) n->wpAny (model X.prog X.w) A (ksk_tail D false e1 (.ref kS) st) P E s:=λst hp hf hu=>by
  obtain ⟨out,o1,o2,o3⟩:=zmI hk ha (xs:=arrOf st) (by rw[← ez];exact Array.perm_iff_toList_perm.mp hp) hu
  have osz:((arrOf st).map (·.2)).size=n:=by rw[Array.size_map,hp.size_eq,hzs]
  have I1:=I.zlG (l:=kS) (ys:=[]) (its' := []) (f:=λ_=>(#[]:Array Value)) (t' := s.toks) hK hoK rfl .nil (by show 0<=_;omega)
  have hD1:upd H kS (.lst []) D=some (exO D (seqObj "list" #[] e1)):=by rw[Zq (Ne.symm hkD)];exact hD
  have hoD1:(s.heap.update kS (Obj.mapSeq λ_=>(#[]:Array Value))).get? D=some (seqObj "list" #[] e1):=I1.exO hD1
  have upq:=PySem.IsL.update hoD1 λ_=>(arrOf st).map (·.2)
  have eqA:(arrOf st).map (·.2)=((arrOf st).map (·.2)).toList.toArray:=by rw[Array.toArray_toList]
  have I2:Inv X pins σ (upd (upd H kS (.lst [])) D (.lst (out.map λi=>V.int (i:Nat)))) { s with heap:=(s.heap.update kS (Obj.mapSeq λ_=>(#[]:Array Value))).update D (Obj.mapSeq λ_=>(arrOf st).map (·.2)) }:=
   I1.write (x:=D) (e:=D) (t' := s.toks) (by rw[hD1];exact trivial) (.inl rfl) (λb' u hb hu=>(Heap.get?_update_other _ (Obj.mapSeq λ_=>(arrOf st).map (·.2)) (Ne.symm hb)).trans hu) ⟨_,upq⟩ (show YJ X.prog X.w _ _ D (.lst (out.map λi=>V.int (i:Nat))) from ⟨by rw[List.length_map];have:=o1.length_eq;rw[List.length_range] at this;omega,((arrOf st).map (·.2)).toList,_,o3,by rw[← eqA];exact upq⟩)
  unfold ksk_tail
  refine wpAny_bind (listUpdate_at hoK rfl ?_ (by rw[List.size_toArray];omega) (Nat.zero_le _))
  refine wpAny_bind (wpAny_letGo (wpAny_bind (seqEpoch_at hoD1 rfl (wpAny_bind (listUpdate_at hoD1 rfl ?_ (Nat.zero_le _) (by show ((arrOf st).map (·.2)).size<=_;omega))))))
  rw[hf]
  simp only[bne_self_eq_false,Bool.false_eq_true,if_false]
  exact wpAny_pure (k out o1 o2 _ I2)
 unfold ksk_end
 dsimp only
 simp only[Bool.false_eq_true,if_false]
 by_cases h2:items.toArray.size<2
 ·rw[if_pos h2,if_pos h2]
  refine wpAny_bind (wpAny_pure ?_)
  rw[StateT.run_pure]
  refine wpAny_bind (wpAny_pure (TAIL (SortSt.mk' general' (keys.toArray.zip items.toArray) #[] 7 none) (Array.Perm.refl _) rfl λi j a b=>?_))
  rw[List.size_toArray] at h2
  omega
 ·rw[if_neg h2,if_neg h2]
  rw[List.size_toArray] at h2
  rw[ksk_kind ik (by rw[List.size_toArray];omega)]
  refine wpAny_bind (wpAny_pure (wpAny_bind (wpAny_mono (StbG.zjf (ρ:=λp=>numOf p.1) (τ:=λp=>numOf p.2) (κ:=oneType') (a₀:=keys.toArray.zip items.toArray) (st:=SortSt.mk' oneType' (keys.toArray.zip items.toArray) #[] 7 none)
   (Q:=λ_ st' => (arrOf st').Perm (keys.toArray.zip items.toArray)/\failedOf st'=none/\StbG.Up (λp=>numOf p.1) (λp=>numOf p.2) (arrOf st') (keys.toArray.zip items.toArray).size)
   (zi1 (ksk_intKeys ik)) ⟨Array.Perm.refl _,rfl,rfl,rfl⟩ (by rw[hzs];omega) (by rw[hzs];exact n64) (ziR hk ha) λst' a1 a2 a3=>⟨a1,a2,a3⟩) ?_ λ_ _ e=>e)))
  rintro ⟨⟨⟩,st'⟩ s' ⟨rfl,hp,hf,hu⟩
  exact TAIL st' hp hf (by rw[← hzs];exact hu)
theorem zid {kk e1:Nat}{f:Addr}{q:Str}{params:Arguments}{body:Expr}{sc:Scope}{cap:List Str}{y:Str}{te:TE}{js:List Nat}{H0:Hp}
  (hr:Wx (kk+1) A) (hAf:A.frames=X.A.frames) (S:Y6 X.env.scope sc [y] cap) (hjs:js.map (λj=>X.N[j]?)=cap.map some)
  (hbind:∀ (u pm ctv:Value) (c' : Addr) (cl:List (Str×Addr)),bindArgs (PySem.W.kla_fn "<lambda>" q params body sc cl pm (.ref c') ctv) ⟨[u],[]⟩=pure [(y,u)])
  (hbody:∀ A outer s H f c' cl,Wx kk (A.deeper (PySem.W.envX q sc s.heap.objs.size f (.ref c') cl))->PE (zcE X.prog X.w X.K X.mg X.base ([y]++cap) q sc f c' cl A outer s H) body te)
  (L:V4 H0 f q params body sc (Jl X.env sc.names [])) (hev:∀ i,i<n->Ev X.K te (some (.int (i:Nat))::Jm σ js) H0 (.int (g i)))
  (I:Inv X pins σ H s) (s0:ZL H0 H) (hD:H D=some (exO D (seqObj "list" #[] e1))) (hK:H kS=some (.lst [])) (hkD:kS≠D) (fD:H0 D=none) (fK:H0 kS=none) (n64:n<64) (ha:Vals (gV (λi=>(i:Nat)) n) items)
  (k:∀ out:List Nat,out.Perm (List.range n)->out.Pairwise (λi j=>g i<g j\/(g i=g j/\i<j))->∀ s' H',ZL H0 H' -> H' D=some (.lst (out.map λi=>V.int (i:Nat)))->Inv X pins σ H' s' -> P (.done (.ret .none)) s'):
  wpAny (model X.prog X.w) A (ksk_rest D (.ref f) false items.toArray e1 (.ref kS)) P E s:=by
 have zl:(2000:Nat)<=sizeLine:=by decide
 have l2:=ha.length
 rw[List.length_map,List.length_range] at l2
 have lenJ:js.length=cap.length:=by have:=congrArg List.length hjs;simpa using this
 unfold ksk_rest
 refine wpAny_bind (wpAny_rule ?_)
 rw[List.forIn_toArray]
 refine wpAny_bind (ksk_fold (λi s' => ∃ H',Inv X pins σ H' s' /\ ZL H0 H' /\ H' D=some (exO D (seqObj "list" #[] e1))/\H' kS=some (.lst (gV g i))) items 0 s ⟨H,I,s0,hD,hK⟩ ?turn ?over)
 case turn=>
  rintro j x s' hx ⟨H',I',s1,hD',hK'⟩
  simp only[Nat.zero_add] at hK' ⊢
  obtain ⟨hj,t,rfl⟩:=zg7 ha hx
  have C:=I'.zeR S hjs
  have e0:zfU X.prog X.w X.K X.mg X.base A X.stack s' H' := ⟨hAf.trans I'.env0.frames,I'.env0.mod,I'.env0.bs,I'.env0.bsz,I'.env0.zdu,I'.env0.frf,I'.env0.hok,I'.env0.bare⟩
  have L' := L.same λb o u e=>s1 b _ e
  have run:=zgP (A:=A) (Q:=λv H2=>v = .int (g j)/\ZL H' H2) (E:=E0) (vs:=[.int (j:Nat)]) (us:=[.int (j:Nat) t]) S (λz hz=>by
   obtain ⟨c',hc'⟩:=Option.isSome_iff_exists.mp (WR (env:=X.env) (acc:=[]) (PySem.mem_of_lookup hz))
   exact ⟨c',hc'⟩) hr e0 L' C (λpm ctv c' => hbind _ pm ctv c' _) rfl (by unfold Jm;rw[List.length_map,lenJ]) (.cons ⟨t,rfl⟩ .nil) (λc' hr' => hbody _ _ _ _ _ c' _ hr') ((hev j hj).use s1 λv G' H2 g2 hv=>⟨hv.int,g2.hh⟩)
  refine wpAny_bind (wpAny_attempt (wpAny_call (codeAny_mono run λr s2 hq' => ?_)))
  cases r with
  | error e=>exact False.elim hq'
  | ok fl=>
   cases fl with
   | next=>exact False.elim hq'
   | brk=>exact False.elim hq'
   | cont=>exact False.elim hq'
   | ret u=>
    obtain ⟨v,H2,I2,rv,ev,s2'⟩:=I'.after hq'
    subst ev
    obtain ⟨t2,rfl⟩:=rv
    have hK2:=s2' _ _ hK'
    obtain ⟨_,its,m,rv2,hl2,hoK⟩:=I2.zir hK2
    have hl3:=rv2.length
    rw[List.length_map,List.length_range] at hl3
    have I3:=I2.zlG (l:=kS) (ys:=gV g (j+1)) (its' := its++[.int (g j) t2]) (f:=(·.push (.int (g j) t2))) (t' := s2.toks) hK2 hoK (by simp) (by
     rw[show gV g (j+1)=gV g j++[V.int (g j)] by rw[gV,List.range_succ,List.map_append];rfl]
     exact rv2.append (.cons ⟨t2,rfl⟩ .nil)) (by rw[List.length_map,List.length_range];omega)
    refine wpAny_bind (listUpdate_at hoK rfl (wpAny_pure ⟨rfl,_,I3,λb o e=>?_,?_,Zh⟩) (by rw[List.size_toArray];omega) (by rw[Array.size_push,List.size_toArray];omega))
    ·rw[Zq (Zn e fK)];exact s2' _ _ (s1 _ _ e)
    ·rw[Zq (Ne.symm hkD)];exact s2' _ _ hD'
 case over=>
  rintro s' ⟨H',I',s1,hD',hK'⟩
  rw[Nat.zero_add,← l2] at hK'
  obtain ⟨_,its,m,rv2,hl2,hoK⟩:=I'.zir hK'
  refine wpAny_bind (listItems_at hoK rfl ?_)
  exact zk3 I' hD' hK' hkD n64 rv2 ha hoK λout o1 o2 s2 I2=>k out o1 o2 s2 _ (λb o e=>by rw[Zq (Zn e fD),Zq (Zn e fK)];exact s1 _ _ e) Zh I2
end
end L2
namespace Look
open PySem Ord Rdo
theorem Uv {α:Type}{r:α->α->Prop}(as:∀ x y,r x y->¬ r y x):∀ {a b:List α},a.Perm b->a.Pairwise r->b.Pairwise r->a=b
 | [],b,p,_,_=>by rw[List.nil_perm.mp p]
 | x::a,[],p,_,_=>by have:=p.length_eq;simp at this
 | x::a,y::b,p,h1,h2=>by
  obtain ⟨p1,p2⟩:=List.pairwise_cons.mp h1
  obtain ⟨q1,q2⟩:=List.pairwise_cons.mp h2
  have hx:x∈y::b:=p.mem_iff.mp List.mem_cons_self
  have hy:y∈x::a:=p.mem_iff.mpr List.mem_cons_self
  have e:x=y:=by
   rcases List.mem_cons.mp hx with e | hx
   ·exact e
   ·rcases List.mem_cons.mp hy with e | hy
    ·exact e.symm
    ·exact absurd (p1 y hy) (as _ _ (q1 x hx))
  subst e
  rw[Uv as (List.perm_cons x |>.mp p) p2 q2]
def ltN (g:Nat->Int)(i j:Nat):Prop:=g i<g j\/(g i=g j/\i<j)
theorem zl2 (g:Nat->Int)(i j:Nat)(h:ltN g i j):¬ ltN g j i:=by unfold ltN at *;omega
def zh6 (g:Nat->Int)(n:Nat):List Nat:=(List.range n).mergeSort λi j=>decide (g i<g j\/(g i=g j/\i<=j))
theorem zaE (g:Nat->Int)(n:Nat):(zh6 g n).Perm (List.range n):=List.mergeSort_perm _ _
theorem zbj (g:Nat->Int)(n:Nat):(zh6 g n).Nodup:=(zaE g n).nodup_iff.mpr List.nodup_range
theorem zeC (g:Nat->Int)(n:Nat):(zh6 g n).Pairwise (ltN g):=by
 have h:(zh6 g n).Pairwise λi j=>(decide (g i<g j\/(g i=g j/\i<=j)))=true:=List.pairwise_mergeSort (λa b c h1 h2=>by
  have:=of_decide_eq_true h1
  have:=of_decide_eq_true h2
  exact decide_eq_true (by omega)) (λa b=>by
  rw[Bool.or_eq_true,decide_eq_true_iff,decide_eq_true_iff];omega) _
 have nd:=zbj g n
 refine (h.and nd).imp λ{i j} ⟨a,b⟩=>?_
 have:=of_decide_eq_true a
 unfold ltN
 have:i≠j:=b
 omega
theorem zhe {g:Nat->Int}{n:Nat}{out:List Nat}(h:out.Perm (List.range n))(s:out.Pairwise (ltN g)):out=zh6 g n:=Uv (zl2 g) (h.trans (zaE g n).symm) s (zeC g n)
abbrev th (gs:List Fs)(i:Nat):Fs:=gs.getD i []
def ltL (L:Fs->Fs->An)(gs:List Fs)(i j:Nat):Prop:=L (th gs i) (th gs j) = .ahead\/(L (th gs i) (th gs j) = .like/\i<j)
def rkZ (L:Fs->Fs->An)(gs:List Fs)(i:Nat):Int:=(rk L (XJ gs) (th gs i):Nat)
def tn (L:Fs->Fs->An)(gs:List Fs):List Nat:=zh6 (rkZ L gs) gs.length
theorem Jy {gs:List Fs}{i:Nat}(h:i<gs.length):th gs i∈gs:=by
 unfold th
 rw[List.getD_eq_getElem?_getD,List.getElem?_eq_getElem h];exact List.getElem_mem h
theorem Uc {L:Fs->Fs->An}{gs:List Fs}(wk:Wk L (· ∈ gs)){f g:Fs}(hf:f∈gs)(hg:g∈gs):L f g=zaG (rk L (XJ gs) f) (rk L (XJ gs) g):=by
 have w:Wk L (· ∈ XJ gs):=wk.sub λf h=>(Qh gs f).mp h
 have a:=(zcU L (XJ gs)).mpr w
 unfold agree at a
 exact of_decide_eq_true (List.all_eq_true.mp (List.all_eq_true.mp a f ((Qh gs f).mpr hf)) g ((Qh gs g).mpr hg))
theorem Jk (i j:Nat):(zaG i j = .ahead↔i<j)/\(zaG i j = .like↔i=j)/\(zaG i j = .behind↔j<i):=by
 unfold zaG
 by_cases h:i<j
 ·rw[if_pos h];refine ⟨⟨λ_=>h,λ_=>rfl⟩,⟨λz=>(by cases z),λz=>(by omega)⟩,⟨λz=>(by cases z),λz=>(by omega)⟩⟩
 ·rw[if_neg h]
  by_cases h2:i>j
  ·rw[if_pos h2];refine ⟨⟨λz=>(by cases z),λz=>(by omega)⟩,⟨λz=>(by cases z),λz=>(by omega)⟩,⟨λ_=>h2,λ_=>rfl⟩⟩
  ·rw[if_neg h2];refine ⟨⟨λz=>(by cases z),λz=>(by omega)⟩,⟨λ_=>(by omega),λ_=>rfl⟩,⟨λz=>(by cases z),λz=>(by omega)⟩⟩
theorem zhC {L:Fs->Fs->An}{gs:List Fs}(wk:Wk L (· ∈ gs)){i j:Nat}(hi:i<gs.length)(hj:j<gs.length):ltL L gs i j↔ltN (rkZ L gs) i j:=by
 unfold ltL ltN rkZ
 rw[Uc wk (Jy hi) (Jy hj),(Jk _ _).1,(Jk _ _).2.1]
 omega
theorem QC (L:Fs->Fs->An)(gs:List Fs):(tn L gs).Perm (List.range gs.length):=zaE _ _
theorem zdh {L:Fs->Fs->An}{gs:List Fs}{i:Nat}(h:i∈tn L gs):i<gs.length:=List.mem_range.mp ((QC L gs).mem_iff.mp h)
theorem Qs (L:Fs->Fs->An)(gs:List Fs):(tn L gs).length=gs.length:=by rw[(QC L gs).length_eq,List.length_range]
theorem zjz {L:Fs->Fs->An}{gs:List Fs}(wk:Wk L (· ∈ gs)):(tn L gs).Pairwise (ltL L gs):=by
 refine (List.Pairwise.and_mem.mp (zeC (rkZ L gs) gs.length)).imp λ{i j} ⟨a,b,c⟩=>?_
 exact (zhC wk (zdh a) (zdh b)).mpr c
theorem zn2 {L:Fs->Fs->An}{gs:List Fs}(wk:Wk L (· ∈ gs)){out:List Nat}(h:out.Perm (List.range gs.length))(s:out.Pairwise (ltL L gs)):out=tn L gs:=by
 refine zhe h ?_
 refine (List.Pairwise.and_mem.mp s).imp λ{i j} ⟨a,b,c⟩=>?_
 exact (zhC wk (List.mem_range.mp (h.mem_iff.mp a)) (List.mem_range.mp (h.mem_iff.mp b))).mp c
def trd (gs:List Fs)(t:List Nat):List Fs:=t.map (th gs)
theorem Vs {L:Fs->Fs->An}{gs:List Fs}{f:Fs}(h:f∈trd gs (tn L gs)):f∈gs:=by
 obtain ⟨i,hi,rfl⟩:=List.mem_map.mp h
 exact Jy (zdh hi)
theorem zju {gs:List Fs}{t:List Nat}{a:Nat}(h:a<t.length):th (trd gs t) a=th gs (t.getD a 0):=by
 unfold trd
 show (List.map (th gs) t).getD a []=_
 rw[List.getD_eq_getElem?_getD,List.getElem?_map,List.getD_eq_getElem?_getD,List.getElem?_eq_getElem h];rfl
end Look
namespace L2
open PySem PySem.Spec PyProof.Rows Lw
def zmN (K:PySem.W.Frag)(P:Addr)(cr:Nat->Nat->Option Str)(js:List Nat)(t0 te:TE):TE:=fun σ H Q=>t0 σ H λv H1=>H1 P=some (.tbl cr)/\∃ (n:Nat) (g:Nat->Int),v = .int (n:Nat)/\n<64/\
 (∀ i,i<n->Ev K te (some (.int (i:Nat))::Jm σ js) H1 (.int (g i)))/\∀ l H' (out:List Nat),ZL H1 H' -> H1 l=none->H' l=some (.lst (out.map λi=>V.int (i:Nat)))->out.Perm (List.range n)->out.Pairwise (λi j=>g i<g j\/(g i=g j/\i<j))->Q (.ref l) H'
theorem ziq:bootBuiltins "sorted" = some (.builtin "sorted"):=by decide +kernel
section
variable {X:Cx}{kk:Nat}{y:Str}{c P:Addr}{cr:Nat->Nat->Option Str}{q:Str}{params:Arguments}{body a:Expr}{sc:Scope}{cap:List Str}{t0 te:TE}{p1 p2 pos q2 lpos kpos:Pos}
theorem zkx (hr:Wx (kk+3) X.A)(hc:X.calm=true)(hg1:Gl X "sorted")(hm1:X.mg "sorted" = none)(hg2:Gl X "range")(hm2:X.mg "range" = none){js:List Nat}(S:Y6 X.env.scope sc [y] cap)(hjs:js.map (λj=>X.N[j]?)=cap.map some)(hcode:X.env.code = .ref c)(C:PySem.W.CodeHd X.base c P)(hbm:BM X.mg X.base)(hq:q=X.env.qual ++ "<lambda>")(hcr:cr lpos.line lpos.col=some q)
  (hbind:∀ (u pm ctv:Value) (c' : Addr) (cl:List (Str×Addr)),bindArgs (PySem.W.kla_fn "<lambda>" q params body sc cl pm (.ref c') ctv) ⟨[u],[]⟩=pure [(y,u)])
  (ha:PE X a t0)
  (hbody:∀ A outer s H f c' cl,Wx kk (A.deeper (PySem.W.envX q sc s.heap.objs.size f (.ref c') cl))->PE (zcE X.prog X.w X.K X.mg X.base ([y]++cap) q sc f c' cl A outer s H) body te)
  (hdef:defaultsOf params X.env=([],[]):=by rfl) (hs1:starEach [.Call (.Name "range" p2) [a] [] q2] X.env=[(false,eval (.Call (.Name "range" p2) [a] [] q2) X.env)]:=by rfl) (hs2:starEach [a] X.env=[(false,eval a X.env)]:=by rfl)
  (hks:(backToKw pos (keywordEach [⟨some "key",.Lambda params body sc lpos,kpos⟩] X.env)).filterMap (·.1)=[Str.ofString "key"]:=by rfl) (hall:(backToKw pos (keywordEach [⟨some "key",.Lambda params body sc lpos,kpos⟩] X.env)).all (·.1.isSome)=true:=by rfl) (hkw:(backToKw pos (keywordEach [⟨some "key",.Lambda params body sc lpos,kpos⟩] X.env)).any (·.1.isNone)=false:=by rfl):
  PE X (.Call (.Name "sorted" p1) [.Call (.Name "range" p2) [a] [] q2] [⟨some "key",.Lambda params body sc lpos,kpos⟩] pos) (zmN X.K P cr js t0 te):=by
 intro pins s σ H Q I h
 refine wpAny_Call_Name_kw (WW I hg1 hm1 ziq ?_)
 have z:sizeLine<2 ^ 62:=by decide
 refine callWith_kw (id:= "sorted") ?_ (by rw[hs1];rfl) (by rw[hs1];rfl) hall hkw
 rw[hs1]
 show wpAny _ _ (spliced [(false,eval (.Call (.Name "range" p2) [a] [] q2) X.env)]) _ _ s
 refine Calls.spliced_cons (wpAny_Call_Name_kw (WW I hg2 hm2 boot_range (PyProof.Rows.callWith_type1 (thn (Za ha Zf (by rw[hs2];rfl) q2 pins s σ H (λvs H1=>match vs with
  | [v]=>H1 P=some (.tbl cr)/\∃ (n:Nat) (g:Nat->Int),v = .int (n:Nat)/\n<64/\(∀ i,i<n->Ev X.K te (some (.int (i:Nat))::Jm σ js) H1 (.int (g i)))/\∀ l H' (out:List Nat),ZL H1 H' -> H1 l=none->H' l=some (.lst (out.map λi=>V.int (i:Nat)))->out.Perm (List.range n)->out.Pairwise (λi j=>g i<g j\/(g i=g j/\i<j))->Q (.ref l) H'
  | _=>False) I h) λus s1 ⟨vs,H1,I1,r1,q1⟩=>?_) hs2 rfl)))
 match vs,r1,q1 with
 | [v],r1,⟨hP,n,g,ev,n64,hev,hQ⟩=>
 subst ev
 obtain ⟨u,rfl,r⟩:=Vals.one r1
 obtain ⟨t,rfl⟩:=r
 refine call_range_1 (Calls.spliced_nil ?_)
 refine thn (zkJ (zjg (c:=c) (cr:=cr) S hcode C hbm hq hcr hdef) znu pos pins _ σ _ (λvs H2=>∃ f,vs=[.ref f]/\ZL (upd H1 s1.heap.objs.size (exO s1.heap.objs.size _)) H2/\V4 H2 f q params body sc (Jl X.env sc.names [])) (I1.laid (a:=s1.heap.objs.size) (o:=exO s1.heap.objs.size _) (λb o e=>Heap.get?_push_of_some _ e) (Nat.le_refl _) (zjY (Heap.get?_push_size _ rfl))) ⟨by rw[Zq (Zn hP (I1.hok.fresh (Nat.le_refl _)))];exact hP,λf H' hf sm L=>⟨f,rfl,sm,L⟩⟩) λws s2 ⟨vs2,H2,I2,r2,f,e2,sm,L⟩=>?_
 subst e2
 obtain ⟨u2,rfl,r2'⟩:=Vals.one r2
 obtain rfl:u2=Value.ref f:=r2'
 rw[hks]
 have fr1:H1 s1.heap.objs.size=none:=I1.hok.fresh (Nat.le_refl _)
 have sm1:=(ZX fr1).trans sm
 have hR:=I2.exO (sm _ _ Zh)
 have zl:(2000:Nat)<=sizeLine:=by decide
 have z24:(64:Nat)<=2 ^ 24:=by decide
 generalize s1.heap.objs.size=rr at hR sm fr1
 show wpAny _ _ (call (.builtin "sorted") [.ref rr] [(Str.ofString "key",.ref f)]) _ _ s2
 refine call_function_entry_kw kind_sorted plain_sorted entry_sorted (ksk_s1 _ _) ?_
 unfold Builtin.«sorted»
 refine wpAny_bind (m:=checkCount "sorted" 1 1 _) (wpAny_pure ?_)
 refine wpAny_bind (U5 (A:=X.A.in1) (n:=n) (show X.A.in1.handled=none from hr.hd) (r:=rr) (a:=0) (b:=(n:Int)) (c:=1) hR (small_one (by omega) (by omega) (by omega) (by omega)) (by rw[rangeSize_one];split <;> omega) (by omega) λh' tk acc hk hacc=>?_)
 have ha' : Vals (gV (λi=>(i:Nat)) n) acc.toList:=by
  have:=zeh hacc
  have e:((List.range n).map λ(i:Nat)=>V.int (0+i))=gV (λi=>(i:Nat)) n:=List.map_congr_left λi _=>by rw[Int.zero_add]
  rw[e] at this;exact this
 have al:=ha'.length
 rw[List.length_map,List.length_range] at al
 have I3:=I2.kept (t' := tk) hk
 refine wpAny_bind (wpAny_newList ?_ (by omega))
 have hoL:(h'.push (seqObj "list" acc.toList.toArray 0)).get? h'.objs.size=some (seqObj "list" acc.toList.toArray 0):=Heap.get?_push_size _ rfl
 obtain ⟨e1,ho1⟩:∃ e1,((h'.push (seqObj "list" acc.toList.toArray 0)).update h'.objs.size (Obj.mapSeq λ_=>(#[]:Array Value))).get? h'.objs.size=some (seqObj "list" #[] e1):=⟨_,get?_update_seq hoL λ_=>#[]⟩
 have fD:H2 h'.objs.size=none:=I3.hok.fresh (Nat.le_refl _)
 refine wpAny_bind (wpAny_holding (wpAny_call_entry_kw PyProof.Rows.slot_list_sort ⟨_,hoL,rfl⟩ PyProof.Rows.entry_list_sort ?body (ksk_l1 _ _)))
 case body=>
  show wpAny (model X.prog X.w) X.A.in1.in1 (Builtin.«list.sort» ⟨[.ref h'.objs.size],[(Str.ofString "key",.ref f)]⟩) _ _ _
  rw[ksk_t1]
  unfold ksk_tree
  refine wpAny_bind (listItems_at hoL rfl ?_)
  refine wpAny_bind (listUpdate_at hoL rfl ?_ (by rw[List.size_toArray];omega) (Nat.zero_le _))
  refine wpAny_bind (seqEpoch_at ho1 rfl ?_)
  refine wpAny_bind (wpAny_newTuple ?_ (by show acc.toList.toArray.toList.length<=_;rw[List.toList_toArray];omega))
  refine wpAny_bind (wpAny_newList (wpAny_holding ?_) (Nat.zero_le _))
  have I4:Inv X pins σ (upd H2 h'.objs.size (exO h'.objs.size (seqObj "list" #[] e1))) { s2 with heap:=(h'.push (seqObj "list" acc.toList.toArray 0)).update h'.objs.size (Obj.mapSeq λ_=>(#[]:Array Value)),toks:=tk }:=
   I3.laid (t' := tk) (λb o e=>(Heap.get?_update_other _ _ (Nat.ne_of_gt (Heap.lt_size e))).trans (Heap.get?_push_of_some _ e)) (Nat.le_refl _) (zjY ho1)
  have I5:=I4.kept (t' := tk) (h' := ((h'.push (seqObj "list" acc.toList.toArray 0)).update h'.objs.size (Obj.mapSeq λ_=>(#[]:Array Value))).push (seqObj "tuple" acc.toList.toArray.toList.toArray 0)) λb o e=>Heap.get?_push_of_some _ e
  have I6:=I5.zob (ys:=[]) (its:=[]) (t' := tk) .nil (Nat.zero_le _)
  have fK:=I5.hok.fresh (Nat.le_refl _)
  have nKD:(((h'.push (seqObj "list" acc.toList.toArray 0)).update h'.objs.size (Obj.mapSeq λ_=>(#[]:Array Value))).push (seqObj "tuple" acc.toList.toArray.toList.toArray 0)).objs.size≠h'.objs.size:=λzz=>by
   have zz2:upd H2 h'.objs.size (exO h'.objs.size (seqObj "list" #[] e1)) _=none:=fK
   rw[zz,Zh] at zz2;cases zz2
  refine zid (kk:=kk) (H0:=H2) (n:=n) (g:=g) hr.in1.in1 rfl S hjs hbind hbody L (λi hi=>(hev i hi).mono sm1) I6 ?_ ?_ Zh nKD fD ?_ n64 ha' λout o1 o2 s' H' sH hD I' => ⟨_,rfl,wpAny_pure ⟨_,rfl,.ref h'.objs.size,H',I',rfl,hQ _ H' out (sm1.trans sH) (sm1.free fD) hD o1 o2⟩⟩
  ·exact (ZX fD).trans (ZX fK)
  ·rw[Zq (Ne.symm nKD)];exact Zh
  ·have:=fK
   rw[Zq nKD] at this;exact this
end
end L2
namespace L2
open PySem PySem.Spec PyProof.Rows Look
theorem zk5 {K:PySem.W.Frag}{P:Addr}{cr:Nat->Nat->Option Str}{js:List Nat}{t0 te:TE}{σ:St}{G:Hp}{n:Nat}{g:Nat->Int}(hP:G P=some (.tbl cr))(h0:Ev K t0 σ G (.int (n:Nat)))(hn:n<64)(he:∀ i,i<n->Ev K te (some (.int (i:Nat))::Jm σ js) G (.int (g i))):
  Ev K (zmN K P cr js t0 te) σ G (.list ((zh6 g n).map λi=>PyData.int (i:Nat))):=λG1 H s1 s2 Q k=>h0 G1 H s1 s2 _ λv G2 H2 g2 hv=>by
 refine ⟨g2.gh _ _ (g2.gg _ _ (s1 _ _ hP)),n,g,hv.int,hn,λi hi=>(he i hi).mono ((s1.trans g2.gg).trans g2.gh),λl H' out sm fl hl o1 o2=>?_⟩
 have e:out=zh6 g n:=zhe o1 o2
 subst e
 have gl:G2 l=none:=g2.gh.free fl
 have g3:Yr G2 H2 (upd G2 l (.lst ((zh6 g n).map λi=>V.int (i:Nat)))) H' := by
  refine ⟨λb o e=>by rw[Zq (Zn e gl)];exact e,λb o e=>?_,sm,λb o e=>?_⟩
  ·by_cases h:b=l
   ·subst h;rw[Zh] at e;rw[hl,e]
   ·rw[Zq h] at e;exact sm _ _ (g2.gh _ _ e)
  ·by_cases h:b=l
   ·subst h;exact .inr fl
   ·rw[Zq h] at e;exact .inl e
 exact k _ _ _ (g2.trans g3) (YT Zh (JN _))
end L2
namespace K32
open PySem L2 Frac Lw Dig PySem.NumText Nm
open Ord Num Look Rdo
def znP (K:PySem.W.Frag)(Pt Pn:Addr)(R:List Str->List PyData->PyData->Prop):Sp:=λvs H Q _=>∃ (G:Hp) (book:List Str) (vo:V) (pb:Addr) (us:List V) (ds:List PyData) (d:PyData),vs=vo :: .ref pb::us/\(G Pt=some (.tbl Z6)/\G Pn=some (.tbl λ_ _=>some XD))/\ZL G H/\G pb=some (.tup (book.map V.str))/\Yl K G (vo::us) ds/\R book ds d/\
 ∀ v G' H',Yr G H G' H' -> Dat K G' v d->Q v H'
def znR (book:List Str):List PyData->PyData->Prop:=λds d=>∃ (ws:List Wd) (num:Int->Int->Prop) (gs:List Fs),ds=[dOs ws,.tuple (gs.map dT)]/\OC book num ws/\(∀ g∈gs,FZ book.length g)/\gs.length<64/\Wk (Z9 book ws) (· ∈ gs)/\d=dN (tn (Z9 book ws) gs)
section
variable {P:Program}{w:World}{K:PySem.W.Frag}{mg:Str->Option Value}{base:Heap}
theorem ze4 (T:Top K mg)(M:Bs K mg base)(W:Wds K w.params mg)(W1:Txs K w.params mg "AHEAD" JG)(W2:Txs K w.params mg "OTHER_WAY" Jh):Yi P w K mg base CX0 10 T.Q6 T.fd_turning ["order", "book", "row"] (znP K T.Ye T.W9 znR):=by
 have G_ranks_of:Yi P w K mg base CX0 9 T.Jf T.fd_ranks_of ["order", "book", "row"] (spB K T.Ye Z6 znN):=zbc T M W W1 W2
 refine T.QR.okC za1 (λvs H Q E h=>?_) (λcdv A outer s H vs Q E hcd hr h=>?_)
 ·obtain ⟨G,book,vo,pb,us,ds,d,rfl,_,_,_,hd,⟨ws,num,gs,rfl,_⟩,_⟩:=h
  have:=hd.length
  simp only[List.length_cons,List.length_nil] at this ⊢
  omega
 ·obtain ⟨G,book,vo,pb,us,ds,d,rfl,⟨hT,hC⟩,sg,hpb,hd,⟨ws,num,gs,rfl,oc,hgs,hl,wk,rfl⟩,k⟩:=h
  obtain ⟨v0,r0,e0,h0,hd⟩:=hd.cons
  cases e0
  rename Yl K G us _=>hd
  obtain ⟨v2,r2,rfl,h2,hd⟩:=hd.cons
  cases hd.nil
  have hu:=hr.units
  refine ⟨_,(Ze (ZD (i:=3) za1.nd rfl (Or.inr rfl) (Zx G_ranks_of hr (by rfl) T.za6 T.Vh.kp T.zaY .nil Z3 (Za (pv 0) (Za (pv 1) (Za (pv 2) Zf Zd) Zd) Zd)))
   (Zo (Zy (Xc (YM (K:=K) rfl) (by rfl) T.Qu zhH (Za (zkx (kk:=1) (y:= "place") (cap:=["ranks"]) (js:=[3]) (q:=XD) (cr:=λ_ _=>some XD) (hr.mono (by decide)) rfl (by rfl) T.zdB (by rfl) T.Q5 ⟨rfl,rfl,rfl,by decide +kernel,by decide +kernel,(by show ∀ p∈(_:List (Str×NameKind)),p.2=NameKind.free->List.lookup p.1 (Zm Jg).names=some NameKind.cell;decide +kernel),by decide +kernel,by decide +kernel,by decide +kernel⟩ rfl (hcd.trans T.cd_turning) (PySem.W.codeHd_of_K M.kin T.ch_turning) M.bm rfl rfl (λ_ _ _ _ _=>rfl) (Yd (Yb (K:=K) rfl) (by rfl) T.zb9 PySem.boot_len (Za (pv 2) Zf Zd)) (λ_ _ _ _ _ _ _ hr2=>(ZZ (Zz (K:=K) rfl) (pv 1) (pv 0) (λ_ _=>rfl)))) Zf Xa))))) ,?_⟩
  refine Yv (K:=K) (zbK (R:=znN) hT hpb rfl (Zb rfl h0) (Zc (Zb rfl h2) Zr) ⟨ws,num,gs,rfl,oc,hgs,by omega,wk,rfl⟩) sg λv3 G1 H1 g1 h3=>?_
  refine ZW (K:=K) (zcR (Zc (zk5 (n:=gs.length) (g:=rkZ (Z9 book ws) gs) (g1.gg _ _ hC) (Qv (zax (Zc (Zb rfl (h2.same g1.gg)) Zr)) (by rw[List.length_map])) hl λi hi=>?_) Zr)) g1.gh λv G' H' g' hv=>k v G' H' (g1.trans g') hv
  refine YL (n:=i) (Zb rfl h3) (Zb rfl (Zv _)) (by rw[List.length_map];exact Xk hi) ?_
  rw[List.getElem?_map,List.getElem?_eq_getElem hi]
  unfold rkZ th
  rw[List.getD_eq_getElem?_getD,List.getElem?_eq_getElem hi];rfl
theorem zij {σ:St}{G:Hp}{ta:TE}{t:TA}{i:Nat}{pb Pt Pn:Addr}{book:List Str}{d0 d:PyData}{ds:List PyData}{R:List Str->List PyData->PyData->Prop}(hT:G Pt=some (.tbl Z6))(hC:G Pn=some (.tbl λ_ _=>some XD))(hpb:G pb=some (.tup (book.map V.str)))(hi:σ[i]?=some (some (.ref pb)))(ha:Ev K ta σ G d0)(h:EvA K t σ G ds)(hR:R book (d0::ds) d):
  Ev K (V6 (znP K Pt Pn R) [] E0 (ZS ta (ZS (Xq i) t))) σ G d:=λG1 H s1 s2 Q k=>ha G1 H s1 s2 _ λv1 G2 H2 g2 h1=>⟨_,hi,h G2 H2 (s1.trans g2.gg) g2.gh _ λvs G3 H3 g3 h3=>by
  have g23:=g2.trans g3
  have sG:=s1.trans g23.gg
  refine ⟨G3,book,v1,pb,vs,d0::ds,d,by simp,⟨sG _ _ hT,sG _ _ hC⟩,g3.gh,sG _ _ hpb,ZG (h1.same g3.gg) h3,hR,λv G' H' g' hv=>k v G' H' (g23.trans g') hv⟩⟩
end
end K32
namespace K32
open PySem L2 Frac Lw Dig PySem.NumText Nm
open Ord Num Look Rdo
def zmc:List PyData->PyData->Prop:=λds d=>∃ (gs:List Fs) (t:List Nat),ds=[.tuple (gs.map dT),dN t]/\(∀ i∈t,i<gs.length)/\t.length<=1000/\d = .tuple ((trd gs t).map dT)
section
variable {P:Program}{w:World}{K:PySem.W.Frag}{mg:Str->Option Value}{base:Heap}
theorem zl1 (T:Top K mg):Yi P w K mg base CX0 1 T.Ua T.fd_turned ["row", "turn"] (spP K zmc):=by
 refine T.Um.ok zhg (λvs H Q E h=>?_) (λcdv A outer s H vs Q E hr h=>?_)
 ·obtain ⟨G,as,d,sg,hv,⟨gs,t,rfl,_⟩,_⟩:=h
  rw[hv.length];rfl
 ·obtain ⟨G,as,d,sg,hv,⟨gs,t,rfl,ht,hl,rfl⟩,k⟩:=h
  obtain ⟨v1,r1,rfl,h1,hv⟩:=hv.cons
  obtain ⟨v2,r2,rfl,h2,hv⟩:=hv.cons
  cases hv.nil
  have zl:(2000:Nat)<=sizeLine:=by decide
  refine ⟨_,(Zo (Zy (Xc (YM (K:=K) rfl) (by rfl) T.Qu zhH (Za (zbB (x:= "place") (cap:=["row"]) (js:=[0]) ⟨rfl,by decide +kernel,by decide +kernel,rfl,(by show ∀ p∈(_:List (Str×NameKind)),p.2=NameKind.free->List.lookup p.1 (Zm Qj).names=some NameKind.cell;decide +kernel),by decide +kernel,by decide +kernel,by decide +kernel⟩ rfl rfl (λ_ _ h=>h) (zbe (pv 1)) (λ_ _ _ _=>⟨Jv,(ZZ (Xr (K:=K) rfl) (pv 1) (pv 0) (λ_ _=>rfl))⟩)) Zf Qz)))) ,?_⟩
  refine ZW (K:=K) (Qv (zcR (Zc (zgF (js:=[0]) t (λn=>PyData.int (n:Nat)) (λn=>some (dT (th gs n))) (Zb rfl h2) (by omega) λG2 i n x s3 hn hx=>lc1 Qf ?_) Zr)) ?_) sg λv G' H' g' hv=>k v G' H' g' hv
  ·have hi:n<gs.length:=ht n (List.mem_of_getElem? hn)
   rw[hx.int]
   exact JB (n:=n) (Zb rfl (h1.same s3)) (Zb rfl (Zv _)) (by rw[List.length_map];exact Xk hi) (by rw[List.getElem?_map,List.getElem?_eq_getElem hi];unfold th;rw[List.getD_eq_getElem?_getD,List.getElem?_eq_getElem hi];rfl)
  ·rw[Vp]
   show PyData.tuple _=PyData.tuple _
   unfold trd
   rw[List.map_map];rfl
end
end K32
namespace Look
open PySem Ord Rdo
def zhI (rs:List Nat)(i:Nat):Nat:=((List.range i).map λj=>(rs.take j).countP λx=>decide (rs.getD j 0<x)).sum
theorem zhm (rs:List Nat)(i:Nat):zhI rs (i+1)=zhI rs i+(rs.take i).countP λx=>decide (rs.getD i 0<x):=by
 unfold zhI
 rw[List.range_succ,List.map_append,List.sum_append]
 simp
theorem zez:∀ {l:List Nat}(h:l.Pairwise (· <= ·))(r s:Nat)(hs:s<l.length),(l.getD s 0<=r↔s<l.countP λx=>decide (x<=r))
 | [],_,_,_,hs=>by cases hs
 | x::l,h,r,s,hs=>by
  obtain ⟨h1,h2⟩:=List.pairwise_cons.mp h
  rw[List.countP_cons]
  by_cases hx:x<=r
  ·rw[decide_eq_true hx,if_pos rfl]
   cases s with
   | zero=>exact ⟨λ_=>by omega,λ_=>hx⟩
   | succ s=>
    have:=zez h2 r s (by simpa using hs)
    rw[List.getD_cons_succ,this];omega
  ·rw[decide_eq_false hx]
   have z:l.countP (λx=>decide (x<=r))=0:=List.countP_eq_zero.mpr λy hy e=>by
    have:=h1 y hy
    have:=of_decide_eq_true e
    omega
   rw[z]
   have hn:¬ (x::l).getD s 0<=r:=by
    cases s with
    | zero=>exact hx
    | succ s=>
     rw[List.getD_cons_succ]
     have hs' : s<l.length:=by simpa using hs
     have:=h1 _ (List.getElem_mem hs')
     rw[List.getD_eq_getElem?_getD,List.getElem?_eq_getElem hs']
     show ¬ l[s]<=r
     omega
   exact ⟨λh=>absurd h hn,λh=>by simp at h⟩
theorem zbR {l:List Nat}(h:l.Pairwise (· <= ·))(r:Nat):(∀ a∈l.take (l.countP λx=>decide (x<=r)),a<=r)/\∀ a∈l.drop (l.countP λx=>decide (x<=r)),r<a:=by
 constructor
 ·intro a ha
  obtain ⟨j,hj,rfl⟩:=List.mem_take_iff_getElem.mp ha
  have:=(zez h r j (by omega)).mpr (by omega)
  rw[List.getD_eq_getElem?_getD,List.getElem?_eq_getElem (by omega)] at this
  exact this
 ·intro a ha
  have key:∀ m (hm:m<l.length),(l.countP λx=>decide (x<=r))<=m->r<l[m]:=λm hm hc=>by
   have:=zez h r m hm
   rw[List.getD_eq_getElem?_getD,List.getElem?_eq_getElem hm] at this
   have h3:¬ l[m]<=r:=λz=>by
    have:=this.mp z
    omega
   omega
  obtain ⟨j,hj,rfl⟩:=List.mem_drop_iff_getElem.mp ha
  exact key _ _ (by omega)
theorem zkU {l:List Nat}(h:l.Pairwise (· <= ·))(r:Nat):(l.take (l.countP λx=>decide (x<=r))++r::l.drop (l.countP λx=>decide (x<=r))).Pairwise (· <= ·):=by
 obtain ⟨a1,a2⟩:=zbR h r
 refine List.pairwise_append.mpr ⟨h.sublist (List.take_sublist _ _),List.pairwise_cons.mpr ⟨λa ha=>Nat.le_of_lt (a2 a ha),h.sublist (List.drop_sublist _ _)⟩,λa ha b hb=>?_⟩
 rcases List.mem_cons.mp hb with rfl | hb
 ·exact a1 a ha
 ·exact Nat.le_trans (a1 a ha) (Nat.le_of_lt (a2 b hb))
theorem zh7 (l:List Nat)(k r:Nat):(l.take k++r::l.drop k).Perm (l++[r]):=by
 have h1:(l.take k++r::l.drop k).Perm (r::(l.take k++l.drop k)):=List.perm_middle
 rw[List.take_append_drop] at h1
 exact h1.trans (List.perm_append_singleton r l).symm
theorem zkj (l:List Nat)(r:Nat):l.length=(l.countP λx=>decide (x<=r))+l.countP λx=>decide (r<x):=by
 have:=List.length_eq_countP_add_countP (λx=>decide (x<=r)) (l:=l)
 rw[this]
 congr 1
 refine List.countP_congr λx _=>?_
 simp
end Look
namespace K32
open PySem L2 Frac Lw Dig PySem.NumText Nm
theorem zk7 {i:Int}:Uw i 2:=⟨by decide,Nat.lt_of_lt_of_le (show (2:Int).natAbs<2 ^ 2 by decide) (Nat.pow_le_pow_right (by decide) (by decide))⟩
section
variable {P:Program}{w:World}{K:PySem.W.Frag}{mg:Str->Option Value}{base:Heap}
theorem zoo (T:Top K mg)(kk:Nat):zaJ P w K mg base (kk+3) T.WF T.fd_many_ahead ["places", "lies_ahead"] (znO P w K mg base kk):=by
 refine T.VG.okS (k:=kk+2) Y7 (λs vs H Q h=>?_) (λcdv A outer s H vs Q hr h=>?_)
 ·obtain ⟨n,f,q,params,body,fr,sc,cl,y,cap,vals,te,g,rfl,_⟩:=h
  rfl
 ·obtain ⟨n,f,q,params,body,fr,sc,cl,y,cap,vals,te,g,rfl,hn,S,hcap,L,C,hvl,hbind,hbody,hev,fin⟩:=h
  refine ⟨_,(Ze (ZD (i:=2) Y7.nd rfl (Or.inl rfl) Zg) (Ze (ZD (i:=3) Y7.nd rfl (Or.inl rfl) (pv 0))
   (Ze (zb4 PassesOwn.never (ZF V3 (pv 2) (pv 3) (ZR _)) (Ze (ZD (i:=4) Y7.nd rfl (Or.inl rfl) (Zw YF (Zw W6 (pv 2) (pv 3)) Zg))
    (Zo (Yt (VD (zh8 (i:=1) rfl (Or.inl rfl) (hr.mono (by omega)) rfl L C S hcap hbind hvl hbody (Za (pv 4) Zf Zd)))
     (Zo (ZD (i:=2) Y7.nd rfl (Or.inl rfl) (Zw W6 (pv 4) Zg))) (Zo (ZD (i:=3) Y7.nd rfl (Or.inl rfl) (pv 4)))))))
   (Zo (Zy (pv 2)))))),?_⟩
  refine ⟨_,rfl,?_⟩
  refine zbq (fun σ H' => ∃ (low high:Nat) (v:Option V),σ=[some (.int (n:Nat)),some (.ref f),some (.int (low:Nat)),some (.int (high:Nat)),v]/\high<=n/\hv g low high=hv g 0 n/\ZL H H') (fun σ _=>match σ with | [_,_,some (.int l),some (.int h),_]=>(h-l).toNat | _=>0)
   ⟨0,n,none,rfl,Nat.le_refl _,rfl,ZL.refl _⟩ ?_ ?_
  ·rintro σ H1 ⟨low,high,v,rfl,c2,c3,s1⟩
   refine ⟨_,rfl,_,rfl,_,_,rfl,rfl,_,rfl,?_⟩
   by_cases hlt:(low:Int)<high
   ·rw[decide_eq_true hlt]
    refine zlJ ?_
    have hlt' : low<high:=by omega
    refine ⟨_,rfl,_,rfl,_,_,rfl,rfl,_,_,rfl,rfl,zk7,?_⟩
    obtain ⟨half,hhalf⟩:∃ half:Nat,((low:Int)+high) / 2=half:=⟨(((low:Int)+high) / 2).toNat,by omega⟩
    have hh:(low+high) / 2=half:=by omega
    (try dsimp only)
    rw[hhalf]
    have b1:low<=half:=by omega
    have b2:half<high:=by omega
    have e3:hv g low high=if g half then hv g (half+1) high else hv g low half:=by
     rw[hv,dif_pos hlt',hh]
    refine zag (c:=g half) (G:=H1) ?_ (ZL.refl _) (λe G2 H2 g2=>?_) (λe G2 H2 g2=>?_)
    ·refine λG1 H2 sa sb Q1 k1=>⟨rfl,_,rfl,rfl,?_⟩
     exact (hev half (by omega)) G1 H2 (s1.trans sa) sb _ λv' G' H' g' hv' => ⟨_,hv'.bl,k1 G' H' g'⟩
    ·refine ⟨_,rfl,_,_,rfl,rfl,⟨half+1,high,_,rfl,c2,?_,s1.trans g2.hh⟩,?_⟩
     ·rw[← c3,e3,if_pos e]
     ·show ((high:Int)-((half:Int)+1)).toNat<((high:Int)-low).toNat
      omega
    ·refine ⟨_,rfl,⟨low,half,_,rfl,by omega,?_,s1.trans g2.hh⟩,?_⟩
     ·rw[← c3,e3,if_neg (by rw[e];exact Bool.false_ne_true)]
     ·show ((half:Int)-low).toNat<((high:Int)-low).toNat
      omega
   ·rw[decide_eq_false hlt]
    refine zlH ?_
    refine ⟨_,rfl,?_⟩
    have e3:hv g low high=low:=by rw[hv,dif_neg (by omega)]
    rw[← e3,c3]
    exact fin H1 s1
  ·rintro σ H1 Q1 Q2 hq ⟨a,e1,b,e2,i,j,e3,e4,c,e5,q⟩
   exact ⟨a,e1,b,e2,i,j,e3,e4,c,e5,hq _ _ q⟩
end
end K32
namespace K32
open PySem L2 Frac Lw Dig PySem.NumText Nm
open Ord Num Look Rdo
def znX (K:PySem.W.Frag)(Pt Pc:Addr)(R:List Str->List PyData->PyData->Prop):Sp:=λvs H Q _=>∃ (G:Hp) (book:List Str) (vo:V) (pb:Addr) (us:List V) (ds:List PyData) (d:PyData),vs=vo :: .ref pb::us/\(G Pt=some (.tbl Z6)/\G Pc=some (.tbl λ_ _=>some Xm))/\ZL G H/\G pb=some (.tup (book.map V.str))/\Yl K G (vo::us) ds/\R book ds d/\
 ∀ v G' H',Yr G H G' H' -> Dat K G' v d->Q v H'
def rks (book:List Str)(ws:List Wd)(gs:List Fs):List Nat:=gs.map λg=>rk (Z9 book ws) (XJ gs) g
def zeG (book:List Str):List PyData->PyData->Prop:=λds d=>∃ (ws:List Wd) (num:Int->Int->Prop) (gs:List Fs),ds=[dOs ws,.tuple (gs.map dT)]/\OC book num ws/\(∀ g∈gs,FZ book.length g)/\gs.length<=1000/\Wk (Z9 book ws) (· ∈ gs)/\d = .int (zhI (rks book ws gs) gs.length:Nat)
abbrev vI (l:List Nat):List V:=l.map λn=>V.int (n:Nat)
section
variable {P:Program}{w:World}{K:PySem.W.Frag}{mg:Str->Option Value}{base:Heap}
theorem zff (T:Top K mg)(M:Bs K mg base)(W:Wds K w.params mg)(W1:Txs K w.params mg "AHEAD" JG)(W2:Txs K w.params mg "OTHER_WAY" Jh):Yi P w K mg base CX0 10 T.QG T.fd_crossed ["order", "book", "row"] (znX K T.Ye T.Wv zeG):=by
 have G_many_ahead:zaJ P w K mg base 4 T.WF T.fd_many_ahead ["places", "lies_ahead"] (znO P w K mg base 1):=zoo T 1
 have G_ranks_of:Yi P w K mg base CX0 9 T.Jf T.fd_ranks_of ["order", "book", "row"] (spB K T.Ye Z6 znN):=zbc T M W W1 W2
 refine T.UT.okC Wf (λvs H Q E h=>?_) (λcdv A outer s H vs Q E hcd hr h=>?_)
 ·obtain ⟨G,book,vo,pb,us,ds,d,rfl,_,_,_,hd,⟨ws,num,gs,rfl,_⟩,_⟩:=h
  have:=hd.length
  simp only[List.length_cons,List.length_nil] at this ⊢
  omega
 ·obtain ⟨G,book,vo,pb,us,ds,d,rfl,⟨hT,hC⟩,sg,hpb,hd,⟨ws,num,gs,rfl,oc,hgs,hl,wk,rfl⟩,k⟩:=h
  obtain ⟨v0,r0,e0,h0,hd⟩:=hd.cons
  cases e0
  rename Yl K G us _=>hd
  obtain ⟨v2,r2,rfl,h2,hd⟩:=hd.cons
  cases hd.nil
  have hu:=hr.units
  have zl:(2000:Nat)<=sizeLine:=by decide
  refine ⟨_,(Ze (ZD (i:=3) Wf.nd rfl (Or.inl rfl) Zg)
   (Ze (ZD (i:=4) Wf.nd rfl (Or.inr rfl) (Xn Zf))
   (Ze (Wz PassesOwn.never rfl (U0 (Zx G_ranks_of hr (by rfl) T.za6 T.Vh.kp T.zaY .nil Z3 (Za (pv 0) (Za (pv 1) (Za (pv 2) Zf Zd) Zd) Zd))) (Yy (i:=5) Wf.nd rfl (Or.inr rfl)) (Ze (ZD (i:=6) Wf.nd rfl (Or.inl rfl) (zn9 (kk:=1) (y:= "spot") (cap:=["rising", "rank"]) (js:=[4,5]) (q:=Xm) (cr:=λ_ _=>some Xm) G_many_ahead (hr.mono (by decide)) (by rfl) T.zch T.VG.kp T.zdc (λ_ _ h=>h) ⟨rfl,rfl,rfl,by decide +kernel,by decide +kernel,(by show ∀ p∈(_:List (Str×NameKind)),p.2=NameKind.free->List.lookup p.1 (Zm Jc).names=some NameKind.cell;decide +kernel),by decide +kernel,by decide +kernel,by decide +kernel⟩ rfl (hcd.trans T.cd_crossed) (PySem.W.codeHd_of_K M.kin T.ch_crossed) M.bm rfl rfl (λ_ _ _ _ _=>rfl) (Yd (Yb (K:=K) rfl) (by rfl) T.zb9 PySem.boot_len (Za (pv 4) Zf Zd)) (λ_ _ _ _ _ _ _ hr2=>(Vj zoc (ZZ (Zz (K:=K) rfl) (pv 1) (pv 0) (λ_ _=>rfl)) (pv 2) (ZR _)))))
   (Ze (ZD (i:=3) Wf.nd rfl (Or.inl rfl) (Zw Ja (Zw W6 (pv 3) (Yd (Yb (K:=K) rfl) (by rfl) T.zb9 PySem.boot_len (Za (pv 4) Zf Zd))) (pv 6)))
   (Zo (J5 (zaM PySem.F.plainAttrs_list PySem.F.slot_list_insert PySem.F.type_list_insert zgU (pv 4) (Za (pv 6) (Za (pv 5) Zf Zd) Zd)))))))
   (Zo (Zy (pv 3)))))) ,?_⟩
  refine ⟨(by show 0<=sizeLine;decide),λpr hpr=>?_⟩
  have gpr:G pr=none:=sg.free hpr
  have s1:ZL G (upd H pr (.lst [])):=sg.trans (ZX hpr)
  refine ⟨_,rfl,_,rfl,_,rfl,G,book,vo,pb,[v2],_,_,rfl,hT,s1,hpb,ZG h0 (ZG h2 ZP),⟨ws,num,gs,rfl,oc,hgs,hl,wk,rfl⟩,λv5 G1 H1 g1 h5=>?_⟩
  obtain ⟨p5,zs,rfl,hp5,hzs⟩:=h5.lst
  have hzl:zs.length=gs.length:=by rw[hzs.length,List.length_map]
  have gpr1:G1 pr=none:=by
   cases e:G1 pr with
   | none=>rfl
   | some o=>
    rcases g1.fr pr o e with h | h
    ·rw[gpr] at h;cases h
    ·rw[Zh] at h;cases h
  have np5:p5≠pr:=Zn hp5 gpr1
  have ez:zs=vI (rks book ws gs):=by
   have hz' : Yl K G1 zs ((rks book ws gs).map λn=>PyData.int (n:Nat)):=by unfold rks;rw[List.map_map];exact hzs
   exact hz'.nats
  subst ez
  have rl:(rks book ws gs).length=gs.length:=by unfold rks;rw[List.length_map]
  generalize rks book ws gs=rs at rl hp5 hzs hzl k
  refine ⟨p5,rfl,⟨_,SqL.of (g1.gh _ _ hp5)⟩,ziQ (xs:=vI rs) (λi σ H' => ∃ (v5 v6:Option V) (ris:List Nat),σ=[some vo,some (.ref pb),some v2,some (.int (zhI rs i:Nat)),some (.ref pr),v5,v6]/\(∀ b o,b≠pr->H1 b=some o->H' b=some o)/\H' pr=some (.lst (vI ris))/\ris.Pairwise (· <= ·)/\ris.Perm (rs.take i))
   ⟨_,_,[],rfl,λb o n e=>e,g1.hh _ _ Zh,List.Pairwise.nil,by simp⟩ ?_ ?_ ?_⟩
  ·rintro i σ H' _ ⟨v5,v6,ris,rfl,kp,_⟩
   exact SqL.of (kp _ _ np5 (g1.gh _ _ hp5))
  ·rintro i x σ H' hx ⟨v5,v6,ris,rfl,kp,hk,hsr,hpm⟩
   have hi:i<rs.length:=by have:=(List.getElem?_eq_some_iff.mp hx).1;rw[List.length_map] at this;exact this
   have ex:x=V.int (rs.getD i 0:Nat):=by
    rw[List.getElem?_map,List.getElem?_eq_getElem hi] at hx
    rw[List.getD_eq_getElem?_getD,List.getElem?_eq_getElem hi]
    exact (Option.some.inj hx).symm
   subst ex
   have hrl:ris.length=i:=by
    have:=hpm.length_eq
    rw[List.length_take] at this;omega
   have ec:=zhm rs i
   have etk:rs.take (i+1)=rs.take i++[rs.getD i 0]:=by
    rw[List.take_succ,List.getD_eq_getElem?_getD,List.getElem?_eq_getElem hi];rfl
   rw[ec,etk]
   generalize rs.getD i 0=r
   have hcnt:(rs.take i).countP (λx=>decide (r<x))=ris.countP λx=>decide (r<x):=(hpm.countP_eq _).symm
   rw[hcnt]
   have hcl:=zkj ris r
   have hP:H' T.Wv=some (.tbl λ_ _=>some Xm):=kp _ _ (Zn hC gpr) (g1.gh _ _ (g1.gg _ _ hC))
   have hR:Dat K H' (.ref pr) (.list (ris.map λn=>PyData.int (n:Nat))):=YT hk (JN _)
   refine Jb (K:=K) (G:=H') (zol (n:=ris.length) (g:=λs=>decide (ris.getD s 0<=r)) hP (Qv (zaB (Zc (Zb rfl hR) Zr)) (by rw[List.length_map])) (by omega) λs hs=>?_) (ZL.refl _) λv6' G2 H2 g2 hv6=>?_
   ·refine Qv (J8 (YL (n:=s) (Zb rfl hR) (Zb rfl (Zv _)) (by rw[List.length_map];exact Xk hs) (by rw[List.getElem?_map,List.getElem?_eq_getElem hs];rfl)) (Zb rfl (Zv (r:Nat))) (Yn _)) ?_
    show PyData.bool _=PyData.bool _
    congr 1
    rw[List.getD_eq_getElem?_getD,List.getElem?_eq_getElem hs]
    exact decide_eq_decide.mpr ⟨λz=>by have:((ris[s]:Nat):Int)<=(r:Nat):=z;show ris[s]<=r;omega,λz=>by have:ris[s]<=r:=z;show ((ris[s]:Nat):Int)<=(r:Nat);omega⟩
   rw[hv6.int]
   have ehv:hv (λs=>decide (ris.getD s 0<=r)) 0 ris.length=ris.countP λx=>decide (x<=r):=zog 0 ris.length (λs hs=>by rw[decide_eq_true_iff];exact zez hsr r s hs) (Nat.zero_le _) List.countP_le_length
   rw[ehv]
   have hR2:=hR.same g2.hh
   refine Jb (K:=K) (G:=H2) (d:=.int ((zhI rs i+ris.countP (λx=>decide (r<x)):Nat):Int)) (Qv (J8 (J8 (Zb rfl (Zv _)) (zaB (Zc (Zb rfl hR2) Zr)) (Zv _)) (Zb rfl (Zv _)) (Zv _)) ?_) (ZL.refl _) λv3' G3 H3 g3 hv3=>?_
   ·congr 1
    rw[List.length_map]
    omega
   rw[hv3.int]
   have hk3:=g3.hh _ _ (g2.hh _ _ hk)
   refine ⟨_,rfl,.inl ⟨rfl,_,SqL.of hk3⟩,_,rfl,_,rfl,pr,_,_,_,rfl,rfl,hk3,Int.natCast_nonneg _,?_,?_,?_⟩
   ·have:=List.countP_le_length (p:=λx=>decide (x<=r)) (l:=ris)
    rw[List.length_map];omega
   ·rw[List.length_map];omega
   ·refine ⟨_,_,ris.take (ris.countP λx=>decide (x<=r))++r::ris.drop (ris.countP λx=>decide (x<=r)),rfl,λb o n e=>?_,?_,zkU hsr r,(zh7 _ _ _).trans (hpm.append_right _)⟩
    ·rw[Zq n];exact g3.hh _ _ (g2.hh _ _ (kp b o n e))
    ·rw[Zh]
     congr 2
     show _=List.map _ (_++_::_)
     rw[List.map_append,List.map_cons,List.map_take,List.map_drop];rfl
  ·rintro σ H' ⟨v5,v6,ris,rfl,kp,hk,_⟩
   have e:(vI rs).length=gs.length:=by rw[List.length_map,rl]
   rw[e]
   have gf:Yr G H G1 H' := by
    refine ⟨g1.gg,λb o e=>kp b o (Zn e gpr1) (g1.gh b o e),λb o e=>kp b o (Zn e hpr) (g1.hh b o (by rw[Zq (Zn e hpr)];exact e)),λb o e=>?_⟩
    rcases g1.fr b o e with h | h
    ·exact .inl h
    ·rw[Zq (Zn e gpr1)] at h;exact .inr h
   exact ⟨_,rfl,k _ G1 H' gf (Zv _)⟩
end
end K32
namespace Trn
def bk:List Nat->Nat->List Nat->List Nat
 | [],_,acc=>acc
 | n::r,i,acc=>bk r (i+1) (acc.set n i)
def zaI (ns:List Nat):List Nat:=bk ns 0 (List.replicate ns.length 0)
def zkH {α:Type}[Inhabited α](row:List α)(ns:List Nat):List α:=ns.map λn=>row.getD n default
theorem U7:∀ (ns:List Nat)(i:Nat)(acc:List Nat),(bk ns i acc).length=acc.length
 | [],_,_=>rfl
 | n::r,i,acc=>by unfold bk;rw[U7,List.length_set]
theorem zjt:∀ (ns:List Nat)(i:Nat)(acc:List Nat)(m:Nat),m∉ns->(bk ns i acc)[m]?=acc[m]?
 | [],_,_,_,_=>rfl
 | n::r,i,acc,m,h=>by
  unfold bk
  rw[zjt r (i+1) _ m (λz=>h (List.mem_cons_of_mem _ z)),List.getElem?_set_ne]
  rintro rfl;exact h List.mem_cons_self
theorem zm3:∀ (ns:List Nat)(i:Nat)(acc:List Nat),ns.Nodup->(∀ n∈ns,n<acc.length)->∀ j m,ns[j]?=some m->(bk ns i acc)[m]?=some (i+j)
 | [],_,_,_,_,_,_,e=>by simp at e
 | n::r,i,acc,nd,hl,0,m,e=>by
  simp at e;subst e
  unfold bk
  rw[zjt r (i+1) _ n (List.nodup_cons.mp nd).1,List.getElem?_set_self (hl n List.mem_cons_self)];rfl
 | n::r,i,acc,nd,hl,j+1,m,e=>by
  unfold bk
  have:=zm3 r (i+1) (acc.set n i) (List.nodup_cons.mp nd).2 (λx hx=>by rw[List.length_set];exact hl x (List.mem_cons_of_mem _ hx)) j m (by simpa using e)
  rw[this];congr 1;omega
structure Tn (n:Nat)(ns:List Nat):Prop where
 len:ns.length=n
 lt:∀ m∈ns,m<n
 nd:ns.Nodup
theorem za7 {n:Nat}{ns:List Nat}(h:ns.Perm (List.range n)):Tn n ns:=
 ⟨by rw[h.length_eq,List.length_range],λm hm=>List.mem_range.mp (h.mem_iff.mp hm),h.nodup_iff.mpr List.nodup_range⟩
theorem zhA {n:Nat}{ns:List Nat}(h:Tn n ns){j m:Nat}(e:ns[j]?=some m):(zaI ns)[m]?=some j:=by
 have:=zm3 ns 0 (List.replicate ns.length 0) h.nd (λx hx=>by rw[List.length_replicate,h.len];exact h.lt x hx) j m e
 rw[Nat.zero_add] at this;exact this
theorem zbS (ns:List Nat):(zaI ns).length=ns.length:=by unfold zaI;rw[U7,List.length_replicate]
theorem few:∀ (n:Nat)(ns:List Nat),ns.Nodup->(∀ m∈ns,m<n)->ns.length<=n
 | 0,[],_,_=>Nat.le_refl _
 | 0,m::_,_,h=>absurd (h m List.mem_cons_self) (Nat.not_lt_zero _)
 | n+1,ns,nd,h=>by
  have h1:=few n (ns.erase n) (nd.erase n) λm hm=>by
   have h2:=h m (List.mem_of_mem_erase hm)
   have h3:m≠n:=((nd.mem_erase_iff).mp hm).1
   omega
  have h4:=List.length_erase (l:=ns) (a:=n)
  split at h4 <;> omega
theorem zjH {n:Nat}{ns:List Nat}(h:Tn n ns)(m:Nat)(hm:m<n):m∈ns:=by
 by_cases hc:m∈ns
 ·exact hc
 ·have:=few n (m::ns) (List.nodup_cons.mpr ⟨hc,h.nd⟩) λx hx=>by
   rcases List.mem_cons.mp hx with rfl | hx
   ·exact hm
   ·exact h.lt x hx
  rw[List.length_cons,h.len] at this
  omega
theorem zkI {n:Nat}{ns:List Nat}(h:Tn n ns):Tn n (zaI ns):=by
 have hl:(zaI ns).length=n:=by rw[zbS,h.len]
 have at_:∀ i,i<n->∃ j,ns[j]?=some i/\(zaI ns)[i]?=some j:=λi hi=>by
  obtain ⟨j,hj,e⟩:=List.getElem_of_mem (zjH h i hi)
  have e' : ns[j]?=some i:=by rw[List.getElem?_eq_getElem hj,e]
  exact ⟨j,e',zhA h e'⟩
 refine ⟨hl,λm hm=>?_,?_⟩
 ·obtain ⟨i,hi,e⟩:=List.getElem_of_mem hm
  obtain ⟨j,e1,e2⟩:=at_ i (by omega)
  rw[List.getElem?_eq_getElem hi,e] at e2
  have:=(List.getElem?_eq_some_iff.mp e1).1
  rw[h.len] at this
  cases e2;exact this
 ·rw[List.nodup_iff_pairwise_ne,List.pairwise_iff_getElem]
  intro i j hi hj hij e
  obtain ⟨a,a1,a2⟩:=at_ i (by omega)
  obtain ⟨b,b1,b2⟩:=at_ j (by omega)
  rw[List.getElem?_eq_getElem hi] at a2
  rw[List.getElem?_eq_getElem hj] at b2
  have:a=b:=by
   have x:=Option.some.inj a2;have y:=Option.some.inj b2;rw[← x,← y,e]
  subst this
  rw[a1] at b1;have:=Option.some.inj b1;omega
theorem zg9 {α:Type}[Inhabited α]{row:List α}{n:Nat}{ns:List Nat}(h:Tn n ns)(hr:row.length=n):zkH (zkH row ns) (zaI ns)=row:=by
 unfold zkH
 refine List.ext_getElem? λi=>?_
 rw[List.getElem?_map]
 by_cases hi:i<n
 ·obtain ⟨j,hj,e⟩:=List.getElem_of_mem (zjH h i hi)
  have e' : ns[j]?=some i:=by rw[List.getElem?_eq_getElem hj,e]
  rw[zhA h e']
  show some ((ns.map λn=>row.getD n default).getD j default)=row[i]?
  rw[List.getD_eq_getElem?_getD,List.getElem?_map,e']
  show some (row.getD i default)=row[i]?
  rw[List.getD_eq_getElem?_getD,List.getElem?_eq_getElem (by omega)];rfl
 ·rw[List.getElem?_eq_none (by rw[zbS,h.len];omega),List.getElem?_eq_none (by omega)];rfl
end Trn
namespace Trn
theorem zhr:∀ (l:List Nat)(n i:Nat)(acc:List Nat),bk (l++[n]) i acc=(bk l i acc).set n (i+l.length)
 | [],_,_,_=>rfl
 | m::l,n,i,acc=>by
  show bk (l++[n]) (i+1) (acc.set m i)=_
  rw[zhr l n (i+1)]
  show (bk l (i+1) (acc.set m i)).set n (i+1+l.length)=(bk l (i+1) (acc.set m i)).set n (i+(l.length+1))
  congr 1;omega
end Trn
namespace K32
open PySem L2 Frac Lw Dig PySem.NumText Nm
open Ord Num Look Rdo Trn
def zkg:List PyData->PyData->Prop:=λas d=>∃ ns:List Nat,as=[dN ns]/\(∀ n∈ns,n<ns.length)/\ns.length<=100/\d=dN (zaI ns)
section
variable {P:Program}{w:World}{K:PySem.W.Frag}{mg:Str->Option Value}{base:Heap}
theorem zkb (T:Top K mg):Yi P w K mg base CX0 1 T.f_back T.fd_back ["turn"] (spP K zkg):=by
 refine T.zj0.ok zbQ (λvs H Q E h=>?_) (λcdv A outer s H vs Q E hr h=>?_)
 ·obtain ⟨G,as,d,sg,hv,⟨ns,rfl,_⟩,_⟩:=h
  rw[hv.length];rfl
 ·obtain ⟨G,as,d,sg,hv,⟨ns,rfl,hlt,l1,rfl⟩,k⟩:=h
  obtain ⟨v1,r1,rfl,h1,hv⟩:=hv.cons
  cases hv.nil
  obtain ⟨a,xs,rfl,ha,hxs⟩:=h1.tup
  have ex:=hxs.nats
  subst ex
  have haH:=sg.tup ha
  refine ⟨_,(Ze (ZD (i:=1) zbQ.nd rfl (Or.inl rfl) (Zw znm (Xn (Za Zg Zf Zj)) (Yd (Yb (K:=K) rfl) (by rfl) T.zb9 PySem.boot_len (Za (pv 0) Zf Zd))))
   (Ze (Wz PassesOwn.never rfl (zhW (by rfl) T.Vz (Za (pv 0) Zf Zd)) (zcT (n:=2) rfl (XH (Yy (i:=2) zbQ.nd rfl (Or.inl rfl)) (XH (Yy (i:=3) zbQ.nd rfl (Or.inl rfl)) zac)) (by rfl)) (Zo (zji (pv 2) (zjo (pv 1) (pv 3) set_list))))
   (Zo (Zy (Xc (YM (K:=K) rfl) (by rfl) T.Qu zhH (Za (pv 1) Zf Zd)))))) ,?_⟩
  refine ⟨(by show 1<=sizeLine;decide),λq hq=>?_⟩
  refine ⟨_,rfl,a,_,rfl,.inr ((ZX hq).tup haH),?_⟩
  have zl:(100:Nat)<=sizeLine:=by decide
  refine ⟨q,_,[.int 0],rfl,rfl,Zh,by omega,by rw[List.length_map];omega,by rw[List.length_map];show 1*_<=_;omega,λp hp=>?_⟩
  have hp0:H p=none:=(ZX hq).free hp
  have s0:ZL H (upd (upd H q (.lst [V.int 0])) p (.lst (List.replicate ((List.map (λn=>V.int (n:Nat)) ns).length:Int).toNat [V.int 0]).flatten)):=(ZX hq).trans (ZX hp)
  have e0:(List.replicate ((List.map (λn=>V.int (n:Nat)) ns).length:Int).toNat [V.int 0]).flatten=(bk (ns.take 0) 0 (List.replicate ns.length 0)).map λn=>V.int (n:Nat):=by
   rw[List.length_map]
   show (List.replicate ns.length [V.int 0]).flatten=(List.replicate ns.length 0).map λ(n:Nat)=>V.int n
   rw[List.map_replicate]
   generalize ns.length=n
   induction n with
   | zero=>rfl
   | succ n ih=>rw[List.replicate_succ,List.flatten_cons,ih,List.replicate_succ];rfl
  refine ⟨_,rfl,a,rfl,⟨_,s0.tup haH⟩,zlx (xs:=ns.map λn=>V.int (n:Nat)) (λi σ H' => ∃ v2 v3:Option V,σ=[some (.ref a),some (.ref p),v2,v3]/\ZL H H' /\ H' p=some (.lst ((bk (ns.take i) 0 (List.replicate ns.length 0)).map λn=>V.int (n:Nat)))) ⟨_,_,rfl,s0,by rw[Zh,e0]⟩ ?_ ?_ ?_⟩
  ·rintro i σ H' _ ⟨v2,v3,rfl,s1,_⟩
   exact s1.tup haH
  ·rintro i x r σ H' hx ⟨v2,v3,rfl,s1,h1⟩ hr
   rw[List.getElem?_map] at hx
   cases e:ns[i]? with
   | none=>rw[e] at hx;cases hx
   | some n=>
    rw[e] at hx;cases hx
    have hn:=hlt n (List.mem_of_getElem? e)
    have npr:p≠r:=Zn h1 hr
    have hlen:(bk (ns.take i) 0 (List.replicate ns.length 0)).length=ns.length:=by rw[U7,List.length_replicate]
    refine ⟨r,_,rfl,SqT.of Zh,rfl,_,_,rfl,_,_,rfl,rfl,?_⟩
    refine ⟨_,rfl,_,rfl,_,rfl,p,_,(n:Int),n,rfl,rfl,(by rw[Zq npr];exact h1),Xk (by rw[List.length_map,hlen];exact hn),?_⟩
    refine ⟨_,_,rfl,λb o eb=>?_,?_⟩
    ·rw[Zq (Zn eb hp0)]
     exact (ZX hr) b o (s1 b o eb)
    ·rw[Zh]
     have hi:=(List.getElem?_eq_some_iff.mp e).1
     have et:ns.take (i+1)=ns.take i++[n]:=by rw[List.take_add_one,e];rfl
     rw[et,zhr,← List.map_set,List.length_take,Nat.min_eq_left (by omega),Nat.zero_add]
  ·rintro σ H' ⟨v2,v3,rfl,s1,h1⟩
   rw[List.length_map,List.take_length] at h1
   refine ⟨_,rfl,p,_,rfl,.inl ⟨SqL.of h1,λl hl=>?_⟩⟩
   have g:=Z5 (o:=.tup ((zaI ns).map λn=>V.int (n:Nat))) (sg.trans s1) hl
   exact k _ _ _ ((zeT sg s1).trans g) (YW (SqT.of Zh) (JN _))
end
end K32
namespace L2
open PySem PySem.Spec PyProof.Rows
section
variable {K:PySem.W.Frag}{X:Cx}
theorem zfC (e:X.K=K):Ut X (.type "list") (λxs H Q=>∃ p ys,xs=[.ref p]/\(SqL K H p ys\/SqT K H p ys)/\∀ l,H l=none->Q (.ref l) (upd H l (.lst ys))):=by subst e;exact zcL
end
end L2
namespace K32
open PySem L2 Frac Lw Dig PySem.NumText Nm
open Ord Num Look Rdo
def znT:List PyData->PyData->Prop:=λas x=>∃ gs hs:List Fs,as=[.tuple (gs.map dT)]/\gs.length<=60/\hs.Perm gs/\x = .tuple (hs.map dT)
section
variable {P:Program}{w:World}{K:PySem.W.Frag}{mg:Str->Option Value}{base:Heap}
theorem zmq {n:Nat}(f:Fs):Pl (n+2) (dT f):=zaW λx hx=>by
 obtain ⟨p,_,rfl⟩:=List.mem_map.mp hx
 exact zaW λy hy=>by
  rcases List.mem_cons.mp hy with rfl | hy
  ·exact zeX _
  ·rw[List.mem_singleton.mp hy];exact zeX _
theorem zcz {n i:Nat}(h:i<n):seqIndex? (i:Int) n=some i:=by
 unfold seqIndex?
 simp
 omega
theorem zcl {α β:Type}(f:α->β):∀ (l:List α)(i:Nat),(l.map f).eraseIdx i=(l.eraseIdx i).map f
 | [],_=>rfl
 | _::_,0=>rfl
 | x::l,i+1=>by rw[List.map_cons,List.eraseIdx_cons_succ,List.eraseIdx_cons_succ,List.map_cons,zcl f l i]
theorem zef {G H:Hp}{l:Addr}{o:HO}(s:ZL G H)(h:H l=some o):ZL (upd G l o) H:=λb u e=>by
 by_cases z:b=l
 ·subst z;rw[Zh] at e;rw[h];exact e
 ·rw[Zq z] at e;exact s b u e
theorem za9 {G:Hp}:∀ {ds:List PyData}{xs:List V}{j:Nat},Yl K G xs ds->Yl K G (xs.eraseIdx j) (ds.eraseIdx j)
 | [],_,_,h=>by have e:=h.nil;subst e;rw[List.eraseIdx_nil,List.eraseIdx_nil];exact ZP
 | _::_,_,0,h=>by obtain ⟨y,ys,rfl,_,r⟩:=h.cons;exact r
 | _::_,_,j+1,h=>by obtain ⟨y,ys,rfl,hy,r⟩:=h.cons;exact ZG hy (za9 r)
theorem Ui {G:Hp}:∀ {ds:List PyData}{xs:List V}{j:Nat}{x:V}{e:PyData},Yl K G xs ds->xs[j]?=some x->ds[j]?=some e->Dat K G x e
 | [],_,_,_,_,_,_,h=>by cases h
 | _::_,_,0,_,_,h,h1,h2=>by obtain ⟨y,ys,rfl,hy,r⟩:=h.cons;cases h1;cases h2;exact hy
 | _::_,_,j+1,_,_,h,h1,h2=>by obtain ⟨y,ys,rfl,hy,r⟩:=h.cons;exact Ui r h1 h2
theorem zfI {left found gs:List Fs}{k:Nat}(h:(found++left).Perm gs)(hk:k<left.length):(found++[left[k]]++left.eraseIdx k).Perm gs:=by
 refine List.Perm.trans ?_ h
 rw[List.append_assoc]
 refine List.Perm.append_left _ ?_
 have e:left=left.take k++left[k]::left.drop (k+1):=by rw[List.getElem_cons_drop,List.take_append_drop]
 rw[List.eraseIdx_eq_take_drop_succ]
 exact (List.perm_middle (a:=left[k]) (l₁:=left.take k) (l₂:=left.drop (k+1))).symm.trans (by rw[← e])
theorem ziH (T:Top K mg):Yi P w K mg base CX0 2 T.WY T.fd__law_mixed ["deck", "row"] (Vc K 60 znT):=by
 have G__law_next:Yi P w K mg base CX0 1 T.Ym T.fd__law_next ["deck"] (Vc K 1 RNx):=JL T
 refine T.VV.ok Js (λvs H Q E h=>?_) (λcdv A outer s H vs Q E hr h=>?_)
 ·obtain ⟨d,c,G,us,ds,rfl,_,_,_,_,hd,⟨x,gs,hs,rfl,_⟩,_⟩:=h
  rw[List.length_cons,hd.length];rfl
 ·obtain ⟨d,c,G,us,ds,rfl,sg,gd,gc,D,hd,⟨x,gs,hs0,rfl,h60,_⟩,kk⟩:=h
  obtain ⟨v1,r1,rfl,h1,hd⟩:=hd.cons
  cases hd.nil
  have hu:=hr.units
  have zl:(2000:Nat)<=sizeLine:=by decide
  obtain ⟨a,xs0,rfl,ha,hxs0⟩:=h1.tup
  refine ⟨_,(Ze (ZD (i:=2) Js.nd rfl (Or.inl rfl) (Xc (zfC (K:=K) rfl) (by rfl) T.zmJ zeN (Za (pv 1) Zf Zd)))
   (Ze (ZD (i:=3) Js.nd rfl (Or.inl rfl) (Xn Zf))
   (Ze (zb4 PassesOwn.never (ZF (zbT (K:=K) rfl hu) (pv 2) (Xn Zf) (ZR _)) (Zo (J5 (zaM PySem.F.plainAttrs_list PySem.F.slot_list_append PySem.F.type_list_append Wm (pv 3) (Za (zaM PySem.F.plainAttrs_list PySem.F.slot_list_pop PySem.F.type_list_pop ziW (pv 2) (Za (Zw Z0 (Zx G__law_next hr (by rfl) T.YC T.Yu.kp T.YD .nil Z3 (Za (pv 0) Zf Zd)) (Yd (Yb (K:=K) rfl) (by rfl) T.zb9 PySem.boot_len (Za (pv 2) Zf Zd))) Zf Yo)) Zf Xa)))))
   (Zo (Zy (Xc (YM (K:=K) rfl) (by rfl) T.Qu zhH (Za (pv 3) Zf Zd))))))) ,?_⟩
  refine ⟨_,rfl,a,_,rfl,.inr (sg.tup ha),λl hl=>?_⟩
  refine ⟨(by show 0<=sizeLine;decide),λf hf=>?_⟩
  have hlf:l≠f:=Zn (H:=upd H l (.lst xs0)) Zh hf
  have hf0:H f=none:=(ZX hl).free hf
  obtain ⟨nld,nlc⟩:=Dk.ned D hl
  obtain ⟨nfd,nfc⟩:=Dk.ned D hf0
  have gl:G l=none:=sg.free hl
  have gf:G f=none:=sg.free hf0
  have k0:Dk 0 d c G H G (upd (upd H l (.lst xs0)) f (.lst [])):=((Dk.refl sg D).wr hl gl nld nlc _).wr hf0 gf nfd nfc _
  refine zbq (fun σ H' => ∃ (G' : Hp) (xs ys:List V) (ls fs:List Fs),σ=[some (.ref d),some (.ref a),some (.ref l),some (.ref f)]/\Dk fs.length d c G H G' H' /\ G' l=none/\G' f=none/\H' l=some (.lst xs)/\H' f=some (.lst ys)/\Yl K G' xs (ls.map dT)/\Yl K G' ys (fs.map dT)/\(fs++ls).Perm gs) (fun σ H' => match H' l with | some (.lst xs)=>xs.length | _=>0)
   ⟨G,xs0,[],gs,[],rfl,k0,gl,gf,by rw[Zq hlf,Zh],Zh,hxs0,ZP,.refl _⟩ ?_ ?_
  ·rintro σ H1 ⟨G1,xs,ys,ls,fs,rfl,k1,gl1,gf1,hl1,hf1,hxs,hys,hp⟩
   refine ⟨_,rfl,(by show 0<=sizeLine;decide),λe he=>?_⟩
   have ge:G1 e=none:=k1.gh.free he
   have he0:H e=none:=zeY k1.kp k1.D0 he
   obtain ⟨ned,nec⟩:=Dk.ned k1.D0 he
   have nle:l≠e:=Zn hl1 he
   have nfe:f≠e:=Zn hf1 he
   have k2:=k1.wr he0 ge ned nec (.lst [])
   have hl2:upd H1 e (.lst []) l=some (.lst xs):=by rw[Zq nle];exact hl1
   have hf2:upd H1 e (.lst []) f=some (.lst ys):=by rw[Zq nfe];exact hf1
   have lenx:=hxs.length
   have leny:=hys.length
   rw[List.length_map] at lenx leny
   have plen:=hp.length_eq
   rw[List.length_append] at plen
   have s2:ZL (upd (upd G1 l (.lst xs)) e (.lst [])) (upd H1 e (.lst [])):=zef (zef k2.gh hl2) Zh
   have sa:ZL G1 (upd (upd G1 l (.lst xs)) e (.lst [])):=(ZX gl1).trans (ZX (by rw[Zq (Ne.symm nle)];exact ge))
   have pll:Pl 4 (.list (ls.map dT)):=zeS λx hx=>by
    obtain ⟨g,_,rfl⟩:=List.mem_map.mp hx
    exact zmq g
   have pl0:Pl 4 (.list []):=zeS λx hx=>by cases hx
   refine ⟨_,_,_,s2,YT (by rw[Zq nle];exact Zh) (hxs.same sa),YT Zh ZP,⟨pll.shaped (by decide),pl0.shaped (by decide),pll.mix pl0⟩,_,rfl,?_⟩
   by_cases hn:ls=[]
   ·subst hn
    have e0:PySem.Spec.same (.list (([]:List Fs).map dT)) (.list [])=true:=PySem.Spec.same_self _
    rw[e0]
    refine zlH ?_
    refine ⟨_,rfl,f,_,rfl,.inl ⟨SqL.of hf2,λt ht=>?_⟩⟩
    have g8:=Z5 (o:=.tup ys) k2.gh ht
    rw[List.append_nil] at hp
    exact kk (.ref t) _ _ _ ⟨gs,fs,rfl,h60,hp,rfl⟩ ((k2.trans (g8.dk k2.D0)).up (by omega)) (YW (SqT.of Zh) (hys.same g8.gg))
   ·have e0:PySem.Spec.same (.list (ls.map dT)) (.list [])=false:=by
     cases ls with
     | nil=>exact absurd rfl hn
     | cons=>rfl
    rw[e0]
    refine zlJ ?_
    have hpos:0<ls.length:=List.length_pos_iff.mpr hn
    refine ⟨_,rfl,.inl ⟨rfl,_,SqL.of hf2⟩,_,rfl,.inl ⟨rfl,_,SqL.of hl2⟩,?_⟩
    unfold tOp
    refine Dv.use (t:=tNx K 0) (zdQ (K:=K) (d:=d) (c:=c) (G:=G1) (i:=0) rfl) k2.gh (k2.gd D gd) (k2.gc D gc) (k2.cn 1 (D.mono (by omega))) λv x G3 H3 hx k3 hv=>?_
    obtain ⟨r,rfl,_⟩:=hx
    rw[hv.int]
    have hl3:H3 l=some (.lst xs):=k3.kp _ _ hl2 nld nlc
    have hf3:H3 f=some (.lst ys):=k3.kp _ _ hf2 nfd nfc
    have gl3:G3 l=none:=k3.out hl2 gl1
    have gf3:G3 f=none:=k3.out hf2 gf1
    refine ⟨_,rfl,l,_,rfl,.inl (SqL.of hl3),_,_,rfl,rfl,(by omega),?_⟩
    have hr0:0<=r % (xs.length:Int):=Int.emod_nonneg _ (by omega)
    have hr1:r % (xs.length:Int)<xs.length:=Int.emod_lt_of_pos r (by omega)
    (try dsimp only)
    generalize hR:r % (xs.length:Int)=i at hr0 hr1 ⊢
    obtain ⟨j,rfl⟩:∃ j:Nat,i=j:=⟨i.toNat,by omega⟩
    have hj:j<xs.length:=by omega
    have hj' : j<ls.length:=by omega
    refine ⟨l,_,_,j,xs[j],rfl,rfl,hl3,by omega,by omega,zcz hj,List.getElem?_eq_getElem hj,?_⟩
    refine ⟨f,_,_,rfl,rfl,(by rw[Zq (Ne.symm hlf)];exact hf3),(by omega),?_⟩
    have k4:=((k2.trans k3).wr hl gl3 nld nlc (.lst (xs.eraseIdx j))).wr hf0 gf3 nfd nfc (.lst (ys++[xs[j]]))
    refine ⟨⟨G3,xs.eraseIdx j,ys++[xs[j]],ls.eraseIdx j,fs++[ls[j]],rfl,k4.up (by rw[List.length_append];exact Nat.le_refl _),gl3,gf3,by rw[Zq hlf];exact Zh,Zh,?_,?_,zfI hp hj'⟩,?_⟩
    ·have:=za9 (j:=j) (hxs.same k3.gg)
     rw[zcl] at this
     exact this
    ·rw[List.map_append]
     exact YB (hys.same k3.gg) (ZG (Ui (hxs.same k3.gg) (List.getElem?_eq_getElem hj) (by rw[List.getElem?_map,List.getElem?_eq_getElem hj'];rfl)) ZP)
    ·show (match upd (upd H3 l (.lst (xs.eraseIdx j))) f (.lst (ys++[xs[j]])) l with | some (.lst xs)=>xs.length | _=>0)<(match H1 l with | some (.lst xs)=>xs.length | _=>0)
     rw[Zq hlf,Zh,hl1]
     show (xs.eraseIdx j).length<xs.length
     rw[List.length_eraseIdx_of_lt hj];omega
  ·rintro σ H1 Q1 Q2 hq ⟨v,e1,z,q⟩
   exact ⟨v,e1,z,λe he=>by
    obtain ⟨G9,a9,b9,x1,x2,x3,x4,b',x5,x6⟩:=q e he
    exact ⟨G9,a9,b9,x1,x2,x3,x4,b',x5,hq _ _ x6⟩⟩
end
end K32
namespace Look
open PySem Ord Rdo
def prs {α:Type}(p:α->α->Bool):List α->Nat
 | []=>0
 | x::r=>r.countP (p x)+prs p r
theorem zeq {α:Type}(p:α->α->Bool):∀ (l:List α)(y:α),prs p (l++[y])=prs p l+l.countP λx=>p x y
 | [],y=>rfl
 | x::r,y=>by
  show (r++[y]).countP (p x)+prs p (r++[y])=r.countP (p x)+prs p r+(x::r).countP λx=>p x y
  rw[zeq p r y,List.countP_append,List.countP_cons,List.countP_cons,List.countP_nil]
  omega
theorem zeV {α:Type}[Inhabited α](p:α->α->Bool)(l:List α):∀ n,n<=l.length->((List.range n).map λj=>(l.take j).countP λx=>p x (l.getD j default)).sum=prs p (l.take n)
 | 0,_=>by simp[prs]
 | n+1,h=>by
  have hn:n<l.length:=by omega
  rw[List.range_succ,List.map_append,List.sum_append,zeV p l n (by omega),List.take_succ,List.getElem?_eq_getElem hn]
  show _=prs p (l.take n++[l[n]])
  rw[zeq]
  simp[List.getD_eq_getElem?_getD,List.getElem?_eq_getElem hn]
theorem zcn {α:Type}{p q:α->α->Bool}:∀ {l:List α},(∀ x∈l,∀ y∈l,p x y=q x y)->prs p l=prs q l
 | [],_=>rfl
 | x::r,h=>by
  show r.countP (p x)+prs p r=r.countP (q x)+prs q r
  rw[zcn λa ha b hb=>h a (List.mem_cons_of_mem _ ha) b (List.mem_cons_of_mem _ hb)]
  congr 1
  exact List.countP_congr λy hy=>by rw[h x List.mem_cons_self y (List.mem_cons_of_mem _ hy)]
theorem zdj {α:Type}{p q:α->α->Bool}{r:α->α->Prop}:∀ {l:List α},l.Pairwise r->(∀ x∈l,∀ y∈l,r x y->p x y=q x y)->prs p l=prs q l
 | [],_,_=>rfl
 | x::l,hr,h=>by
  obtain ⟨h1,h2⟩:=List.pairwise_cons.mp hr
  show l.countP (p x)+prs p l=l.countP (q x)+prs q l
  rw[zdj h2 λa ha b hb=>h a (List.mem_cons_of_mem _ ha) b (List.mem_cons_of_mem _ hb)]
  congr 1
  exact List.countP_congr λy hy=>by rw[h x List.mem_cons_self y (List.mem_cons_of_mem _ hy) (h1 y hy)]
theorem ziN {α:Type}{p:α->α->Bool}(sy:∀ x y,p x y=p y x){a b:List α}(h:a.Perm b):prs p a=prs p b:=by
 induction h with
 | nil=>rfl
 | cons x h ih=>
  show List.countP _ _+_=List.countP _ _+_
  rw[ih,h.countP_eq]
 | swap x y l=>
  show (x::l).countP (p y)+(l.countP (p x)+prs p l)=(y::l).countP (p x)+(l.countP (p y)+prs p l)
  rw[List.countP_cons,List.countP_cons,sy y x]
  omega
 | trans _ _ i1 i2=>rw[i1,i2]
theorem zdI {α β:Type}(f:β->α)(p:α->α->Bool):∀ l:List β,prs p (l.map f)=prs (λx y=>p (f x) (f y)) l
 | []=>rfl
 | x::r=>by
  show (r.map f).countP (p (f x))+prs p (r.map f)=_
  rw[List.countP_map,zdI f p r];rfl
def crN (L:Fs->Fs->An)(gs:List Fs):Nat:=prs (λf g=>decide (L g f = .ahead)) gs
def rkL (L:Fs->Fs->An)(gs:List Fs):List Nat:=gs.map λg=>rk L (XJ gs) g
theorem zin {L:Fs->Fs->An}{gs:List Fs}(wk:Wk L (· ∈ gs)):zhI (rkL L gs) gs.length=crN L gs:=by
 have l:(rkL L gs).length=gs.length:=List.length_map _
 have h:=zeV (α:=Nat) (λx y=>decide (y<x)) (rkL L gs) gs.length (by omega)
 unfold zhI
 have e:((List.range gs.length).map λj=>((rkL L gs).take j).countP λx=>decide ((rkL L gs).getD j 0<x))=(List.range gs.length).map λj=>((rkL L gs).take j).countP λx=>decide ((rkL L gs).getD j default<x):=rfl
 rw[e,h,← l,List.take_length]
 unfold rkL crN
 rw[zdI]
 refine zcn λf hf g hg=>?_
 rw[Uc wk hg hf]
 exact decide_eq_decide.mpr (Jk _ _).1.symm
theorem zkW {L:Fs->Fs->An}{gs:List Fs}(wk:Wk L (· ∈ gs)):prs (λi j=>decide (j<i)) (tn L gs)=crN L gs:=by
 have s:=zjz wk
 let φ:Nat->Nat->Bool:=λx y=>if x<y then decide (L (th gs y) (th gs x) = .ahead) else decide (L (th gs x) (th gs y) = .ahead)&&decide (x≠y)
 have e1:prs (λi j=>decide (j<i)) (tn L gs)=prs φ (tn L gs):=zdj s λx hx y hy r=>by
  have mx:=Jy (zdh hx)
  have my:=Jy (zdh hy)
  show decide (y<x)=if x<y then _ else _
  unfold ltL at r
  have an:=wk.anti _ _ mx my
  by_cases h:x<y
  ·rw[if_pos h,decide_eq_false (by omega:¬ y<x)]
   rcases r with r | ⟨r,_⟩ <;> (rw[an,r];rfl)
  ·rw[if_neg h]
   by_cases h2:x=y
   ·subst h2
    rw[wk.self mx];simp
   ·have r' : L (th gs x) (th gs y) = .ahead:=by
     rcases r with r | ⟨_,r⟩
     ·exact r
     ·omega
    rw[r',decide_eq_true (by omega:y<x)];simp[h2]
 have sy:∀ x y,φ x y=φ y x:=λx y=>by
  show (if x<y then _ else _)=(if y<x then _ else _)
  by_cases h:x<y
  ·rw[if_pos h,if_neg (by omega)]
   have:y≠x:=by omega
   simp[this]
  ·by_cases h2:y<x
   ·rw[if_neg h,if_pos h2]
    have:x≠y:=by omega
    simp[this]
   ·have:x=y:=by omega
    subst this;rfl
 rw[e1,ziN sy (QC L gs)]
 have e2:prs φ (List.range gs.length)=prs (λx y=>decide (L (th gs y) (th gs x) = .ahead)) (List.range gs.length):=zdj List.pairwise_lt_range λx _ y _ r=>by
  show (if x<y then _ else _)=_
  rw[if_pos r]
 rw[e2]
 have e3:(List.range gs.length).map (th gs)=gs:=by
  refine List.ext_getElem? λi=>?_
  rw[List.getElem?_map]
  by_cases h:i<gs.length
  ·rw[List.getElem?_range h]
   show some (gs.getD i [])=_
   rw[List.getD_eq_getElem?_getD,List.getElem?_eq_getElem h];rfl
  ·rw[List.getElem?_eq_none (by rw[List.length_range];omega),List.getElem?_eq_none (by omega)];rfl
 have:=zdI (th gs) (λf g=>decide (L g f = .ahead)) (List.range gs.length)
 rw[e3] at this
 unfold crN
 rw[this]
end Look
namespace Look
open PySem Ord Rdo
theorem zhT (gs:List Fs):(List.range gs.length).map (th gs)=gs:=by
 refine List.ext_getElem? λi=>?_
 rw[List.getElem?_map]
 by_cases h:i<gs.length
 ·rw[List.getElem?_range h]
  show some (gs.getD i [])=_
  rw[List.getD_eq_getElem?_getD,List.getElem?_eq_getElem h];rfl
 ·rw[List.getElem?_eq_none (by rw[List.length_range];omega),List.getElem?_eq_none (by omega)];rfl
theorem QM (L:Fs->Fs->An)(gs:List Fs):(trd gs (tn L gs)).Perm gs:=by
 have:=(QC L gs).map (th gs)
 rw[zhT] at this
 exact this
theorem Qa (L:Fs->Fs->An)(gs:List Fs):(trd gs (tn L gs)).length=gs.length:=(QM L gs).length_eq
theorem zdY {L:Fs->Fs->An}{gs:List Fs}(wk:Wk L (· ∈ gs)){i j:Nat}(hij:i<j)(hj:j<gs.length):L (th (trd gs (tn L gs)) i) (th (trd gs (tn L gs)) j)≠.behind:=by
 have s:=List.pairwise_iff_getElem.mp (zjz wk) i j (by rw[Qs];omega) (by rw[Qs];omega) hij
 rw[zju (by rw[Qs];omega),zju (by rw[Qs];omega)]
 have e:∀ k (h:k<(tn L gs).length),(tn L gs).getD k 0=(tn L gs)[k]:=λk h=>by rw[List.getD_eq_getElem?_getD,List.getElem?_eq_getElem h];rfl
 rw[e i (by rw[Qs];omega),e j (by rw[Qs];omega)]
 rcases s with s | ⟨s,_⟩ <;> (rw[s];simp)
theorem zjj {L:Fs->Fs->An}{gs:List Fs}(wk:Wk L (· ∈ gs)):Wk L (· ∈ trd gs (tn L gs)):=wk.sub λg hg=>Vs hg
theorem zeH {L:Fs->Fs->An}{gs:List Fs}(wk:Wk L (· ∈ gs)):tn L (trd gs (tn L gs))=List.range gs.length:=by
 symm
 refine zn2 (zjj wk) (by rw[Qa]) ?_
 refine (List.Pairwise.and_mem.mp List.pairwise_lt_range).imp λ{i j} ⟨_,b,c⟩=>?_
 have n:=zdY wk c (List.mem_range.mp b)
 unfold ltL
 cases e:L (th (trd gs (tn L gs)) i) (th (trd gs (tn L gs)) j) with
 | ahead=>exact .inl rfl
 | like=>exact .inr ⟨rfl,c⟩
 | behind=>exact absurd e n
theorem zej {α:Type}{p:α->α->Bool}:∀ {l:List α},prs p l=0↔l.Pairwise λx y=>p x y=false
 | []=>⟨λ_=>.nil,λ_=>rfl⟩
 | x::l=>by
  have ih:=zej (p:=p) (l:=l)
  rw[List.pairwise_cons,← ih]
  show l.countP (λy=>p x y)+prs p l=0↔_
  constructor
  ·intro h
   refine ⟨λy hy=>?_,by omega⟩
   have:l.countP (λy=>p x y)=0:=by omega
   rw[List.countP_eq_zero] at this
   have:=this y hy
   cases e:p x y with
   | true=>exact absurd e this
   | false=>rfl
  ·rintro ⟨h1,h2⟩
   have:l.countP (λy=>p x y)=0:=List.countP_eq_zero.mpr λy hy=>by rw[h1 y hy];simp
   omega
theorem zgo {L:Fs->Fs->An}{gs:List Fs}(wk:Wk L (· ∈ gs)):crN L gs=0↔tn L gs=List.range gs.length:=by
 rw[← zkW wk,zej]
 constructor
 ·intro h
  refine Uv (r:=λa b:Nat=>a<b) (λx y h=>by omega) (QC L gs) ?_ List.pairwise_lt_range
  refine (h.and (zbj (rkZ L gs) gs.length)).imp λ{a b} ⟨x,y⟩=>?_
  have:=of_decide_eq_false x
  omega
 ·intro h
  rw[h]
  exact List.pairwise_lt_range.imp λ{a b} h=>decide_eq_false (by omega)
theorem zhN {L:Fs->Fs->An}{gs:List Fs}(wk:Wk L (· ∈ gs)):crN L (trd gs (tn L gs))=0:=(zgo (zjj wk)).mpr (by rw[zeH wk,Qa])
theorem zh2 {L:Fs->Fs->An}{gs hs:List Fs}(wk:Wk L (· ∈ gs))(hp:hs.Perm gs){i:Nat}(hi:i<gs.length):L (th (trd hs (tn L hs)) i) (th (trd gs (tn L gs)) i) = .like:=by
 have wh:Wk L (· ∈ hs):=wk.sub λg hg=>hp.mem_iff.mp hg
 have hl:=hp.length_eq
 let ρ:Fs->Nat:=λf=>rk L (XJ gs) f
 have srt:∀ {ks:List Fs},ks.Perm gs->Wk L (· ∈ ks)->((trd ks (tn L ks)).map ρ).Pairwise (· <= ·):=λ{ks} hk wkk=>by
  rw[List.pairwise_map,List.pairwise_iff_getElem]
  intro a b ha hb hab
  have hb' : b<ks.length:=by rw[Qa] at hb;exact hb
  have n:=zdY wkk hab hb'
  have t:∀ c (h:c<(trd ks (tn L ks)).length),th (trd ks (tn L ks)) c=(trd ks (tn L ks))[c]:=λc h=>by show (trd ks (tn L ks)).getD c []=_;rw[List.getD_eq_getElem?_getD,List.getElem?_eq_getElem h];rfl
  rw[t a ha,t b hb] at n
  have m:∀ c (h:c<(trd ks (tn L ks)).length),(trd ks (tn L ks))[c]∈gs:=λc h=>hk.mem_iff.mp (Vs (List.getElem_mem h))
  rw[Uc wk (m a ha) (m b hb)] at n
  have:=(Jk (rk L (XJ gs) (trd ks (tn L ks))[a]) (rk L (XJ gs) (trd ks (tn L ks))[b])).2.2
  show rk _ _ _<=rk _ _ _
  by_cases z:rk L (XJ gs) (trd ks (tn L ks))[b]<rk L (XJ gs) (trd ks (tn L ks))[a]
  ·exact absurd (this.mpr z) n
  ·omega
 have e:(trd hs (tn L hs)).map ρ=(trd gs (tn L gs)).map ρ:=by
  have p:((trd hs (tn L hs)).map ρ).Perm ((trd gs (tn L gs)).map ρ):=((QM L hs).trans (hp.trans (QM L gs).symm)).map ρ
  exact p.eq_of_pairwise (λx y _ _ h1 h2=>by omega) (srt hp wh) (srt (.refl _) wk)
 have t:∀ {ks:List Fs},ks.length=gs.length->((trd ks (tn L ks)).map ρ)[i]?=some (ρ (th (trd ks (tn L ks)) i)):=λ{ks} hk=>by
  have:i<(trd ks (tn L ks)).length:=by rw[Qa];omega
  rw[List.getElem?_map,List.getElem?_eq_getElem this]
  show _=some (ρ ((trd ks (tn L ks)).getD i []))
  rw[List.getD_eq_getElem?_getD,List.getElem?_eq_getElem this];rfl
 have q:=t hl
 rw[e,t rfl] at q
 have q:=Option.some.inj q
 have m1:th (trd hs (tn L hs)) i∈gs:=hp.mem_iff.mp (Vs (Jy (by rw[Qa];omega)))
 have m2:th (trd gs (tn L gs)) i∈gs:=Vs (Jy (by rw[Qa];omega))
 rw[Uc wk m1 m2]
 exact (Jk _ _).2.1.mpr q.symm
end Look
namespace L2
open PySem PySem.Spec PyProof.Rows StbG
section
variable {prog:Program}{w:World}{A:Around}{E:Value->Shared->Prop}{s:Shared}
abbrev pz (vs:List Value):Array Keyed:=vs.toArray.zip vs.toArray
theorem zai (vs:List Value):(pz vs).size=vs.length:=by simp[pz]
theorem zjO {vs:List Value}{p:Keyed}(h:p∈(pz vs).toList):p.1∈vs/\p.2=p.1:=by
 have e:(pz vs).toList=vs.zip vs:=by simp[pz]
 rw[e] at h
 obtain ⟨i,hi⟩:=List.getElem?_of_mem h
 rw[List.getElem?_zip_eq_some] at hi
 exact ⟨List.mem_of_getElem? hi.1,Option.some.inj (hi.2.symm.trans hi.1)⟩
end
theorem zgT {α β:Type}{f:α->β}{a b:List β}(h:a.Perm b):∀ {Z:List α},Z.map f=b->∃ Z' : List α,Z'.Perm Z/\Z'.map f=a:=by
 induction h with
 | nil=>intro Z e;exact ⟨Z,.refl _,e⟩
 | cons x h ih=>
  intro Z e
  cases Z with
  | nil=>cases e
  | cons z Z=>
   injection e with e1 e2
   obtain ⟨Z',p,e3⟩:=ih e2
   exact ⟨z::Z',p.cons z,by rw[List.map_cons,e1,e3]⟩
 | swap x y l=>
  intro Z e
  match Z,e with
  | z::z2::Z,e=>
   injection e with e1 e2
   injection e2 with e2 e3
   exact ⟨z2::z::Z,.swap _ _ _,by rw[List.map_cons,List.map_cons,e1,e2,e3]⟩
 | trans h1 h2 i1 i2=>
  intro Z e
  obtain ⟨Z2,p2,e2⟩:=i2 e
  obtain ⟨Z1,p1,e1⟩:=i1 e2
  exact ⟨Z1,p1.trans p2,e1⟩
section
variable {X:Cx}{pins:List (Addr×Obj)}{σ:St}{H G:Hp}{s:Shared}
end
end L2
namespace L2
open PySem PySem.Spec PyProof.Rows StbG
structure zka {α:Type}(lt:α->α->Bool):Prop where
 irr:∀ a,lt a a=false
 tr:∀ a b c,lt a b=true->lt b c=true->lt a c=true
 tri:∀ a b,lt a b=false->lt b a=false->a=b
def zhP {α:Type}[DecidableEq α](lt:α->α->Bool):List α->List α->Bool
 | [],[]=>false
 | [],_::_=>true
 | _::_,[]=>false
 | x::xs,y::ys=>if x=y then zhP lt xs ys else lt x y
theorem zc2 {α:Type}[DecidableEq α]{lt:α->α->Bool}(h:zka lt):zka (zhP lt):=by
 refine ⟨λa=>?_,λa=>?_,λa=>?_⟩
 ·induction a with
  | nil=>rfl
  | cons x xs ih=>rw[zhP,if_pos rfl];exact ih
 ·induction a with
  | nil=>intro b c h1 h2;cases b with
   | nil=>cases h1
   | cons y ys=>cases c with
    | nil=>cases h2
    | cons z zs=>rfl
  | cons x xs ih=>intro b c h1 h2;cases b with
   | nil=>cases h1
   | cons y ys=>cases c with
    | nil=>cases h2
    | cons z zs=>
     rw[zhP] at h1 h2 ⊢
     by_cases e1:x=y
     ·subst e1
      rw[if_pos rfl] at h1
      by_cases e2:x=z
      ·rw[if_pos e2] at h2 ⊢;exact ih _ _ h1 h2
      ·rw[if_neg e2] at h2 ⊢;exact h2
     ·rw[if_neg e1] at h1
      by_cases e2:y=z
      ·subst e2
       rw[if_neg e1];exact h1
      ·rw[if_neg e2] at h2
       have t:=h.tr _ _ _ h1 h2
       by_cases e3:x=z
       ·subst e3;rw[h.irr] at t;cases t
       ·rw[if_neg e3];exact t
 ·induction a with
  | nil=>intro b h1 h2;cases b with
   | nil=>rfl
   | cons y ys=>cases h1
  | cons x xs ih=>intro b h1 h2;cases b with
   | nil=>cases h2
   | cons y ys=>
    rw[zhP] at h1 h2
    by_cases e:x=y
    ·subst e
     rw[if_pos rfl] at h1 h2
     rw[ih _ h1 h2]
    ·rw[if_neg e] at h1
     rw[if_neg (Ne.symm e)] at h2
     exact absurd (h.tri _ _ h1 h2) e
theorem zhR:zka (λa b:Int=>decide (a<b)):=⟨λa=>decide_eq_false (by omega),λa b c h1 h2=>decide_eq_true (by have:=of_decide_eq_true h1;have:=of_decide_eq_true h2;omega),λa b h1 h2=>by have:=of_decide_eq_false h1;have:=of_decide_eq_false h2;omega⟩
theorem zey:∀ a b:List Int,HT.lexLt a b=zhP (λa b:Int=>decide (a<b)) a b
 | [],[]=>rfl
 | [],_::_=>rfl
 | _::_,[]=>rfl
 | x::xs,y::ys=>by rw[HT.zaU,zhP,zey xs ys]
theorem zhQ:zka HT.lexLt:=by
 have e:HT.lexLt=zhP (λa b:Int=>decide (a<b)):=funext λa=>funext λb=>zey a b
 rw[e];exact zc2 zhR
def Ve:List (List Int)->List (List Int)->Bool:=zhP HT.lexLt
theorem Wt:zka Ve:=zc2 zhQ
theorem zgZ (x y:List Int)(xs ys:List (List Int)):Ve (x::xs) (y::ys)=if x=y then Ve xs ys else HT.lexLt x y:=rfl
def rkT {α:Type}(lt:α->α->Bool)(S:List α)(x:α):Nat:=S.countP (lt · x)
theorem zcN {α:Type}{p q:α->Bool}{x:α}:∀ {S:List α},(∀ z,p z=true->q z=true)->x∈S->q x=true->p x=false->S.countP p<S.countP q
 | y::S,h,hx,h1,h2=>by
  rw[List.countP_cons,List.countP_cons]
  have m:=List.countP_mono_left (l:=S) λz _=>h z
  rcases List.mem_cons.mp hx with rfl | hx
  ·rw[if_pos h1,if_neg (by rw[h2];simp)];omega
  ·have i:=zcN h hx h1 h2
   by_cases hy:p y=true
   ·rw[if_pos hy,if_pos (h y hy)];omega
   ·rw[if_neg hy];split <;> omega
theorem zjR {α:Type}{lt:α->α->Bool}(h:zka lt){S:List α}{x y:α}(hx:x∈S):decide ((rkT lt S x:Int)<rkT lt S y)=lt x y:=by
 cases e:lt x y with
 | true=>exact decide_eq_true (by have:=zcN (p:=(lt · x)) (q:=(lt · y)) (λz hz=>h.tr _ _ _ hz e) hx e (h.irr x);unfold rkT;omega)
 | false=>
  refine decide_eq_false ?_
  have:rkT lt S y<=rkT lt S x:=List.countP_mono_left λz _ hz=>by
   cases e2:lt y x with
   | true=>exact h.tr _ _ _ hz e2
   | false=>rw[h.tri _ _ e e2];exact hz
  omega
theorem zfh {α:Type}{lt:α->α->Bool}(h:zka lt){a b:List α}(hp:a.Perm b)(ha:a.Pairwise λx y=>lt y x=false)(hb:b.Pairwise λx y=>lt y x=false):a=b:=
 hp.eq_of_pairwise (λx y _ _ h1 h2=>h.tri _ _ h2 h1) ha hb
section
variable {prog:Program}{w:World}{A:Around}{E:Value->Shared->Prop}{s:Shared}
theorem ints_of {ns:List Int}{vs:List Value}(h:PySem.ItemsAre (intKind prog w) ns vs):IntsAre vs ns:=by
 induction h with
 | nil=>exact .nil
 | @cons k v ks vs h1 _ ih=>
  cases v <;> first | (cases h1;done) | skip
  rename_i n t
  have:n=k:=by first | exact of_decide_eq_true h1 | (simpa [intKind] using h1) | exact (of_decide_eq_true h1).symm
  subst this
  exact .cons n t ih
theorem zjJ {fin:Bool}{Q:Bool->Shared->Prop}(hu:A.units<cLine):∀ {x y:List (List Int)}{vs ws:List Value}{i:Nat},It2 (intKind prog w) s.heap x vs->It2 (intKind prog w) s.heap y ws->fin=decide (vs.length<ws.length)->Q (Ve x y) s->PySem.W.KatLex prog w A false fin Q (vs.zip ws) i s
 | _,_,_,_,i,.nil,.nil,e,h=>by subst e;exact PySem.W.kat_nil h
 | _,_,_,_,i,.nil,.cons _ _,e,h=>by subst e;exact PySem.W.kat_nil h
 | _,_,_,_,i,.cons _ _,.nil,e,h=>by subst e;exact PySem.W.kat_nil h
 | _,_,_,_,i,.cons (a:=k1) (b:=v1) h1 r1,.cons (a:=k2) (b:=v2) h2 r2,e,h=>by
  obtain ⟨c1,rfl,i1⟩:=h1
  obtain ⟨c2,rfl,i2⟩:=h2
  rw[zgZ] at h
  refine PySem.W.kat_cons (wpAny_eqBool_tuple hu i1 i2 (PySem.W.kat_go (λz=>PySem.W.kat_yes ?_) λz=>PySem.W.kat_no (PySem.W.kat_one _ _ ?_)))
  ·rw[if_pos (of_decide_eq_true z)] at h
   exact zjJ hu r1 r2 (e.trans (decide_eq_decide.mpr (by simp only[List.length_cons];omega))) h
  ·rw[if_neg (of_decide_eq_false z)] at h
   obtain ⟨o1,t1,n1,g1,cl1,d1,l1⟩:=i1
   obtain ⟨o2,t2,n2,g2,cl2,d2,l2⟩:=i2
   exact HT.zfD ⟨o1,g1,cl1,n1,d1⟩ ⟨o2,g2,cl2,n2,d2⟩ (ints_of l1) (ints_of l2) hu h
theorem zh9 {x y:List (List Int)}{a b:Addr}{Q:Bool->Shared->Prop}(hu:A.units<cLine)(hx:Xv (intKind prog w) s.heap x a)(hy:Xv (intKind prog w) s.heap y b)(h:Q (Ve x y) s):wpAny (model prog w) A (keyLt' (tuples' false) (.ref a) (.ref b)) Q E s:=by
 obtain ⟨o,its,n,ho,_,hd,hi⟩:=hx
 obtain ⟨o',its',n',ho',_,hd',hi'⟩:=hy
 exact PySem.W.kat_lt ho hd ho' hd' (zjJ hu hi hi' (by rw[Array.length_toList,Array.length_toList]) h)
def zaF (prog:Program)(w:World)(h:Heap)(v:Value)(k:List (List Int)):Prop:=k≠[]/\∃ a,v = .ref a/\Xv (intKind prog w) h k a
theorem zaF.inj {h:Heap}{v:Value}{x y:List (List Int)}(hx:zaF prog w h v x)(hy:zaF prog w h v y):x=y:=by
 obtain ⟨_,a,rfl,ix⟩:=hx
 obtain ⟨_,b,e,iy⟩:=hy
 cases e
 exact ix.inj iy
theorem zaF.keep {h h' : Heap}{v:Value}{x:List (List Int)}(hx:zaF prog w h v x)(k:∀ b o,h.get? b=some o->o.cls = .type "tuple" -> h'.get? b=some o):zaF prog w h' v x:=by
 obtain ⟨hn,a,rfl,o,its,n,ho,hc,hd,hi⟩:=hx
 refine ⟨hn,a,rfl,o,its,n,k _ _ ho hc,hc,hd,hi.map λl b i=>?_⟩
 obtain ⟨o,its,n,ho,hc,r⟩:=i
 exact ⟨o,its,n,k _ _ ho hc,hc,r⟩
open Classical in
noncomputable def kN (prog:Program) (w:World) (h:Heap) (v:Value):List (List Int):=if e:∃ k,zaF prog w h v k then e.choose else []
theorem zmz {h:Heap}{v:Value}{k:List (List Int)}(x:zaF prog w h v k):kN prog w h v=k:=by
 have e:∃ k,zaF prog w h v k:=⟨k,x⟩
 unfold kN
 rw[dif_pos e]
 exact e.choose_spec.inj x
theorem zfM {ρ:Keyed->Int}{vs:List Value}{S:List (List (List Int))}(hu:A.units<cLine)(h:∀ p∈(pz vs).toList,∃ k,zaF prog w s.heap p.1 k/\k∈S/\ρ p=rkT Ve S k):Cmp prog w A E s ρ (tuples' false) (pz vs):=by
 intro st i j Q hB hi hj hq
 have at_:∀ k,k<(pz vs).size->∃ x q a,(arrOf st)[k]?=some (x,q)/\zaF prog w s.heap x a/\a∈S/\R ρ (arrOf st) k=rkT Ve S a:=λk hk=>by
  have hk' : k<(arrOf st).size:=by rw[hB.size];exact hk
  have hm:(arrOf st)[k]∈(pz vs).toList:=(Array.perm_iff_toList_perm.mp hB.perm).mem_iff.mp (by simp)
  obtain ⟨a,hp,hS,e⟩:=h _ hm
  have e' : (arrOf st)[k]?=some (arrOf st)[k]:=getElem?_pos _ k hk'
  exact ⟨(arrOf st)[k].1,(arrOf st)[k].2,a,e',hp,hS,by unfold R;rw[e'];exact e⟩
 obtain ⟨x,p,a,ei,⟨_,xa,rfl,hx⟩,aS,ri⟩:=at_ i hi
 obtain ⟨y,q,c,ej,⟨_,ya,rfl,hy⟩,_,rj⟩:=at_ j hj
 rw[ri,rj,zjR Wt aS] at hq
 rw[ltAt'_eq]
 refine wpS_bind (wpS_get ?_)
 show wpS _ _ _ _ (do let x ← elem' (arrOf st) i;let y ← elem' (arrOf st) j;lt' x y) Q st
 rw[elem'_eq,elem'_eq,ei,ej]
 refine wpS_bind (wpS_pure (wpS_bind (wpS_pure ?_)))
 rw[lt'_eq]
 refine wpS_bind (wpS_get ?_)
 rw[hB.kind]
 exact wpS_bind (wpS_lift (wpAny_attempt (zh9 hu hx hy ⟨rfl,wpS_pure hq⟩)))
theorem zdf {vs:List Value}{Q:SortKind->Shared->Prop}(h:∀ v∈vs,∃ k,zaF prog w s.heap v k)(hne:vs≠[])(hq:Q (tuples' false) s):wpAny (model prog w) A (keyKind' vs.toArray) Q E s:=by
 have key:∀ vs:List Value,(∀ v∈vs,∃ k,zaF prog w s.heap v k)->∃ fs:List Value,PySem.W.KatTups s.heap vs fs/\fs.length=vs.length/\∀ f∈fs,PySem.W.Looks (model prog w) s.heap (typeOf f) (.type "tuple"):=by
  intro vs
  induction vs with
  | nil=>intro _;exact ⟨[],.nil,rfl,λf hf=>by cases hf⟩
  | cons v r ih=>
   intro h
   obtain ⟨fs,k1,k2,k3⟩:=ih λz hz=>h z (List.mem_cons_of_mem _ hz)
   obtain ⟨k,hk,a,rfl,o,its,n,e1,c1,d1,hi⟩:=h v List.mem_cons_self
   cases its with
   | mk l=>
    cases hi with
    | nil=>exact absurd rfl hk
    | cons h1 _=>
     obtain ⟨c,rfl,o2,_,_,e2,c2,_⟩:=h1
     have lk:PySem.W.Looks (model prog w) s.heap (typeOf (.ref c)) o2.cls:=(PySem.W.Looks.ld e2).andThen .now
     rw[c2] at lk
     exact ⟨.ref c::fs,PySem.W.KatTups.cons e1 c1 d1 rfl k1,by rw[List.length_cons,List.length_cons,k2],λf hf=>by
      rcases List.mem_cons.mp hf with rfl | hf
      ·exact lk
      ·exact k3 f hf⟩
 obtain ⟨fs,k1,k2,k3⟩:=key vs h
 exact PySem.W.kat_kind (T:=.type "tuple") k1 (by rw[k2];cases vs with | nil=>exact absurd rfl hne | cons=>simp) k3 (by decide) hq
theorem zc0 {a:Addr}{vs:List Value}{n:Nat}{ρ:Keyed->Int}{S:List (List (List Int))}{P:PySem.Fin->Shared->Prop}(hu:A.units<cLine)(ho:s.heap.get? a=some (seqObj "list" vs.toArray n))(hv:∀ v∈vs,∃ k,zaF prog w s.heap v k/\k∈S/\∀ q,ρ (v,q)=rkT Ve S k)(z64:vs.length<64)
  (k:∀ st' : SortSt,(arrOf st').Perm (pz vs)->Up ρ (λ_=>0) (arrOf st') (pz vs).size->P (.done (.ret .none)) { s with heap:=sortedHeap s.heap a vs ((arrOf st').map (·.2)) }):wpAny (model prog w) A (Builtin.«list.sort» ⟨[.ref a],[]⟩) P E s:=by
 have la:a<s.heap.objs.size:=Heap.lt_size ho
 have zl:(64:Nat)<=sizeLine:=by decide
 obtain ⟨e1,ho1⟩:∃ e1,(s.heap.update a (Obj.mapSeq λ_=>#[])).get? a=some (seqObj "list" #[] e1):=⟨_,get?_update_seq ho λ_=>#[]⟩
 have ho6:(((s.heap.update a (Obj.mapSeq λ_=>#[])).push (seqObj "tuple" vs.toArray 0)).push (seqObj "list" #[] 0)).get? a=some (seqObj "list" #[] e1):=Heap.get?_push_of_some _ (Heap.get?_push_of_some _ ho1)
 rw[list_sort_plain]
 refine wpAny_bind (listItems_at ho rfl (wpAny_bind (listUpdate_at ho rfl ?_ (by rw[List.size_toArray];omega) (Nat.zero_le _))))
 refine wpAny_bind (seqEpoch_at ho1 rfl (wpAny_bind (wpAny_newTuple ?_ (by show vs.toArray.toList.length<=_;rw[List.toList_toArray];omega))))
 refine wpAny_bind (wpAny_newList (wpAny_holding ?_) (Nat.zero_le _))
 show wpAny (model prog w) A _ P E { s with heap:=((s.heap.update a (Obj.mapSeq λ_=>#[])).push (seqObj "tuple" vs.toArray 0)).push (seqObj "list" #[] 0) }
 have keep:∀ v k,zaF prog w s.heap v k->zaF prog w (((s.heap.update a (Obj.mapSeq λ_=>#[])).push (seqObj "tuple" vs.toArray 0)).push (seqObj "list" #[] 0)) v k:=λv k pa=>pa.keep λb o e c=>by
  have npa:a≠b:=λz=>by
   subst z
   rw[ho] at e
   have eo:=Option.some.inj e
   rw[← eo] at c
   have c2:Value.type "list" = Value.type "tuple" := c
   injection c2 with c2
   exact absurd c2 (by decide)
  exact Heap.get?_push_of_some _ (Heap.get?_push_of_some _ ((Heap.get?_update_other s.heap _ npa).trans e))
 have osz:∀ st' : SortSt,(arrOf st').Perm (pz vs)->((arrOf st').map (·.2)).size<=sizeLine+1:=λst' hp=>by rw[Array.size_map,hp.size_eq,zai];omega
 dsimp only
 by_cases h2:vs.toArray.size<2
 ·rw[if_pos h2,if_pos h2]
  refine wpAny_bind (wpAny_pure ?_)
  rw[StateT.run_pure]
  refine wpAny_bind (wpAny_pure ?_)
  dsimp only
  refine wpAny_bind (seqEpoch_at ho6 rfl (wpAny_bind (listUpdate_at ho6 rfl ?_ (Nat.zero_le _) (osz (SortSt.mk' general' (pz vs) #[] 7 none) (Array.Perm.refl _)))))
  simp only[bne_self_eq_false,Bool.false_eq_true,if_false]
  refine wpAny_pure (k (SortSt.mk' general' (pz vs) #[] 7 none) (Array.Perm.refl _) λi j hij hj=>?_)
  rw[zai] at hj
  rw[List.size_toArray] at h2
  omega
 ·rw[if_neg h2,if_neg h2]
  rw[List.size_toArray] at h2
  refine wpAny_bind (zdf (λv hv' => ?_) (λz=>by subst z;simp at h2) ?_)
  ·obtain ⟨x,pa,_⟩:=hv v hv'
   exact ⟨x,keep v x pa⟩
  refine wpAny_bind (wpAny_mono (zjf (ρ:=ρ) (τ:=λ_=>0) (κ:=tuples' false) (a₀:=pz vs) (st:=SortSt.mk' (tuples' false) (pz vs) #[] 7 none) (Q:=λ_ st' => (arrOf st').Perm (pz vs)/\failedOf st'=none/\Up ρ (λ_=>0) (arrOf st') (pz vs).size)
   (zfM (S:=S) hu λp hp=>?_) ⟨Array.Perm.refl _,rfl,rfl,rfl⟩ (by rw[zai];omega) (by rw[zai];exact z64) (λi j _ _ _=>?_) λst' a1 a2 a3=>⟨a1,a2,a3⟩) ?_ λ_ _ e=>e)
  ·obtain ⟨m1,m2⟩:=zjO hp
   obtain ⟨x,pa,xS,e⟩:=hv _ m1
   exact ⟨x,keep _ x pa,xS,e p.2⟩
  ·unfold R
   split <;> split <;> exact Int.le_refl _
  rintro ⟨⟨⟩,st'⟩ s' ⟨rfl,hp,hf,hu⟩
  dsimp only
  refine wpAny_bind (seqEpoch_at ho6 rfl (wpAny_bind (listUpdate_at ho6 rfl ?_ (Nat.zero_le _) (osz st' hp))))
  rw[hf]
  simp only[bne_self_eq_false,Bool.false_eq_true,if_false]
  exact wpAny_pure (k st' hp hu)
theorem zd2 {l:Addr}{vs:List Value}{Q:List Value->Shared->Prop}(hl:IsTup s.heap l vs.toArray)
  (h:Q vs { s with heap:=(s.heap.push (seqObj "list" #[] 0)).update s.heap.objs.size (Obj.mapSeq (· ++ vs.toArray)) }) (hsz:vs.length<=sizeLine):
  wpAny (model prog w) A (collect (.ref l)) Q E s:=by
 obtain ⟨o,ho,hc,n,hd⟩:=id hl
 unfold collect
 refine wpAny_bind (wpAny_runValue (codeAny_builtin entry_proto_collect' ?_))
 show wpAny _ _ (do again (.builtin "list.__iadd__" ⟨[← newList [],.ref l],[]⟩)) _ _ s
 refine wpAny_bind (wpAny_newList (wpAny_pure ⟨Code.quiet_builtin _ (by decide +kernel),codeAny_builtin entry_list_iadd' ?_⟩))
 show wpAny _ _ (Builtin.List.listExtendWith (.ref s.heap.objs.size) (.ref l) (.ref s.heap.objs.size)) _ _ { s with heap:=s.heap.push (seqObj "list" #[] 0) }
 unfold Builtin.List.listExtendWith
 have ho' : (s.heap.push (seqObj "list" #[] 0)).get? l=some o:=Heap.get?_push_of_some _ ho
 refine wpAny_bind (wpAny_typeOf (T:= "tuple") ⟨o,ho',hc⟩ ?_)
 have ht:(Value.type "tuple" == Value.type "tuple")=true:=by rfl
 rw[if_pos (by rw[ht];simp)]
 refine wpAny_bind (listItems_at ho' hd ?_)
 refine wpAny_bind (listItems_at (xs:=#[]) (n:=0) (Heap.get?_push_size _ rfl) rfl ?_)
 rw[if_neg (by simp)]
 refine wpAny_bind (listUpdate_at (xs:=#[]) (n:=0) (Heap.get?_push_size _ rfl) rfl ?_ (Nat.zero_le _) (by show (#[]++vs.toArray).size<=sizeLine+1;simp only[Array.size_append,List.size_toArray,List.length_nil];omega))
 refine wpAny_pure ?_
 show wpAny (model prog w) A (do
   let o ← load s.heap.objs.size
   match o.data with
   | .seq xs _=>pure xs.toList
   | _=>unsupported "internal:collect") Q E { s with heap:=(s.heap.push (seqObj "list" #[] 0)).update s.heap.objs.size (Obj.mapSeq (· ++ vs.toArray)) }
 refine wpAny_bind (wpAny_load (get?_update_seq (Heap.get?_push_size _ rfl) _) ?_)
 show wpAny _ _ (pure ((#[]:Array Value)++vs.toArray).toList) Q E _
 rw[show ((#[]:Array Value)++vs.toArray).toList=vs by simp]
 exact wpAny_pure h
theorem zbN {l:Addr}{vs:List Value}{ρ:Keyed->Int}{S:List (List (List Int))}{Q:Value->Shared->Prop}(hu:A.units+2<cLine)(hl:IsTup s.heap l vs.toArray)(hv:∀ v∈vs,∃ k,zaF prog w s.heap v k/\k∈S/\∀ q,ρ (v,q)=rkT Ve S k)(z64:vs.length<64)
  (k:∀ st' : SortSt,(arrOf st').Perm (pz vs)->Up ρ (λ_=>0) (arrOf st') (pz vs).size->Q (.ref (s.heap.objs.size+1)) { s with heap:=sortedAll s.heap vs ((arrOf st').map (·.2)) }):wpAny (model prog w) A (call (.builtin "sorted") [.ref l]) Q E s:=by
 have zl:(64:Nat)<=sizeLine:=by decide
 refine Calls.call_function_entry kind_sorted plain_sorted entry_sorted (args_sorted1 _) (show wpAny _ _ (Builtin.«sorted» _) _ _ _ from ?_)
 unfold Builtin.«sorted»
 refine wpAny_bind (m:=checkCount "sorted" 1 1 _) (wpAny_pure (wpAny_bind (zd2 hl (wpAny_bind (wpAny_newList ?_ (by omega))) (by omega))))
 have zs:((s.heap.push (seqObj "list" #[] 0)).update s.heap.objs.size (Obj.mapSeq (· ++ vs.toArray))).objs.size=s.heap.objs.size+1:=by rw[Heap.size_update,size_push']
 have oL:(((s.heap.push (seqObj "list" #[] 0)).update s.heap.objs.size (Obj.mapSeq (· ++ vs.toArray))).push (seqObj "list" vs.toArray 0)).get? (s.heap.objs.size+1)=some (seqObj "list" vs.toArray 0):=by rw[← zs];exact Heap.get?_push_size _ rfl
 show wpAny _ _ _ _ _ { s with heap:=((s.heap.push (seqObj "list" #[] 0)).update s.heap.objs.size (Obj.mapSeq (· ++ vs.toArray))).push (seqObj "list" vs.toArray 0) }
 rw[zs]
 refine wpAny_bind (wpAny_holding (wpAny_call_entry PyProof.Rows.slot_list_sort ⟨_,oL,rfl⟩ PyProof.Rows.entry_list_sort (zc0 (S:=S) (by show A.units+1+1<cLine;omega) oL (λv hv' => ?_) z64 λst' a1 a2=>⟨_,rfl,wpAny_pure ⟨_,rfl,k st' a1 a2⟩⟩) (args_list_sort _)))
 obtain ⟨x,pa,r⟩:=hv v hv'
 exact ⟨x,pa.keep λb o e _=>Heap.get?_push_of_some _ ((Heap.get?_update_other _ _ (Nat.ne_of_gt (Heap.lt_size e))).trans (Heap.get?_push_of_some _ e)),r⟩
end
def kdI (k:List (List Int)):PyData:=.tuple (k.map λl=>.tuple (l.map PyData.int))
def zmg (K:PySem.W.Frag):List V->Hp->VK->Prop:=λxs H Q=>∃ (G:Hp) (p:Addr) (vs:List V) (ps:List (List (List Int))),xs=[.ref p]/\ZL G H/\SqT K H p vs/\Yl K G vs (ps.map kdI)/\ps.length<64/\(∀ q∈ps,q≠[])/\
 ∀ (l:Addr) (us:List V) (qs:List (List (List Int))),H l=none->qs.Perm ps->Yl K G us (qs.map kdI)->qs.Pairwise (λa b=>Ve b a=false)->Q (.ref l) (upd H l (.lst us))
section
variable {X:Cx}{pins:List (Addr×Obj)}{σ:St}{H G:Hp}{s:Shared}
theorem zje (I:Inv X pins σ H s)(sg:ZL G H):∀ {k:List (List Int)}{xs:List V}{its:List Value},Vals xs its->Yl X.K G xs (k.map λl=>.tuple (l.map PyData.int))->It2 (intKind X.prog X.w) s.heap k its
 | [],_,_,r,h=>by
  have e:=h.nil
  subst e
  cases r
  exact .nil
 | l::k,_,_,r,h=>by
  obtain ⟨y,ys,rfl,hy,hr⟩:=h.cons
  cases r with
  | cons r1 r2=>
   obtain ⟨p,zs,rfl,hp,hz⟩:=Dat.tup hy
   cases r1
   obtain ⟨jts,rj,⟨o,h1,h2,n,h3⟩,zz⟩:=I.tuple (sg.tup hp)
   have e:∀ {l:List Int}{zs:List V}{jts:List Value},Vals zs jts->Yl X.K G zs (l.map PyData.int)->PySem.ItemsAre (intKind X.prog X.w) l jts:=by
    intro l
    induction l with
    | nil=>intro zs jts r h;have e:=h.nil;subst e;cases r;exact .nil
    | cons q l ih=>
     intro zs jts r h
     obtain ⟨u,us,rfl,hu,hus⟩:=h.cons
     cases hu.int
     cases r with
     | cons r1 r2=>
      obtain ⟨t,rfl⟩:=r1
      exact .cons (by simp[intKind,Value.isInt]) (ih r2 hus)
   exact .cons ⟨p,rfl,o,jts.toArray,n,h1,h2,h3,by simpa using e rj hz⟩ (zje I sg r2 hr)
theorem ziv (I:Inv X pins σ H s)(sg:ZL G H){v:V}{u:Value}{k:List (List Int)}(hk:k≠[])(r:RelV v u)(h:Dat X.K G v (kdI k)):zaF X.prog X.w s.heap u k:=by
 obtain ⟨p,xs,rfl,hp,hx⟩:=Dat.tup h
 obtain rfl:u=Value.ref p:=r
 obtain ⟨its,r,⟨o,h1,h2,n,h3⟩,_⟩:=I.tuple (sg.tup hp)
 exact ⟨hk,p,rfl,o,its.toArray,n,h1,h2,h3,by simpa using zje I sg r hx⟩
theorem zeb (I:Inv X pins σ H s)(sg:ZL G H):∀ {vs:List V}{its:List Value}{ps:List (List (List Int))},(∀ q∈ps,q≠[])->Vals vs its->Yl X.K G vs (ps.map kdI)->∃ Z:List (Value×V×List (List Int)),Z.map (·.1)=its/\Z.map (·.2.2)=ps/\∀ z∈Z,RelV z.2.1 z.1/\Dat X.K G z.2.1 (kdI z.2.2)/\zaF X.prog X.w s.heap z.1 z.2.2
 | _,_,[],_,.nil,_=>⟨[],rfl,rfl,λz hz=>by cases hz⟩
 | _,_,_::_,_,.nil,h=>by obtain ⟨_,_,e,_⟩:=h.cons;cases e
 | _,_,[],_,.cons _ _,h=>by cases h.nil
 | v0::vs0,u0::us0,q::ps,hn,.cons r rv,h=>by
  obtain ⟨y,ys,e,hy,h'⟩:=h.cons
  cases e
  obtain ⟨Z,e1,e2,e3⟩:=zeb I sg (λz hz=>hn z (List.mem_cons_of_mem _ hz)) rv h'
  refine ⟨(u0,v0,q)::Z,by rw[List.map_cons,e1],by rw[List.map_cons,e2],λz hz=>?_⟩
  rcases List.mem_cons.mp hz with rfl | hz
  ·exact ⟨r,hy,ziv I sg (hn q List.mem_cons_self) r hy⟩
  ·exact e3 z hz
theorem V2 {K:PySem.W.Frag}(hu:X.A.units+2<cLine)(e:X.K=K):Ut X (.builtin "sorted") (zmg K):=by
 subst e
 intro pins s σ H xs us Q I r h
 obtain ⟨G,p,vs,ps,rfl,sg,hq,hd,h64,hps,k⟩:=h
 obtain ⟨u,rfl,rx⟩:=vals1 r
 cases rx
 obtain ⟨its,r',pl,hz⟩:=I.tuple hq
 have hlen:=r'.length
 have hl2:=hd.length
 rw[List.length_map] at hl2
 obtain ⟨Z,z1,z2,z3⟩:=zeb I sg hps r' hd
 have hv:∀ v∈its,∃ x,zaF X.prog X.w s.heap v x/\x∈ps/\∀ q:Value,(λp:Keyed=>(rkT Ve ps (kN X.prog X.w s.heap p.1):Int)) (v,q)=rkT Ve ps x:=λv hv=>by
  rw[← z1] at hv
  obtain ⟨z,hz,rfl⟩:=List.mem_map.mp hv
  obtain ⟨_,_,pa⟩:=z3 z hz
  exact ⟨_,pa,by rw[← z2];exact List.mem_map_of_mem hz,λ_=>by show (rkT Ve ps (kN X.prog X.w s.heap z.1):Int)=_;rw[zmz pa]⟩
 refine zbN (ρ:=λp=>rkT Ve ps (kN X.prog X.w s.heap p.1)) (S:=ps) hu pl hv (by omega) λst' a1 a2=>?_
 obtain ⟨c,hc⟩:=sortedAll_at s.heap its ((arrOf st').map (·.2))
 have zp:(arrOf st').size=its.length:=by rw[a1.size_eq,zai]
 have mem:∀ q∈(arrOf st').toList,q.1∈its/\q.2=q.1:=λq hq=>zjO ((Array.perm_iff_toList_perm.mp a1).mem_iff.mp hq)
 have hperm:((arrOf st').toList.map (·.2)).Perm its:=by
  have:=(Array.perm_iff_toList_perm.mp a1).map (·.2)
  have e:(pz its).toList.map (·.2)=its:=by
   have:(pz its).toList=its.zip its:=by simp[pz]
   rw[this,← List.unzip_snd,List.unzip_zip (by rfl)]
  rw[e] at this;exact this
 obtain ⟨Z',p1,e1⟩:=zgT hperm z1
 have zl:Z'.length=(arrOf st').size:=by have:=congrArg List.length e1;simpa using this
 have hZ:∀ z∈Z',RelV z.2.1 z.1/\Dat X.K G z.2.1 (kdI z.2.2)/\zaF X.prog X.w s.heap z.1 z.2.2:=λz hz=>z3 z (p1.mem_iff.mp hz)
 have hvals:∀ L:List (Value×V×List (List Int)),(∀ z∈L,RelV z.2.1 z.1/\Dat X.K G z.2.1 (kdI z.2.2)/\zaF X.prog X.w s.heap z.1 z.2.2)->Vals (L.map (·.2.1)) (L.map (·.1))/\Yl X.K G (L.map (·.2.1)) ((L.map (·.2.2)).map kdI):=by
  intro L
  induction L with
  | nil=>intro _;exact ⟨.nil,ZP⟩
  | cons z L ih=>
   intro h
   obtain ⟨i1,i2⟩:=ih λy hy=>h y (List.mem_cons_of_mem _ hy)
   obtain ⟨h1,h2,_⟩:=h z List.mem_cons_self
   exact ⟨.cons h1 i1,ZG h2 i2⟩
 obtain ⟨hV,hD⟩:=hvals Z' hZ
 rw[e1] at hV
 have eo:((arrOf st').map (·.2)).toList=(arrOf st').toList.map (·.2):=by simp
 have hpp:(Z'.map (·.2.2)).Perm ps:=by rw[← z2];exact p1.map _
 refine ⟨.ref (s.heap.objs.size+1),_,I.laid (t' := s.toks) (λ_ _=>sortedAll_old) (Nat.le_succ _) (show YJ X.prog X.w _ (sortedAll s.heap its ((arrOf st').map (·.2))) _ (.lst (Z'.map (·.2.1))) from ⟨by rw[List.length_map];have:(64:Nat)<=sizeLine:=(by decide);omega,((arrOf st').map (·.2)).toList,c,by rw[eo];exact hV,hc⟩),rfl,k _ _ (Z'.map (·.2.2)) (I.hok.fresh (Nat.le_succ _)) hpp hD ?_⟩
 rw[List.pairwise_iff_getElem]
 intro i j hi hj hij
 have hj' : j<Z'.length:=by simpa using hj
 have at_:∀ m (hm:m<Z'.length),R (λp=>(rkT Ve ps (kN X.prog X.w s.heap p.1):Int)) (arrOf st') m=rkT Ve ps Z'[m].2.2:=λm hm=>by
  have hm' : m<(arrOf st').size:=by omega
  have ea:(arrOf st')[m]?=some (arrOf st')[m]:=Array.getElem?_eq_getElem hm'
  have q1:Z'[m].1=(arrOf st')[m].2:=by
   have h1:(Z'.map (·.1))[m]?=some Z'[m].1:=by rw[List.getElem?_map,List.getElem?_eq_getElem hm];rfl
   rw[e1,List.getElem?_map] at h1
   have h2:(arrOf st').toList[m]?=some (arrOf st')[m]:=by simp[hm']
   rw[h2] at h1
   exact (Option.some.inj h1).symm
  have q2:=(mem (arrOf st')[m] (by simp)).2
  unfold R
  rw[ea]
  show (rkT Ve ps (kN X.prog X.w s.heap (arrOf st')[m].1):Int)=_
  rw[← q2,← q1,zmz (hZ _ (List.getElem_mem hm)).2.2]
 have:=a2 i j hij (by rw[← a1.size_eq];omega)
 rw[at_ i (by omega),at_ j hj'] at this
 simp only[List.getElem_map]
 rw[← zjR Wt (S:=ps) (hpp.mem_iff.mp (List.mem_map_of_mem (f:=(·.2.2)) (List.getElem_mem hj')))]
 exact decide_eq_false (by omega)
theorem zf1 {K:PySem.W.Frag}{σ:St}{G:Hp}{t:TA}{ps qs:List (List (List Int))}(h:EvA K t σ G [.tuple (ps.map kdI)])(h64:ps.length<64)(hps:∀ q∈ps,q≠[])(hq:∀ rs:List (List (List Int)),rs.Perm ps->rs.Pairwise (λa b=>Ve b a=false)->rs=qs):Ev K (tCB (zmg K) t) σ G (.list (qs.map kdI)):=
 zie h λG1 H xs Q s1 s2 hx k=>by
  obtain ⟨v,r,rfl,hv,hx⟩:=hx.cons
  rw[hx.nil]
  obtain ⟨p,ys,rfl,hp,hys⟩:=Dat.tup hv
  refine ⟨G1,p,ys,ps,rfl,s2,s2.tup hp,hys,h64,hps,λl us rs hl hperm hd hs=>?_⟩
  have e:=hq rs hperm hs
  subst e
  have g:=Z5 (o:=.lst us) s2 hl
  exact k _ _ _ g (YT Zh (hd.same g.gg))
def znS (ps:List (List (List Int))):List (List (List Int)):=ps.mergeSort λa b=>!Ve b a
theorem U3 (ps:List (List (List Int))):(znS ps).Pairwise λa b=>Ve b a=false:=by
 have:=List.pairwise_mergeSort (le:=λa b=>!Ve b a) (λa b c h1 h2=>by
  cases e:Ve c a with
  | false=>rfl
  | true=>
   cases e1:Ve b a with
   | true=>rw[e1] at h1;cases h1
   | false=>cases e2:Ve c b with
    | true=>rw[e2] at h2;cases h2
    | false=>
     cases e3:Ve a b with
     | true=>rw[Wt.tr _ _ _ e e3] at e2;cases e2
     | false=>rw[Wt.tri _ _ e3 e1,e2] at e;cases e) (λa b=>by
  cases e:Ve b a with
  | false=>rfl
  | true=>cases e2:Ve a b with
   | false=>rfl
   | true=>have:=Wt.tr _ _ _ e e2;rw[Wt.irr] at this;cases this) ps
 exact this.imp λh=>by simpa using h
theorem zdF {rs ps:List (List (List Int))}(h:rs.Perm ps)(hs:rs.Pairwise λa b=>Ve b a=false):rs=znS ps:=
 zfh Wt (h.trans (List.mergeSort_perm ps _).symm) hs (U3 ps)
theorem zhl {a b:List (List (List Int))}(h:a.Perm b):znS a=znS b:=zdF ((List.mergeSort_perm a _).trans h) (U3 a)
end
end L2
namespace L2
open PySem PySem.Spec PyProof.Rows Lw Nm Frac
section
variable {K:PySem.W.Frag}{d c:Addr}{G H:Hp}{n:Nat}{σ:St}{te:TE}{x:PyData}{D:Ends}{rest:TS}{i:Nat}
theorem zks {lo:Int}{tl:TE}{g:TG}{tb:TS}(h:tl σ H λx H1=>∃ i j:Int,[V.int lo,x]=[.int i,.int j]/\(-(2 ^ 62)<=i/\i<2 ^ 62/\-(2 ^ 62)<=j/\j<2 ^ 62)/\∃ W:Nat->Nat->St->Hp->Prop,(∃ m,W 0 m σ H1)/\∀ k m σ H,W k m σ H->
 ((Itr i (j-i).toNat).stop k H/\D.nx σ H)\/((Itr i (j-i).toNat).go k H/\∃ N:St->Hp->Prop,(∀ σ' H',N σ' H' -> ∃ m',m'<m/\W (k+1) m' σ' H')/\∀ x H',(Itr i (j-i).toNat).yld k H x H' -> g x σ H' fun σ2 H2=>tb { D with nx:=N,ct:=N,bk:=D.nx } σ2 H2)):zoQ (zl5 (ZS (tC (.int lo)) (ZS tl JH))) g tb D σ H:=h
end
end L2
namespace L2
open PySem PySem.Spec PyProof.Rows
abbrev tIt (l:Addr):Obj:={ cls:=.type "tuple_iterator",data:=.fields #[.ref l,.int 0 0] }
abbrev zq2 (h:Heap)(l1 l2:Addr):Heap:=(h.push (tIt l1)).push (tIt l2)
abbrev zq4 (h:Heap)(l1 l2:Addr):Heap:=((zq2 h l1 l2).push { cls:=.type "tuple",data:=.seq #[.ref h.objs.size,.ref (h.push (tIt l1)).objs.size] }).push { cls:=.type "tuple",data:=.seq #[.none,.none] }
abbrev zq5 (h:Heap)(l1 l2:Addr):Heap:=(zq4 h l1 l2).push { cls:=.type "zip",data:=.fields #[.none,.bool false,.bool false,.ref (zq2 h l1 l2).objs.size,.ref ((zq2 h l1 l2).push { cls:=.type "tuple",data:=.seq #[.ref h.objs.size,.ref (h.push (tIt l1)).objs.size] }).objs.size] }
theorem IsTuple.zj8 {h:Heap}{l:Addr}{xs:Array Value}(hl:h.IsTuple l xs)(o:Obj):(h.push o).IsTuple l xs:=by
 obtain ⟨ob,e,r⟩:=hl
 exact ⟨ob,Heap.get?_push_of_some _ e,r⟩
theorem zih (l1 l2:Addr)(xs ys:Array Value):
  Meets (Builtin.«zip.__new__» ⟨[.type "zip",.ref l1,.ref l2],[]⟩) (λ_ R s=>s.heap.IsTuple l1 xs/\s.heap.IsTuple l2 ys/\R (.ok (.ret (.ref (zq4 s.heap l1 l2).objs.size))) { s with heap:=zq5 s.heap l1 l2 }):=
 .of_wp λprog w A R s h=>by
  obtain ⟨hp,g,d,tk,os⟩:=s;obtain ⟨t1,t2,h⟩:=h
  have q0:=sub_zip
  have q1:Heap.IsTuple (Shared.heap ⟨hp,g,d,tk,os⟩) l1 xs:=t1
  have q2:Heap.IsTuple (Shared.heap ⟨hp.push (tIt l1),g,d,tk,os⟩) l2 ys:=IsTuple.zj8 t2 _
  wp_walk using wpAny_pyIter_tuple q1,wpAny_pyIter_tuple q2
  exact ⟨_,rfl,h⟩
section
variable {prog:Program}{w:World}{A:Around}{E:Value->Shared->Prop}{s:Shared}
theorem zgh {l1 l2:Addr}{xs ys:Array Value}{Q:Value->Shared->Prop}(q1:s.heap.IsTuple l1 xs)(q2:s.heap.IsTuple l2 ys)
  (h:∀ h',IsZip h' (s.heap.objs.size+4) (s.heap.objs.size+2) (s.heap.objs.size+3) .none->IsPair h' (s.heap.objs.size+2) (.ref s.heap.objs.size) (.ref (s.heap.objs.size+1))->IsPair h' (s.heap.objs.size+3) .none .none->
   h'.IsTupleIter s.heap.objs.size l1 0->h'.IsTupleIter (s.heap.objs.size+1) l2 0->(∀ c o,s.heap.get? c=some o->h'.get? c=some o)->Q (.ref (s.heap.objs.size+4)) { s with heap:=h' }):
  wpAny (model prog w) A (call (.type "zip") [.ref l1,.ref l2]) Q E s:=by
 refine callType_new F.called_zip (by decide) (F.typeCall_zip_2 _ _) (F.newCall_zip_2 _ _) (λobj=>F.args_object_init_3 obj _ _) F.entry_zip_new (zih l1 l2 xs ys) ⟨q1,q2,?_⟩
 have a1:(s.heap.push (tIt l1)).objs.size=s.heap.objs.size+1:=Heap.size_push ..
 have a2:(zq2 s.heap l1 l2).objs.size=s.heap.objs.size+2:=by rw[Heap.size_push,a1]
 have a3:((zq2 s.heap l1 l2).push { cls:=.type "tuple",data:=.seq #[.ref s.heap.objs.size,.ref (s.heap.push (tIt l1)).objs.size] }).objs.size=s.heap.objs.size+3:=by rw[Heap.size_push,a2]
 have a4:(zq4 s.heap l1 l2).objs.size=s.heap.objs.size+4:=by rw[Heap.size_push,a3]
 have u:∀ {hh:Heap}{o:Obj}{c:Addr}{ob:Obj},hh.get? c=some ob->(hh.push o).get? c=some ob:=λe=>Heap.get?_push_of_some _ e
 have g5:(zq5 s.heap l1 l2).get? (zq4 s.heap l1 l2).objs.size=some _:=Heap.get?_push_size _ rfl
 have g4:(zq5 s.heap l1 l2).get? ((zq2 s.heap l1 l2).push { cls:=.type "tuple",data:=.seq #[.ref s.heap.objs.size,.ref (s.heap.push (tIt l1)).objs.size] }).objs.size=some _:=u (Heap.get?_push_size _ rfl)
 have g3:(zq5 s.heap l1 l2).get? (zq2 s.heap l1 l2).objs.size=some _:=u (u (Heap.get?_push_size _ rfl))
 have g2:(zq5 s.heap l1 l2).get? (s.heap.push (tIt l1)).objs.size=some (tIt l2):=u (u (u (Heap.get?_push_size _ rfl)))
 have g1:(zq5 s.heap l1 l2).get? s.heap.objs.size=some (tIt l1):=u (u (u (u (Heap.get?_push_size _ rfl))))
 rw[a2,a3,a4] at g5
 rw[a1,a2] at g3
 rw[a3] at g4
 rw[a1] at g2
 show _/\_
 rw[a4]
 exact ⟨⟨_,g5,rfl⟩,h _ g5 g3 g4 ⟨_,g1,rfl,rfl⟩ ⟨_,g2,rfl,rfl⟩ λc o x=>u (u (u (u (u x))))⟩
end
def zl0 (K:PySem.W.Frag)(a1 a2:Addr):It:=
 ⟨λi H=>∃ xs x ys y,SqT K H a1 xs/\xs[i]?=some x/\SqT K H a2 ys/\ys[i]?=some y,λi H v H' => ∃ p x y,H p=none/\v = .ref p/\H'=upd H p (.tup [x,y])/\(∀ xs,SqT K H a1 xs->xs[i]?=some x)/\∀ ys,SqT K H a2 ys->ys[i]?=some y,
  λi H=>∃ xs ys,SqT K H a1 xs/\SqT K H a2 ys/\(i=xs.length\/(i<xs.length/\i=ys.length))⟩
theorem zgN {P:Program}{w:World}{K:PySem.W.Frag}{elts:List Expr}{tk:Nat}{tpos:Pos}{a1 a2 z TI TO i1 i2:Addr}(Z:Zap z TI TO i1 i2 [i1,a1] [i2,a2])(n1:a1≠i1)(n2:a2≠i2):Turn P w K (.Tuple elts tk tpos) (zl0 K a1 a2) [z,TI,TO,i1,i2] z (λi h=>IsZip h z TI TO .none/\IsPair h TI (.ref i1) (.ref i2)/\(∃ a b,IsPair h TO a b)/\h.IsTupleIter i1 a1 i/\h.IsTupleIter i2 a2 i) where
 mem:=by simp
 obj:=λi h st c hc=>by
  obtain ⟨hz,ht,⟨a,b,ho⟩,⟨o1,e1,_,d1⟩,⟨o2,e2,_,d2⟩⟩:=st
  simp only[List.mem_cons,List.not_mem_nil,or_false] at hc
  rcases hc with rfl | rfl | rfl | rfl | rfl
  ·exact ⟨_,hz,λv q=>by cases q⟩
  ·exact ⟨_,ht,λv q=>by cases q⟩
  ·exact ⟨_,ho,λv q=>by cases q⟩
  ·exact ⟨o1,e1,λv q=>by rw[d1] at q;cases q⟩
  ·exact ⟨o2,e2,λv q=>by rw[d2] at q;cases q⟩
 keep:=λi h h' st k=>by
  obtain ⟨hz,ht,⟨a,b,ho⟩,⟨o1,e1,r1⟩,⟨o2,e2,r2⟩⟩:=st
  exact ⟨k z (by simp) _ hz,k TI (by simp) _ ht,⟨a,b,k TO (by simp) _ ho⟩,⟨o1,k i1 (by simp) _ e1,r1⟩,⟨o2,k i2 (by simp) _ e2,r2⟩⟩
 item:=by
  intro X hP hw hK hc i pins s σ H E I hf st hg
  subst hP hw hK
  obtain ⟨xs,x,ys,y,hq1,hx,hq2,hy⟩:=hg
  obtain ⟨its1,rv1,p1,_⟩:=I.tuple hq1
  obtain ⟨its2,rv2,p2,_⟩:=I.tuple hq2
  obtain ⟨u1,hu1,ru1⟩:=rv1.get hx
  obtain ⟨u2,hu2,ru2⟩:=rv2.get hy
  obtain ⟨hz,ht,⟨a,b,ho⟩,t1,t2⟩:=st
  have l1:i<its1.toArray.size:=by have:=(List.getElem?_eq_some_iff.mp hu1).1;simpa using this
  have l2:i<its2.toArray.size:=by have:=(List.getElem?_eq_some_iff.mp hu2).1;simpa using this
  have hh:X.A.in1.handled=none:=I.ok.hd hc
  refine zgy Z (JK hh i1 a1 n1 its1.toArray) (JK hh i2 a2 n2 its2.toArray) hz ht ho ⟨t1,p1⟩ ⟨t2,p2⟩ l1 l2 λx' y' h' tk' hP1 hP2 b1 b2 b3 b4 b5 b6=>?_
  have ex:x'=u1:=by
   have:its1[i]?=some x' := by simpa using hP1
   rw[hu1] at this;exact (Option.some.inj this).symm
  have ey:y'=u2:=by
   have:its2[i]?=some y' := by simpa using hP2
   rw[hu2] at this;exact (Option.some.inj this).symm
  subst ex ey
  refine ⟨_,rfl,wpAny_letOwnedTupleGo_zip b1 λh2 hz2 hs2=>?_⟩
  have zt:z≠s.heap.objs.size:=Nat.ne_of_lt (Heap.lt_size hz)
  have new:YJ X.prog X.w (upd H s.heap.objs.size (.tup [x,y])) h2 s.heap.objs.size (.tup [x,y]):=
   ⟨by show 2<=sizeLine;decide,[x',y'],.cons ru1 (.cons ru2 .nil),⟨_,(hs2.2 _ (Ne.symm zt)).trans b5,rfl,_,rfl⟩,_,(hs2.2 _ (Ne.symm zt)).trans b5,rfl⟩
  have kk:∀ b o,b∉[z,TI,TO,i1,i2]->s.heap.get? b=some o->h2.get? b=some o:=λb o hb q=>by
   simp only[List.mem_cons,List.not_mem_nil,or_false,not_or] at hb
   exact (hs2.2 b hb.1).trans (b6 b o hb.1 hb.2.2.1 hb.2.2.2.1 hb.2.2.2.2 q)
  have fresh:=I.hok.fresh (Nat.le_refl s.heap.objs.size)
  refine ⟨.ref s.heap.objs.size,_,I.Ud (t' := tk') kk hf (Nat.le_refl _) new,rfl,⟨_,x,y,fresh,rfl,rfl,λzs hy' => by rw[I.J2 hy' hq1];exact hx,λzs hy' => by rw[I.J2 hy' hq2];exact hy⟩,⟨hz2,?_,⟨_,_,(hs2.2 TO Z.oz).trans b2⟩,?_,?_⟩,λc hc=>?_⟩
  ·exact (hs2.2 TI Z.iz).trans (b6 TI _ Z.iz Z.io Z.ia Z.ib ht)
  ·obtain ⟨o3,g1,g2⟩:=b3.1
   exact ⟨o3,(hs2.2 i1 Z.az).trans g1,g2⟩
  ·obtain ⟨o3,g1,g2⟩:=b4.1
   exact ⟨o3,(hs2.2 i2 Z.bz).trans g1,g2⟩
  ·have lt:∃ o,s.heap.get? c=some o:=by
    simp only[List.mem_cons,List.not_mem_nil,or_false] at hc
    rcases hc with rfl | rfl | rfl | rfl | rfl
    ·exact ⟨_,hz⟩
    ·exact ⟨_,ht⟩
    ·exact ⟨_,ho⟩
    ·obtain ⟨o,e,_⟩:=t1;exact ⟨o,e⟩
    ·obtain ⟨o,e,_⟩:=t2;exact ⟨o,e⟩
   obtain ⟨o,e⟩:=lt
   rw[Zq (Nat.ne_of_lt (Heap.lt_size e))];exact (hf c hc).1
 done:=by
  intro X hP hw hK hc i pins s σ H E I hf st hg
  subst hP hw hK
  obtain ⟨xs,ys,hq1,hq2,hi⟩:=hg
  obtain ⟨its1,rv1,p1,_⟩:=I.tuple hq1
  obtain ⟨its2,rv2,p2,_⟩:=I.tuple hq2
  have e1:=rv1.length
  have e2:=rv2.length
  obtain ⟨hz,ht,⟨a,b,ho⟩,t1,t2⟩:=st
  have hh:X.A.in1.handled=none:=I.ok.hd hc
  refine zhF Z (JK hh i1 a1 n1 its1.toArray) (JK hh i2 a2 n2 its2.toArray) hz ht ho ⟨t1,p1⟩ ⟨t2,p2⟩ (by simp only[List.size_toArray];omega) λh' tk' b6=>?_
  exact ⟨rfl,I.turns (t' := tk') (λc u hc' q=>by
   simp only[List.mem_cons,List.not_mem_nil,or_false,not_or] at hc'
   exact b6 c u hc'.1 hc'.2.2.1 hc'.2.2.2.1 hc'.2.2.2.2 q) hf⟩
 self:=λ_ _ _ _ _ st h=>wpAny_pyIter_zip st.1 h
section
variable {X:Cx}
def zpe (K:PySem.W.Frag)(ta:TA):TI:=fun σ H R=>ta σ H λvs H1=>∃ a1 a2,vs=[.ref a1,.ref a2]/\(∃ xs,SqT K H1 a1 xs)/\(∃ ys,SqT K H1 a2 ys)/\R (zl0 K a1 a2) H1
theorem zk8 {K:PySem.W.Frag}(eK:X.K=K){a b:Expr}{ta:TA}{p pos:Pos}{elts:List Expr}{tk:Nat}{tpos:Pos}(hg:Gl X "zip")(hm:X.mg "zip" = none)(ha:PA X [a,b] ta)(hs:starEach [a,b] X.env=[(false,eval a X.env),(false,eval b X.env)]:=by rfl) (hs2:starEach [b] X.env=[(false,eval b X.env)]:=by rfl):
  PI X (.Tuple elts tk tpos) (.Call (.Name "zip" p) [a,b] [] pos) (zpe K ta):=by
 subst eK
 intro pins s σ H R I h
 refine Call_ (WW I hg hm boot_zip (PyProof.Rows.callWith_type1 (thn (ha pos pins s σ H _ I h) λus s1 ⟨vs,H1,I1,r1,q1⟩=>?_) (by rw[hs,hs2]) (by rw[hs2];rfl)))
 obtain ⟨l1,l2,e,⟨xs,hq1⟩,⟨ys,hq2⟩,q⟩:=q1
 subst e
 cases r1 with
 | cons r rr=>
  cases rr with
  | cons r' rr=>
   cases rr
   cases (show _=Value.ref l1 from r)
   cases (show _=Value.ref l2 from r')
   obtain ⟨its1,rv1,p1,_⟩:=I1.tuple hq1
   obtain ⟨its2,rv2,p2,_⟩:=I1.tuple hq2
   have b1:l1<s1.heap.objs.size:=by obtain ⟨o,e,_⟩:=id p1;exact Heap.lt_size e
   have b2:l2<s1.heap.objs.size:=by obtain ⟨o,e,_⟩:=id p2;exact Heap.lt_size e
   refine zgh (show s1.heap.IsTuple l1 its1.toArray from p1) (show s1.heap.IsTuple l2 its2.toArray from p2) λh' hz ht ho i1 i2 hk=>?_
   have Z:=zjm b1 b2
   refine wpAny_pyIter_zip hz ⟨s1.heap.objs.size+4,_,_,_,H1,rfl,I1.kept (t' := s1.toks) hk,zgN Z (Nat.ne_of_lt b1) (Nat.ne_of_lt (Nat.lt_succ_of_lt b2)),⟨hz,ht,⟨_,_,ho⟩,i1,i2⟩,λc hc=>?_,q⟩
   have hc' : s1.heap.objs.size<=c:=by
    simp only[List.mem_cons,List.not_mem_nil,or_false] at hc
    rcases hc with rfl | rfl | rfl | rfl | rfl
    ·exact Nat.le_add_right _ _
    ·exact Nat.le_add_right _ _
    ·exact Nat.le_add_right _ _
    ·exact Nat.le_refl _
    ·exact Nat.le_add_right _ _
   exact I1.zjx hc' (I1.hok.fresh hc')
end
end L2
namespace K32
open PySem L2 Frac Lw Dig PySem.NumText Nm
open Ord Num Look Rdo Trn
theorem zoL:bootBuiltins "sorted" = some (.builtin "sorted"):=by decide +kernel
theorem zia (ns:List Int)(j:Option Int):∃ ms:List Int,zhv (ns.map V.int) none j=ms.map V.int/\ms.length<=ns.length:=by
 unfold zhv
 rw[HT.zbZ]
 refine ⟨(ns.drop 0).take (HT.sIx (ns.map V.int).length (ns.map V.int).length j-0),by rw[List.map_take,List.map_drop],?_⟩
 rw[List.length_take,List.length_drop];omega
section
variable {P:Program}{w:World}{K:PySem.W.Frag}{mg:Str->Option Value}{base:Heap}
theorem ziI {σ:St}{G:Hp}{ta:TE}{t:TA}{i:Nat}{pb Pt Pc:Addr}{book:List Str}{d0 d:PyData}{ds:List PyData}{R:List Str->List PyData->PyData->Prop}(hT:G Pt=some (.tbl Z6))(hC:G Pc=some (.tbl λ_ _=>some Xm))(hpb:G pb=some (.tup (book.map V.str)))(hi:σ[i]?=some (some (.ref pb)))(ha:Ev K ta σ G d0)(h:EvA K t σ G ds)(hR:R book (d0::ds) d):
  Ev K (V6 (znX K Pt Pc R) [] E0 (ZS ta (ZS (Xq i) t))) σ G d:=λG1 H s1 s2 Q k=>ha G1 H s1 s2 _ λv1 G2 H2 g2 h1=>⟨_,hi,h G2 H2 (s1.trans g2.gg) g2.gh _ λvs G3 H3 g3 h3=>by
  have g23:=g2.trans g3
  have sG:=s1.trans g23.gg
  refine ⟨G3,book,v1,pb,vs,d0::ds,d,by simp,⟨sG _ _ hT,sG _ _ hC⟩,g3.gh,sG _ _ hpb,ZG (h1.same g3.gg) h3,hR,λv G' H' g' hv=>k v G' H' (g23.trans g') hv⟩⟩
theorem zll {book:List Str}{pool:List (Int×Int)}{i:Int}{x:PyData}(h:RRw [.tuple (book.map PyData.str),.list (pool.map dF),.int i] x):∃ fs:List Fs,x = .tuple (fs.map dT)/\fs.length<=60/\∀ f∈fs,FOk book.length f:=by
 obtain ⟨bk,pl,m,fs,e,hb,_,rfl,hl,hf⟩:=h
 injection e with e1 e
 injection e1 with e1
 have q1:=zd8 e1
 subst q1
 exact ⟨fs,rfl,by omega,hf⟩
theorem zmx {book:List Str}{pool:List (Int×Int)}{m:Nat}(hb:book.length<=4/\1<=pool.length/\pool.length<=13/\m<=60)(hp:∀ p∈pool,SzP p):∃ x,RRw [.tuple (book.map PyData.str),.list (pool.map dF),.int (m:Nat)] x:=
 ⟨_,book,pool,m,[],rfl,hb,hp,rfl,Nat.zero_le _,λf hf=>by cases hf⟩
theorem zmU {n:Nat}(gs:List Fs):Pl (n+3) (.tuple (gs.map dT)):=zaW λx hx=>by
 obtain ⟨f,_,rfl⟩:=List.mem_map.mp hx
 exact zmq f
theorem zm7 {a b:List Nat}(h:dN a=dN b):a=b:=by
 injection h with h
 exact (List.map_inj_right λx y e=>by injection e with e;omega).mp h
theorem zmG {f g:Fs}(h:dT f=dT g):f=g:=by
 injection h with h
 exact (List.map_inj_right λx y e=>by
  injection e with e
  injection e with e1 e2
  injection e1 with e1
  injection e2 with e2
  injection e2 with e2
  exact Prod.ext e1 e2).mp h
theorem ziO {gs:List Fs}{x:PyData}(h:znT [.tuple (gs.map dT)] x):∃ hs:List Fs,x = .tuple (hs.map dT)/\hs.Perm gs:=by
 obtain ⟨gs2,hs,e,_,hp,rfl⟩:=h
 injection e with e
 injection e with e
 have e:=(List.map_inj_right λx y e=>zmG e).mp e
 subst e
 exact ⟨hs,rfl,hp⟩
def zhL (f:Fs):List (List Int):=f.map λp=>[p.1,p.2]
theorem zne (f:Fs):kdI (zhL f)=dT f:=by
 unfold kdI zhL
 rw[List.map_map];rfl
theorem zhw (fs:List Fs):PyData.tuple (fs.map dT) = .tuple ((fs.map zhL).map kdI):=by
 rw[List.map_map]
 congr 1
 exact List.map_congr_left λf _=>(zne f).symm
theorem zov (qs:List (List (List Int))):Pl 5 (.list (qs.map kdI)):=zeS λx hx=>by
 obtain ⟨k,_,rfl⟩:=List.mem_map.mp hx
 exact zaW λx hx=>by
  obtain ⟨l,_,rfl⟩:=List.mem_map.mp hx
  exact zaW λx hx=>by
   obtain ⟨i,_,rfl⟩:=List.mem_map.mp hx
   exact zeX _
theorem zlW {a b:Addr}{xs ys:List V}{g:TG}{tb:TS}{D:Ends}{σ:St}{H:Hp}(e:ys.length=xs.length)(Pv:Nat->St->Hp->Prop)(h0:Pv 0 σ H)(hl:∀ i σ H,i<=xs.length->Pv i σ H->SqT K H a xs/\SqT K H b ys)
  (hs:∀ i x y p σ H,xs[i]?=some x->ys[i]?=some y->Pv i σ H->H p=none->g (.ref p) σ (upd H p (.tup [x,y])) fun σ2 H2=>tb { D with nx:=Pv (i+1),ct:=Pv (i+1),bk:=D.nx } σ2 H2) (hd:∀ σ H,Pv xs.length σ H->D.nx σ H):
  ∃ W:Nat->Nat->St->Hp->Prop,(∃ m,W 0 m σ H)/\∀ i m σ H,W i m σ H->
   ((zl0 K a b).stop i H/\D.nx σ H)\/((zl0 K a b).go i H/\∃ N:St->Hp->Prop,(∀ σ' H',N σ' H' -> ∃ m',m'<m/\W (i+1) m' σ' H')/\∀ x H',(zl0 K a b).yld i H x H' -> g x σ H' fun σ2 H2=>tb { D with nx:=N,ct:=N,bk:=D.nx } σ2 H2):=by
 refine ⟨λi m σ H=>m=xs.length-i/\i<=xs.length/\Pv i σ H,⟨xs.length,by simp,Nat.zero_le _,h0⟩,?_⟩
 rintro i m σ H ⟨rfl,hi,p⟩
 obtain ⟨q1,q2⟩:=hl i σ H hi p
 by_cases hlt:i<xs.length
 ·refine .inr ⟨⟨xs,xs[i],ys,ys[i],q1,by simp[hlt],q2,by rw[List.getElem?_eq_getElem]⟩,Pv (i+1),fun σ' H' p' => ⟨xs.length-(i+1),by omega,rfl,hlt,p'⟩,λx H' y=>?_⟩
  obtain ⟨r,z1,z2,hr,e1,e2,y1,y2⟩:=y
  subst e1 e2
  exact hs i z1 z2 r σ _ (y1 xs q1) (y2 ys q2) p hr
 ·have e:i=xs.length:=by omega
  subst e
  exact .inl ⟨⟨xs,ys,q1,q2,.inl rfl⟩,hd σ H p⟩
theorem zdm {σ:St}{G:Hp}{ta tb:TE}{n:Nat}{a b:PyData}(ha:Ev K ta σ G a)(hb:Ev K tb σ G b)(e:a=b)(pa:Pl n a)(hn:n<=64):EvT (zhy (tOp (zlF K λb=>!b) ta tb)) σ G false:=by
 subst e
 exact zcO (ZV (K:=K) (zhs (g:=λb=>!b) ha hb pa pa hn)) (by rw[PySem.Spec.same_self];rfl)
theorem zkV {σ:St}{G:Hp}{t:TE}{n:Nat}(h:Ev K t σ G (.int (n:Nat)))(hn:n<=1000):Ev K (zm5 (ZS t JH)) σ G (dN (List.range n)):=λG1 H s1 s2 Q k=>h G1 H s1 s2 _ λv G2 H2 g2 hv=>by
 rw[hv.int]
 have z:(1000:Nat)<=2 ^ 24:=by decide
 refine ⟨(n:Int),rfl,by omega,by show n<=2 ^ 24;omega,λl hl=>?_⟩
 have g:=Z5 (o:=.tup ((List.range n).map λ(i:Nat)=>V.int (0+i))) g2.gh hl
 refine k _ _ _ (g2.trans g) (YW (SqT.of Zh) ?_)
 have e:((List.range n).map λ(i:Nat)=>V.int (0+i))=(List.range n).map λ(i:Nat)=>V.int (i:Nat):=List.map_congr_left λi _=>by rw[Int.zero_add]
 show Yl K _ ((List.range n).map λ(i:Nat)=>V.int (0+i)) _
 rw[e];exact JN _
theorem znH {σ:St}{G:Hp}{ta tb:TE}{x y:Bool}(ha:Ev K ta σ G (.bool x))(hb:Ev K tb σ G (.bool y)):Ev K (tOp rNe ta tb) σ G (.bool (!decide (x=y))):=
 JM ha hb λG1 H u v Q s1 s2 hu hv k=>by
  rw[hu.bl,hv.bl]
  refine ⟨rfl,?_⟩
  have e:decide (V.bl x=V.bl y)=decide (x=y):=decide_eq_decide.mpr ⟨λz=>by injection z,λz=>by rw[z]⟩
  rw[e]
  exact k _ G1 H (Yr.refl s2) (Yn _)
theorem znn {f:Addr}{fd:FuncData}(F:Fun K "law" "law" zdC f fd)(T:Top K mg)(W:Wds K w.params mg)(W1:Txs K w.params mg "AHEAD" JG)(W2:Txs K w.params mg "OTHER_WAY" Jh)(M:Bs K mg base):Yi P w K mg base CX0 11 f fd ["script"] (zen K [(T.Ye,Z6),(T.W9,λ_ _=>some XD),(T.Wv,λ_ _=>some Xm)]):=by
 have G_turned:Yi P w K mg base CX0 10 T.Ua T.fd_turned ["row", "turn"] (spP K zmc):=(zl1 T).mono (by decide)
 have G_back:Yi P w K mg base CX0 10 T.f_back T.fd_back ["turn"] (spP K zkg):=(zkb T).mono (by decide)
 have G__law_mixed:Yi P w K mg base CX0 10 T.WY T.fd__law_mixed ["deck", "row"] (Vc K 60 znT):=(ziH T).mono (by decide)
 have G__law_next:Yi P w K mg base CX0 10 T.Ym T.fd__law_next ["deck"] (Vc K 1 RNx):=(JL T).mono (by decide)
 have G__law_book:Yi P w K mg base CX0 10 T.Jx T.fd__law_book ["deck"] (zoN K):=(zkS T).mono (by decide)
 have G__law_pool:Yi P w K mg base CX0 10 T.Jo T.fd__law_pool ["deck"] (Vc K 15 zkF):=(zko T).mono (by decide)
 have G__law_row:Yi P w K mg base CX0 10 T.Ql T.fd__law_row ["deck", "book", "pool", "most"] (Vc K 241 RRw):=(zmm T).mono (by decide)
 have G__law_order:Yi P w K mg base CX0 10 T.Yz T.fd__law_order ["deck", "book", "pool", "deep"] (Vc K (oN 2) (ROr 2)):=(zdd T 1 (by decide) (zdd T 0 (by decide) (zgC T))).mono (by decide)
 have G_turning:Yi P w K mg base CX0 10 T.Q6 T.fd_turning ["order", "book", "row"] (znP K T.Ye T.W9 znR):=ze4 T M W W1 W2
 have G_looked:Yi P w K mg base CX0 10 T.WQ T.fd_looked ["order", "book", "first", "second"] (zeg K T.Ye Z6):=(zc5 T M W W1 W2).mono (by decide)
 have G_crossed:Yi P w K mg base CX0 10 T.QG T.fd_crossed ["order", "book", "row"] (znX K T.Ye T.Wv zeG):=zff T M W W1 W2
 refine F.ok Ws (λvs H Q E h=>?_) (λcdv A outer s H vs Q E hr h=>?_)
 ·obtain ⟨a,ns,rfl,_⟩:=h
  rfl
 ·obtain ⟨a,ns,rfl,hS,hlen,hTs,fin⟩:=h
  have hT0:H T.Ye=some (.tbl Z6):=hTs _ List.mem_cons_self
  have hC0:H T.W9=some (.tbl λ_ _=>some XD):=hTs _ (List.mem_cons_of_mem _ List.mem_cons_self)
  have zl:(2000:Nat)<=sizeLine:=by decide
  have hX0:H T.Wv=some (.tbl λ_ _=>some Xm):=hTs _ (List.mem_cons_of_mem _ (List.mem_cons_of_mem _ List.mem_cons_self))
  have hu:=hr.units
  have hu2:=Nat.lt_of_le_of_lt (Nat.add_le_add_left (show 2<=64 by decide) _) hr.units
  refine ⟨_,(Ze (ZD (i:=1) Ws.nd rfl (Or.inl rfl) (Xn (Za (Uj (zbw (K:=K) rfl) (pv 0) zb6 (zbt Zg)) (Za Zg Zf Zj) Zu)))
   (Ze (Wz PassesOwn.never rfl (Jd (by rfl) T.Q5 (Za Zg Zf Zj)) (Yy (i:=2) Ws.nd rfl (Or.inl rfl)) (Ze (ZD (i:=3) Ws.nd rfl (Or.inl rfl) (Zx G__law_book hr (by rfl) T.zdE T.zaC.kp T.zdD .nil Z3 (Za (pv 1) Zf Zd)))
   (Ze (ZD (i:=4) Ws.nd rfl (Or.inl rfl) (Zx G__law_pool hr (by rfl) T.zdT T.zau.kp T.zdw .nil Z3 (Za (pv 1) Zf Zd)))
   (Ze (ZD (i:=5) Ws.nd rfl (Or.inl rfl) (Zx G__law_order hr (by rfl) T.WD T.Xp.kp T.WP .nil Z3 (Za (pv 1) (Za (pv 3) (Za (pv 4) (Za Zg Zf Zj) Zd) Zd) Zd)))
   (Ze (ZD (i:=6) Ws.nd rfl (Or.inl rfl) (Zx G__law_row hr (by rfl) T.zft T.zbi.kp T.zfH .nil Z3 (Za (pv 1) (Za (pv 3) (Za (pv 4) (Za Zg Zf Zj) Zd) Zd) Zd)))
   (Ze (ZD (i:=7) Ws.nd rfl (Or.inl rfl) (Zx G_turning hr (by rfl) T.zaa T.QR.kp T.zaf .nil Z3 (Za (pv 5) (Za (pv 3) (Za (pv 6) Zf Zd) Zd) Zd)))
   (Ze (ZD (i:=8) Ws.nd rfl (Or.inl rfl) (Zx G_turned hr (by rfl) T.zbU T.Um.kp T.zb7 .nil Z3 (Za (pv 6) (Za (pv 7) Zf Zd) Zd)))
   (Ze (ZD (i:=9) Ws.nd rfl (Or.inl rfl) (zga rfl (by rfl) T.Qu zhH (by rfl) T.Q5 (Za (Yd (Yb (K:=K) rfl) (by rfl) T.zb9 PySem.boot_len (Za (pv 6) Zf Zd)) Zf Xa)))
   (Ze (Wz PassesOwn.never rfl (zf2 (by rfl) T.Q5 (Za Zg (Za (Yd (Yb (K:=K) rfl) (by rfl) T.zb9 PySem.boot_len (Za (pv 8) Zf Zd)) Zf Xa) Zj)) (Yy (i:=10) Ws.nd rfl (Or.inl rfl)) (Zo (Yt (ZF X7 (Zx G_looked hr (by rfl) T.zb2 T.Uh.kp T.zbz .nil Z3 (Za (pv 5) (Za (pv 3) (Za (ZZ (Xr (K:=K) rfl) (pv 8) (Zw Ja (pv 10) Zg) (λ_ _=>rfl)) (Za (ZZ (Xr (K:=K) rfl) (pv 8) (pv 10) (λ_ _=>rfl)) Zf Zu) Zu) Zd) Zd)) ZK (ZR _)) (Zo (Zy zaS)) ZQ)))
   (Ze (Yt ((pw_or (ZF (zbT (K:=K) rfl hu) (Zx G_turning hr (by rfl) T.zaa T.QR.kp T.zaf .nil Z3 (Za (pv 5) (Za (pv 3) (Za (pv 8) Zf Zd) Zd) Zd)) (pv 9) (ZR _)) (pw_or (ZF ziP (Zx G_crossed hr (by rfl) T.zcY T.UT.kp T.zcH .nil Z3 (Za (pv 5) (Za (pv 3) (Za (pv 8) Zf Zd) Zd) Zd)) Zg (ZR _)) (pw_or1 (ZF (zbT (K:=K) rfl hu) (Zx G_turned hr (by rfl) T.zbU T.Um.kp T.zb7 .nil Z3 (Za (pv 8) (Za (Zx G_back hr (by rfl) T.zmC T.zj0.kp T.znw .nil Z3 (Za (pv 7) Zf Zd)) Zf Xa) Zd)) (pv 6) (ZR _)))))).pt (Zo (Zy zaS)) ZQ)
   (Ze (Yt (ZF ziP (Vj X7 (Zx G_crossed hr (by rfl) T.zcY T.UT.kp T.zcH .nil Z3 (Za (pv 5) (Za (pv 3) (Za (pv 6) Zf Zd) Zd) Zd)) Zg (ZR _)) (Vj (zgL (K:=K) rfl hu) (pv 7) (pv 9) (ZR _)) (ZR _)) (Zo (Zy zaS)) ZQ)
   (Ze (ZD (i:=11) Ws.nd rfl (Or.inl rfl) (Zx G__law_mixed hr (by rfl) T.zcP T.VV.kp T.zcM .nil Z3 (Za (pv 1) (Za (pv 6) Zf Zd) Zd)))
   (Ze (ZD (i:=12) Ws.nd rfl (Or.inl rfl) (Zx G_turned hr (by rfl) T.zbU T.Um.kp T.zb7 .nil Z3 (Za (pv 11) (Za (Zx G_turning hr (by rfl) T.zaa T.QR.kp T.zaf .nil Z3 (Za (pv 5) (Za (pv 3) (Za (pv 11) Zf Zd) Zd) Zd)) Zf Xa) Zd)))
   (Ze (Yt (ZF (zbT (K:=K) rfl hu) (Yd (V2 (K:=K) hu2 rfl) (by rfl) T.zdB zoL (Za (pv 12) Zf Zd)) (Yd (V2 (K:=K) hu2 rfl) (by rfl) T.zdB zoL (Za (pv 8) Zf Zd)) (ZR _)) (Zo (Zy zaS)) ZQ)
   (Zo (Wz PassesOwn.never rfl (zk8 (K:=K) rfl (by rfl) T.zoG (Za (pv 12) (Za (pv 8) Zf Zd) Zd)) (zcT (n:=2) rfl (XH (Yy (i:=13) Ws.nd rfl (Or.inl rfl)) (XH (Yy (i:=14) Ws.nd rfl (Or.inl rfl)) zac)) (by rfl)) (Zo (Yt (ZF ziP (Zx G_looked hr (by rfl) T.zb2 T.Uh.kp T.zbz .nil Z3 (Za (pv 5) (Za (pv 3) (Za (pv 13) (Za (pv 14) Zf Zd) Zd) Zd) Zd)) ZK (ZR _)) (Zo (Zy zaS)) ZQ))))))))))))))))))
   (Zo (Zy zaS)))) ,?_⟩
  refine ⟨_,rfl,63,rfl,a,_,rfl,hS,λc hc=>⟨(by show 2<=sizeLine;decide),λd hd=>?_⟩⟩
  obtain ⟨ms,hms,hml⟩:=zia ns (some 63)
  rw[hms] at hd ⊢
  have ndc:d≠c:=λz=>by subst z;rw[Zh] at hd;cases hd
  have hd0:H d=none:=by rw[Zq ndc] at hd;exact hd
  have s0:ZL H (upd (upd H c (.lst (ms.map V.int))) d (.lst [.ref c,.int 0])):=(ZX hc).trans (ZX hd)
  have D0:DkA (2*400) (upd (upd H c (.lst (ms.map V.int))) d (.lst [.ref c,.int 0])) d c:=⟨0,ms,Zh,by rw[Zq (Ne.symm ndc)];exact Zh,by omega,by omega,by decide⟩
  generalize upd (upd H c (.lst (ms.map V.int))) d (.lst [.ref c,.int 0])=H1 at s0 D0
  refine ⟨2,rfl,by decide,by decide,JZ (n:=2) (λi σ H' => ∃ (v2 v3 v4 v5 v6 v7 v8 v9 v10 v11 v12 v13 v14:Option V) (G' : Hp),σ=[some (.ref a),some (.ref d),v2,v3,v4,v5,v6,v7,v8,v9,v10,v11,v12,v13,v14]/\ZL H G' /\ ZL G' H' /\ G' d=none/\G' c=none/\DkA ((2-i)*400) H' d c) ⟨_,_,_,_,_,_,_,_,_,_,_,_,_,H,rfl,ZL.refl _,s0,hd0,hc,D0⟩ ?_ ?_⟩
  ·rintro k σ H2 hk ⟨v2,v3,v4,v5,v6,v7,v8,v9,v10,v11,v12,v13,v14,G2,rfl,sH,sg,gd,gc,D⟩
   have D:DkA ((2-(k+1))*400+400) H2 d c:=D.mono (by omega)
   refine ⟨_,rfl,d,c,G2,rfl,sg,gd,gc,D.mono (by omega),λbook pb G3 H3 b1 b2 hwd k3 hpb=>?_⟩
   have hb3:Dat K G3 (.ref pb) (.tuple (book.map PyData.str)):=YW (SqT.of hpb) (zci book)
   refine W3 (K:=K) (d:=d) (c:=c) (X8 (R:=zkF) rfl Zr ⟨_,rfl,[(0,1),(0,1)],rfl,by decide,by decide,λp hp=>by simp only[List.mem_cons,List.not_mem_nil,or_false,or_self] at hp;subst hp;exact ⟨⟨by decide,by decide⟩,by decide⟩⟩) k3.gh (k3.gd D gd) (k3.gc D gc) (k3.cn 15 (D.mono (by omega))) λvp x G4 H4 hx k4 hvp=>?_
   obtain ⟨_,pool,rfl,p1,p2,hpl⟩:=hx
   have s34:=k4.gg
   have k4:=k3.trans k4
   refine W3 (K:=K) (d:=d) (c:=c) (n:=oN 2) ((X8 (R:=ROr 2) rfl (Zc (Zb rfl (hb3.same s34)) (Zc (Zb rfl hvp) (Zc (Qv Zt (show PyData.int 2 = .int ((2:Nat):Int) from rfl)) Zr))) (zjr (deep:=2) (by decide) ⟨b1,b2,by omega,by omega⟩ hpl hwd)).imp λx hx=>zbJ hx) k4.gh (k4.gd D gd) (k4.gc D gc) (k4.cn (oN 2) (D.mono (by show 16+(1+15)<=_;omega))) λvo x G5 H5 hx k5 hvo=>?_
   obtain ⟨ws,rfl,gw⟩:=hx
   have s35:=s34.trans k5.gg
   have hvp:=hvp.same k5.gg
   have k5:=k4.trans k5
   have D5:=k5.cn (241+((2-(k+1))*400+60)) (D.mono (by show _+(1+15+16)<=_;omega))
   refine W3 (K:=K) (d:=d) (c:=c) (n:=241) ((X8 (R:=RRw) (n:=241) rfl (Zc (Zb rfl (hb3.same s35)) (Zc (Zb rfl hvp) (Zc (Qv Zt (show PyData.int 14 = .int ((14:Nat):Int) from rfl)) Zr))) (zmx ⟨b2,by omega,p2,by decide⟩ hpl)).imp λx hx=>zll hx) k5.gh (k5.gd D gd) (k5.gc D gc) (D5.mono (by omega)) λvr x G6 H6 hx k6 hvr=>?_
   obtain ⟨gs,rfl,hfl,gok⟩:=hx
   have s36:=s35.trans k6.gg
   have hvo:=hvo.same k6.gg
   have D6:DkA ((2-(k+1))*400+60) H6 d c:=k6.zaH D5
   have k6:=k5.trans k6
   have gd6:=k6.gd D gd
   have gc6:=k6.gc D gc
   have sH6:ZL H G6:=sH.trans k6.gg
   have hpb6:=s36 _ _ hpb
   have hT6:=sH6 _ _ hT0
   have hC6:=sH6 _ _ hC0
   have hX6:=sH6 _ _ hX0
   have OCW:∀ {ws:List Wd}{m:Nat},m<=800->Gw book pool m ws->OC book (λa b=>(a,b)∈pool) ws:=λhm gw=>⟨gw.1,λa b h=>(hpl _ h).1,hwd,Nat.le_trans gw.2.1 (by omega)⟩
   have oc:=OCW (by decide) gw
   have WK:∀ {ws:List Wd}{m:Nat}{hs:List Fs},Gw book pool m ws->(∀ h∈hs,h∈gs)->Wk (Z9 book ws) (· ∈ hs):=λgw hh=>gw.2.2.sub λg hg=>(gok g (hh g hg)).pos
   have CRS:∀ {σ' : St} {G' : Hp} {ta tr:TE}{ws:List Wd}{m:Nat}{hs:List Fs},ZL G6 G' -> σ'[3]?=some (some (.ref pb))->Ev K ta σ' G' (dOs ws)->Gw book pool m ws->m<=800->Ev K tr σ' G' (.tuple (hs.map dT))->(∀ h∈hs,h∈gs)->hs.length<=60->Ev K (V6 (znX K T.Ye T.Wv zeG) [] E0 (ZS ta (ZS (Xq 3) (ZS tr JH)))) σ' G' (.int (crN (Z9 book ws) hs:Nat)):=λ{σ' G' ta tr ws m hs} s e ha gw hm hr hh hl=>
    Qv (ziI (R:=zeG) (d:=.int (zhI (rks book ws hs) hs.length:Nat)) (s _ _ hT6) (s _ _ hX6) (s _ _ hpb6) e ha (Zc hr Zr) ⟨ws,_,hs,rfl,OCW hm gw,λg hg=>(gok g (hh g hg)).fz,by omega,WK gw hh,rfl⟩) (by
     have:zhI (rks book ws hs) hs.length=crN (Z9 book ws) hs:=zin (WK gw hh)
     rw[this])
   have idm:∀ h∈gs,h∈gs:=λh hh=>hh
   have wk:=WK gw idm
   have IT:∀ {σ' : St} {G' : Hp} {q:Nat}{tr:TE}{i:Nat},ZL G6 G' -> i<gs.length->σ'[q]?=some (some vr)->Ev K tr σ' G' (.int (i:Nat))->Ev K (tOp (zlL K) (Xq q) tr) σ' G' (dT (th gs i)):=λ{σ' G' q tr i} s hi e1 e2=>JB (n:=i) (Zb e1 (hvr.same s)) e2 (by rw[List.length_map];exact Xk hi) (by rw[List.getElem?_map,List.getElem?_eq_getElem hi];unfold th;rw[List.getD_eq_getElem?_getD,List.getElem?_eq_getElem hi];rfl)
   have GE:∀ i,i<gs.length->FOk book.length (th gs i):=λi hi=>gok _ (Jy hi)
   have VZ:∀ {σ' : St} {G' : Hp} {q:Nat}{i:Nat},σ'[q]?=some (some (.int (0+(i:Int))))->Ev K (Xq q) σ' G' (.int (i:Nat)):=λe=>Qv (Zb e (Zv _)) (by rw[Int.zero_add])
   have TN:∀ {σ' : St} {G' : Hp} {ta tr:TE}{ws:List Wd}{m:Nat}{hs:List Fs},ZL G6 G' -> σ'[3]?=some (some (.ref pb))->Ev K ta σ' G' (dOs ws)->Gw book pool m ws->m<=800->Ev K tr σ' G' (.tuple (hs.map dT))->(∀ h∈hs,h∈gs)->hs.length<=60->Ev K (V6 (znP K T.Ye T.W9 znR) [] E0 (ZS ta (ZS (Xq 3) (ZS tr JH)))) σ' G' (dN (tn (Z9 book ws) hs)):=λs e ha gw hm hr hh hl=>
    zij (R:=znR) (s _ _ hT6) (s _ _ hC6) (s _ _ hpb6) e ha (Zc hr Zr) ⟨_,_,_,rfl,OCW hm gw,λg hg=>(gok g (hh g hg)).fz,by omega,WK gw hh,rfl⟩
   have TD:∀ {σ' : St} {G' : Hp} {tr tt:TE}{L:Fs->Fs->An}{hs:List Fs},Ev K tr σ' G' (.tuple (hs.map dT))->Ev K tt σ' G' (dN (tn L hs))->hs.length<=60->Ev K (V6 (spP K zmc) [] E0 (ZS tr (ZS tt JH))) σ' G' (.tuple ((trd hs (tn L hs)).map dT)):=λ{σ' G' tr tt L hs} hr ht hl=>
    Z4 (R:=zmc) (Zc hr (Zc ht Zr)) ⟨hs,tn L hs,rfl,λi hi=>zdh hi,by rw[Qs];omega,rfl⟩
   refine Yv (K:=K) (TN (ZL.refl _) rfl (Zb rfl hvo) gw (by decide) (Zb rfl hvr) idm hfl) k6.gh λv7' G7 H7 g7 hv7=>?_
   refine Yv (K:=K) (TD (Zb rfl (hvr.same g7.gg)) (Zb rfl hv7) hfl) g7.gh λv8' G8 H8 g8 hv8=>?_
   have g78:=g7.trans g8
   refine Yv (K:=K) (zkV (t:=tLn K 6) (n:=gs.length) (Qv (zax (Zc (Zb rfl (hvr.same g78.gg)) Zr)) (by rw[List.length_map])) (by omega)) g8.gh λv9' G9 H9 g9 hv9=>?_
   have g79:=g78.trans g9
   have thl:=Qa (Z9 book ws) gs
   have thmm:∀ h∈trd gs (tn (Z9 book ws) gs),h∈gs:=λh hh=>Vs hh
   have hv8:=hv8.same g9.gg
   have hv7:=hv7.same (g8.trans g9).gg
   have ord_:∀ {i j:Nat},i<j->j<gs.length->Z9 book ws (th (trd gs (tn (Z9 book ws) gs)) i) (th (trd gs (tn (Z9 book ws) gs)) j)≠.behind:=λh1 h2=>zdY wk h1 h2
   have e1:=zeH wk
   have e2:=zhN wk
   have e3:=zgo wk
   have e5:trd (trd gs (tn (Z9 book ws) gs)) (zaI (tn (Z9 book ws) gs))=gs:=zg9 (row:=gs) (n:=gs.length) (za7 (QC (Z9 book ws) gs)) rfl
   have evr:Ev K (tLn K 8) [some (.ref a),some (.ref d),some (.int (0+(k:Int))),some (.ref pb),some vp,some vo,some vr,some v7',some v8',some v9',v10,v11,v12,v13,v14] G9 (.int (gs.length:Nat)):=Qv (zax (Zc (Zb rfl hv8) Zr)) (by rw[List.length_map,thl])
   have ITr:∀ {σ' : St} {G' : Hp} {tr:TE}{i:Nat},ZL G9 G' -> i<gs.length->σ'[8]?=some (some v8')->Ev K tr σ' G' (.int (i:Nat))->Ev K (tOp (zlL K) (Xq 8) tr) σ' G' (dT (th (trd gs (tn (Z9 book ws) gs)) i)):=λ{σ' G' tr i} s hi e1 e2=>by
    have hi' : i<(trd gs (tn (Z9 book ws) gs)).length:=by rw[thl];exact hi
    exact JB (n:=i) (Zb e1 (hv8.same s)) e2 (by rw[List.length_map];exact Xk hi') (by rw[List.getElem?_map,List.getElem?_eq_getElem hi'];unfold th;rw[List.getD_eq_getElem?_getD,List.getElem?_eq_getElem hi'];rfl)
   refine zoX (zks (Ev.use evr g9.gh λvn Gi Hi gi hvn=>?_))
   rw[hvn.int]
   have nn:(((gs.length:Nat):Int)-1).toNat=gs.length-1:=by omega
   refine ⟨1,((gs.length:Nat):Int),rfl,⟨by omega,by omega,by omega,by omega⟩,?_⟩
   rw[nn]
   refine JZ (n:=gs.length-1) (λj σ H' => ∃ (v10:Option V) (G' : Hp),σ=[some (.ref a),some (.ref d),some (.int (0+(k:Int))),some (.ref pb),some vp,some vo,some vr,some v7',some v8',some v9',v10,v11,v12,v13,v14]/\Yr G9 H9 G' H') ⟨_,Gi,rfl,gi⟩ ?_ ?_
   ·rintro i σ Hj hi ⟨v10,Gj,rfl,gj⟩
    have hi1:i+1<gs.length:=by omega
    have sj:=gj.gg
    have V1:∀ {σ' : St} {G' : Hp},σ'[10]?=some (some (.int (1+(i:Int))))->Ev K (Xq 10) σ' G' (.int ((i+1:Nat):Int)):=λe=>Qv (Zb e (Zv _)) (by congr 1;omega)
    have V0:∀ {σ' : St} {G' : Hp},σ'[10]?=some (some (.int (1+(i:Int))))->Ev K (tOp (rI0 λi j=>.int (i-j)) (Xq 10) (tC (.int 1))) σ' G' (.int (i:Nat)):=λe=>Qv (JX (Zb e (Zv _)) Zt) (by congr 1;omega)
    have f0:=gok _ (thmm _ (Jy (gs:=trd gs (tn (Z9 book ws) gs)) (i:=i) (by rw[thl];omega)))
    have f1:=gok _ (thmm _ (Jy (gs:=trd gs (tn (Z9 book ws) gs)) (i:=i+1) (by rw[thl];omega)))
    have s6j:=g79.gg.trans sj
    have evl:=zdH (K:=K) (σ:=[some (.ref a),some (.ref d),some (.int (0+(k:Int))),some (.ref pb),some vp,some vo,some vr,some v7',some v8',some v9',some (.int (1+(i:Int))),v11,v12,v13,v14]) (i:=3) (ta:=Xq 5) (s6j _ _ hT6) (s6j _ _ hpb6) ⟨⟨f0.1,f1.1,f0.fz.2,f1.fz.2⟩,oc.2.1,hwd⟩ rfl (Zb rfl (hvo.same s6j)) (ITr sj (by omega) rfl (V0 rfl)) (ITr sj hi1 rfl (V1 rfl)) gw.1 oc.2.2.2 (Xw _ _ hwd gw.1)
    refine ZJ (zcO (ZV (K:=K) (Q7 evl (Zk (x:=S "behind")))) ?_) gj.gh λGm Hm gm=>⟨_,Gm,rfl,gj.trans gm⟩
    refine decide_eq_false λz=>ord_ (Nat.lt_succ_self i) hi1 ((zkE (b:=.behind)).mp z)
   rintro σ Hj ⟨v10,Gj,rfl,gj⟩
   have s6j:=g79.gg.trans gj.gg
   have hT:=za7 (QC (Z9 book ws) gs)
   have hB:=zkI hT
   refine zgv (zcO (e:=false) (zhn (zdm (n:=4) (TN s6j rfl (Zb rfl (hvo.same s6j)) gw (by decide) (Zb rfl (hv8.same gj.gg)) thmm (by omega)) (Zb rfl (hv9.same gj.gg)) (by rw[e1]) (zd1 _) (by decide)) λ_=>zhn (zcO (e:=false) (ZV (K:=K) (zos (CRS s6j rfl (Zb rfl (hvo.same s6j)) gw (by decide) (Zb rfl (hv8.same gj.gg)) thmm (by omega)) Zt)) (by rw[e2];rfl)) λ_=>zdm (n:=4) (Z4 (R:=zmc) (Zc (Zb rfl (hv8.same gj.gg)) (Zc (Z4 (R:=zkg) (Zc (Zb rfl (hv7.same gj.gg)) Zr) ⟨_,rfl,λi hi=>by rw[Qs];exact zdh hi,by rw[Qs];omega,rfl⟩) Zr)) ⟨_,_,rfl,λi hi=>by rw[thl];exact hB.lt i hi,by rw[zbS,Qs];omega,rfl⟩) (Zb rfl (hvr.same s6j)) (by rw[e5]) (zmU _) (by decide)) rfl) gj.gh λGk Hk gk=>?_
   have gjk:=gj.trans gk
   have s6k:=g79.gg.trans gjk.gg
   refine zgv (zcO (e:=false) (ZV (K:=K) (znH (x:=decide (((crN (Z9 book ws) gs:Nat):Int)=0)) (zbl (CRS s6k rfl (Zb rfl (hvo.same s6k)) gw (by decide) (Zb rfl (hvr.same s6k)) idm hfl) Zt) (zhs (g:=λb=>b) (n:=4) (Zb rfl (hv7.same gjk.gg)) (Zb rfl (hv9.same gjk.gg)) (zd1 _) (zd1 _) (by decide)))) ?_) gk.gh λGl Hl gl=>?_
   ·rw[Bool.not_eq_false',decide_eq_true_iff,Bool.eq_iff_iff,decide_eq_true_iff,same_iff]
    constructor
    ·intro h
     rw[e3.mp (by omega)]
    ·intro h
     have:=e3.mpr (zm7 h)
     omega
   have g9l:=gjk.trans gl
   have s6l:=g79.gg.trans g9l.gg
   have g6l:=g79.trans g9l
   have D7:=D6.same g6l.hh
   obtain ⟨⟨o1,z1⟩,o2,z2⟩:=D6.some
   refine W3 (K:=K) (d:=d) (c:=c) (n:=60) ((X8 (R:=znT) rfl (Zc (Zb rfl (hvr.same s6l)) Zr) ⟨_,gs,gs,rfl,hfl,.refl _,rfl⟩).imp λx hx=>ziO hx) gl.gh (g6l.out z1 gd6) (g6l.out z2 gc6) (D7.mono (by omega)) λv11' x Gm Hm hx km hv11=>?_
   obtain ⟨hs,rfl,hp⟩:=hx
   have D8:DkA ((2-(k+1))*400) Hm d c:=km.cn _ D7
   have s6m:=s6l.trans km.gg
   have hml' : hs.length<=60:=by rw[hp.length_eq];exact hfl
   have hmm:∀ h∈hs,h∈gs:=λh hh=>hp.mem_iff.mp hh
   refine Yv (K:=K) (TD (Zb rfl hv11) (TN s6m rfl (Zb rfl (hvo.same s6m)) gw (by decide) (Zb rfl hv11) hmm hml') hml') km.gh λv12' Gn Hn gn hv12=>?_
   have s8n:=(g9l.gg.trans km.gg).trans gn.gg
   have m1:((trd hs (tn (Z9 book ws) hs)).map zhL).Perm ((trd gs (tn (Z9 book ws) gs)).map zhL):=((QM _ hs).trans (hp.trans (QM _ gs).symm)).map zhL
   have nk:∀ q∈(trd gs (tn (Z9 book ws) gs)).map zhL,q≠[]:=λq hq=>by
    obtain ⟨f,hf,rfl⟩:=List.mem_map.mp hq
    have:=(gok f (thmm f hf)).1
    intro z
    have:=congrArg List.length z
    unfold zhL at this
    rw[List.length_map] at this
    simp only[List.length_nil] at this
    omega
   have ol:=Qa (Z9 book ws) hs
   refine zgv (zdm (n:=5) (zf1 (ps:=(trd hs (tn (Z9 book ws) hs)).map zhL) (Zc (Qv (Zb rfl hv12) (zhw _)) Zr) (by rw[List.length_map,ol];omega) (λq hq=>nk q (m1.mem_iff.mp hq)) λrs h1 h2=>zdF h1 h2) (zf1 (ps:=(trd gs (tn (Z9 book ws) gs)).map zhL) (Zc (Qv (Zb rfl (hv8.same s8n)) (zhw _)) Zr) (by rw[List.length_map,thl];omega) nk λrs h1 h2=>zdF h1 h2) (by rw[zhl m1]) (zov _) (by decide)) gn.gh λGo Ho go=>?_
   have gno:=gn.trans go
   have s6o:=s6m.trans gno.gg
   obtain ⟨q12,xs12,rfl,hq12,hx12⟩:=(hv12.same go.gg).tup
   obtain ⟨q8,xs8,rfl,hq8,hx8⟩:=(hv8.same (s8n.trans go.gg)).tup
   have l12:=hx12.length
   have l8:=hx8.length
   rw[List.length_map] at l12 l8
   have gd8:=km.gd D7 (g6l.out z1 gd6)
   have gc8:=km.gc D7 (g6l.out z2 gc6)
   obtain ⟨⟨o3,z3⟩,o4,z4⟩:=D8.some
   refine ⟨_,rfl,_,rfl,q12,q8,rfl,⟨_,go.gh.tup hq12⟩,⟨_,go.gh.tup hq8⟩,zlW (xs:=xs12) (ys:=xs8) (by have:=hp.length_eq;omega) (λi σ H' => ∃ (v13 v14:Option V) (G' : Hp),σ=[some (.ref a),some (.ref d),some (.int (0+(k:Int))),some (.ref pb),some vp,some vo,some vr,some v7',some (.ref q8),some v9',v10,some v11',some (.ref q12),v13,v14]/\Yr Go Ho G' H') ⟨_,_,Go,rfl,Yr.refl go.gh⟩ ?_ ?_ ?_⟩
   ·rintro i σ Hj _ ⟨v13,v14,Gj,rfl,gj⟩
    exact ⟨gj.gh.tup (gj.gg.tup hq12),gj.gh.tup (gj.gg.tup hq8)⟩
   ·rintro i x y p σ Hj hx hy ⟨v13,v14,Gj,rfl,gj⟩ hpn
    have hi:i<gs.length:=by
     have:=(List.getElem?_eq_some_iff.mp hy).1
     omega
    have h1:i<(trd hs (tn (Z9 book ws) hs)).length:=by rw[ol,hp.length_eq];exact hi
    have h2:i<(trd gs (tn (Z9 book ws) gs)).length:=by rw[thl];exact hi
    have d1:Dat K Gj x (dT (th (trd hs (tn (Z9 book ws) hs)) i)):=Ui (hx12.same gj.gg) hx (by rw[List.getElem?_map,List.getElem?_eq_getElem h1];unfold th;rw[List.getD_eq_getElem?_getD,List.getElem?_eq_getElem h1];rfl)
    have d2:Dat K Gj y (dT (th (trd gs (tn (Z9 book ws) gs)) i)):=Ui (hx8.same gj.gg) hy (by rw[List.getElem?_map,List.getElem?_eq_getElem h2];unfold th;rw[List.getD_eq_getElem?_getD,List.getElem?_eq_getElem h2];rfl)
    have f0:=gok _ (hmm _ (Vs (Jy h1)))
    have f1:=gok _ (thmm _ (Jy h2))
    have gj2:=gj.trans (zeT gj.gh (ZX (o:=.tup [x,y]) hpn))
    have s6j:=s6o.trans gj.gg
    have like:=zh2 wk hp hi
    refine ⟨p,_,rfl,SqT.of Zh,rfl,_,_,rfl,_,_,rfl,rfl,?_⟩
    have evl:=zdH (K:=K) (σ:=[some (.ref a),some (.ref d),some (.int (0+(k:Int))),some (.ref pb),some vp,some vo,some vr,some v7',some (.ref q8),some v9',v10,some v11',some (.ref q12),some x,some y]) (i:=3) (ta:=Xq 5) (tf:=Xq 13) (tg:=Xq 14) (s6j _ _ hT6) (s6j _ _ hpb6) ⟨⟨f0.1,f1.1,f0.fz.2,f1.fz.2⟩,oc.2.1,hwd⟩ rfl (Zb rfl (hvo.same s6j)) (Zb rfl d1) (Zb rfl d2) gw.1 oc.2.2.2 (Xw _ _ hwd gw.1)
    refine ZJ (zcO (ZV (K:=K) (zjW evl (Zk (x:=S "like")))) ?_) gj2.gh λGm Hm gm=>⟨_,_,Gm,rfl,gj2.trans gm⟩
    rw[like];rfl
   ·rintro σ Hz ⟨v13,v14,Gz,rfl,gz⟩
    have goz:=gno.trans gz
    exact ⟨_,_,_,_,_,_,_,_,_,_,_,_,_,Gz,rfl,sH6.trans (s6m.trans goz.gg),goz.gh,goz.out z3 gd8,goz.out z4 gc8,D8.same goz.hh⟩
  ·rintro σ H2 ⟨v2,v3,v4,v5,v6,v7,v8,v9,v10,v11,v12,v13,v14,G2,rfl,_⟩
   exact fin H2
end
end K32
namespace K32
open PySem L2 Frac Lw Dig PySem.NumText Nm
open Ord Look Rdo
structure Pm (K:PySem.W.Frag)(x:Str)(st:Stmt)(f:Addr)(oc:Value)(od:Option Addr)(kV dc pm:Value)(an:Option Addr)(cd ct:Value)(sl:Array (Option Value)):Prop where
 a:PySem.W.nsIn K mainGlobals x=some (some (.ref f))
 l:K.lookup f=some ⟨oc,od,.func (PySem.W.fnOf x x (Qd st) (Y5 st) (Zm st) .none kV dc pm an cd ct),sl⟩
 c:PySem.W.codeIn K cd x=true
 k:PySem.W.keepIn K (.ref f)=true
abbrev tabs:zny:=[(168,Z6),(228,λ_ _=>some XD),(252,λ_ _=>some Xm)]
theorem zma {l:PySem.W.OpenLaw}{w:World}{K:PySem.W.Frag}{h:Heap}{mg:Str->Option Value}{fa:Addr}{fz0 fz1 fz2 fz3 fz4 fz5 fz6 fz7 fz8 fz9 fz10 fz11 fz12 fz13 fz14 fz15 fz16 fz17 fz18 fz19 fz20 fz21 fz22 fz23 fz24 fz25 fz26 fz27 fz28 fz29 fz30 fz31 fz32 fz33 fz34 fz35 fz36:Addr}(X:K.In h)(G:h.Ns mainGlobals mg)(hfa:mg "law" = some (.ref fa))
  {odz0 anz0 odz1 anz1 odz2 anz2 odz3 anz3 odz4 anz4 odz5 anz5 odz6 anz6 odz7 anz7 odz8 anz8 odz9 anz9 odz10 anz10 odz11 anz11 odz12 anz12 odz13 anz13 odz14 anz14 odz15 anz15 odz16 anz16 odz17 anz17 odz18 anz18 odz19 anz19 odz20 anz20 odz21 anz21 odz22 anz22 odz23 anz23 odz24 anz24 odz25 anz25 odz26 anz26 odz27 anz27 odz28 anz28 odz29 anz29 odz30 anz30 odz31 anz31 odz32 anz32 odz33 anz33 odz34 anz34 odz35 anz35 odz36 anz36:Option Addr}{slz0 slz1 slz2 slz3 slz4 slz5 slz6 slz7 slz8 slz9 slz10 slz11 slz12 slz13 slz14 slz15 slz16 slz17 slz18 slz19 slz20 slz21 slz22 slz23 slz24 slz25 slz26 slz27 slz28 slz29 slz30 slz31 slz32 slz33 slz34 slz35 slz36:Array (Option Value)}{ocz0 kVz0 dcz0 pmz0 cdz0 ctz0 ocz1 kVz1 dcz1 pmz1 cdz1 ctz1 ocz2 kVz2 dcz2 pmz2 cdz2 ctz2 ocz3 kVz3 dcz3 pmz3 cdz3 ctz3 ocz4 kVz4 dcz4 pmz4 cdz4 ctz4 ocz5 kVz5 dcz5 pmz5 cdz5 ctz5 ocz6 kVz6 dcz6 pmz6 cdz6 ctz6 ocz7 kVz7 dcz7 pmz7 cdz7 ctz7 ocz8 kVz8 dcz8 pmz8 cdz8 ctz8 ocz9 kVz9 dcz9 pmz9 cdz9 ctz9 ocz10 kVz10 dcz10 pmz10 cdz10 ctz10 ocz11 kVz11 dcz11 pmz11 cdz11 ctz11 ocz12 kVz12 dcz12 pmz12 cdz12 ctz12 ocz13 kVz13 dcz13 pmz13 cdz13 ctz13 ocz14 kVz14 dcz14 pmz14 cdz14 ctz14 ocz15 kVz15 dcz15 pmz15 cdz15 ctz15 ocz16 kVz16 dcz16 pmz16 cdz16 ctz16 ocz17 kVz17 dcz17 pmz17 cdz17 ctz17 ocz18 kVz18 dcz18 pmz18 cdz18 ctz18 ocz19 kVz19 dcz19 pmz19 cdz19 ctz19 ocz20 kVz20 dcz20 pmz20 cdz20 ctz20 ocz21 kVz21 dcz21 pmz21 cdz21 ctz21 ocz22 kVz22 dcz22 pmz22 cdz22 ctz22 ocz23 kVz23 dcz23 pmz23 cdz23 ctz23 ocz24 kVz24 dcz24 pmz24 cdz24 ctz24 ocz25 kVz25 dcz25 pmz25 cdz25 ctz25 ocz26 kVz26 dcz26 pmz26 cdz26 ctz26 ocz27 kVz27 dcz27 pmz27 cdz27 ctz27 ocz28 kVz28 dcz28 pmz28 cdz28 ctz28 ocz29 kVz29 dcz29 pmz29 cdz29 ctz29 ocz30 kVz30 dcz30 pmz30 cdz30 ctz30 ocz31 kVz31 dcz31 pmz31 cdz31 ctz31 ocz32 kVz32 dcz32 pmz32 cdz32 ctz32 ocz33 kVz33 dcz33 pmz33 cdz33 ctz33 ocz34 kVz34 dcz34 pmz34 cdz34 ctz34 ocz35 kVz35 dcz35 pmz35 cdz35 ctz35 ocz36 kVz36 dcz36 pmz36 cdz36 ctz36:Value}
  (pz0:Pm K "telling" Qc fz0 ocz0 odz0 kVz0 dcz0 pmz0 anz0 cdz0 ctz0 slz0)
  (pz1:Pm K "taken" zab fz1 ocz1 odz1 kVz1 dcz1 pmz1 anz1 cdz1 ctz1 slz1)
  (pz2:Pm K "word_told" Wo fz2 ocz2 odz2 kVz2 dcz2 pmz2 anz2 cdz2 ctz2 slz2)
  (pz3:Pm K "put_together" Xb fz3 ocz3 odz3 kVz3 dcz3 pmz3 anz3 cdz3 ctz3 slz3)
  (pz4:Pm K "is_open" JS fz4 ocz4 odz4 kVz4 dcz4 pmz4 anz4 cdz4 ctz4 slz4)
  (pz5:Pm K "answer" QX fz5 ocz5 odz5 kVz5 dcz5 pmz5 anz5 cdz5 ctz5 slz5)
  (pz6:Pm K "one_then_other" YH fz6 ocz6 odz6 kVz6 dcz6 pmz6 anz6 cdz6 ctz6 slz6)
  (pz7:Pm K "turned_about" Xd fz7 ocz7 odz7 kVz7 dcz7 pmz7 anz7 cdz7 ctz7 slz7)
  (pz8:Pm K "picked" Q3 fz8 ocz8 odz8 kVz8 dcz8 pmz8 anz8 cdz8 ctz8 slz8)
  (pz9:Pm K "settled_by" Xl fz9 ocz9 odz9 kVz9 dcz9 pmz9 anz9 cdz9 ctz9 slz9)
  (pz10:Pm K "many_ahead" XN fz10 ocz10 odz10 kVz10 dcz10 pmz10 anz10 cdz10 ctz10 slz10)
  (pz11:Pm K "compared" W8 fz11 ocz11 odz11 kVz11 dcz11 pmz11 anz11 cdz11 ctz11 slz11)
  (pz12:Pm K "how_stands" XX fz12 ocz12 odz12 kVz12 dcz12 pmz12 anz12 cdz12 ctz12 slz12)
  (pz13:Pm K "looked" YK fz13 ocz13 odz13 kVz13 dcz13 pmz13 anz13 cdz13 ctz13 slz13)
  (pz14:Pm K "each_once" Wq fz14 ocz14 odz14 kVz14 dcz14 pmz14 anz14 cdz14 ctz14 slz14)
  (pz15:Pm K "table_of" Wg fz15 ocz15 odz15 kVz15 dcz15 pmz15 anz15 cdz15 ctz15 slz15)
  (pz16:Pm K "looks_of" Wi fz16 ocz16 odz16 kVz16 dcz16 pmz16 anz16 cdz16 ctz16 slz16)
  (pz17:Pm K "looks_agree" Xx fz17 ocz17 odz17 kVz17 dcz17 pmz17 anz17 cdz17 ctz17 slz17)
  (pz18:Pm K "against_ranks" YS fz18 ocz18 odz18 kVz18 dcz18 pmz18 anz18 cdz18 ctz18 slz18)
  (pz19:Pm K "three_against" Yw fz19 ocz19 odz19 kVz19 dcz19 pmz19 anz19 cdz19 ctz19 slz19)
  (pz20:Pm K "picked_out" X5 fz20 ocz20 odz20 kVz20 dcz20 pmz20 anz20 cdz20 ctz20 slz20)
  (pz21:Pm K "ranks_in" Wj fz21 ocz21 odz21 kVz21 dcz21 pmz21 anz21 cdz21 ctz21 slz21)
  (pz22:Pm K "by_size" JW fz22 ocz22 odz22 kVz22 dcz22 pmz22 anz22 cdz22 ctz22 slz22)
  (pz23:Pm K "turning" Jg fz23 ocz23 odz23 kVz23 dcz23 pmz23 anz23 cdz23 ctz23 slz23)
  (pz24:Pm K "ranks_of" Wh fz24 ocz24 odz24 kVz24 dcz24 pmz24 anz24 cdz24 ctz24 slz24)
  (pz25:Pm K "back" zcJ fz25 ocz25 odz25 kVz25 dcz25 pmz25 anz25 cdz25 ctz25 slz25)
  (pz26:Pm K "turned" Qj fz26 ocz26 odz26 kVz26 dcz26 pmz26 anz26 cdz26 ctz26 slz26)
  (pz27:Pm K "crossed" Jc fz27 ocz27 odz27 kVz27 dcz27 pmz27 anz27 cdz27 ctz27 slz27)
  (pz28:Pm K "_law_next" Wn fz28 ocz28 odz28 kVz28 dcz28 pmz28 anz28 cdz28 ctz28 slz28)
  (pz29:Pm K "_law_fraction" YX fz29 ocz29 odz29 kVz29 dcz29 pmz29 anz29 cdz29 ctz29 slz29)
  (pz30:Pm K "_law_book" Wu fz30 ocz30 odz30 kVz30 dcz30 pmz30 anz30 cdz30 ctz30 slz30)
  (pz31:Pm K "_law_pool" XC fz31 ocz31 odz31 kVz31 dcz31 pmz31 anz31 cdz31 ctz31 slz31)
  (pz32:Pm K "_law_row" We fz32 ocz32 odz32 kVz32 dcz32 pmz32 anz32 cdz32 ctz32 slz32)
  (pz33:Pm K "_law_case" Ww fz33 ocz33 odz33 kVz33 dcz33 pmz33 anz33 cdz33 ctz33 slz33)
  (pz34:Pm K "_law_order" XQ fz34 ocz34 odz34 kVz34 dcz34 pmz34 anz34 cdz34 ctz34 slz34)
  (pz35:Pm K "_law_mixed" XR fz35 ocz35 odz35 kVz35 dcz35 pmz35 anz35 cdz35 ctz35 slz35)
  (pz36:Pm K "law" zdC fz36 ocz36 odz36 kVz36 dcz36 pmz36 anz36 cdz36 ctz36 slz36)
  (qz13:cdz13 = .ref 172) (hz13:PySem.W.codeHdIn K 172 168=true) (nz13:K.lookup 168=none)
  (qz23:cdz23 = .ref 232) (hz23:PySem.W.codeHdIn K 232 228=true) (nz23:K.lookup 228=none)
  (qz27:cdz27 = .ref 256) (hz27:PySem.W.codeHdIn K 256 252=true) (nz27:K.lookup 252=none)
  (z_len:PySem.W.nsIn K mainGlobals "len" = some none)
  (z_range:PySem.W.nsIn K mainGlobals "range" = some none)
  (z_tuple:PySem.W.nsIn K mainGlobals "tuple" = some none)
  (z_isinstance:PySem.W.nsIn K mainGlobals "isinstance" = some none)
  (z_list:PySem.W.nsIn K mainGlobals "list" = some none)
  (z_reversed:PySem.W.nsIn K mainGlobals "reversed" = some none)
  (z_enumerate:PySem.W.nsIn K mainGlobals "enumerate" = some none)
  (z_zip:PySem.W.nsIn K mainGlobals "zip" = some none)
  (z_sorted:PySem.W.nsIn K mainGlobals "sorted" = some none)
  {aW:Addr}{esW:Array DictEntry}{nW:Nat}
  (aWo:PySem.W.nsIn K mainGlobals "WORDS" = some (some (.ref aW))) (lWo:K.lookup aW=some ⟨.type "dict",none,.dict esW nW,#[]⟩) (kWo:PySem.W.KeysLit w.params esW.toList) (oWo:(aW==sysModules)=false) (vWo:zcc K esW.toList Ord.U4=true)
  {aA:Addr}{esA:Array DictEntry}{nA:Nat}
  (aAo:PySem.W.nsIn K mainGlobals "AHEAD" = some (some (.ref aA))) (lAo:K.lookup aA=some ⟨.type "dict",none,.dict esA nA,#[]⟩) (kAo:PySem.W.KeysLit w.params esA.toList) (oAo:(aA==sysModules)=false) (vAo:zcS esA.toList JG=true)
  {aO:Addr}{esO:Array DictEntry}{nO:Nat}
  (aOo:PySem.W.nsIn K mainGlobals "OTHER_WAY" = some (some (.ref aO))) (lOo:K.lookup aO=some ⟨.type "dict",none,.dict esO nO,#[]⟩) (kOo:PySem.W.KeysLit w.params esO.toList) (oOo:(aO==sysModules)=false) (vOo:zcS esO.toList Jh=true)
  (tt:PySem.W.kitOne K (.type "tuple") (.type "tuple")=some true)
  (st:PySem.W.kitOne K (.type "str") (.type "tuple")=some false)
  (bt:PySem.W.kitOne K (.type "bool") (.type "tuple")=some false):
  ∃ fd:FuncData,(∀ (s:Shared) (v:Value),BindsTo s fd ⟨[v],[]⟩ [("script",v)])/\((∀ p∈tabs,K.lookup p.1=none)/\(∀ p∈tabs,isCodeTable h p.1)/\(tabs.map (·.1)).Nodup)/\∀ base:Heap,K.In base->base.Ns mainGlobals mg->Bs K mg base->Yi l.prog w K mg base CX0 11 fa fd ["script"] (zen K tabs):=by
 have e:=hfa.symm.trans (PySem.W.mg_of X G pz36.a)
 cases e
 obtain ⟨W⟩:=Ord.zmB (P:=w.params) (PySem.W.mg_of X G aWo) lWo kWo oWo vWo
 obtain ⟨W1⟩:=zjw (P:=w.params) (PySem.W.mg_of X G aAo) lAo kAo oAo vAo
 obtain ⟨W2⟩:=zjw (P:=w.params) (PySem.W.mg_of X G aOo) lOo kOo oOo vOo
 exact ⟨PySem.W.fnOf "law" "law" (Qd zdC) (Y5 zdC) (Zm zdC) .none kVz36 dcz36 pmz36 anz36 cdz36 ctz36,λs v=>.of_eq rfl,⟨(List.forall_mem_cons.mpr ⟨nz13,(List.forall_mem_cons.mpr ⟨nz23,(List.forall_mem_cons.mpr ⟨nz27,(λ_ h=>nomatch h)⟩)⟩)⟩),(List.forall_mem_cons.mpr ⟨zbA X hz13,(List.forall_mem_cons.mpr ⟨zbA X hz23,(List.forall_mem_cons.mpr ⟨zbA X hz27,(λ_ h=>nomatch h)⟩)⟩)⟩),by decide⟩,λbase _ _ M=>znn (ZC (st:=zdC) pz36.l pz36.c pz36.k)
  ⟨fz0,_,(ZC (st:=Qc) pz0.l pz0.c pz0.k),(ZC (st:=Qc) pz0.l pz0.c pz0.k).binds (ps:=["order", "by_field", "by_mark"]) λ_ _ _ _ _ _ us hl=>match us,hl with | [_,_,_],_=>rfl,PySem.W.mg_of X G pz0.a,
   fz1,_,(ZC (st:=zab) pz1.l pz1.c pz1.k),(ZC (st:=zab) pz1.l pz1.c pz1.k).binds (ps:=["told", "many"]) λ_ _ _ _ _ _ us hl=>match us,hl with | [_,_],_=>rfl,PySem.W.mg_of X G pz1.a,
   fz2,_,(ZC (st:=Wo) pz2.l pz2.c pz2.k),(ZC (st:=Wo) pz2.l pz2.c pz2.k).binds (ps:=["word", "parts", "by_field", "by_mark"]) λ_ _ _ _ _ _ us hl=>match us,hl with | [_,_,_,_],_=>rfl,PySem.W.mg_of X G pz2.a,
   fz3,_,(ZC (st:=Xb) pz3.l pz3.c pz3.k),(ZC (st:=Xb) pz3.l pz3.c pz3.k).binds (ps:=["word", "parts"]) λ_ _ _ _ _ _ us hl=>match us,hl with | [_,_],_=>rfl,PySem.W.mg_of X G pz3.a,
   fz4,_,(ZC (st:=JS) pz4.l pz4.c pz4.k),(ZC (st:=JS) pz4.l pz4.c pz4.k).binds (ps:=["part"]) λ_ _ _ _ _ _ us hl=>match us,hl with | [_],_=>rfl,PySem.W.mg_of X G pz4.a,
   fz5,_,(ZC (st:=QX) pz5.l pz5.c pz5.k),(ZC (st:=QX) pz5.l pz5.c pz5.k).binds (ps:=["word", "how"]) λ_ _ _ _ _ _ us hl=>match us,hl with | [_,_],_=>rfl,PySem.W.mg_of X G pz5.a,
   fz6,_,(ZC (st:=YH) pz6.l pz6.c pz6.k),(ZC (st:=YH) pz6.l pz6.c pz6.k).binds (ps:=["one", "other"]) λ_ _ _ _ _ _ us hl=>match us,hl with | [_,_],_=>rfl,PySem.W.mg_of X G pz6.a,
   fz7,_,(ZC (st:=Xd) pz7.l pz7.c pz7.k),(ZC (st:=Xd) pz7.l pz7.c pz7.k).binds (ps:=["part"]) λ_ _ _ _ _ _ us hl=>match us,hl with | [_],_=>rfl,PySem.W.mg_of X G pz7.a,
   fz8,_,(ZC (st:=Q3) pz8.l pz8.c pz8.k),(ZC (st:=Q3) pz8.l pz8.c pz8.k).binds (ps:=["case", "one", "other"]) λ_ _ _ _ _ _ us hl=>match us,hl with | [_,_,_],_=>rfl,PySem.W.mg_of X G pz8.a,
   fz9,_,(ZC (st:=Xl) pz9.l pz9.c pz9.k),(ZC (st:=Xl) pz9.l pz9.c pz9.k).binds (ps:=["truth", "word", "parts"]) λ_ _ _ _ _ _ us hl=>match us,hl with | [_,_,_],_=>rfl,PySem.W.mg_of X G pz9.a,
   fz10,_,(ZC (st:=XN) pz10.l pz10.c pz10.k),(ZC (st:=XN) pz10.l pz10.c pz10.k).binds (ps:=["places", "lies_ahead"]) λ_ _ _ _ _ _ us hl=>match us,hl with | [_,_],_=>rfl,PySem.W.mg_of X G pz10.a,
   fz11,_,(ZC (st:=W8) pz11.l pz11.c pz11.k),(ZC (st:=W8) pz11.l pz11.c pz11.k).binds (ps:=["one", "other"]) λ_ _ _ _ _ _ us hl=>match us,hl with | [_,_],_=>rfl,PySem.W.mg_of X G pz11.a,
   fz12,_,(ZC (st:=XX) pz12.l pz12.c pz12.k),(ZC (st:=XX) pz12.l pz12.c pz12.k).binds (ps:=["one", "other"]) λ_ _ _ _ _ _ us hl=>match us,hl with | [_,_],_=>rfl,PySem.W.mg_of X G pz12.a,
   fz13,_,(ZC (st:=YK) pz13.l pz13.c pz13.k),(ZC (st:=YK) pz13.l pz13.c pz13.k).binds (ps:=["order", "book", "first", "second"]) λ_ _ _ _ _ _ us hl=>match us,hl with | [_,_,_,_],_=>rfl,PySem.W.mg_of X G pz13.a,
   fz14,_,(ZC (st:=Wq) pz14.l pz14.c pz14.k),(ZC (st:=Wq) pz14.l pz14.c pz14.k).binds (ps:=["things"]) λ_ _ _ _ _ _ us hl=>match us,hl with | [_],_=>rfl,PySem.W.mg_of X G pz14.a,
   fz15,_,(ZC (st:=Wg) pz15.l pz15.c pz15.k),(ZC (st:=Wg) pz15.l pz15.c pz15.k).binds (ps:=["order", "book", "things"]) λ_ _ _ _ _ _ us hl=>match us,hl with | [_,_,_],_=>rfl,PySem.W.mg_of X G pz15.a,
   fz16,_,(ZC (st:=Wi) pz16.l pz16.c pz16.k),(ZC (st:=Wi) pz16.l pz16.c pz16.k).binds (ps:=["order", "book", "one", "things"]) λ_ _ _ _ _ _ us hl=>match us,hl with | [_,_,_,_],_=>rfl,PySem.W.mg_of X G pz16.a,
   fz17,_,(ZC (st:=Xx) pz17.l pz17.c pz17.k),(ZC (st:=Xx) pz17.l pz17.c pz17.k).binds (ps:=["table"]) λ_ _ _ _ _ _ us hl=>match us,hl with | [_],_=>rfl,PySem.W.mg_of X G pz17.a,
   fz18,_,(ZC (st:=YS) pz18.l pz18.c pz18.k),(ZC (st:=YS) pz18.l pz18.c pz18.k).binds (ps:=["table"]) λ_ _ _ _ _ _ us hl=>match us,hl with | [_],_=>rfl,PySem.W.mg_of X G pz18.a,
   fz19,_,(ZC (st:=Yw) pz19.l pz19.c pz19.k),(ZC (st:=Yw) pz19.l pz19.c pz19.k).binds (ps:=["table"]) λ_ _ _ _ _ _ us hl=>match us,hl with | [_],_=>rfl,PySem.W.mg_of X G pz19.a,
   fz20,_,(ZC (st:=X5) pz20.l pz20.c pz20.k),(ZC (st:=X5) pz20.l pz20.c pz20.k).binds (ps:=["row", "places"]) λ_ _ _ _ _ _ us hl=>match us,hl with | [_,_],_=>rfl,PySem.W.mg_of X G pz20.a,
   fz21,_,(ZC (st:=Wj) pz21.l pz21.c pz21.k),(ZC (st:=Wj) pz21.l pz21.c pz21.k).binds (ps:=["table"]) λ_ _ _ _ _ _ us hl=>match us,hl with | [_],_=>rfl,PySem.W.mg_of X G pz21.a,
   fz22,_,(ZC (st:=JW) pz22.l pz22.c pz22.k),(ZC (st:=JW) pz22.l pz22.c pz22.k).binds (ps:=["one", "other"]) λ_ _ _ _ _ _ us hl=>match us,hl with | [_,_],_=>rfl,PySem.W.mg_of X G pz22.a,
   fz23,_,(ZC (st:=Jg) pz23.l pz23.c pz23.k),(ZC (st:=Jg) pz23.l pz23.c pz23.k).binds (ps:=["order", "book", "row"]) λ_ _ _ _ _ _ us hl=>match us,hl with | [_,_,_],_=>rfl,PySem.W.mg_of X G pz23.a,
   fz24,_,(ZC (st:=Wh) pz24.l pz24.c pz24.k),(ZC (st:=Wh) pz24.l pz24.c pz24.k).binds (ps:=["order", "book", "row"]) λ_ _ _ _ _ _ us hl=>match us,hl with | [_,_,_],_=>rfl,PySem.W.mg_of X G pz24.a,
   fz25,_,(ZC (st:=zcJ) pz25.l pz25.c pz25.k),(ZC (st:=zcJ) pz25.l pz25.c pz25.k).binds (ps:=["turn"]) λ_ _ _ _ _ _ us hl=>match us,hl with | [_],_=>rfl,PySem.W.mg_of X G pz25.a,
   fz26,_,(ZC (st:=Qj) pz26.l pz26.c pz26.k),(ZC (st:=Qj) pz26.l pz26.c pz26.k).binds (ps:=["row", "turn"]) λ_ _ _ _ _ _ us hl=>match us,hl with | [_,_],_=>rfl,PySem.W.mg_of X G pz26.a,
   fz27,_,(ZC (st:=Jc) pz27.l pz27.c pz27.k),(ZC (st:=Jc) pz27.l pz27.c pz27.k).binds (ps:=["order", "book", "row"]) λ_ _ _ _ _ _ us hl=>match us,hl with | [_,_,_],_=>rfl,PySem.W.mg_of X G pz27.a,
   fz28,_,(ZC (st:=Wn) pz28.l pz28.c pz28.k),(ZC (st:=Wn) pz28.l pz28.c pz28.k).binds (ps:=["deck"]) λ_ _ _ _ _ _ us hl=>match us,hl with | [_],_=>rfl,PySem.W.mg_of X G pz28.a,
   fz29,_,(ZC (st:=YX) pz29.l pz29.c pz29.k),(ZC (st:=YX) pz29.l pz29.c pz29.k).binds (ps:=["deck"]) λ_ _ _ _ _ _ us hl=>match us,hl with | [_],_=>rfl,PySem.W.mg_of X G pz29.a,
   fz30,_,(ZC (st:=Wu) pz30.l pz30.c pz30.k),(ZC (st:=Wu) pz30.l pz30.c pz30.k).binds (ps:=["deck"]) λ_ _ _ _ _ _ us hl=>match us,hl with | [_],_=>rfl,PySem.W.mg_of X G pz30.a,
   fz31,_,(ZC (st:=XC) pz31.l pz31.c pz31.k),(ZC (st:=XC) pz31.l pz31.c pz31.k).binds (ps:=["deck"]) λ_ _ _ _ _ _ us hl=>match us,hl with | [_],_=>rfl,PySem.W.mg_of X G pz31.a,
   fz32,_,(ZC (st:=We) pz32.l pz32.c pz32.k),(ZC (st:=We) pz32.l pz32.c pz32.k).binds (ps:=["deck", "book", "pool", "most"]) λ_ _ _ _ _ _ us hl=>match us,hl with | [_,_,_,_],_=>rfl,PySem.W.mg_of X G pz32.a,
   fz33,_,(ZC (st:=Ww) pz33.l pz33.c pz33.k),(ZC (st:=Ww) pz33.l pz33.c pz33.k).binds (ps:=["deck", "field", "pool"]) λ_ _ _ _ _ _ us hl=>match us,hl with | [_,_,_],_=>rfl,PySem.W.mg_of X G pz33.a,
   fz34,_,(ZC (st:=XQ) pz34.l pz34.c pz34.k),(ZC (st:=XQ) pz34.l pz34.c pz34.k).binds (ps:=["deck", "book", "pool", "deep"]) λ_ _ _ _ _ _ us hl=>match us,hl with | [_,_,_,_],_=>rfl,PySem.W.mg_of X G pz34.a,
   fz35,_,(ZC (st:=XR) pz35.l pz35.c pz35.k),(ZC (st:=XR) pz35.l pz35.c pz35.k).binds (ps:=["deck", "row"]) λ_ _ _ _ _ _ us hl=>match us,hl with | [_,_],_=>rfl,PySem.W.mg_of X G pz35.a,
   172,168,qz13,hz13,
   232,228,qz23,hz23,
   256,252,qz27,hz27,
   PySem.W.mg_none_of X G z_len,
   PySem.W.mg_none_of X G z_range,
   PySem.W.mg_none_of X G z_tuple,
   PySem.W.mg_none_of X G z_isinstance,
   PySem.W.mg_none_of X G z_list,
   PySem.W.mg_none_of X G z_reversed,
   PySem.W.mg_none_of X G z_enumerate,
   PySem.W.mg_none_of X G z_zip,
   PySem.W.mg_none_of X G z_sorted,
   tt,
   st,
   bt⟩ W W1 W2 M⟩
theorem walk {l:PySem.W.OpenLaw}{q:Program}{loose:List Str}{XP:(Str->Option Value)->Heap->Prop}{YP:World->Heap->Prop}{d:DefRec}{K:Params->PySem.W.Frag}(hn:l.most=some 63)(hdf:d.params.defaults=[])
  (hY:∀ (w:World) (h:Heap),YP w h->(K w.params).In h/\∀ p∈tabs,h.get? p.1=some { cls:=.none,data:=.fields #[] })
  (F:∀ (w:World) (mg:Str->Option Value) (fa:Addr) (h:Heap),(K w.params).In h->h.Ns mainGlobals mg->mg d.name=some (.ref fa)->
   ∃ fd:FuncData,(∀ (s:Shared) (u:Value),BindsTo s fd ⟨[u],[]⟩ [("script",u)])/\((∀ p∈tabs,(K w.params).lookup p.1=none)/\(∀ p∈tabs,isCodeTable h p.1)/\(tabs.map (·.1)).Nodup)/\∀ base:Heap,(K w.params).In base->base.Ns mainGlobals mg->Bs (K w.params) mg base->Yi l.prog w (K w.params) mg base CX0 11 fa fd ["script"] (zen (K w.params) tabs)):
  PySem.W.WalkO q loose XP YP l.row.toRowW d [] (λf vs=>PySem.call f vs):=
 L2.zi4 (n:=63) (k:=11) (x:= "script") (sp:=λw=>zen (K w.params) tabs) (λ_=>tabs) hn (by decide) hdf ⟨rfl,by decide,by decide⟩ hY F (λ_ _ a ns hl hT hS=>⟨a,ns,rfl,hS,hl,hT,λ_=>rfl⟩)
end K32
def PySem.W.Fast.tw11123622827412930888:Nat:=0
def PySem.W.Fast.tw14299142529006612107:Nat:=0
def PySem.W.Fast.tw4702985979371889264:Nat:=0
def PySem.W.Fast.tw4180425172832261522:Nat:=0
def PySem.W.Fast.tw3508212761233502550:Nat:=0
def PySem.W.Fast.tw15333898778714884888:Nat:=0
def PySem.W.Fast.tw2627483715552884729:Nat:=0
def PySem.W.Fast.tw16468322774464881850:Nat:=0
def PySem.W.Fast.tw6189119485249478837:Nat:=0
def PySem.W.Fast.tw17214067443258241188:Nat:=0
def PySem.W.Fast.tw14265073643203634920:Nat:=0
def PySem.W.Fast.tw14352111583531540907:Nat:=0
def PySem.W.Fast.tw16779585677147448685:Nat:=0
def PySem.W.Fast.tw17425669477963764464:Nat:=0
def PySem.W.Fast.tw2403503475198071453:Nat:=0
def PySem.W.Fast.tw11172238817875766622:Nat:=0
open PySem PySem.W PyProof.Rows
set_option maxRecDepth 100000 in
set_option maxHeartbeats 0 in
theorem PySem.Challenge.cw_ordertext_k32_whole_in_order_holds : PySem.Challenge.rw_ordertext_k32_whole_in_order.Holds := by
 w_on;o_law;k_head;(case hw=>w_witness2)
 k_fill
 refine K32.walk (l:=PySem.Challenge.rw_ordertext_k32_whole_in_order) rfl rfl (λw h Y=>⟨PySem.W.km_in_of Y,(List.forall_mem_cons.mpr ⟨PySem.W.km_tabs_of Y _ (by first | k_mem | simp),(List.forall_mem_cons.mpr ⟨PySem.W.km_tabs_of Y _ (by first | k_mem | simp),(List.forall_mem_cons.mpr ⟨PySem.W.km_tabs_of Y _ (by first | k_mem | simp),(λ_ h=>nomatch h)⟩)⟩)⟩)⟩) ?F
 case F=>
  intro w mg fa h KX G hmg
  refine' K32.zma KX G hmg ?pz0 ?pz1 ?pz2 ?pz3 ?pz4 ?pz5 ?pz6 ?pz7 ?pz8 ?pz9 ?pz10 ?pz11 ?pz12 ?pz13 ?pz14 ?pz15 ?pz16 ?pz17 ?pz18 ?pz19 ?pz20 ?pz21 ?pz22 ?pz23 ?pz24 ?pz25 ?pz26 ?pz27 ?pz28 ?pz29 ?pz30 ?pz31 ?pz32 ?pz33 ?pz34 ?pz35 ?pz36 ?qz13 ?hz13 ?nz13 ?qz23 ?hz23 ?nz23 ?qz27 ?hz27 ?nz27 ?z_len ?z_range ?z_tuple ?z_isinstance ?z_list ?z_reversed ?z_enumerate ?z_zip ?z_sorted ?aWo ?lWo ?kWo ?oWo ?vWo ?aAo ?lAo ?kAo ?oAo ?vAo ?aOo ?lOo ?kOo ?oOo ?vOo ?tt ?st ?bt
  (case pz0=>exact ⟨by k_is,by k_is,by k_is,by k_is⟩)
  (case pz1=>exact ⟨by k_is,by k_is,by k_is,by k_is⟩)
  (case pz2=>exact ⟨by k_is,by k_is,by k_is,by k_is⟩)
  (case pz3=>exact ⟨by k_is,by k_is,by k_is,by k_is⟩)
  (case pz4=>exact ⟨by k_is,by k_is,by k_is,by k_is⟩)
  (case pz5=>exact ⟨by k_is,by k_is,by k_is,by k_is⟩)
  (case pz6=>exact ⟨by k_is,by k_is,by k_is,by k_is⟩)
  (case pz7=>exact ⟨by k_is,by k_is,by k_is,by k_is⟩)
  (case pz8=>exact ⟨by k_is,by k_is,by k_is,by k_is⟩)
  (case pz9=>exact ⟨by k_is,by k_is,by k_is,by k_is⟩)
  (case pz10=>exact ⟨by k_is,by k_is,by k_is,by k_is⟩)
  (case pz11=>exact ⟨by k_is,by k_is,by k_is,by k_is⟩)
  (case pz12=>exact ⟨by k_is,by k_is,by k_is,by k_is⟩)
  (case pz13=>exact ⟨by k_is,by k_is,by k_is,by k_is⟩)
  (case pz14=>exact ⟨by k_is,by k_is,by k_is,by k_is⟩)
  (case pz15=>exact ⟨by k_is,by k_is,by k_is,by k_is⟩)
  (case pz16=>exact ⟨by k_is,by k_is,by k_is,by k_is⟩)
  (case pz17=>exact ⟨by k_is,by k_is,by k_is,by k_is⟩)
  (case pz18=>exact ⟨by k_is,by k_is,by k_is,by k_is⟩)
  (case pz19=>exact ⟨by k_is,by k_is,by k_is,by k_is⟩)
  (case pz20=>exact ⟨by k_is,by k_is,by k_is,by k_is⟩)
  (case pz21=>exact ⟨by k_is,by k_is,by k_is,by k_is⟩)
  (case pz22=>exact ⟨by k_is,by k_is,by k_is,by k_is⟩)
  (case pz23=>exact ⟨by k_is,by k_is,by k_is,by k_is⟩)
  (case pz24=>exact ⟨by k_is,by k_is,by k_is,by k_is⟩)
  (case pz25=>exact ⟨by k_is,by k_is,by k_is,by k_is⟩)
  (case pz26=>exact ⟨by k_is,by k_is,by k_is,by k_is⟩)
  (case pz27=>exact ⟨by k_is,by k_is,by k_is,by k_is⟩)
  (case pz28=>exact ⟨by k_is,by k_is,by k_is,by k_is⟩)
  (case pz29=>exact ⟨by k_is,by k_is,by k_is,by k_is⟩)
  (case pz30=>exact ⟨by k_is,by k_is,by k_is,by k_is⟩)
  (case pz31=>exact ⟨by k_is,by k_is,by k_is,by k_is⟩)
  (case pz32=>exact ⟨by k_is,by k_is,by k_is,by k_is⟩)
  (case pz33=>exact ⟨by k_is,by k_is,by k_is,by k_is⟩)
  (case pz34=>exact ⟨by k_is,by k_is,by k_is,by k_is⟩)
  (case pz35=>exact ⟨by k_is,by k_is,by k_is,by k_is⟩)
  (case pz36=>exact ⟨by k_is,by k_is,by k_is,by k_is⟩)
  (case qz13=>first | rfl | kernel_rfl | k_is)
  (case hz13=>first | rfl | kernel_rfl | k_is)
  (case nz13=>first | rfl | kernel_rfl | k_is)
  (case qz23=>first | rfl | kernel_rfl | k_is)
  (case hz23=>first | rfl | kernel_rfl | k_is)
  (case nz23=>first | rfl | kernel_rfl | k_is)
  (case qz27=>first | rfl | kernel_rfl | k_is)
  (case hz27=>first | rfl | kernel_rfl | k_is)
  (case nz27=>first | rfl | kernel_rfl | k_is)
  (case z_len=>k_is)
  (case z_range=>k_is)
  (case z_tuple=>k_is)
  (case z_isinstance=>k_is)
  (case z_list=>k_is)
  (case z_reversed=>k_is)
  (case z_enumerate=>k_is)
  (case z_zip=>k_is)
  (case z_sorted=>k_is)
  (case aWo=>k_is)
  (case lWo=>k_is)
  (case kWo=>k_keys)
  (case oWo=>decide)
  (case vWo=>kernel_rfl)
  (case aAo=>k_is)
  (case lAo=>k_is)
  (case kAo=>k_keys)
  (case oAo=>decide)
  (case vAo=>kernel_rfl)
  (case aOo=>k_is)
  (case lOo=>k_is)
  (case kOo=>k_keys)
  (case oOo=>decide)
  (case vOo=>kernel_rfl)
  (case tt=>first | kit_is | k_is | rfl)
  (case st=>first | kit_is | k_is | rfl)
  (case bt=>first | kit_is | k_is | rfl)
