import PyProof.Rows.All
import Wide.All
import OpenK.AllK
import Wide.FinOn
import Lean
import PyProof.EqAt
import PyProof.EqKinds
import PyProof.TupleCall
import PySem.Challenge.RW_ordertext_k46_led
set_option Elab.async false
set_option linter.all false
set_option maxRecDepth 100000
open PySem.Around (frames_deeper)
open Array (length_toList mem_toList_iff toList_append)
open Bool (and_eq_true false_eq_true)
open PySem.Heap (ExtBut SameBut get?_push_of_some get?_push_size lt_size size_push)
open Int (eq_ofNat_of_zero_le natAbs_mul toNat_natCast)
open List (any_cons append_assoc append_nil cons_append drop_zero filterMap_cons find?_cons flatten_cons forall_mem_cons getD_eq_getElem?_getD getElem?_append_left getElem?_append_right getElem?_cons_succ getElem?_eq_getElem getElem?_map getElem?_set_ne getElem?_set_self length_append length_cons length_drop length_map length_range length_replicate length_reverse length_set length_take lookup_cons map_append map_cons map_drop map_map map_nil map_set map_take mem_append mem_append_right mem_cons mem_cons_of_mem mem_cons_self mem_map mem_of_mem_take mem_range mem_replicate mem_singleton nodup_append nodup_cons of_mem_zip replicate_succ reverse_cons size_toArray take_length take_of_length_le take_succ)
open Nat (gcd_comm le_of_lt le_succ le_trans lt_irrefl lt_of_le_of_lt lt_trans ne_of_lt pow_lt_pow_right zero_le)
open Option (isSome_iff_exists map_eq_some_iff map_some)
open PySem.F (plainAttrs_list)
open PySem.Spec (sameAll samePairs same_self)
open PySem.W (CodeHd KeysLit callWith_F callWith_K cellsFrom_some codeHdIn codeHd_of_K codeIn codeRec_of findIn fnMade instObj keepIn kia_one kitOne kitx_dict kitx_list kitx_tuple kla_fn kla_obj km_tabs_of lookIn methodObj mg_none_of mg_of plainGet)
noncomputable section
namespace L2
open PySem PySem.Spec PyProof.Rows
abbrev Key:=Sum Int Str
noncomputable def zck:Key->Value->Bool
 | .inl k,v=>Value.isInt k v
 | .inr x,v=>Value.isStrOf x v
noncomputable def zkd (w:World):Key->Int
 | .inl k=>hashInt k
 | .inr x=>hashStr w x
theorem Yy:∀ {k:Key}{v:Value},zck k v=true->(∃ i t,k=Sum.inl i/\v=Value.int i t)\/(∃ x t,k=Sum.inr x/\v=Value.str x t)
 | .inl i,v,h=>by
  obtain ⟨t,e⟩:=Value.isInt_shape (k:=i) (v:=v) h
  exact .inl ⟨i,t,rfl,e⟩
 | .inr x,v,h=>by
  obtain ⟨t,e⟩:=Value.isStrOf_shape (x:=x) (v:=v) h
  exact .inr ⟨x,t,rfl,e⟩
theorem zdP (i:Int)(t:Tok):zck (.inl i) (.int i t)=true:=by simp[zck,Value.isInt]
theorem zdr (x:Str)(t:Tok):zck (.inr x) (.str x t)=true:=by simp[zck,Value.isStrOf]
theorem ziD (a b:Int):decide ((Sum.inl a:Key)=Sum.inl b)=(a==b):=by
 by_cases e:a=b
 ·subst e;simp
 ·have h:¬ (Sum.inl a:Key)=Sum.inl b:=λq=>e (Sum.inl.inj q)
  rw[decide_eq_false h]
  exact (beq_eq_false_iff_ne.mpr e).symm
theorem zih (a b:Str):decide ((Sum.inr a:Key)=Sum.inr b)=decide (a=b):=by
 by_cases e:a=b
 ·subst e;simp
 ·have h:¬ (Sum.inr a:Key)=Sum.inr b:=λq=>e (Sum.inr.inj q)
  rw[decide_eq_false h,decide_eq_false e]
theorem ziH (a:Int)(b:Str):decide ((Sum.inl a:Key)=Sum.inr b)=false:=decide_eq_false (λq=>nomatch q)
theorem ziU (a:Str)(b:Int):decide ((Sum.inr a:Key)=Sum.inl b)=false:=decide_eq_false (λq=>nomatch q)
noncomputable def Jd (prog:Program) (w:World):PySem.KeyKind prog w Key where
 is:=zck
 hash:=zkd w
 inj:=λv a b ha hb=>by
  rcases Yy ha with ⟨i,t,rfl,rfl⟩ | ⟨x,t,rfl,rfl⟩
  ·rcases Yy hb with ⟨j,u,rfl,e⟩ | ⟨y,u,rfl,e⟩
   ·injection e with e1 _;rw[e1]
   ·exact nomatch e
  ·rcases Yy hb with ⟨j,u,rfl,e⟩ | ⟨y,u,rfl,e⟩
   ·exact nomatch e
   ·injection e with e1 _;rw[e1]
 byValue:=λk v h=>by
  rcases Yy h with ⟨i,t,rfl,rfl⟩ | ⟨x,t,rfl,rfl⟩ <;> rfl
 pyHash:=λhv h=>by
  rcases Yy hv with ⟨i,t,rfl,rfl⟩ | ⟨x,t,rfl,rfl⟩
  ·exact wpAny_pyHash_int h
  ·exact wpAny_pyHash_str h
 eqBool:=λhu hv h=>by
  rcases Yy hu with ⟨i,t,rfl,rfl⟩ | ⟨x,t,rfl,rfl⟩
  ·rcases Yy hv with ⟨j,u,rfl,rfl⟩ | ⟨y,u,rfl,rfl⟩
   ·rw[ziD] at h;exact wpAny_eqBool_int h
   ·rw[ziH] at h;exact SeqAt.EqAt.int_str i t y u _ _ _ _ h
  ·rcases Yy hv with ⟨j,u,rfl,rfl⟩ | ⟨y,u,rfl,rfl⟩
   ·rw[ziU] at h;exact SeqAt.EqAt.str_int x t j u _ _ _ _ h
   ·rw[zih] at h;exact wpAny_eqBool_str h
 «strs» := λk x t v h=>by
  rcases Yy h with ⟨i,u,rfl,e⟩ | ⟨y,u,rfl,e⟩
  ·exact nomatch e
  ·injection e with e1 _
   subst e1
   cases v <;> rfl
theorem zbf (prog:Program)(w:World)(i:Int)(t:Tok):(Jd prog w).is (.inl i) (.int i t)=true:=zdP i t
theorem zbp (prog:Program)(w:World)(x:Str)(t:Tok):(Jd prog w).is (.inr x) (.str x t)=true:=zdr x t
inductive V where
 | non | bl (b:Bool) | int (i:Int) | str (x:Str) | byt (b:Array UInt8) | flt (b:UInt64) | ref (a:Addr) | ty (n:String)
 deriving DecidableEq
def RelV:V->Value->Prop
 | .non,u=>u=Value.none
 | .bl b,u=>u=Value.bool b
 | .int i,u=>∃ t,u=Value.int i t
 | .str x,u=>∃ t,u=Value.str x t
 | .byt b,u=>∃ t,u=Value.bytes b t
 | .flt b,u=>∃ t,u=Value.float b t
 | .ref a,u=>u=Value.ref a
 | .ty n,u=>u=Value.type n
abbrev Vals:List V->List Value->Prop:=Paired RelV
theorem Vals.length {xs:List V}{us:List Value}(r:Vals xs us):xs.length=us.length:=Paired.length r
theorem Vals.get:∀ {xs:List V}{us:List Value}{i:Nat}{x:V},Vals xs us->xs[i]?=some x->∃ u,us[i]?=some u/\RelV x u
 | _,_,_,_,.nil,e=>by simp at e
 | _,_,0,_,.cons r _,e=>by simp at e;subst e;exact ⟨_,rfl,r⟩
 | _,_,i+1,x,.cons _ t,e=>by
  obtain ⟨u,h1,h2⟩:=Vals.get (i:=i) (x:=x) t (by simpa using e)
  exact ⟨u,by simpa using h1,h2⟩
theorem Vals.set {x:V}{u:Value}(r:RelV x u):∀ {xs:List V}{us:List Value}(i:Nat),Vals xs us->Vals (xs.set i x) (us.set i u)
 | _,_,_,.nil=>.nil
 | _,_,0,.cons _ t=>.cons r t
 | _,_,i+1,.cons q t=>.cons q (Vals.set r i t)
theorem Vals.append:∀ {xs ys:List V}{us ws:List Value},Vals xs us->Vals ys ws->Vals (xs++ys) (us++ws)
 | _,_,_,_,.nil,s=>s
 | _,_,_,_,.cons r t,s=>.cons r (Vals.append t s)
theorem Vals.take:∀ {xs:List V}{us:List Value}(n:Nat),Vals xs us->Vals (xs.take n) (us.take n)
 | _,_,0,_=>.nil
 | _,_,_+1,.nil=>.nil
 | _,_,n+1,.cons r t=>.cons r (Vals.take n t)
theorem Vals.drop:∀ {xs:List V}{us:List Value}(n:Nat),Vals xs us->Vals (xs.drop n) (us.drop n)
 | _,_,0,r=>r
 | _,_,_+1,.nil=>.nil
 | _,_,n+1,.cons _ t=>Vals.drop n t
def zjk:Option V->Option Value->Prop
 | some v,some u=>RelV v u
 | none,none=>True
 | _,_=>False
def KV {κ:Type}:List (κ×V)->List (κ×Value)->Prop:=Paired λ(p:κ×V) (q:κ×Value)=>p.1=q.1/\RelV p.2 q.2
noncomputable def kV:Key->V
 | .inl i=>.int i
 | .inr x=>.str x
inductive HO where
 
 | lst (xs:List V)
 
 | tup (xs:List V)
 
 | dK (kvs:List (Key×V)) | dT (kvs:List (List Key×V))
 
 | set (S:Int->Bool) (n:Nat)
 
 | ins (C dx:Addr) (fs:List (Str×V))
 
 | own (x:Addr)
 
 | xd (fs:List (Str×V))
 
 | met (f x:Addr)
 
 | rng (lo hi:Int)
 
 | frz (o:Obj) (u:HO)
 
 | tbl (cr:Nat->Nat->Option Str)
 
 | ext (φ:Heap->Prop)
abbrev Hp:=Addr->Option HO
noncomputable def upd (H:Hp) (a:Addr) (o:HO):Hp:=λb=>if b=a then some o else H b
theorem Zy {H:Hp}{a:Addr}{o:HO}:upd H a o a=some o:=by unfold upd;rw[if_pos rfl]
theorem ZC {H:Hp}{a b:Addr}{o:HO}(h:b≠a):upd H a o b=H b:=by unfold upd;rw[if_neg h]
theorem ZM {H:Hp}{a b:Addr}{o:HO}(h:H a=some o)(h' : H b=none):a≠b:=by
 intro e;subst e;rw[h] at h';cases h'
def zbC (oc:Obj)(q:Str):Prop:=∃ (vs:Array Value) (t:Tok),oc.data = .fields vs/\vs[1]?=some (.str q t)
def zfH (h:Heap)(a:Addr):Prop:=∃ o,h.get? a=some o/\o.dict=none
section
variable (P:Program)(w:World)
def X5 (H:Hp)(h:Heap)(a:Addr):HO->Prop
 | .lst xs=>xs.length<=sizeLine/\∃ (its:List Value) (n:Nat),Vals xs its/\h.get? a=some { cls:=.type "list",data:=.seq its.toArray n }
 | .tup xs=>xs.length<=sizeLine/\∃ its:List Value,Vals xs its/\IsTup h a its.toArray/\zfH h a
 | .dK kvs=>kvs.length<=sizeLine/\(a==sysModules)=false/\∃ vs,KV kvs vs/\h.DictOf (Jd P w) a vs
 | .dT kvs=>kvs.length<=sizeLine/\(a==sysModules)=false/\∃ xs:List (List Key×Addr×Value),
   Paired (λ(p:List Key×V) (q:List Key×Addr×Value)=>p.1=q.1/\H q.2.1=some (.tup (p.1.map kV))/\RelV p.2 q.2.2) kvs xs/\
   ∃ o es ep,h.get? a=some o/\o.ExactDict/\o.data = .dict es ep/\es.toList=xs.map (entryOfKey (tupleKind (Jd P w)))/\(xs.map (·.1)).Nodup
 | .set S n=>h.SetOf (intKind P w) a S n
 | .ins C dx fs=>H dx=some (.own a)/\fs.length<=1000/\dx≠a/\h.get? a=some (instObj C dx)/\
   ∃ mA,h.Ns1 dx mA/\(∀ f,zjk (fs.lookup f) (mA f))/\PySem.Within mA (fs.map (·.1))
 | .own _=>∃ o,h.get? a=some o
 | .xd fs=>∃ mA,h.Ns1 a mA/\∀ f,zjk (fs.lookup f) (mA f)
 | .rng lo hi=>∃ t u v,h.get? a=some { cls:=.type "range",data:=.fields #[.int lo t,.int hi u,.int 1 v] }
 | .frz o u=>h.get? a=some o/\X5 H h a u
 | .tbl cr=>∃ ps:Array Value,h.get? a=some { cls:=.none,data:=.fields ps }/\TriplesOk ps.toList/\∀ (pos:Pos) (v:Value),codeAmong pos ps.toList=some v->
   ∃ (c:Addr) (oc:Obj) (q:Str),v = .ref c/\cr pos.line pos.col=some q/\H c=some (.frz oc (.own c))/\zbC oc q
 | .met f x=>h.get? a=some (methodObj (.ref f) (.ref x))
 | .ext φ=>φ h/\(∃ o,h.get? a=some o)/\∀ h1 h2:Heap,φ h1->(∀ o,h1.get? a=some o->h2.get? a=some o)->φ h2
def HOk (H:Hp)(h:Heap):Prop:=∀ a o,H a=some o->X5 P w H h a o
end
section
variable {P:Program}{w:World}{H H' : Hp}{h h' : Heap}{a:Addr}{o:HO}
theorem X5.lt (x:X5 P w H h a o):a<h.objs.size:=by
 cases o with
 | lst xs=>obtain ⟨_,_,_,_,e⟩:=x;exact lt_size e
 | tup xs=>obtain ⟨_,_,_,p,_⟩:=x;exact p.lt
 | dK kvs=>obtain ⟨_,_,_,_,o,_,_,e,_⟩:=x;exact lt_size e
 | dT kvs=>obtain ⟨_,_,_,_,o,_,_,e,_⟩:=x;exact lt_size e
 | set S n=>obtain ⟨o,_,_,_,e,_⟩:=x;exact lt_size e
 | ins C dx fs=>obtain ⟨_,_,_,e,_⟩:=x;exact lt_size e
 | own y=>obtain ⟨_,e⟩:=x;exact lt_size e
 | xd fs=>obtain ⟨_,⟨_,_,_,e,_⟩,_⟩:=x;exact lt_size e
 | rng lo hi=>obtain ⟨_,_,_,e⟩:=x;exact lt_size e
 | frz ob u=>obtain ⟨e,_⟩:=x;exact lt_size e
 | tbl cr=>obtain ⟨_,e,_⟩:=x;exact lt_size e
 | met f y=>exact lt_size (show h.get? a=some _ from x)
 | ext φ=>obtain ⟨_,⟨_,e⟩,_⟩:=x;exact lt_size e
theorem Paired.zj8 {α β:Type}{F G:α->β->Prop}:∀ {l₁:List α}{l₂:List β},Paired F l₁ l₂->(∀ a b,F a b->G a b)->Paired G l₁ l₂
 | _,_,.nil,_=>.nil
 | _,_,.cons r t,f=>.cons (f _ _ r) (Paired.zj8 t f)
theorem X5.stay (x:X5 P w H h a o)(k:∀ b u,(b=a\/H b=some (.own a))->h.get? b=some u->h'.get? b=some u)
  (ho:∀ b,H b=some (.own a)->H' b=some (.own a)) (ht:∀ b xs,H b=some (.tup xs)->H' b=some (.tup xs)) (hz:∀ b o u,H b=some (.frz o u)->H' b=some (.frz o u)):X5 P w H' h' a o:=by
 induction o with
 | lst xs=>obtain ⟨z,its,n,r,e⟩:=x;exact ⟨z,its,n,r,k _ _ (.inl rfl) e⟩
 | tup xs=>obtain ⟨z,its,r,⟨ob,e,c⟩,od,e',d'⟩:=x;exact ⟨z,its,r,⟨ob,k _ _ (.inl rfl) e,c⟩,od,k _ _ (.inl rfl) e',d'⟩
 | dK kvs=>obtain ⟨z,y,vs,r,ob,es,ep,e,c⟩:=x;exact ⟨z,y,vs,r,ob,es,ep,k _ _ (.inl rfl) e,c⟩
 | dT kvs=>
  obtain ⟨z,y,xs,r,ob,es,ep,e,c⟩:=x
  exact ⟨z,y,xs,Paired.zj8 r λp q z=>⟨z.1,ht _ _ z.2.1,z.2.2⟩,ob,es,ep,k _ _ (.inl rfl) e,c⟩
 | set S n=>obtain ⟨ob,es,ep,t,e,c⟩:=x;exact ⟨ob,es,ep,t,k _ _ (.inl rfl) e,c⟩
 | ins C dx fs=>
  obtain ⟨d,z,ne,e,mA,⟨od,es,ep,e2,c⟩,r⟩:=x
  exact ⟨ho _ d,z,ne,k _ _ (.inl rfl) e,mA,⟨od,es,ep,k _ _ (.inr d) e2,c⟩,r⟩
 | own y=>obtain ⟨ob,e⟩:=x;exact ⟨ob,k _ _ (.inl rfl) e⟩
 | xd fs=>obtain ⟨mA,⟨od,es,ep,e,c⟩,r⟩:=x;exact ⟨mA,⟨od,es,ep,k _ _ (.inl rfl) e,c⟩,r⟩
 | rng lo hi=>obtain ⟨t,u,v,e⟩:=x;exact ⟨t,u,v,k _ _ (.inl rfl) e⟩
 | frz ob u ih=>obtain ⟨e,q⟩:=x;exact ⟨k _ _ (.inl rfl) e,ih q⟩
 | tbl cr=>
  obtain ⟨ps,e,ht3,hc⟩:=x
  exact ⟨ps,k a _ (.inl rfl) e,ht3,λpos v q=>let ⟨c,oc,z,h1,h2,h3,h4⟩:=hc pos v q;⟨c,oc,z,h1,h2,hz _ _ _ h3,h4⟩⟩
 | met f y=>
  have e:h.get? a=some (methodObj (.ref f) (.ref y)):=x
  show h'.get? a=some (methodObj (.ref f) (.ref y))
  exact k a _ (.inl rfl) e
 | ext φ=>obtain ⟨p,⟨o,e⟩,st⟩:=x;exact ⟨st _ _ p λo q=>k _ _ (.inl rfl) q,⟨o,k _ _ (.inl rfl) e⟩,st⟩
theorem HOk.lt (x:HOk P w H h)(e:H a=some o):a<h.objs.size:=(x a o e).lt
theorem HOk.fresh (x:HOk P w H h)(e:h.objs.size<=a):H a=none:=by
 cases q:H a with
 | none=>rfl
 | some u=>exact absurd (Nat.lt_of_lt_of_le (x.lt q) e) (lt_irrefl _)
theorem HOk.kept (x:HOk P w H h)(k:∀ b u,h.get? b=some u->h'.get? b=some u):HOk P w H h' := λa o e=>
 (x a o e).stay (λb u _ q=>k b u q) (λ_ q=>q) (λ_ _ q=>q) λ_ _ _ q=>q
theorem HOk.laid (x:HOk P w H h)(k:∀ b u,h.get? b=some u->h'.get? b=some u)(hp:h.objs.size<=a)(new:X5 P w (upd H a o) h' a o):HOk P w (upd H a o) h' := λb u e=>by
 have hn:=x.fresh hp
 by_cases hb:b=a
 ·subst hb;rw[Zy] at e;cases e;exact new
 ·rw[ZC hb] at e
  exact (x b u e).stay (λc v _ q=>k c v q) (λc q=>by rw[ZC (ZM q hn)];exact q) (λc xs q=>by rw[ZC (ZM q hn)];exact q) λc o u q=>by rw[ZC (ZM q hn)];exact q
end
def Rd (H:Hp)(a:Addr)(u:HO):Prop:=H a=some u\/∃ o,H a=some (.frz o u)
theorem Rd.ok {P:Program}{w:World}{H:Hp}{h:Heap}{a:Addr}{u:HO}(r:Rd H a u)(x:HOk P w H h):X5 P w H h a u:=by
 rcases r with r | ⟨o,r⟩
 ·exact x a u r
 ·obtain ⟨_,q⟩:=x a _ r
  exact q
def Mut:Option HO->Prop
 | some (.lst _)=>True
 | some (.dK _)=>True
 | some (.dT _)=>True
 | some (.set _ _)=>True
 | some (.ins _ _ _)=>True
 | some (.ext _)=>True
 | _=>False
section
variable {P:Program}{w:World}{H:Hp}{h h' : Heap}{x e:Addr}{o' : HO}
theorem HOk.write (ok:HOk P w H h)(mu:Mut (H x))(he:e=x\/H e=some (.own x))(k:∀ b u,b≠e->h.get? b=some u->h'.get? b=some u)(heo:∃ u,h'.get? e=some u)
  (new:X5 P w (upd H x o') h' x o'):HOk P w (upd H x o') h' := λb u q=>by
 have nown:∀ c y,H c=some (.own y)->c≠x:=λc y r z=>by subst z;rw[r] at mu;exact mu
 have ntup:∀ c xs,H c=some (.tup xs)->c≠x:=λc xs r z=>by subst z;rw[r] at mu;exact mu
 have nfrz:∀ c o u,H c=some (.frz o u)->c≠x:=λc o u r z=>by subst z;rw[r] at mu;exact mu
 by_cases hb:b=x
 ·subst hb;rw[Zy] at q;cases q;exact new
 ·rw[ZC hb] at q
  by_cases hbe:b=e
  ·have q' : H b=some (.own x):=by
    rcases he with z | z
    ·exact absurd (hbe.trans z) hb
    ·rw[hbe];exact z
   rw[q] at q';cases q'
   obtain ⟨v,hv⟩:=heo
   exact ⟨v,by rw[hbe];exact hv⟩
  ·refine (ok b u q).stay (λc v hc r=>k c v ?_ r) (λc r=>by rw[ZC (nown c b r)];exact r) (λc xs r=>by rw[ZC (ntup c xs r)];exact r) λc o u r=>by rw[ZC (nfrz c o u r)];exact r
   rcases hc with rfl | hc
   ·exact hbe
   ·rintro rfl
    rcases he with z | z
    ·exact nown c b hc z
    ·rw[hc] at z;cases z;exact hb rfl
end
structure Un (fs ex:List Addr)(H H' : Hp)(h h' : Heap):Prop where
 keep:∀ b o,h.get? b=some o->H b=none->b∉fs->b∉ex->h'.get? b=some o
 slot:∀ b o,h.get? b=some o->H b=none->b∈fs->b∉ex->∃ sl,h'.get? b=some { o with slots:=sl }
 free:∀ b o,h.get? b=some o->H b=none->b∉ex->H' b=none
 there:∀ b o,h.get? b=some o->b∉ex->∃ o',h'.get? b=some o'
 tups:∀ b xs,H b=some (.tup xs)->H' b=some (.tup xs)
 frzs:∀ b o u,H b=some (.frz o u)->H' b=some (.frz o u)
 tbls:∀ b cr,H b=some (.tbl cr)->H' b=some (.tbl cr)
section
variable {fs fs' ex ex' : List Addr}{H H1 H2:Hp}{h h1 h2 h' : Heap}{a x e:Addr}{o:HO}
theorem Un.any (u:Un fs ex H H1 h h1){b:Addr}{ob:Obj}(q:h.get? b=some ob)(n:H b=none)(hx:b∉ex):∃ sl,h1.get? b=some { ob with slots:=sl }:=by
 by_cases hb:b∈fs
 ·exact u.slot b ob q n hb hx
 ·exact ⟨ob.slots,u.keep b ob q n hb hx⟩
theorem Un.kept (k:∀ b u,h.get? b=some u->h'.get? b=some u):Un fs ex H H h h' :=
 ⟨λb ob q _ _ _=>k b ob q,λb ob q _ _ _=>⟨ob.slots,k b ob q⟩,λ_ _ _ n _=>n,λb ob q _=>⟨ob,k b ob q⟩,λ_ _ q=>q,λ_ _ _ q=>q,λ_ _ q=>q⟩
theorem Un.refl:Un fs ex H H h h:=Un.kept λ_ _ q=>q
theorem Un.laid (k:∀ b u,h.get? b=some u->h'.get? b=some u)(hp:h.objs.size<=a)(hn:H a=none):Un fs ex H (upd H a o) h h' where
 keep:=λb u q _ _ _=>k b u q
 slot:=λb u q _ _ _=>⟨u.slots,k b u q⟩
 free:=λb u q n _=>by rw[ZC (ne_of_lt (Nat.lt_of_lt_of_le (lt_size q) hp))];exact n
 there:=λb u q _=>⟨u,k b u q⟩
 tups:=λb xs q=>by rw[ZC (ZM q hn)];exact q
 frzs:=λb u xs q=>by rw[ZC (ZM q hn)];exact q
 tbls:=λb cr q=>by rw[ZC (ZM q hn)];exact q
theorem Un.write (mu:Mut (H x))(he:e=x\/H e=some (.own x))(k:∀ b u,b≠e->h.get? b=some u->h'.get? b=some u)(heo:∃ u,h'.get? e=some u):Un fs ex H (upd H x o) h h' := by
 have hx:∀ b,H b=none->b≠x:=λb n z=>by subst z;rw[n] at mu;exact mu
 have hb:∀ b,H b=none->b≠e:=λb n z=>by
  subst z
  rcases he with r | r
  ·exact hx b n r
  ·rw[n] at r;cases r
 have hm:∀ b u,H b=some u->¬ Mut (some u)->b≠x:=λb u q nm z=>by subst z;rw[q] at mu;exact nm mu
 refine ⟨λb u q n _ _=>k b u (hb b n) q,λb u q n _ _=>⟨u.slots,k b u (hb b n) q⟩,λb u q n _=>by rw[ZC (hx b n)];exact n,λb u q _=>?_,
  λb xs q=>by rw[ZC (hm b _ q λz=>z)];exact q,λb u xs q=>by rw[ZC (hm b _ q λz=>z)];exact q,λb cr q=>by rw[ZC (hm b _ q λz=>z)];exact q⟩
 by_cases hbe:b=e
 ·subst hbe;exact heo
 ·exact ⟨u,k b u hbe q⟩
end
noncomputable def trk (h:Heap) (H:Hp):List Addr:=(List.range h.objs.size).filter λa=>(H a).isSome
noncomputable def zd4 (h:Heap) (H:Hp):Heap:=PySem.W.hideAll h (trk h H)
theorem zdl (h:Heap)(H:Hp):(zd4 h H).objs.size=h.objs.size:=PySem.W.hideAll_size _ _
theorem zeX {h:Heap}{H:Hp}{b:Addr}{o:Obj}(e:h.get? b=some o)(n:H b=none):(zd4 h H).get? b=some o:=
 PySem.W.hideAll_get _ e λhm=>by
  have q:(H b).isSome=true:=(List.mem_filter.mp hm).2
  rw[n] at q;simp at q
theorem zf5 {h:Heap}{H:Hp}{b:Addr}{o:Obj}(e:(zd4 h H).get? b=some o):h.get? b=some o/\H b=none:=by
 have e' : h.get? b=some o:=PySem.W.of_hideAll (trk h H) e
 refine ⟨e',?_⟩
 cases q:H b with
 | none=>rfl
 | some x=>
  have hm:b∈trk h H:=List.mem_filter.mpr ⟨mem_range.mpr (lt_size e'),by simp[q]⟩
  have z:(zd4 h H).get? b=none:=PySem.W.hideAll_none (trk h H) hm
  rw[z] at e;cases e
structure Mod (K:PySem.W.Frag)(mg:Str->Option Value)(base:Heap):Prop where
 kin:K.In base
 glob:base.Ns mainGlobals mg
 blt:∃ mb,base.Ns builtinsNs mb/\∀ x:Str,x≠ "__name__" -> mb x=bootBuiltins x
 nolimit:base.NoLimit
structure Cx where
 prog:Program
 w:World
 K:PySem.W.Frag
 mg:Str->Option Value
 base:Heap
 A:Around
 N:List Str
 s₀:Shared
 H₀:Hp
 env:Env
 outer:List Env
 stack:List Env
 ex:List Addr
 fn:Str->Bool
 calm:Bool
 pn:List (Addr×Obj)
 xe:Value->Shared->Prop
noncomputable def frs (l:List Env):List Addr:=l.filterMap (·.frame)
abbrev Cx.fs (X:Cx):List Addr:=frs X.outer
def Vis (sc:Scope)(x:Str):Prop:=sc.names.lookup x=some .local\/sc.names.lookup x=some .cell\/sc.names.lookup x=some .free
def Loc (sc:Scope)(x:Str):Prop:=sc.names.lookup x=some .local\/sc.names.lookup x=some .cell
def Look (env:Env)(h:Heap)(m:Str->Option Value)(x:Str)(u:Value):Prop:=
 (env.kindOf x=some .local/\m x=some u)\/((env.kindOf x=some .cell\/env.kindOf x=some .free)/\∃ c,env.cells.lookup x=some c/\h.IsCell c (some u))
structure Cx.Ok (X:Cx):Prop where
 mod:Mod X.K X.mg X.base
 kind:X.env.scope.kind = .function
 glob:X.env.globals=mainGlobals
 blt:X.env.builtins=builtinsNs
 above:X.s₀.heap.objs.size<=X.env.locals
 inj:∀ x y c,X.env.cells.lookup x=some c->X.env.cells.lookup y=some c->x=y
 has:∀ x,(X.env.kindOf x=some .cell\/X.env.kindOf x=some .free)->∃ c,X.env.cells.lookup x=some c
 cab:∀ x c,X.fn x=true->X.env.cells.lookup x=some c->X.s₀.heap.objs.size<=c
 hd:X.calm=true->X.A.handled=none
 frames:X.A.frames=some X.stack
 stk:X.stack=X.outer\/(X.stack=X.env::X.outer/\X.env.frame=some X.env.locals)
 exf:∀ b∈X.ex,b≠X.env.locals/\∀ x c,X.env.cells.lookup x=some c->c≠b
 bs:∀ b o,X.base.get? b=some o->X.s₀.heap.get? b=some o/\X.H₀ b=none
 bsz:X.base.objs.size<=X.s₀.heap.objs.size
 noex:∀ b o,X.base.get? b=some o->b∉X.ex
 exfs:∀ b∈X.ex,b∉X.fs
 zbO:X.s₀.heap.FunFrames X.base X.outer
 frf:∀ b∈X.fs,X.H₀ b=none
structure Inv (X:Cx)(pins:List (Addr×Obj))(σ:List (Option V))(H:Hp)(s:Shared):Prop where
 ok:X.Ok
 os:s.os=X.s₀.os
 bare:AllBare s.gens
 base:Un X.fs X.ex X.H₀ H X.s₀.heap s.heap
 loc:∃ m,s.heap.Ns X.env.locals m/\∀ (i:Nat) (x:Str) (v:V),X.N[i]?=some x->σ[i]?=some (some v)->Vis X.env.scope x->∃ u,RelV v u/\Look X.env s.heap m x u
 cell:∀ x c,X.env.cells.lookup x=some c->∃ v,s.heap.IsCell c v
 free:H X.env.locals=none
 freeC:∀ x c,X.env.cells.lookup x=some c->H c=none
 pin:∀ p∈X.pn++pins,s.heap.get? p.1=some p.2/\H p.1=none/\p.1≠X.env.locals/\p.1∉X.fs/\∀ v,p.2.data≠.cell v
 hok:HOk X.prog X.w H s.heap
 len:σ.length=X.N.length
section
variable {X:Cx}{pins:List (Addr×Obj)}{σ:List (Option V)}{H H' : Hp}{s:Shared}{h' : Heap}
theorem Cx.Ok.zkf (ok:X.Ok){b:Addr}{o:Obj}(e:X.base.get? b=some o):b∉X.fs:=λhb=>by
 have:=(ok.zbO.mem hb).1
 rw[e] at this;cases this
theorem Inv.bs (I:Inv X pins σ H s):∀ b o,X.base.get? b=some o->s.heap.get? b=some o/\H b=none:=λb o e=>
 ⟨I.base.keep b o (I.ok.bs b o e).1 (I.ok.bs b o e).2 (I.ok.zkf e) (I.ok.noex b o e),I.base.free b o (I.ok.bs b o e).1 (I.ok.bs b o e).2 (I.ok.noex b o e)⟩
theorem Inv.bk (I:Inv X pins σ H s):∀ b o,X.base.get? b=some o->s.heap.get? b=some o:=λb o e=>(I.bs b o e).1
theorem Inv.mod (I:Inv X pins σ H s):Mod X.K X.mg X.base:=I.ok.mod
theorem Inv.kIn (I:Inv X pins σ H s):X.K.In s.heap:=I.ok.mod.kin.keeps I.bk
theorem Inv.fr (I:Inv X pins σ H s):∃ m,Fr X.base X.env.locals s.heap m:=
 let ⟨m,hn,_⟩:=I.loc
 ⟨m,hn,I.bk,le_trans I.ok.bsz I.ok.above⟩
theorem Inv.lt (I:Inv X pins σ H s):X.env.locals<s.heap.objs.size:=let ⟨_,hn,_⟩:=I.loc;hn.lt
theorem Inv.sz (I:Inv X pins σ H s):X.s₀.heap.objs.size<=s.heap.objs.size:=le_trans I.ok.above (le_of_lt I.lt)
theorem Inv.zkk (I:Inv X pins σ H s){a:Addr}(h:s.heap.objs.size<=a):a∉X.fs:=λhb=>by
 obtain ⟨_,o,ho,_⟩:=I.ok.zbO.mem hb
 exact absurd (Nat.lt_of_lt_of_le (lt_size ho) (le_trans I.sz h)) (lt_irrefl _)
theorem Inv.cne (I:Inv X pins σ H s):∀ x c,X.env.cells.lookup x=some c->c≠X.env.locals:=λx c e z=>by
 obtain ⟨v,o,ho,hd⟩:=I.cell x c e
 obtain ⟨m,⟨o',es,ep,ho',hd',_⟩,_⟩:=I.loc
 rw[z,ho'] at ho;cases ho;rw[hd'] at hd;cases hd
theorem Inv.zbO (I:Inv X pins σ H s):s.heap.FunFrames X.base X.outer:=by
 have all:∀ (l:List Env),(∀ b∈frs l,b∈X.fs)->X.s₀.heap.FunFrames X.base l->s.heap.FunFrames X.base l:=by
  intro l
  induction l with
  | nil=>intro _ _;trivial
  | cons env r ih=>
   intro hs hl
   obtain ⟨hk,⟨L,o,hf,hn,ho,hd⟩,hr⟩:=hl
   have hL:L∈X.fs:=hs L (by unfold frs;rw[filterMap_cons,hf];exact mem_cons_self)
   obtain ⟨sl,e⟩:=I.base.slot L o ho (I.ok.frf L hL) hL λz=>I.ok.exfs L z hL
   exact ⟨hk,⟨L,_,hf,hn,e,hd⟩,ih (λb hb=>hs b (by unfold frs;rw[filterMap_cons,hf];exact mem_cons_of_mem _ hb)) hr⟩
 exact all X.outer (λ_ hb=>hb) I.ok.zbO
theorem Inv.stack (I:Inv X pins σ H s):s.heap.FunFrames X.base X.stack:=by
 rcases I.ok.stk with e | ⟨e,hf⟩
 ·rw[e];exact I.zbO
 ·rw[e]
  obtain ⟨m,hn,_⟩:=I.loc
  refine .cons (by rw[I.ok.kind];decide) hf hn ?_ I.zbO
  exact Heap.get?_none_of_le (le_trans I.ok.bsz I.ok.above)
theorem Inv.zc3 (I:Inv X pins σ H s):∀ b∈frs X.stack,b∈X.env.locals::X.fs:=λb hb=>by
 rcases I.ok.stk with e | ⟨e,hf⟩
 ·rw[e] at hb;exact mem_cons_of_mem _ hb
 ·rw[e] at hb
  unfold frs at hb
  rw[filterMap_cons,hf] at hb
  exact hb
theorem Inv.zdA (I:Inv X pins σ H s):∀ b∈frs X.stack,H b=none:=λb hb=>by
 rcases mem_cons.mp (I.zc3 b hb) with e | hb
 ·rw[e];exact I.free
 ·obtain ⟨_,o,ho,_⟩:=I.ok.zbO.mem hb
  exact I.base.free b o ho (I.ok.frf b hb) λz=>I.ok.exfs b z hb
theorem Inv.step {g' : Array GenState}{t' : Nat}{d' : Drawn}{ch:List Addr}(I:Inv X pins σ H s)
  (hch:∀ b∈ch,(b∈X.ex\/X.s₀.heap.objs.size<=b)/\b≠X.env.locals/\(∀ x c,X.env.cells.lookup x=some c->c≠b)/\∀ p∈X.pn++pins,p.1≠b)
  (keep:∀ b o,b≠X.env.locals->b∉X.fs->b∉ch->s.heap.get? b=some o->H b=none->h'.get? b=some o)
  (slot:∀ b o,b≠X.env.locals->b∈X.fs->b∉ch->s.heap.get? b=some o->H b=none->∃ sl,h'.get? b=some { o with slots:=sl }) (free:∀ b o,b∉ch->s.heap.get? b=some o->H b=none->H' b=none)
  (there:∀ b o,b∉ch->s.heap.get? b=some o->∃ o',h'.get? b=some o')
  (tups:∀ b xs,H b=some (.tup xs)->H' b=some (.tup xs)) (frzs:∀ b o u,H b=some (.frz o u)->H' b=some (.frz o u)) (tbls:∀ b cr,H b=some (.tbl cr)->H' b=some (.tbl cr))
  (ns:∀ m,s.heap.Ns X.env.locals m->h'.Ns X.env.locals m) (hok:HOk X.prog X.w H' h') (hg:AllBare g'):
  Inv X pins σ H' { s with heap:=h',gens:=g',drawn:=d',toks:=t' }:=by
 have neL:∀ b o,X.s₀.heap.get? b=some o->b≠X.env.locals:=λb o e=>ne_of_lt (Nat.lt_of_lt_of_le (lt_size e) I.ok.above)
 have neC:∀ b o,X.s₀.heap.get? b=some o->b∉X.ex->b∉ch:=λb o e hx hb=>by
  rcases (hch b hb).1 with z | z
  ·exact hx z
  ·exact absurd (Nat.lt_of_lt_of_le (lt_size e) z) (lt_irrefl _)
 have cellK:∀ x c,X.env.cells.lookup x=some c->∀ v,s.heap.IsCell c v->h'.IsCell c v:=λx c e v ⟨o,ho,hd⟩=>by
  have nch:c∉ch:=λz=>(hch c z).2.2.1 x c e rfl
  by_cases hc:c∈X.fs
  ·obtain ⟨sl,q⟩:=slot c o (I.cne x c e) hc nch ho (I.freeC x c e)
   exact ⟨_,q,hd⟩
  ·exact ⟨o,keep c o (I.cne x c e) hc nch ho (I.freeC x c e),hd⟩
 refine ⟨I.ok,I.os,hg,⟨λb o e n hb hx=>?_,λb o e n hb hx=>?_,λb o e n hx=>?_,λb o e hx=>?_,λb xs e=>tups b xs (I.base.tups b xs e),λb o xs e=>frzs b o xs (I.base.frzs b o xs e),λb ps e=>?_⟩,?_,λx c e=>?_,?_,λx c e=>?_,λp hp=>?_,hok,I.len⟩
 ·exact keep b o (neL b o e) hb (neC b o e hx) (I.base.keep b o e n hb hx) (I.base.free b o e n hx)
 ·obtain ⟨sl,e1⟩:=I.base.slot b o e n hb hx
  obtain ⟨sl',e2⟩:=slot b _ (neL b o e) hb (neC b o e hx) e1 (I.base.free b o e n hx)
  exact ⟨sl',e2⟩
 ·obtain ⟨o',e1⟩:=I.base.there b o e hx
  exact free b o' (neC b o e hx) e1 (I.base.free b o e n hx)
 ·obtain ⟨o',e1⟩:=I.base.there b o e hx
  exact there b o' (neC b o e hx) e1
 ·exact tbls b ps (I.base.tbls b ps e)
 ·obtain ⟨m,hn,hl⟩:=I.loc
  refine ⟨m,ns m hn,λi x v e1 e2 e3=>?_⟩
  obtain ⟨u,r,l⟩:=hl i x v e1 e2 e3
  refine ⟨u,r,?_⟩
  rcases l with l | ⟨k,c,e,z⟩
  ·exact .inl l
  ·exact .inr ⟨k,c,e,cellK x c e _ z⟩
 ·obtain ⟨v,z⟩:=I.cell x c e
  exact ⟨v,cellK x c e v z⟩
 ·obtain ⟨m,⟨o,_,_,ho,_⟩,_⟩:=I.loc
  exact free _ o (λz=>(hch _ z).2.1 rfl) ho I.free
 ·obtain ⟨v,o,ho,hd⟩:=I.cell x c e
  exact free c o (λz=>(hch c z).2.2.1 x c e rfl) ho (I.freeC x c e)
 ·obtain ⟨e,n,ne,nf,d⟩:=I.pin p hp
  have nch:p.1∉ch:=λz=>(hch p.1 z).2.2.2 p hp rfl
  exact ⟨keep p.1 p.2 ne nf nch e n,free p.1 p.2 nch e n,ne,nf,d⟩
theorem Inv.un {t' : Nat}(I:Inv X pins σ H s)(u:Un X.fs [] H H' s.heap h')(hok:HOk X.prog X.w H' h'):Inv X pins σ H' { s with heap:=h',toks:=t' }:=by
 obtain ⟨m,⟨o,es,ep,ho,r⟩,_⟩:=id I.loc
 obtain ⟨sl,hL⟩:=u.any ho I.free (by simp)
 exact I.step (g' := s.gens) (d' := s.drawn) (ch:=[]) (λ_ z=>nomatch z) (λb o _ hb _ e n=>u.keep b o e n hb (by simp)) (λb o _ hb _ e n=>u.slot b o e n hb (by simp)) (λb o _ e n=>u.free b o e n (by simp)) (λb o _ e=>u.there b o e (by simp)) u.tups u.frzs u.tbls (λm' hm=>by
  obtain ⟨o',es',ep',ho',r'⟩:=hm
  rw[ho] at ho';cases ho'
  exact ⟨_,es',ep',hL,r'⟩) hok I.bare
theorem Inv.call {g' : Array GenState}{t' : Nat}{d' : Drawn}{ch:List Addr}(I:Inv X pins σ H s)(u:Un (frs X.stack) ch H H' s.heap h')(hok:HOk X.prog X.w H' h')(hg:AllBare g')
  (hch:∀ b∈ch,(b∈X.ex\/X.s₀.heap.objs.size<=b)/\b≠X.env.locals/\(∀ x c,X.env.cells.lookup x=some c->c≠b)/\∀ p∈X.pn++pins,p.1≠b):
  Inv X pins σ H' { s with heap:=h',gens:=g',drawn:=d',toks:=t' }:=by
 obtain ⟨m,⟨o,es,ep,ho,r⟩,_⟩:=id I.loc
 obtain ⟨sl,hL⟩:=u.any ho I.free λz=>(hch _ z).2.1 rfl
 exact I.step (ch:=ch) hch (λb o hL hb hc e n=>u.keep b o e n (λz=>(mem_cons.mp (I.zc3 b z)).elim hL hb) hc) (λb o _ _ hc e n=>u.any e n hc) (λb o hc e n=>u.free b o e n hc) (λb o hc e=>u.there b o e hc) u.tups u.frzs u.tbls (λm' hm=>by
  obtain ⟨o',es',ep',ho',r'⟩:=hm
  rw[ho] at ho';cases ho'
  exact ⟨_,es',ep',hL,r'⟩) hok hg
theorem Inv.turned {t' : Nat}{it:Addr}(I:Inv X pins σ H s)(k:∀ b o,b≠it->s.heap.get? b=some o->h'.get? b=some o)(hn:H it=none)(hL:it≠X.env.locals)
  (h1:it∈X.ex\/X.s₀.heap.objs.size<=it) (h2:∀ x c,X.env.cells.lookup x=some c->c≠it) (h3:∀ p∈X.pn++pins,p.1≠it):Inv X pins σ H { s with heap:=h',toks:=t' }:=by
 have nit:∀ b u,H b=some u->b≠it:=λb u e z=>by rw[z,hn] at e;cases e
 refine I.step (g' := s.gens) (d' := s.drawn) (ch:=[it]) (λb hb=>?_) (λb o _ _ hc e _=>k b o (λz=>hc (by simp[z])) e) (λb o _ _ hc e _=>⟨o.slots,k b o (λz=>hc (by simp[z])) e⟩) (λ_ _ _ _ n=>n)
  (λb o hc e=>⟨o,k b o (λz=>hc (by simp[z])) e⟩) (λ_ _ e=>e) (λ_ _ _ e=>e) (λ_ _ e=>e) (λm hm=>?_) (λb u e=>?_) I.bare
 ·have e:b=it:=by simpa using hb
  subst e
  exact ⟨h1,hL,h2,h3⟩
 ·obtain ⟨o,es,ep,ho,r⟩:=hm
  exact ⟨o,es,ep,k _ o (Ne.symm hL) ho,r⟩
 ·refine (I.hok b u e).stay (λc v hc q=>k c v ?_ q) (λ_ q=>q) (λ_ _ q=>q) λ_ _ _ q=>q
  rcases hc with z | z
  ·rw[z];exact nit b u e
  ·exact nit c _ z
theorem Inv.tok (I:Inv X pins σ H s)(t:Nat):Inv X pins σ H { s with toks:=t }:=I.un (h' := s.heap) (t' := t) Un.refl I.hok
theorem Inv.kept {t' : Nat}(I:Inv X pins σ H s)(k:∀ b u,s.heap.get? b=some u->h'.get? b=some u):Inv X pins σ H { s with heap:=h',toks:=t' }:=I.un (Un.kept k) (I.hok.kept k)
theorem Inv.laid {a:Addr}{o:HO}{t' : Nat}(I:Inv X pins σ H s)(k:∀ b u,s.heap.get? b=some u->h'.get? b=some u)(hp:s.heap.objs.size<=a)(new:X5 X.prog X.w (upd H a o) h' a o):
  Inv X pins σ (upd H a o) { s with heap:=h',toks:=t' }:=I.un (Un.laid k hp (I.hok.fresh hp)) (I.hok.laid k hp new)
theorem Inv.write {x e:Addr}{o:HO}{t' : Nat}(I:Inv X pins σ H s)(mu:Mut (H x))(he:e=x\/H e=some (.own x))(k:∀ b u,b≠e->s.heap.get? b=some u->h'.get? b=some u)(heo:∃ u,h'.get? e=some u)
  (new:X5 X.prog X.w (upd H x o) h' x o):Inv X pins σ (upd H x o) { s with heap:=h',toks:=t' }:=I.un (Un.write mu he k heo) (I.hok.write mu he k heo new)
theorem Inv.QR {pins' : List (Addr×Obj)}(I:Inv X pins σ H s)(h:∀ p∈pins',s.heap.get? p.1=some p.2/\H p.1=none/\p.1≠X.env.locals/\p.1∉X.fs/\∀ v,p.2.data≠.cell v):Inv X pins' σ H s:=
 ⟨I.ok,I.os,I.bare,I.base,I.loc,I.cell,I.free,I.freeC,λp hp=>(mem_append.mp hp).elim (λz=>I.pin p (List.mem_append_left _ z)) (h p),I.hok,I.len⟩
theorem zb2 {N:List Str}(hN:N.Nodup){i j:Nat}{x:Str}(a:N[i]?=some x)(b:N[j]?=some x):i=j:=by
 obtain ⟨h1,e1⟩:=List.getElem?_eq_some_iff.mp a
 obtain ⟨h2,e2⟩:=List.getElem?_eq_some_iff.mp b
 exact (List.getElem_inj hN).mp (e1.trans e2.symm)
theorem zd2 {M:Model}{A:Around}{E:Value->Shared->Prop}{i:Nat}{x:Str}{v:V}{u:Value}{Q:Unit->Shared->Prop}(I:Inv X pins σ H s)(hN:X.N.Nodup)(hi:X.N[i]?=some x)(hx:Loc X.env.scope x)(r:RelV v u)
  (h:∀ s',Inv X pins (σ.set i (some v)) H s' -> (∃ a,SameBut a s.heap s'.heap/\(a=X.env.locals\/X.env.cells.lookup x=some a))->Q () s') (hf:X.fn x=true\/X.env.scope.names.lookup x=some .local:=by first | exact .inl rfl | exact .inr rfl | assumption):wpAny M A (storeName X.env x u) Q E s:=by
 obtain ⟨m,hn,hl⟩:=id I.loc
 have hcls:(X.env.scope.kind == .class||(X.env.scope.kind == .module&&X.env.locals != X.env.globals))=false:=by rw[I.ok.kind];rfl
 have hiσ:i<σ.length:=by rw[I.len];exact (List.getElem?_eq_some_iff.mp hi).1
 have cne:=I.cne
 have tracked:∀ {a:Addr}{h' : Heap},(∃ o,s.heap.get? a=some o/\H a=none)->SameBut a s.heap h' -> HOk X.prog X.w H h' := λ{a h'} ha hs b ob e=>by
  obtain ⟨_,_,hfree⟩:=ha
  refine (I.hok b ob e).stay (λc w' hc q=>(hs.2 c ?_).trans q) (λ_ q=>q) (λ_ _ q=>q) λ_ _ _ q=>q
  rintro rfl
  rcases hc with rfl | hc
  ·rw[hfree] at e;cases e
  ·rw[hfree] at hc;cases hc
 rcases hx with hk | hk
 ·refine wpAny_storeName_local hk hn (λh' hn' hs=>?_) hcls
  obtain ⟨oL,_,_,hoL,_⟩:=id hn
  refine h _ ⟨I.ok,I.os,I.bare,⟨λb o e n hb hx=>?_,λb o e n hb hx=>?_,I.base.free,λb o e hx=>?_,I.base.tups,I.base.frzs,I.base.tbls⟩,⟨_,hn',λj y v' e1 e2 e3=>?_⟩,λy c e=>?_,I.free,I.freeC,λp hp=>?_,tracked ⟨oL,hoL,I.free⟩ hs,by simpa using I.len⟩ ⟨_,hs,.inl rfl⟩
  ·exact (hs.2 b (ne_of_lt (Nat.lt_of_lt_of_le (lt_size e) I.ok.above))).trans (I.base.keep b o e n hb hx)
  ·obtain ⟨sl,e1⟩:=I.base.slot b o e n hb hx
   exact ⟨sl,(hs.2 b (ne_of_lt (Nat.lt_of_lt_of_le (lt_size e) I.ok.above))).trans e1⟩
  ·obtain ⟨o',e1⟩:=I.base.there b o e hx
   exact ⟨o',(hs.2 b (ne_of_lt (Nat.lt_of_lt_of_le (lt_size e) I.ok.above))).trans e1⟩
  ·by_cases hj:j=i
   ·subst hj
    rw[hi] at e1;cases e1
    rw[getElem?_set_self hiσ] at e2
    cases e2
    exact ⟨u,r,.inl ⟨hk,by simp⟩⟩
   ·rw[getElem?_set_ne (Ne.symm hj)] at e2
    obtain ⟨u',r',q⟩:=hl j y v' e1 e2 e3
    refine ⟨u',r',?_⟩
    rcases q with ⟨k,e⟩ | ⟨k,c,e,z⟩
    ·refine .inl ⟨k,?_⟩
     have:y≠x:=λe=>hj (zb2 hN e1 (e ▸ hi))
     simp[this,e]
    ·exact .inr ⟨k,c,e,z.sameBut hs (cne y c e)⟩
  ·obtain ⟨w',z⟩:=I.cell y c e
   exact ⟨w',z.sameBut hs (cne y c e)⟩
  ·obtain ⟨e,n,ne,nf,d⟩:=I.pin p hp
   exact ⟨(hs.2 p.1 ne).trans e,n,ne,nf,d⟩
 ·have hfn:X.fn x=true:=by
   rcases hf with z | z
   ·exact z
   ·rw[z] at hk;cases hk
  obtain ⟨c,hc⟩:=I.ok.has x (.inl hk)
  obtain ⟨w',z⟩:=I.cell x c hc
  refine wpAny_storeName_cell I.ok.kind hk hc z (λh' hc' hs=>?_)
  obtain ⟨oc,hoc,hocd⟩:=id z
  refine h { s with heap:=h' } ⟨I.ok,I.os,I.bare,⟨λb o e n hb hx=>?_,λb o e n hb hx=>?_,I.base.free,λb o e hx=>?_,I.base.tups,I.base.frzs,I.base.tbls⟩,⟨m,hn.sameBut hs (Ne.symm (cne x c hc)),λj y v' e1 e2 e3=>?_⟩,λy c' e=>?_,I.free,I.freeC,λp hp=>?_,tracked ⟨oc,hoc,I.freeC x c hc⟩ hs,by simpa using I.len⟩ ⟨c,hs,.inr hc⟩
  ·exact (hs.2 b (ne_of_lt (Nat.lt_of_lt_of_le (lt_size e) (I.ok.cab x c hfn hc)))).trans (I.base.keep b o e n hb hx)
  ·obtain ⟨sl,e1⟩:=I.base.slot b o e n hb hx
   exact ⟨sl,(hs.2 b (ne_of_lt (Nat.lt_of_lt_of_le (lt_size e) (I.ok.cab x c hfn hc)))).trans e1⟩
  ·obtain ⟨o',e1⟩:=I.base.there b o e hx
   exact ⟨o',(hs.2 b (ne_of_lt (Nat.lt_of_lt_of_le (lt_size e) (I.ok.cab x c hfn hc)))).trans e1⟩
  ·by_cases hj:j=i
   ·subst hj
    rw[hi] at e1;cases e1
    rw[getElem?_set_self hiσ] at e2
    cases e2
    exact ⟨u,r,.inr ⟨.inl hk,c,hc,hc'⟩⟩
   ·rw[getElem?_set_ne (Ne.symm hj)] at e2
    obtain ⟨u',r',q⟩:=hl j y v' e1 e2 e3
    refine ⟨u',r',?_⟩
    rcases q with q | ⟨k,c',e,z'⟩
    ·exact .inl q
    ·refine .inr ⟨k,c',e,z'.sameBut hs ?_⟩
     rintro rfl
     exact hj (zb2 hN e1 (I.ok.inj _ _ _ e hc ▸ hi))
  ·by_cases hcc:c'=c
   ·subst hcc;exact ⟨_,hc'⟩
   ·obtain ⟨w2,z2⟩:=I.cell y c' e
    exact ⟨w2,z2.sameBut hs hcc⟩
  ·obtain ⟨e,n,ne,nf,d⟩:=I.pin p hp
   refine ⟨(hs.2 p.1 ?_).trans e,n,ne,nf,d⟩
   intro q
   rw[q,hoc] at e
   have q' : oc=p.2:=Option.some.inj e
   exact d w' (by rw[← q'];exact hocd)
theorem JD {M:Model}{A:Around}{E:Value->Shared->Prop}{i:Nat}{x:Str}{v:V}{u:Value}{Q:Unit->Shared->Prop}(I:Inv X pins σ H s)(hN:X.N.Nodup)(hi:X.N[i]?=some x)(hx:Loc X.env.scope x)(r:RelV v u)
  (h:∀ s',Inv X pins (σ.set i (some v)) H s' -> Q () s') (hf:X.fn x=true\/X.env.scope.names.lookup x=some .local:=by first | exact .inl rfl | exact .inr rfl | assumption):wpAny M A (storeName X.env x u) Q E s:=
 zd2 I hN hi hx r (λs' I' _=>h s' I') hf
theorem Inv.call' {s' : Shared}{ch:List Addr}(I:Inv X pins σ H s)(ho:s'.os=s.os)(u:Un (frs X.stack) ch H H' s.heap s'.heap)(hok:HOk X.prog X.w H' s'.heap)(hg:AllBare s'.gens)
  (hch:∀ b∈ch,(b∈X.ex\/X.s₀.heap.objs.size<=b)/\b≠X.env.locals/\(∀ x c,X.env.cells.lookup x=some c->c≠b)/\∀ p∈X.pn++pins,p.1≠b):Inv X pins σ H' s' := by
 obtain ⟨h',g',d',t',o'⟩:=s'
 have e:o'=s.os:=ho
 subst e
 exact I.call (g' := g') (t' := t') (d' := d') u hok hg hch
end
abbrev XK:=Value->Option Addr->Hp->Prop
abbrev St:=List (Option V)
abbrev VK:=V->Hp->Prop
abbrev TE:=St->Hp->VK->Prop
abbrev TT:=St->Hp->(Bool->Hp->Prop)->Prop
abbrev TA:=St->Hp->(List V->Hp->Prop)->Prop
structure Ends where
 nx:St->Hp->Prop
 rt:VK
 bk:St->Hp->Prop:=λ_ _=>False
 ct:St->Hp->Prop:=λ_ _=>False
abbrev TS:=Ends->St->Hp->Prop
def EP (X:Cx)(pins:List (Addr×Obj))(σ:St)(Q:VK)(u:Value)(s' : Shared):Prop:=∃ v H',Inv X pins σ H' s' /\ RelV v u/\Q v H'
def TP (X:Cx)(pins:List (Addr×Obj))(σ:St)(Q:Bool->Hp->Prop)(b:Bool)(s' : Shared):Prop:=∃ H',Inv X pins σ H' s' /\ Q b H'
def AP (X:Cx)(pins:List (Addr×Obj))(σ:St)(Q:List V->Hp->Prop)(us:List Value)(s' : Shared):Prop:=∃ vs H',Inv X pins σ H' s' /\ Vals vs us/\Q vs H'
def SP (X:Cx)(pins:List (Addr×Obj))(D:Ends)(f:Flow)(s' : Shared):Prop:=
 match f with
 | .next=>∃ σ' H',Inv X pins σ' H' s' /\ D.nx σ' H'
 | .brk=>∃ σ' H',Inv X pins σ' H' s' /\ D.bk σ' H'
 | .cont=>∃ σ' H',Inv X pins σ' H' s' /\ D.ct σ' H'
 | .ret u=>∃ v σ' H',Inv X pins σ' H' s' /\ RelV v u/\D.rt v H'
def PE (X:Cx)(e:Expr)(t:TE):Prop:=
 ∀ (pins:List (Addr×Obj)) (s:Shared) (σ:St) (H:Hp) (Q:VK),Inv X pins σ H s->t σ H Q->wpAny (model X.prog X.w) X.A (eval e X.env) (EP X pins σ Q) X.xe s
def PT (X:Cx)(e:Expr)(t:TT):Prop:=
 ∀ (pins:List (Addr×Obj)) (s:Shared) (σ:St) (H:Hp) (Q:Bool->Hp->Prop),Inv X pins σ H s->t σ H Q->wpAny (model X.prog X.w) X.A (isTrue e X.env (eval e X.env)) (TP X pins σ Q) X.xe s
def PW (X:Cx)(e:Expr)(t:TT):Prop:=
 ∀ (whole:Sem Value) (pins:List (Addr×Obj)) (s:Shared) (σ:St) (H:Hp) (Q:Bool->Hp->Prop),Inv X pins σ H s->t σ H Q->wpAny (model X.prog X.w) X.A (isTrue e X.env whole) (TP X pins σ Q) X.xe s
theorem PW.pt {X:Cx}{e:Expr}{t:TT}(h:PW X e t):PT X e t:=h _
def PA (X:Cx)(es:List Expr)(t:TA):Prop:=
 ∀ (pos:Pos) (pins:List (Addr×Obj)) (s:Shared) (σ:St) (H:Hp) (Q:List V->Hp->Prop),Inv X pins σ H s->t σ H Q->wpAny (model X.prog X.w) X.A (spliced (backTo pos (starEach es X.env))) (AP X pins σ Q) X.xe s
def PS (X:Cx)(st:Stmt)(t:TS):Prop:=
 ∀ (pins:List (Addr×Obj)) (s:Shared) (σ:St) (H:Hp) (D:Ends),Inv X pins σ H s->t D σ H->wpAny (model X.prog X.w) X.A (exec st X.env) (SP X pins D) X.xe s
def PSs (X:Cx)(st:List Stmt)(t:TS):Prop:=
 ∀ (pins:List (Addr×Obj)) (s:Shared) (σ:St) (H:Hp) (D:Ends),Inv X pins σ H s->t D σ H->wpAny (model X.prog X.w) X.A (execs st X.env) (SP X pins D) X.xe s
theorem thn {α:Type}{t:Sem α}{Q Q' : α->Shared->Prop}{M:Model}{A:Around}{E:Value->Shared->Prop}{s:Shared}(h:wpAny M A t Q E s)(hQ:∀ a s,Q a s->Q' a s):wpAny M A t Q' E s:=wpAny_mono h hQ λ_ _ x=>x
section
variable {X:Cx}
def XQ (i:Nat):TE:=fun σ H Q=>∃ v,σ[i]?=some (some v)/\Q v H
def tC (v:V):TE:=λ_ H Q=>Q v H
theorem zdZ {i:Nat}{x:Str}{pos:Pos}(hN:X.N[i]?=some x)(hv:Vis X.env.scope x)(hd:(x==("__debug__" : Str))=false:=by decide)(hcd:(x==("__classdict__" : Str))=false:=by decide):PE X (.Name x pos) (XQ i):=by
 intro pins s σ H Q I h
 obtain ⟨v,e,h⟩:=h
 obtain ⟨m,hn,hl⟩:=I.loc
 obtain ⟨u,r,l⟩:=hl i x v hN e hv
 have fin:EP X pins σ Q u s:=⟨v,H,I,r,h⟩
 rcases l with ⟨hk,hm⟩ | ⟨hk,c,hc,hcell⟩
 ·exact wpAny_Name (wpAny_loadName_local I.ok.kind hk hn hm fin) hd
 ·rcases hk with hk | hk
  ·exact wpAny_Name (wpAny_loadName_cell I.ok.kind hk hc hcell fin) hd
  ·exact wpAny_Name (wpAny_loadName_free I.ok.kind hk hc hcell fin hcd) hd
theorem Zi {i j pos}:PE X (.Constant (.int i) j pos) (tC (.int i)):=λ_ _ _ H _ I h=>wpAny_Constant_int ⟨.int i,H,I.tok _,⟨_,rfl⟩,h⟩
theorem zbk {b j pos}:PE X (.Constant (.bool b) j pos) (tC (.bl b)):=λ_ _ _ H _ I h=>Constant_bool ⟨.bl b,H,I,rfl,h⟩
theorem Zz {x j pos}:PE X (.Constant (.str x) j pos) (tC (.str x)):=λ_ _ _ H _ I h=>Calls.Constant_str ⟨.str x,H,I.tok _,⟨_,rfl⟩,h⟩
def Gl (X:Cx)(x:Str):Prop:=X.env.kindOf x=some .globalImplicit
theorem Vq {E:Value->Shared->Prop}{pins:List (Addr×Obj)}{s:Shared}{σ:St}{H:Hp}{x:Str}{u:Value}{pos:Pos}{Q:Value->Shared->Prop}(I:Inv X pins σ H s)(hg:Gl X x)(hm:X.mg x=some u)(h:Q u s)
  (hd:(x==("__debug__" : Str))=false:=by decide):wpAny (model X.prog X.w) X.A (eval (.Name x pos) X.env) Q E s:=
 Calls.Name_function_global I.ok.kind hg (Calls.loadGlobal_global (by rw[I.ok.glob];exact I.mod.glob.keeps I.bk) hm h) hd
theorem Vx {E:Value->Shared->Prop}{pins:List (Addr×Obj)}{s:Shared}{σ:St}{H:Hp}{x:Str}{u:Value}{pos:Pos}{Q:Value->Shared->Prop}(I:Inv X pins σ H s)(hg:Gl X x)(hm:X.mg x=none)(hv:bootBuiltins x=some u)(h:Q u s)
  (hn:x≠ "__name__" := by decide) (hd:(x==("__debug__" : Str))=false:=by decide):wpAny (model X.prog X.w) X.A (eval (.Name x pos) X.env) Q E s:=by
 obtain ⟨mb,h1,h2⟩:=I.mod.blt
 exact Calls.Name_function_global I.ok.kind hg (Calls.loadGlobal_builtin (by rw[I.ok.glob];exact I.mod.glob.keeps I.bk) hm (by rw[I.ok.blt];exact h1.keeps I.bk) ((h2 x hn).trans hv) h) hd
theorem zac {x:Str}{v:V}{u:Value}{pos:Pos}(hg:Gl X x)(hm:X.mg x=some u)(r:RelV v u)(hd:(x==("__debug__" : Str))=false:=by decide):PE X (.Name x pos) (tC v):=
 λ_ _ _ H _ I h=>Vq I hg hm ⟨v,H,I,r,h⟩ hd
theorem zd1 {x:Str}{v:V}{u:Value}{pos:Pos}(hg:Gl X x)(hm:X.mg x=none)(hv:bootBuiltins x=some u)(r:RelV v u)(hn:x≠ "__name__" := by decide)(hd:(x==("__debug__" : Str))=false:=by decide):PE X (.Name x pos) (tC v):=
 λ_ _ _ H _ I h=>Vx I hg hm hv ⟨v,H,I,r,h⟩ hn hd
variable {a b:Expr}{ta tb:TE}{pos:Pos}
def tB (t:TE):TT:=fun σ H Q=>t σ H λx H1=>∃ c,x = .bl c/\Q c H1
theorem Q9 {e:Expr}{t:TE}(h:PE X e t)(he:∀ whole,isTrue e X.env whole=(do let v ← whole;standAt e.pos;holding [v] (truthy v)):=by intro _;rfl):PT X e (tB t):=by
 intro pins s σ H Q I hw
 refine isTrue_plain (thn (h pins s σ H _ I hw) λv s1 ⟨x,H1,I1,r1,q1⟩=>?_) (he _)
 obtain ⟨d,rfl,q⟩:=q1
 cases r1
 exact wpAny_truthy_bool ⟨H1,I1,q⟩
variable {tA tB' : TT}{rest:List Expr}
def zje (t u:TT):TT:=fun σ H Q=>t σ H λc H1=>if c=true then u σ H1 Q else Q false H1
def tOr (t u:TT):TT:=fun σ H Q=>t σ H λc H1=>if c=true then Q true H1 else u σ H1 Q
def zjn (t:TT):TT:=fun σ H Q=>t σ H λc H1=>Q (!c) H1
theorem pw_and1 (ha:PT X a tA):PW X (.BoolOp .And [a] pos) tA:=by
 intro wh pins s σ H Q I h
 refine isTrue_and (thn (ha pins s σ H Q I h) λc s1 e=>?_)
 cases c with
 | true=>exact isTrue_and_nil e
 | false=>exact e
theorem pw_or1 (ha:PT X a tA):PW X (.BoolOp .Or [a] pos) tA:=by
 intro wh pins s σ H Q I h
 refine isTrue_or (thn (ha pins s σ H Q I h) λc s1 e=>?_)
 cases c with
 | false=>exact isTrue_or_nil e
 | true=>exact e
theorem pw_and (ha:PT X a tA)(hb:PW X (.BoolOp .And (b::rest) pos) tB'):PW X (.BoolOp .And (a::b::rest) pos) (zje tA tB'):=by
 intro wh pins s σ H Q I h
 refine isTrue_and (thn (ha pins s σ H _ I h) λc s1 ⟨H1,I1,q1⟩=>?_)
 cases c with
 | true=>exact hb wh pins s1 σ H1 Q I1 q1
 | false=>exact ⟨H1,I1,q1⟩
theorem pw_or (ha:PT X a tA)(hb:PW X (.BoolOp .Or (b::rest) pos) tB'):PW X (.BoolOp .Or (a::b::rest) pos) (tOr tA tB'):=by
 intro wh pins s σ H Q I h
 refine isTrue_or (thn (ha pins s σ H _ I h) λc s1 ⟨H1,I1,q1⟩=>?_)
 cases c with
 | true=>exact ⟨H1,I1,q1⟩
 | false=>exact hb wh pins s1 σ H1 Q I1 q1
theorem zhS (ha:PT X a tA):PT X (.UnaryOp .Not a pos) (zjn tA):=by
 intro pins s σ H Q I h
 exact isTrue_not (ha pins s σ H (λc H1=>Q (!c) H1) I h)
def zit (ta:TE):TE:=fun σ H Q=>ta σ H λx H1=>∃ c,x = .bl c/\Q (.bl (!c)) H1
theorem zfD (ha:PE X a ta):PE X (.UnaryOp .Not a pos) (zit ta):=by
 intro pins s σ H Q I h
 refine UnaryOp_ (thn (ha pins s σ H _ I h) λv s1 ⟨x,H1,I1,r1,q1⟩=>?_)
 obtain ⟨c,rfl,q1⟩:=q1
 cases r1
 exact not_of (wpAny_truthy_bool ⟨.bl (!c),H1,I1,rfl,q1⟩)
def tIf (t:TT)(ta tb:TE):TE:=fun σ H Q=>t σ H λc H1=>if c=true then ta σ H1 Q else tb σ H1 Q
theorem WR {c:Expr}(hc:PT X c tA)(ha:PE X a ta)(hb:PE X b tb):PE X (.IfExp c a b pos) (tIf tA ta tb):=by
 intro pins s σ H Q I h
 refine wpAny_IfExp (thn (hc pins s σ H _ I h) λd s1 ⟨H1,I1,q1⟩=>?_)
 cases d with
 | true=>exact ha pins s1 σ H1 Q I1 q1
 | false=>exact hb pins s1 σ H1 Q I1 q1
end
def SqL (K:PySem.W.Frag)(H:Hp)(a:Addr)(xs:List V):Prop:=
 Rd H a (.lst xs)\/
  ∃ (o:Obj) (its:Array Value) (n:Nat),K.lookup a=some o/\o.cls = .type "list" /\ o.dict=none/\o.data = .seq its n/\its.size<=sizeLine/\Vals xs its.toList
def SqT (K:PySem.W.Frag)(H:Hp)(a:Addr)(xs:List V):Prop:=
 Rd H a (.tup xs)\/
  ∃ (o:Obj) (its:Array Value) (n:Nat),K.lookup a=some o/\o.cls = .type "tuple" /\ o.data = .seq its n/\its.size<=sizeLine/\Vals xs its.toList
noncomputable def zjR:Value->Option V
 | .none=>some .non
 | .bool b=>some (.bl b)
 | .int i _=>some (.int i)
 | .str x _=>some (.str x)
 | .bytes b _=>some (.byt b)
 | .float b _=>some (.flt b)
 | .ref a=>some (.ref a)
 | .type n=>some (.ty n)
 | _=>none
theorem RelV.abs {x:V}{u:Value}(r:RelV x u):zjR u=some x:=by
 cases x with
 | non=>cases r;rfl
 | bl _=>cases r;rfl
 | int _=>obtain ⟨t,rfl⟩:=r;rfl
 | str _=>obtain ⟨t,rfl⟩:=r;rfl
 | byt _=>obtain ⟨t,rfl⟩:=r;rfl
 | flt _=>obtain ⟨t,rfl⟩:=r;rfl
 | ref _=>cases r;rfl
 | ty _=>cases r;rfl
theorem RelV.inj {x y:V}{u:Value}(r:RelV x u)(q:RelV y u):x=y:=Option.some.inj (r.abs.symm.trans q.abs)
theorem Vals.inj:∀ {xs ys:List V}{us:List Value},Vals xs us->Vals ys us->xs=ys
 | _,_,_,.nil,.nil=>rfl
 | _,_,_,.cons r t,.cons r' t' => by rw[r.inj r',Vals.inj t t']
section
variable {X:Cx}{pins:List (Addr×Obj)}{σ:St}{H:Hp}{s:Shared}{a:Addr}{xs ys:List V}
theorem SqL.of {K:PySem.W.Frag}(h:H a=some (.lst xs)):SqL K H a xs:=.inl (.inl h)
theorem SqT.of {K:PySem.W.Frag}(h:H a=some (.tup xs)):SqT K H a xs:=.inl (.inl h)
theorem Inv.list (I:Inv X pins σ H s)(h:SqL X.K H a xs):∃ its:List Value,Vals xs its/\PlainL s.heap a its.toArray/\xs.length<=sizeLine:=by
 rcases h with h | ⟨o,its,n,hk,hc,hd,hs,hz,r⟩
 ·obtain ⟨z,its,n,r,e⟩:=h.ok I.hok
  exact ⟨its,r,⟨_,n,e,rfl,rfl,rfl⟩,z⟩
 ·refine ⟨its.toList,r,⟨o,n,I.kIn a o hk,hc,hd,by simpa using hs⟩,?_⟩
  have e:=r.length
  simp only[length_toList] at e
  omega
theorem Inv.tuple (I:Inv X pins σ H s)(h:SqT X.K H a xs):∃ its:List Value,Vals xs its/\IsTup s.heap a its.toArray/\xs.length<=sizeLine:=by
 rcases h with h | ⟨o,its,n,hk,hc,hs,hz,r⟩
 ·obtain ⟨z,its,r,p,_⟩:=h.ok I.hok
  exact ⟨its,r,p,z⟩
 ·refine ⟨its.toList,r,⟨o,I.kIn a o hk,hc,n,by simpa using hs⟩,?_⟩
  have e:=r.length
  simp only[length_toList] at e
  omega
theorem Inv.zeZ (I:Inv X pins σ H s)(h:SqL X.K H a xs)(h' : SqL X.K H a ys):xs=ys:=by
 obtain ⟨its,r,⟨o,n,e,_,_,d⟩,_⟩:=I.list h
 obtain ⟨its',r',⟨o',n',e',_,_,d'⟩,_⟩:=I.list h'
 rw[e] at e';cases e'
 rw[d] at d'
 injection d' with d1 _
 have:its=its' := by simpa using congrArg Array.toList d1
 subst this
 exact r.inj r'
theorem Inv.VR (I:Inv X pins σ H s)(h:SqT X.K H a xs)(h' : SqT X.K H a ys):xs=ys:=by
 obtain ⟨its,r,⟨o,e,_,n,d⟩,_⟩:=I.tuple h
 obtain ⟨its',r',⟨o',e',_,n',d'⟩,_⟩:=I.tuple h'
 rw[e] at e';cases e'
 rw[d] at d'
 injection d' with d1 _
 have:its=its' := by simpa using congrArg Array.toList d1
 subst this
 exact r.inj r'
end
abbrev Cx.wish (X:Cx)(E:Value->Shared->Prop):Cx:={ X with xe:=E }
abbrev Cx.nox (X:Cx):Cx:=X.wish λ_ _=>False
theorem Cx.Ok.wish {X:Cx}(ok:X.Ok)(E:Value->Shared->Prop):(X.wish E).Ok:=
 ⟨ok.mod,ok.kind,ok.glob,ok.blt,ok.above,ok.inj,ok.has,ok.cab,ok.hd,ok.frames,ok.stk,ok.exf,ok.bs,ok.bsz,ok.noex,ok.exfs,ok.zbO,ok.frf⟩
theorem Cx.Ok.Q3 {X:Cx}{E:Value->Shared->Prop}(ok:(X.wish E).Ok):X.Ok:=
 ⟨ok.mod,ok.kind,ok.glob,ok.blt,ok.above,ok.inj,ok.has,ok.cab,ok.hd,ok.frames,ok.stk,ok.exf,ok.bs,ok.bsz,ok.noex,ok.exfs,ok.zbO,ok.frf⟩
section
variable {X:Cx}{pins:List (Addr×Obj)}{σ:St}{H:Hp}{s:Shared}{E:Value->Shared->Prop}
theorem Inv.wish (I:Inv X pins σ H s)(E:Value->Shared->Prop):Inv (X.wish E) pins σ H s:=⟨I.ok.wish E,I.os,I.bare,I.base,I.loc,I.cell,I.free,I.freeC,I.pin,I.hok,I.len⟩
theorem Inv.Q3 (I:Inv (X.wish E) pins σ H s):Inv X pins σ H s:=⟨I.ok.Q3,I.os,I.bare,I.base,I.loc,I.cell,I.free,I.freeC,I.pin,I.hok,I.len⟩
theorem SP.Q3 {D:Ends}{f:Flow}{s' : Shared}(h:SP (X.wish E) pins D f s'):SP X pins D f s' := by
 cases f with
 | next=>obtain ⟨σ',H',I,q⟩:=h;exact ⟨σ',H',I.Q3,q⟩
 | brk=>obtain ⟨σ',H',I,q⟩:=h;exact ⟨σ',H',I.Q3,q⟩
 | cont=>obtain ⟨σ',H',I,q⟩:=h;exact ⟨σ',H',I.Q3,q⟩
 | ret u=>obtain ⟨v,σ',H',I,r,q⟩:=h;exact ⟨v,σ',H',I.Q3,r,q⟩
theorem PSs.nox {st:List Stmt}{t:TS}(h:PSs X.nox st t):PSs X st t:=λpins s σ H D I hw=>
 wpAny_mono (h pins s σ H D (I.wish _) hw) (λ_ _ q=>q.Q3) λ_ _ z=>False.elim z
end
section
variable {X:Cx}{st:Stmt}{rest:List Stmt}{t u:TS}{e:Expr}{te:TE}{pos:Pos}
def zgs:TS:=λD σ H=>D.nx σ H
def zgr (t u:TS):TS:=λD σ H=>t { D with nx:=u D } σ H
theorem ZL:PSs X [] zgs:=λ_ _ σ H _ I h=>wpAny_execs_nil ⟨σ,H,I,h⟩
theorem Zf (h1:PS X st t)(h2:PSs X rest u):PSs X (st::rest) (zgr t u):=by
 intro pins s σ H D I h
 refine wpAny_execs_cons (thn (h1 pins s σ H { D with nx:=u D } I h) λf s1 q=>?_)
 cases f with
 | next=>
  obtain ⟨σ',H',I',q⟩:=q
  exact h2 pins s1 σ' H' D I' q
 | ret v=>exact q
 | brk=>exact q
 | cont=>exact q
theorem Zo (h1:PS X st t):PSs X [st] t:=by
 intro pins s σ H D I h
 refine wpAny_execs_cons (thn (h1 pins s σ H D I h) λf s1 q=>?_)
 cases f with
 | next=>exact wpAny_execs_nil q
 | ret v=>exact q
 | brk=>exact q
 | cont=>exact q
theorem Inv.quiet {pins:List (Addr×Obj)}{σ:St}{H:Hp}{s:Shared}(I:Inv X pins σ H s):interactive X.env=false:=by simp[interactive,I.ok.kind]
def zht (te:TE):TS:=λD σ H=>te σ H λ_ H1=>D.nx σ H1
theorem Jq (he:PE X e te)(hs:swapsWith e none pos.line X.env=pure false:=by rfl):PS X (.Expr e pos) (zht te):=by
 intro pins s σ H D I h
 exact wpAny_Expr_any (thn (he pins s σ H _ I h) λv s1 ⟨x,H1,I1,r1,q1⟩=>⟨σ,H1,I1,q1⟩) I.quiet hs
def zhk (te:TE):TS:=λD σ H=>te σ H D.rt
theorem ZD (he:PE X e te):PS X (.Return (some e) pos) (zhk te):=by
 intro pins s σ H D I h
 exact wpAny_Return_some (thn (he pins s σ H _ I h) λv s1 ⟨x,H1,I1,r1,q1⟩=>⟨x,σ,H1,I1,r1,q1⟩)
def zeb (c:TT)(t u:TS):TS:=λD σ H=>c σ H λb H1=>if b=true then t D σ H1 else u D σ H1
theorem Yk {c:Expr}{a b:List Stmt}{tc:TT}(hc:PT X c tc)(ha:PSs X a t)(hb:PSs X b u):PS X (.If c a b pos) (zeb tc t u):=by
 intro pins s σ H D I h
 refine wpAny_If (thn (hc pins s σ H _ I h) λd s1 ⟨H1,I1,q1⟩=>?_)
 cases d with
 | true=>exact ha pins s1 σ H1 D I1 q1
 | false=>exact hb pins s1 σ H1 D I1 q1
end
abbrev TG:=V->St->Hp->(St->Hp->Prop)->Prop
abbrev TGs:=List V->St->Hp->(St->Hp->Prop)->Prop
def PG (X:Cx)(target:Expr)(t:TG):Prop:=
 ∀ (pins:List (Addr×Obj)) (s:Shared) (σ:St) (H:Hp) (v:V) (u:Value) (Q:St->Hp->Prop),Inv X pins σ H s->RelV v u->t v σ H Q->
  wpAny (model X.prog X.w) X.A (assign target X.env u) (λ_ s' => ∃ σ' H',Inv X pins σ' H' s' /\ Q σ' H') X.xe s
def PGs (X:Cx)(ts:List Expr)(t:TGs):Prop:=
 ∀ (pins:List (Addr×Obj)) (s:Shared) (σ:St) (H:Hp) (vs:List V) (us:List Value) (Q:St->Hp->Prop),Inv X pins σ H s->Vals vs us->t vs σ H Q->
  wpAny (model X.prog X.w) X.A (assignInOrder ((assignEach ts X.env).map (·.2)) us) (λ_ s' => ∃ σ' H',Inv X pins σ' H' s' /\ Q σ' H') X.xe s
abbrev zjb:=V->V->V->Hp->(Hp->Prop)->Prop
def zka (X:Cx)(t:zjb):Prop:=
 ∀ (pins:List (Addr×Obj)) (s:Shared) (σ:St) (H:Hp) (o i v:V) (ov iv u:Value) (Q:Hp->Prop),Inv X pins σ H s->RelV o ov->RelV i iv->RelV v u->t o i v H Q->
  wpAny (model X.prog X.w) X.A (setItem ov iv u) (λ_ s' => ∃ H',Inv X pins σ H' s' /\ Q H') X.xe s
section
variable {X:Cx}{pos:Pos}
def Va (i:Nat):TG:=λv σ H Q=>Q (σ.set i (some v)) H
theorem Xn {i:Nat}{x:Str}(hN:X.N.Nodup)(hi:X.N[i]?=some x)(hx:Loc X.env.scope x)(hf:X.fn x=true\/X.env.scope.names.lookup x=some .local:=by first | exact .inl rfl | exact .inr rfl | assumption):PG X (.Name x pos) (Va i):=by
 intro pins s σ H v u Q I r h
 exact wpAny_assign_Name (JD I hN hi hx r (λs' I' => ⟨_,H,I',h⟩) hf)
def zjx:TGs:=λvs σ H Q=>vs=[]/\Q σ H
def zdH (t:TG)(u:TGs):TGs:=λvs σ H Q=>∃ v r,vs=v::r/\t v σ H fun σ' H' => u r σ' H' Q
theorem zbl:PGs X [] zjx:=by
 intro pins s σ H vs us Q I r h
 obtain ⟨e,h⟩:=h
 subst e
 cases r
 exact assignInOrder_nil ⟨σ,H,I,h⟩
theorem JF {e:Expr}{es:List Expr}{t:TG}{u:TGs}(h1:PG X e t)(h2:PGs X es u)
  (hs:(assignEach (e::es) X.env).map (·.2)=assign e X.env::(assignEach es X.env).map (·.2):=by rfl):PGs X (e::es) (zdH t u):=by
 intro pins s σ H vs us Q I r h
 obtain ⟨v,vr,e1,h⟩:=h
 subst e1
 cases r with
 | cons r rr=>
  rw[hs]
  refine assignInOrder_cons (thn (h1 pins s σ H _ _ _ I r h) λ_ s1 ⟨σ1,H1,I1,q1⟩=>?_)
  exact h2 pins s1 σ1 H1 _ _ Q I1 rr q1
def zjV (K:PySem.W.Frag)(n:Nat)(t:TGs):TG:=λv σ H Q=>∃ a xs,v = .ref a/\SqT K H a xs/\xs.length=n/\t xs σ H Q
theorem zfz {es:List Expr}{k:Nat}{t:TGs}{n:Nat}(hc:X.calm=true)(h:PGs X es t)
  (hn:(assignEach es X.env).length=n:=by rfl) (hst:(assignEach es X.env).findIdx? (·.1)=none:=by rfl):PG X (.Tuple es k pos) (zjV X.K n t):=by
 intro pins s σ H v u Q I r hw
 obtain ⟨a,xs,e1,hq,hl,hw⟩:=hw
 subst e1
 cases r
 obtain ⟨its,rv,ht,hz⟩:=I.tuple hq
 refine assign_Tuple_tuple (I.ok.hd hc) ht (by simp[hn,← hl,rv.length]) hst λh' hx=>?_
 have I1:Inv X pins σ H { s with heap:=h' }:=I.kept (t' := s.toks) λb o e=>hx b o (ne_of_lt (lt_size e)) e
 exact h pins _ σ H xs _ Q I1 (by simpa using rv) hw
def zi5 (to ti:TE)(t:zjb):TG:=λv σ H Q=>to σ H λo H1=>ti σ H1 λi H2=>t o i v H2 λH3=>Q σ H3
theorem Q8 {o i:Expr}{to ti:TE}{t:zjb}(ho:PE X o to)(hi:PE X i ti)(hs:zka X t)
  (ha:∀ v,assign (.Subscript o i pos) X.env v=(do
   let ov ← holding [v] (eval o X.env)
   let iv ← holding [v,ov] (eval i X.env)
   standAt pos
   holding [v,ov,iv] (setItem ov iv v)
   release [v,ov,iv] []):=by intro _;rfl):PG X (.Subscript o i pos) (zi5 to ti t):=by
 intro pins s σ H v u Q I r h
 rw[ha]
 refine wpAny_bind (wpAny_holding (thn (ho pins s σ H _ I h) λov s1 ⟨x,H1,I1,r1,q1⟩=>?_))
 refine wpAny_bind (wpAny_holding (thn (hi pins s1 σ H1 _ I1 q1) λiv s2 ⟨y,H2,I2,r2,q2⟩=>?_))
 refine wpAny_bind (wpAny_standAt (wpAny_bind (wpAny_holding (thn (hs pins s2 σ H2 x y v ov iv u _ I2 r1 r2 r q2) λ_ s3 ⟨H3,I3,q3⟩=>?_))))
 exact wpAny_release ⟨σ,H3,I3,q3⟩
def zeu (te:TE)(g:TG):TS:=λD σ H=>te σ H λx H1=>g x σ H1 D.nx
theorem Qo {tg e:Expr}{te:TE}{g:TG}(he:PE X e te)(hg:PG X tg g)(hs:swapsWithSole [tg] e pos.line X.env=pure false:=by rfl)(hw:swappedStores [tg] e X.env=pure none:=by rfl)
  (h1:(assignEach [tg] X.env).map (·.2)=[assign tg X.env]:=by rfl):PS X (.Assign [tg] e pos) (zeu te g):=by
 intro pins s σ H D I h
 refine wpAny_Assign_stores (thn (he pins s σ H _ I h) λv s1 ⟨x,H1,I1,r1,q1⟩=>?_) hs hw
 rw[h1]
 exact thn (hg pins s1 σ H1 x v _ I1 r1 q1) λ_ s2 q=>q
theorem ZQ {i:Nat}{x:Str}{e:Expr}{te:TE}{pos' : Pos}(hN:X.N.Nodup)(hi:X.N[i]?=some x)(hx:Loc X.env.scope x)(he:PE X e te)(hs:swapsWith e (some (.Name x pos')) pos.line X.env=pure false:=by rfl)(hf:X.fn x=true\/X.env.scope.names.lookup x=some .local:=by first | exact .inl rfl | exact .inr rfl | assumption):
  PS X (.Assign [.Name x pos'] e pos) (zeu te (Va i)):=by
 intro pins s σ H D I h
 refine wpAny_Assign_Name (thn (he pins s σ H _ I h) λv s1 ⟨y,H1,I1,r1,q1⟩=>?_) hs
 exact JD I1 hN hi hx r1 (λs2 I2=>⟨_,H1,I2,q1⟩) hf
def zjW (i j:Nat)(ta:TA):TS:=λD σ H=>ta σ H λvs H1=>∃ v w,vs=[v,w]/\D.nx ((σ.set i (some v)).set j (some w)) H1
theorem zhF {i j:Nat}{x y:Str}{a b:Expr}{ta:TA}{px py pt:Pos}{kt k2 pt2}(hc:X.calm=true)(hN:X.N.Nodup)(hi:X.N[i]?=some x)(hj:X.N[j]?=some y)(hij:i≠j)
  (hx:X.env.scope.names.lookup x=some .local) (hy:X.env.scope.names.lookup y=some .local) (ha:PA X [a,b] ta)
  (hw:swappedStores [.Tuple [.Name x px,.Name y py] kt pt] (.Tuple [a,b] k2 pt2) X.env=pure (some [x,y]))
  (hs:swapsWithSole [.Tuple [.Name x px,.Name y py] kt pt] (.Tuple [a,b] k2 pt2) pos.line X.env=pure false:=by rfl):
  PS X (.Assign [.Tuple [.Name x px,.Name y py] kt pt] (.Tuple [a,b] k2 pt2) pos) (zjW i j ta):=by
 intro pins s σ H D I h
 rw[exec_Assign_arm]
 refine wpAny_bind (wpAny_standAt ?_)
 rw[hs]
 refine wpAny_bind (wpAny_pure ?_)
 rw[if_neg (by decide)]
 refine wpAny_bind (Tuple_ (thn (ha _ pins s σ H _ I h) λus s1 ⟨vs,H1,I1,r1,q1⟩=>?_))
 obtain ⟨v,w,e1,q1⟩:=q1
 subst e1
 obtain ⟨u1,u2,rfl,rv,rw'⟩:∃ u1 u2,us=[u1,u2]/\RelV v u1/\RelV w u2:=by
  cases r1 with
  | cons p q=>
   cases q with
   | cons p' q' =>
    cases q'
    exact ⟨_,_,rfl,p,p'⟩
 refine wpAny_newObj_type ?_ (by show 2<=sizeLine;decide)
 have I2:Inv X pins σ H1 { s1 with heap:=s1.heap.push { cls:=.type "tuple",data:=.seq [u1,u2].toArray } }:=I1.kept (t' := s1.toks) λb o e=>get?_push_of_some _ e
 rw[hw]
 refine wpAny_bind (wpAny_pure ?_)
 show wpAny (model X.prog X.w) X.A (do rule "assign.swapped-stores";let items ← unpackItems (.ref s1.heap.objs.size) 2 none;assignInOrder [λv=>bindName X.env y v,λv=>bindName X.env x v] items.reverse;pure Flow.next) _ _ _
 refine wpAny_bind (wpAny_rule (wpAny_bind (unpackItems_tuple (items:=#[u1,u2]) (I.ok.hd hc) (IsTup.new s1.heap _) λh' hx' => ?_)))
 have I3:=I2.kept (h' := h') (t' := s1.toks) λb o e=>hx' b o (ne_of_lt (lt_size e)) e
 show wpAny _ _ (assignInOrder [λv=>bindName X.env y v,λv=>bindName X.env x v] [u2,u1] >>= λ_=>pure Flow.next) _ _ _
 refine wpAny_bind (assignInOrder_cons (wpAny_bindName (JD I3 hN hj (.inl hy) rw' (λs2 I4=>?_) (.inr hy))))
 refine assignInOrder_cons (wpAny_bindName (JD I4 hN hi (.inl hx) rv (λs3 I5=>assignInOrder_nil (wpAny_pure ?_)) (.inr hx)))
 rw[List.set_comm _ _ (Ne.symm hij)] at I5
 exact ⟨_,H1,I5,q1⟩
def zdm (c:TT)(tb:TS):TS:=λD σ H=>∃ W:Nat->St->Hp->Prop,(∃ m,W m σ H)/\∀ m σ H,W m σ H->
 c σ H λb H1=>if b=true then ∃ N:St->Hp->Prop,(∀ σ' H',N σ' H' -> ∃ m',m'<m/\W m' σ' H')/\tb { D with nx:=N,ct:=N,bk:=D.nx } σ H1 else D.nx σ H1
theorem zb0 {c:Expr}{body:List Stmt}{tc:TT}{tb:TS}(hp:PassesOwn (model X.prog X.w) X.A X.env X.xe)(hc:PT X c tc)(hb:PSs X body tb):PS X (.While c body [] pos) (zdm tc tb):=by
 intro pins s σ H D I h
 obtain ⟨W,⟨m0,w0⟩,turn⟩:=h
 refine wpAny_While (codeAny_whileLoop (λn s' => ∃ σ' H',Inv X pins σ' H' s' /\ W n σ' H') ?_ m0 ⟨σ,H,I,w0⟩)
 rintro n s1 ⟨σ1,H1,I1,w1⟩
 refine wpAny_passesOwn hp (thn (hc pins s1 σ1 H1 _ I1 (turn n σ1 H1 w1)) λb s2 ⟨H2,I2,q2⟩=>?_)
 cases b with
 | true=>
  obtain ⟨N,hN,q2⟩:=q2
  rw[if_pos rfl]
  refine wpAny_passesOwn hp (thn (hb pins s2 σ1 H2 _ I2 q2) λf s3 q3=>?_)
  cases f with
  | next=>
   obtain ⟨σ3,H3,I3,n3⟩:=q3
   obtain ⟨m',hm,w3⟩:=hN σ3 H3 n3
   exact ⟨m',hm,σ3,H3,I3,w3⟩
  | cont=>
   obtain ⟨σ3,H3,I3,n3⟩:=q3
   obtain ⟨m',hm,w3⟩:=hN σ3 H3 n3
   exact ⟨m',hm,σ3,H3,I3,w3⟩
  | brk=>exact q3
  | ret v=>exact q3
 | false=>
  rw[if_neg Bool.false_ne_true]
  exact wpAny_execs_nil ⟨σ1,H2,I2,q2⟩
end
structure It where
 go:Nat->Hp->Prop
 yld:Nat->Hp->V->Hp->Prop
 stop:Nat->Hp->Prop
def zcC (X:Cx)(pins:List (Addr×Obj))(H:Hp)(b:Addr):Prop:=
 H b=none/\b≠X.env.locals/\b∉X.fs/\(b∈X.ex\/X.s₀.heap.objs.size<=b)/\(∀ x c,X.env.cells.lookup x=some c->c≠b)/\∀ p∈X.pn++pins,p.1≠b
theorem Inv.zg5 {X:Cx}{pins:List (Addr×Obj)}{σ:St}{H H' : Hp}{s:Shared}{b:Addr}(I:Inv X pins σ H s)(hb:s.heap.objs.size<=b)(hn:H' b=none):zcC X pins H' b:=by
 refine ⟨hn,Nat.ne_of_gt (Nat.lt_of_lt_of_le I.lt hb),I.zkk hb,.inr (le_trans I.sz hb),λx c e z=>?_,λp hp z=>?_⟩
 ·obtain ⟨v,q⟩:=I.cell x c e
  exact absurd (Nat.lt_of_lt_of_le q.lt (by rw[z];exact hb)) (lt_irrefl _)
 ·exact absurd (Nat.lt_of_lt_of_le (lt_size (I.pin p hp).1) (by rw[z];exact hb)) (lt_irrefl _)
structure Turn (P:Program)(w:World)(K:PySem.W.Frag)(tg:Expr)(J:It)(fp:List Addr)(it:Addr)(tn:Nat->Heap->Prop):Prop where
 mem:it∈fp
 obj:∀ i h,tn i h->∀ b∈fp,∃ o,h.get? b=some o/\∀ v,o.data≠.cell v
 keep:∀ i h h',tn i h->(∀ b∈fp,∀ o,h.get? b=some o->h'.get? b=some o)->tn i h'
 item:∀ (X:Cx),X.prog=P->X.w=w->X.K=K->X.calm=true->∀ (i:Nat) (pins:List (Addr×Obj)) (s:Shared) (σ:St) (H:Hp) (E:Value->Shared->Prop),Inv X pins σ H s->(∀ b∈fp,zcC X pins H b)->tn i s.heap->J.go i H->
  wpAny (model P w) X.A (pyNext (.ref it)) (λr s1=>∃ u,r=some u/\
   wpAny (model P w) X.A (letOwnedTupleGo tg (.ref it) u) (λ_ s2=>∃ x H',Inv X pins σ H' s2/\RelV x u/\J.yld i H x H' /\ tn (i+1) s2.heap/\∀ b∈fp,H' b=none) E s1) E s
 done:∀ (X:Cx),X.prog=P->X.w=w->X.K=K->X.calm=true->∀ (i:Nat) (pins:List (Addr×Obj)) (s:Shared) (σ:St) (H:Hp) (E:Value->Shared->Prop),Inv X pins σ H s->(∀ b∈fp,zcC X pins H b)->tn i s.heap->J.stop i H->
  wpAny (model P w) X.A (pyNext (.ref it)) (λr s1=>r=none/\Inv X pins σ H s1) E s
 self:∀ (A:Around) (i:Nat) (s:Shared) (Q:Value->Shared->Prop) (E:Value->Shared->Prop),tn i s.heap->Q (.ref it) s->wpAny (model P w) A (pyIter (.ref it)) Q E s
abbrev TI:=St->Hp->(It->Hp->Prop)->Prop
def PIE (X:Cx)(pins:List (Addr×Obj))(σ:St)(tg:Expr)(R:It->Hp->Prop)(itv:Value)(s2:Shared):Prop:=
 ∃ (it:Addr) (fp:List Addr) (tn:Nat->Heap->Prop) (J:It) (H' : Hp),itv = .ref it/\Inv X pins σ H' s2/\Turn X.prog X.w X.K tg J fp it tn/\tn 0 s2.heap/\(∀ b∈fp,zcC X pins H' b)/\R J H'
def PI (X:Cx)(tg iter:Expr)(wi:TI):Prop:=
 ∀ (pins:List (Addr×Obj)) (s:Shared) (σ:St) (H:Hp) (R:It->Hp->Prop),Inv X pins σ H s->wi σ H R->
  wpAny (model X.prog X.w) X.A (eval iter X.env) (λv s1=>wpAny (model X.prog X.w) X.A (pyIter v) (PIE X pins σ tg R) X.xe s1) X.xe s
theorem zc4 {M:Model}{A:Around}{E:Value->Shared->Prop}{s:Shared}{tg:Expr}{it:Addr}{u:Value}{o:Obj}{n:String}{vs:Array Value}{Q:Unit->Shared->Prop}(ho:s.heap.get? it=some o)(hc:o.cls = .type n)(hd:o.data = .fields vs)
  (hn:["enumerate", "zip", "dict_itemiterator", "dict_reverseitemiterator", "odict_iterator", "itertools.zip_longest", "itertools.pairwise"].contains n=false) (hQ:Q () s):wpAny M A (letOwnedTupleGo tg (.ref it) u) Q E s:=by
 unfold letOwnedTupleGo
 cases tg <;> first
  | exact wpAny_pure hQ
  | (cases u <;> first
    | exact wpAny_pure hQ
    | (refine wpAny_bind (wpAny_load ho ?_);rw[hc,hd];show wpAny M A (if (["enumerate", "zip", "dict_itemiterator", "dict_reverseitemiterator", "odict_iterator", "itertools.zip_longest", "itertools.pairwise"].contains n&&vs[0]?==some (rawInt _))=true then _ else _) Q E s;rw[if_neg (by intro h;rw[hn,Bool.false_and] at h;cases h)];exact wpAny_pure hQ))
noncomputable def Itl (K:PySem.W.Frag) (a:Addr):It:=
 ⟨λi H=>∃ xs x,SqL K H a xs/\xs[i]?=some x,λi H x H' => H'=H/\∀ xs,SqL K H a xs->xs[i]?=some x,λi H=>∃ xs,SqL K H a xs/\xs.length<=i⟩
noncomputable def Itt (K:PySem.W.Frag) (a:Addr):It:=
 ⟨λi H=>∃ xs x,SqT K H a xs/\xs[i]?=some x,λi H x H' => H'=H/\∀ xs,SqT K H a xs->xs[i]?=some x,λi H=>∃ xs,SqT K H a xs/\xs.length<=i⟩
noncomputable def Itr (lo:Int) (n:Nat):It:=⟨λi _=>i<n,λi H x H' => H'=H/\x = .int (lo+i),λi _=>n<=i⟩
theorem zcM {P:Program}{w:World}{K:PySem.W.Frag}{tg:Expr}(a it:Addr):Turn P w K tg (Itl K a) [it] it (λi h=>h.IsListIter it a i) where
 mem:=by simp
 obj:=λi h st b hb=>by
  have e:b=it:=by simpa using hb
  subst e
  obtain ⟨o,e,c,d⟩:=st
  exact ⟨o,e,λv z=>by rw[d] at z;cases z⟩
 keep:=λi h h' st k=>st.at λo e=>k it (by simp) o e
 item:=by
  intro X hP hw hK hc i pins s σ H E I hf st hg
  subst hP hw hK
  obtain ⟨xs,x,hq,hx⟩:=hg
  obtain ⟨its,rv,p,hz⟩:=I.list hq
  obtain ⟨u,hu,ru⟩:=rv.get hx
  obtain ⟨f0,f1,f2,f3,f4,f5⟩:=hf it (by simp)
  refine wpAny_pyNext_list_item st p.isList (x:=u) (by simpa using hu) λh' st' sb=>?_
  have I1:Inv X pins σ H { s with heap:=h' }:=I.turned (t' := s.toks) (λb o hb e=>(sb.2 b hb).trans e) f0 f1 f3 f4 f5
  obtain ⟨o,e,c,d⟩:=id st'
  exact ⟨u,rfl,zc4 (s:={ s with heap:=h' }) e c d (by decide) ⟨x,H,I1,ru,⟨rfl,λys hy=>by rw[I.zeZ hy hq];exact hx⟩,st',λb hb=>(hf b hb).1⟩⟩
 done:=by
  intro X hP hw hK hc i pins s σ H E I hf st hg
  subst hP hw hK
  obtain ⟨xs,hq,hx⟩:=hg
  obtain ⟨its,rv,p,hz⟩:=I.list hq
  obtain ⟨f0,f1,f2,f3,f4,f5⟩:=hf it (by simp)
  have hl:=rv.length
  exact wpAny_pyNext_list_end (I.ok.hd hc) st p.isList (by simp;omega) λh' eb=>⟨rfl,I.turned (t' := s.toks) (λb o hb e=>eb b o hb e) f0 f1 f3 f4 f5⟩
 self:=λ_ _ _ _ _ st h=>wpAny_pyIter_listiter st h
theorem zcv {P:Program}{w:World}{K:PySem.W.Frag}{tg:Expr}(a it:Addr):Turn P w K tg (Itt K a) [it] it (λi h=>h.IsTupleIter it a i) where
 mem:=by simp
 obj:=λi h st b hb=>by
  have e:b=it:=by simpa using hb
  subst e
  obtain ⟨o,e,c,d⟩:=st
  exact ⟨o,e,λv z=>by rw[d] at z;cases z⟩
 keep:=λi h h' st k=>st.at λo e=>k it (by simp) o e
 item:=by
  intro X hP hw hK hc i pins s σ H E I hf st hg
  subst hP hw hK
  obtain ⟨xs,x,hq,hx⟩:=hg
  obtain ⟨its,rv,p,hz⟩:=I.tuple hq
  obtain ⟨u,hu,ru⟩:=rv.get hx
  obtain ⟨f0,f1,f2,f3,f4,f5⟩:=hf it (by simp)
  refine wpAny_pyNext_tuple_item st (show s.heap.IsTuple a its.toArray from p) (x:=u) (by simpa using hu) λh' st' sb=>?_
  have I1:Inv X pins σ H { s with heap:=h' }:=I.turned (t' := s.toks) (λb o hb e=>(sb.2 b hb).trans e) f0 f1 f3 f4 f5
  obtain ⟨o,e,c,d⟩:=id st'
  exact ⟨u,rfl,zc4 (s:={ s with heap:=h' }) e c d (by decide) ⟨x,H,I1,ru,⟨rfl,λys hy=>by rw[I.VR hy hq];exact hx⟩,st',λb hb=>(hf b hb).1⟩⟩
 done:=by
  intro X hP hw hK hc i pins s σ H E I hf st hg
  subst hP hw hK
  obtain ⟨xs,hq,hx⟩:=hg
  obtain ⟨its,rv,p,hz⟩:=I.tuple hq
  obtain ⟨f0,f1,f2,f3,f4,f5⟩:=hf it (by simp)
  have hl:=rv.length
  exact wpAny_pyNext_tuple_end (I.ok.hd hc) st (show s.heap.IsTuple a its.toArray from p) (by simp;omega) λh' eb=>⟨rfl,I.turned (t' := s.toks) (λb o hb e=>eb b o hb e) f0 f1 f3 f4 f5⟩
 self:=λ_ _ _ _ _ st h=>wpAny_pyIter_tupleiter st h
theorem zb9 {P:Program}{w:World}{K:PySem.W.Frag}{tg:Expr}(it:Addr)(lo:Int)(n:Nat):Turn P w K tg (Itr lo n) [it] it (λi h=>IsRangeIter h it (lo+(i:Nat)*1) ((n:Int)-(i:Nat)) 1) where
 mem:=by simp
 obj:=λi h st b hb=>by
  have e:b=it:=by simpa using hb
  subst e
  exact ⟨_,st,λv z=>by
   have z' : Data.fields _=Data.cell v:=z
   cases z'⟩
 keep:=λi h h' st k=>k it (by simp) _ st
 item:=by
  intro X hP hw hK hc i pins s σ H E I hf st hg
  subst hP hw hK
  obtain ⟨f0,f1,f2,f3,f4,f5⟩:=hf it (by simp)
  have W:=Walks.range (prog:=X.prog) (w:=X.w) (I.ok.hd hc) it lo 1 n
  refine W.item i s _ _ hg st λv h' tk hv st' kk=>?_
  obtain ⟨t,rfl⟩:=hv
  have I1:Inv X pins σ H { s with heap:=h',toks:=tk }:=I.turned (λb o hb e=>kk b o (by simpa using hb) e) f0 f1 f3 f4 f5
  refine ⟨_,rfl,zc4 (s:={ s with heap:=h',toks:=tk }) (n:= "range_iterator") st' rfl rfl (by decide) ⟨.int (lo+i),H,I1,⟨t,?_⟩,⟨rfl,rfl⟩,st',λb hb=>(hf b hb).1⟩⟩
  rw[Int.mul_one]
 done:=by
  intro X hP hw hK hc i pins s σ H E I hf st hg
  subst hP hw hK
  obtain ⟨f0,f1,f2,f3,f4,f5⟩:=hf it (by simp)
  exact wpAny_pyNext_range_end (I.ok.hd hc) st (by have:n<=i:=hg;omega) λh' eb=>⟨rfl,I.turned (t' := s.toks) (λb o hb e=>eb b o hb e) f0 f1 f3 f4 f5⟩
 self:=λ_ _ _ _ _ st h=>wpAny_pyIter_rangeiter st h
section
variable {X:Cx}{tg:Expr}
def zgk (K:PySem.W.Frag)(tl:TE):TI:=fun σ H R=>tl σ H λx H1=>∃ a,x = .ref a/\(∃ xs,SqL K H1 a xs)/\R (Itl K a) H1
def zjI (K:PySem.W.Frag)(tl:TE):TI:=fun σ H R=>tl σ H λx H1=>∃ a,x = .ref a/\(∃ xs,SqT K H1 a xs)/\R (Itt K a) H1
theorem zab {l:Expr}{tl:TE}(hl:PE X l tl):PI X tg l (zgk X.K tl):=by
 intro pins s σ H R I h
 refine thn (hl pins s σ H _ I h) λv s1 ⟨x,H1,I1,r1,q1⟩=>?_
 obtain ⟨a,e,⟨xs,hq⟩,q⟩:=q1
 subst e
 cases r1
 obtain ⟨its,rv,p,hz⟩:=I1.list hq
 refine wpAny_pyIter_list p.isList ?_
 refine ⟨s1.heap.objs.size,[s1.heap.objs.size],_,_,H1,rfl,I1.kept (t' := s1.toks) λb o e=>get?_push_of_some _ e,zcM a _,⟨_,get?_push_size _ rfl,rfl,rfl⟩,λb hb=>?_,q⟩
 have e:b=s1.heap.objs.size:=by simpa using hb
 subst e
 exact I1.zg5 (Nat.le_refl _) (I1.hok.fresh (Nat.le_refl _))
theorem zbs {l:Expr}{tl:TE}(hl:PE X l tl):PI X tg l (zjI X.K tl):=by
 intro pins s σ H R I h
 refine thn (hl pins s σ H _ I h) λv s1 ⟨x,H1,I1,r1,q1⟩=>?_
 obtain ⟨a,e,⟨xs,hq⟩,q⟩:=q1
 subst e
 cases r1
 obtain ⟨its,rv,p,hz⟩:=I1.tuple hq
 refine wpAny_pyIter_tuple (show s1.heap.IsTuple a its.toArray from p) ?_
 refine ⟨s1.heap.objs.size,[s1.heap.objs.size],_,_,H1,rfl,I1.kept (t' := s1.toks) λb o e=>get?_push_of_some _ e,zcv a _,⟨_,get?_push_size _ rfl,rfl,rfl⟩,λb hb=>?_,q⟩
 have e:b=s1.heap.objs.size:=by simpa using hb
 subst e
 exact I1.zg5 (Nat.le_refl _) (I1.hok.fresh (Nat.le_refl _))
theorem zek {pins:List (Addr×Obj)}{σ:St}{H:Hp}{s:Shared}{R:It->Hp->Prop}{E:Value->Shared->Prop}{lo hi:Int}{t u v:Tok}{tk:Nat}(I:Inv X pins σ H s)(h1:-(2 ^ 62)<=lo)(h2:lo<2 ^ 62)(h3:-(2 ^ 62)<=hi)(h4:hi<2 ^ 62)
  (q:R (Itr lo (hi-lo).toNat) H):wpAny (model X.prog X.w) X.A (pyIter (.ref s.heap.objs.size)) (PIE X pins σ tg R) E { s with heap:=s.heap.push { cls:=.type "range",data:=.fields #[.int lo t,.int hi u,.int 1 v] },toks:=tk }:=by
 refine wpAny_pyIter_range (IsRange.new ..) (small_one h1 h2 h3 h4) ?_
 have I1:Inv X pins σ H { s with heap:=s.heap.push { cls:=.type "range",data:=.fields #[.int lo t,.int hi u,.int 1 v] },toks:=tk }:=I.kept λb o e=>get?_push_of_some _ e
 refine ⟨(s.heap.push { cls:=.type "range",data:=.fields #[.int lo t,.int hi u,.int 1 v] }).objs.size,[(s.heap.push { cls:=.type "range",data:=.fields #[.int lo t,.int hi u,.int 1 v] }).objs.size],_,_,H,rfl,
  I1.kept (t' := tk) λb o e=>get?_push_of_some _ e,zb9 _ lo (hi-lo).toNat,?_,λb hb=>?_,q⟩
 ·have e1:lo+((0:Nat):Int)*1=lo:=by simp
  have e2:(((hi-lo).toNat:Nat):Int)-((0:Nat):Int)=Builtin.Range.rangeSize lo hi 1:=by rw[rangeSize_one];split <;> omega
  show IsRangeIter _ _ (lo+((0:Nat):Int)*1) ((((hi-lo).toNat:Nat):Int)-((0:Nat):Int)) 1
  rw[e1,e2]
  exact get?_push_size _ rfl
 ·have e:b=(s.heap.push { cls:=.type "range",data:=.fields #[.int lo t,.int hi u,.int 1 v] }).objs.size:=by simpa using hb
  subst e
  exact I1.zg5 (Nat.le_refl _) (I1.hok.fresh (Nat.le_refl _))
def zeK (ta:TA):TI:=fun σ H R=>ta σ H λvs H1=>∃ j:Int,vs=[.int j]/\-(2 ^ 62)<=j/\j<2 ^ 62/\R (Itr 0 j.toNat) H1
theorem Xj {a:Expr}{ta:TA}{p pos:Pos}(hg:Gl X "range")(hm:X.mg "range" = none)(ha:PA X [a] ta)(hs:starEach [a] X.env=[(false,eval a X.env)]:=by rfl):PI X tg (.Call (.Name "range" p) [a] [] pos) (zeK ta):=by
 intro pins s σ H R I h
 refine Call_ (Vx I hg hm boot_range (PyProof.Rows.callWith_type1 (thn (ha pos pins s σ H _ I h) λus s1 ⟨vs,H1,I1,r1,q1⟩=>?_) hs rfl))
 obtain ⟨j,e,q1,q2,q⟩:=q1
 subst e
 cases r1 with
 | cons r rr=>
  cases rr
  obtain ⟨t,rfl⟩:=r
  exact call_range_1 (zek I1 (by omega) (by omega) q1 q2 (by simpa using q))
def zjH (wi:TI)(g:TG)(tb:TS):TS:=λD σ H=>wi σ H λJ H1=>∃ W:Nat->Nat->St->Hp->Prop,(∃ m,W 0 m σ H1)/\∀ i m σ H,W i m σ H->
 (J.stop i H/\D.nx σ H)\/(J.go i H/\∃ N:St->Hp->Prop,(∀ σ' H',N σ' H' -> ∃ m',m'<m/\W (i+1) m' σ' H')/\∀ x H',J.yld i H x H' -> g x σ H' fun σ2 H2=>tb { D with nx:=N,ct:=N,bk:=D.nx } σ2 H2)
noncomputable def QX (fp:List Addr) (h:Heap):List (Addr×Obj):=fp.filterMap λb=>(h.get? b).map λo=>(b,o)
theorem Qx {fp:List Addr}{h:Heap}{b:Addr}{o:Obj}(hb:b∈fp)(e:h.get? b=some o):(b,o)∈QX fp h:=List.mem_filterMap.mpr ⟨b,hb,by rw[e];rfl⟩
theorem zaE {fp:List Addr}{h:Heap}{p:Addr×Obj}(hp:p∈QX fp h):p.1∈fp/\h.get? p.1=some p.2:=by
 obtain ⟨b,hb,e⟩:=List.mem_filterMap.mp hp
 cases q:h.get? b with
 | none=>rw[q] at e;cases e
 | some o=>
  rw[q] at e
  have e' : (b,o)=p:=Option.some.inj e
  subst e'
  exact ⟨hb,q⟩
theorem Inv.pinned {pins:List (Addr×Obj)}{σ:St}{H:Hp}{s:Shared}{fp:List Addr}(I:Inv X pins σ H s)(hf:∀ b∈fp,zcC X pins H b)(ho:∀ b∈fp,∃ o,s.heap.get? b=some o/\∀ v,o.data≠.cell v):Inv X (pins++QX fp s.heap) σ H s:=
 I.QR λp hp=>(mem_append.mp hp).elim (λz=>I.pin p (mem_append_right _ z)) λz=>by
  obtain ⟨hb,e⟩:=zaE z
  obtain ⟨f0,f1,f2,_⟩:=hf p.1 hb
  obtain ⟨o,e',d⟩:=ho p.1 hb
  rw[e] at e';cases e'
  exact ⟨e,f0,f1,f2,d⟩
theorem Inv.Qg {pins pl:List (Addr×Obj)}{σ:St}{H:Hp}{s:Shared}(I:Inv X (pins++pl) σ H s):Inv X pins σ H s:=I.QR λp hp=>I.pin p (mem_append_right _ (List.mem_append_left _ hp))
theorem Qd {iter:Expr}{body:List Stmt}{wi:TI}{g:TG}{tb:TS}{pos:Pos}(hp:PassesOwn (model X.prog X.w) X.A X.env X.xe)(hc:X.calm=true)(hi:PI X tg iter wi)(hg:PG X tg g)(hb:PSs X body tb)
  (hs:∀ x,foldedSetIterable iter X.env x=pure x:=by intro _;rfl):PS X (.For tg iter body [] pos) (zjH wi g tb):=by
 intro pins s σ H D I h
 refine wpAny_For (thn (hi pins s σ H _ I h) λv s1 h1=>thn h1 λitv s2 h2=>?_) hs
 obtain ⟨it,fp,tn,J,H2,e,I2,T,st2,f2,W,⟨m0,w0⟩,turn⟩:=h2
 subst e
 have stat:∀ {H' : Hp},(∀ b∈fp,H' b=none)->∀ b∈fp,zcC X pins H' b:=λhn b hb=>⟨hn b hb,(f2 b hb).2⟩
 refine codeAny_forLoop_any (λn s' => ∃ i σ' H',Inv X pins σ' H' s' /\ tn i s'.heap/\(∀ b∈fp,H' b=none)/\W i n σ' H') ?_ m0 ⟨0,σ,H2,I2,st2,λb hb=>(f2 b hb).1,w0⟩
 rintro n s3 ⟨i,σ3,H3,I3,st3,fr3,w3⟩
 rcases turn i n σ3 H3 w3 with ⟨stop,qn⟩ | ⟨go,N,hN,step⟩
 ·refine wpAny_passesOwn hp (thn (T.done X rfl rfl rfl hc i pins s3 σ3 H3 X.xe I3 (stat fr3) st3 stop) λr s4 ⟨hr,I4⟩=>?_)
  subst hr
  exact wpAny_execs_nil ⟨σ3,H3,I4,qn⟩
 ·refine wpAny_passesOwn hp (thn (T.item X rfl rfl rfl hc i pins s3 σ3 H3 X.xe I3 (stat fr3) st3 go) λr s4 ⟨u,hr,h4⟩=>?_)
  subst hr
  refine wpAny_passesOwn hp (thn h4 λ_ s5 ⟨x,H5,I5,r5,y5,st5,fr5⟩=>?_)
  have I5' := I5.pinned (stat fr5) (T.obj _ _ st5)
  refine wpAny_passesOwn hp (thn (hg _ s5 σ3 H5 x u _ I5' r5 (step x H5 y5)) λ_ s6 ⟨σ6,H6,I6,q6⟩=>?_)
  refine wpAny_passesOwn hp (thn (hb _ s6 σ6 H6 _ I6 q6) λf s7 q7=>?_)
  have again:∀ {σ7:St}{H7:Hp},Inv X (pins++QX fp s5.heap) σ7 H7 s7->N σ7 H7->∃ m,m<n/\∃ i σ' H',Inv X pins σ' H' s7/\tn i s7.heap/\(∀ b∈fp,H' b=none)/\W i m σ' H' := λ{σ7 H7} I7 n7=>by
   obtain ⟨m',hm,w7⟩:=hN σ7 H7 n7
   refine ⟨m',hm,i+1,σ7,H7,I7.Qg,T.keep _ _ _ st5 λb hb o e=>(I7.pin (b,o) (mem_append_right _ (mem_append_right _ (Qx hb e)))).1,λb hb=>?_,w7⟩
   obtain ⟨o,e,d⟩:=T.obj _ _ st5 b hb
   exact (I7.pin (b,o) (mem_append_right _ (mem_append_right _ (Qx hb e)))).2.1
  cases f with
  | next=>obtain ⟨σ7,H7,I7,n7⟩:=q7;exact again I7 n7
  | cont=>obtain ⟨σ7,H7,I7,n7⟩:=q7;exact again I7 n7
  | brk=>obtain ⟨σ7,H7,I7,q7⟩:=q7;exact ⟨σ7,H7,I7.Qg,q7⟩
  | ret v=>obtain ⟨x7,σ7,H7,I7,r7,q7⟩:=q7;exact ⟨x7,σ7,H7,I7.Qg,r7,q7⟩
end
theorem zew {c:TT}{tb:TS}{D:Ends}{σ:St}{H:Hp}(Pv:St->Hp->Prop)(μ:St->Hp->Nat)(h0:Pv σ H)
  (hs:∀ σ H,Pv σ H->c σ H λb H1=>if b=true then tb { D with nx:=fun σ' H' => Pv σ' H' /\ μ σ' H'<μ σ H,ct:=fun σ' H' => Pv σ' H' /\ μ σ' H'<μ σ H,bk:=D.nx } σ H1 else D.nx σ H1)
  (mono:∀ σ H Q Q',(∀ b H1,Q b H1->Q' b H1)->c σ H Q->c σ H Q'):zdm c tb D σ H:=by
 refine ⟨λm σ H=>m=μ σ H/\Pv σ H,⟨_,rfl,h0⟩,?_⟩
 rintro m σ H ⟨rfl,p⟩
 refine mono σ H _ _ (λb H1 q=>?_) (hs σ H p)
 cases b with
 | true=>exact ⟨_,fun σ' H' ⟨p',l⟩=>⟨_,l,rfl,p'⟩,q⟩
 | false=>exact q
abbrev R2:=V->V->Hp->VK->Prop
def OpR (X:Cx)(f:Value->Value->Sem Value)(r:R2):Prop:=
 ∀ (pins:List (Addr×Obj)) (s:Shared) (σ:St) (H:Hp) (x y:V) (v u:Value) (Q:VK),Inv X pins σ H s->RelV x v->RelV y u->r x y H Q->
  wpAny (model X.prog X.w) X.A (f v u) (EP X pins σ Q) X.xe s
def UnR (X:Cx)(f:Value->Sem Value)(r:V->Hp->VK->Prop):Prop:=
 ∀ (pins:List (Addr×Obj)) (s:Shared) (σ:St) (H:Hp) (x:V) (v:Value) (Q:VK),Inv X pins σ H s->RelV x v->r x H Q->
  wpAny (model X.prog X.w) X.A (f v) (EP X pins σ Q) X.xe s
def QQ (X:Cx)(f:Value)(r:List V->Hp->VK->Prop):Prop:=
 ∀ (pins:List (Addr×Obj)) (s:Shared) (σ:St) (H:Hp) (xs:List V) (us:List Value) (Q:VK),Inv X pins σ H s->Vals xs us->r xs H Q->
  wpAny (model X.prog X.w) X.A (call f us) (EP X pins σ Q) X.xe s
def tOp (r:R2)(ta tb:TE):TE:=fun σ H Q=>ta σ H λx H1=>tb σ H1 λy H2=>r x y H2 Q
def tUn (r:V->Hp->VK->Prop)(ta:TE):TE:=fun σ H Q=>ta σ H λx H1=>r x H1 Q
def rI (C:Int->Int->Prop)(g:Int->Int->V):R2:=λx y H Q=>∃ i j,x = .int i/\y = .int j/\C i j/\Q (g i j) H
def rI0 (g:Int->Int->V):R2:=λx y H Q=>∃ i j,x = .int i/\y = .int j/\Q (g i j) H
def rU (g:Int->V):V->Hp->VK->Prop:=λx H Q=>∃ i,x = .int i/\Q (g i) H
section
variable {X:Cx}{a b c:Expr}{ta tb tc:TE}{pos:Pos}
theorem zjt (ha:PE X a ta)(hb:PE X b tb){pins:List (Addr×Obj)}{s:Shared}{σ:St}{H:Hp}{R:V->V->Hp->Prop}(I:Inv X pins σ H s)
  (h:ta σ H λx H1=>tb σ H1 λy H2=>R x y H2) {Q:Value->Shared->Prop}{f:Value->Value->Sem Value}
  (hf:∀ v u s2 x y H2,Inv X pins σ H2 s2->RelV x v->RelV y u->R x y H2->wpAny (model X.prog X.w) X.A (f v u) Q X.xe s2):
  wpAny (model X.prog X.w) X.A (eval a X.env) (λv s₁=>wpAny (model X.prog X.w) X.A (eval b X.env) (λu s₂=>wpAny (model X.prog X.w) X.A (f v u) Q X.xe s₂) X.xe s₁) X.xe s:=by
 refine thn (ha pins s σ H _ I h) λv s1 ⟨x,H1,I1,r1,q1⟩=>?_
 refine thn (hb pins s1 σ H1 _ I1 q1) λu s2 ⟨y,H2,I2,r2,q2⟩=>?_
 exact hf v u s2 x y H2 I2 r1 r2 q2
theorem ZX {op:Operator}{r:R2}(ho:OpR X (binaryOp op) r)(ha:PE X a ta)(hb:PE X b tb):PE X (.BinOp a op b pos) (tOp r ta tb):=by
 intro pins s σ H Q I h
 exact wpAny_BinOp (zjt ha hb I h λv u s2 x y H2 I2 rx ry q=>ho pins s2 σ H2 x y v u Q I2 rx ry q)
theorem zhb {op:UnaryOp}{r:V->Hp->VK->Prop}(ho:UnR X (unaryOp op) r)(ha:PE X a ta):PE X (.UnaryOp op a pos) (tUn r ta):=by
 intro pins s σ H Q I h
 exact UnaryOp_ (thn (ha pins s σ H _ I h) λv s1 ⟨x,H1,I1,r1,q1⟩=>ho pins s1 σ H1 x v Q I1 r1 q1)
theorem opI {f:Value->Value->Sem Value}{C:Int->Int->Prop}{g:Int->Int->Int}
  (rule:∀ (i j:Int) (t u:Tok) (s:Shared) (Q:Value->Shared->Prop) (E:Value->Shared->Prop),C i j->Q (.int (g i j) s.toks) { s with toks:=s.toks+1 }->wpAny (model X.prog X.w) X.A (f (.int i t) (.int j u)) Q E s):
  OpR X f (rI C λi j=>.int (g i j)):=by
 intro pins s σ H x y v u Q I rx ry h
 obtain ⟨i,j,rfl,rfl,hc,q⟩:=h
 obtain ⟨t,rfl⟩:=rx
 obtain ⟨t',rfl⟩:=ry
 exact rule i j t t' s _ _ hc ⟨.int (g i j),H,I.tok _,⟨_,rfl⟩,q⟩
theorem zkc {f:Value->Value->Sem Value}{g:Int->Int->Int}
  (rule:∀ (i j:Int) (t u:Tok) (s:Shared) (Q:Value->Shared->Prop) (E:Value->Shared->Prop),Q (.int (g i j) s.toks) { s with toks:=s.toks+1 }->wpAny (model X.prog X.w) X.A (f (.int i t) (.int j u)) Q E s):
  OpR X f (rI0 λi j=>.int (g i j)):=by
 intro pins s σ H x y v u Q I rx ry h
 obtain ⟨i,j,rfl,rfl,q⟩:=h
 obtain ⟨t,rfl⟩:=rx
 obtain ⟨t',rfl⟩:=ry
 exact rule i j t t' s _ _ ⟨.int (g i j),H,I.tok _,⟨_,rfl⟩,q⟩
theorem zjh {f:Value->Value->Sem Value}{g:Int->Int->Bool}
  (rule:∀ (i j:Int) (t u:Tok) (s:Shared) (Q:Value->Shared->Prop) (E:Value->Shared->Prop),Q (.bool (g i j)) s->wpAny (model X.prog X.w) X.A (f (.int i t) (.int j u)) Q E s):
  OpR X f (rI0 λi j=>.bl (g i j)):=by
 intro pins s σ H x y v u Q I rx ry h
 obtain ⟨i,j,rfl,rfl,q⟩:=h
 obtain ⟨t,rfl⟩:=rx
 obtain ⟨t',rfl⟩:=ry
 exact rule i j t t' s _ _ ⟨.bl (g i j),H,I,rfl,q⟩
def zi4 (i j:Int):Prop:=0<=j/\j<=1000000/\i.natAbs<2 ^ 64
theorem Xz:OpR X (binaryOp .Add) (rI0 λi j=>.int (i+j)):=zkc λ_ _ _ _ _ _ _ q=>add_int q
theorem JN:OpR X (binaryOp .Sub) (rI0 λi j=>.int (i-j)):=zkc λ_ _ _ _ _ _ _ q=>sub_int q
theorem QZ:OpR X (binaryOp .Mod) (rI (λ_ j=>0<j) λi j=>.int (i % j)):=opI λi j _ _ _ _ _ hc q=>by
 have h1:(0:Int)<j:=hc
 exact mod_int' (by omega) (by rw[Int.fmod_eq_emod_of_nonneg i (by omega)];exact q)
theorem zaL:OpR X (binaryOp .Pow) (rI zi4 λi j=>.int (i ^ j.toNat)):=opI λ_ _ _ _ _ _ _ hc q=>pow_int_small hc.1 hc.2.1 hc.2.2 q
theorem unI {f:Value->Sem Value}{g:Int->Int}
  (rule:∀ (i:Int) (t:Tok) (s:Shared) (Q:Value->Shared->Prop) (E:Value->Shared->Prop),Q (.int (g i) s.toks) { s with toks:=s.toks+1 }->wpAny (model X.prog X.w) X.A (f (.int i t)) Q E s):
  UnR X f (rU λi=>.int (g i)):=by
 intro pins s σ H x v Q I rx h
 obtain ⟨i,rfl,q⟩:=h
 obtain ⟨t,rfl⟩:=rx
 exact rule i t s _ _ ⟨.int (g i),H,I.tok _,⟨_,rfl⟩,q⟩
theorem zfn:UnR X (unaryOp .USub) (rU λi=>.int (-i)):=unI λ_ _ _ _ _ q=>neg_int q
end
noncomputable def zjS:V->V->Bool
 | .non,.non=>true | .non,.int _=>true | .int _,.non=>true | .non,.bl _=>true | .bl _,.non=>true | .non,.str _=>true | .str _,.non=>true
 | .int _,.int _=>true | .bl _,.bl _=>true | .str _,.str _=>true | .byt _,.byt _=>true
 | .int _,.str _=>true | .str _,.int _=>true | .bl _,.str _=>true | .str _,.bl _=>true
 | _,_=>false
def rEq:R2:=λx y H Q=>zjS x y=true/\Q (.bl (decide (x=y))) H
def rNe:R2:=λx y H Q=>zjS x y=true/\Q (.bl (!decide (x=y))) H
theorem zcG {i j:Int}:decide (V.int i=V.int j)=(i==j):=by
 rw[Bool.eq_iff_iff]
 simp
theorem zfG {i j:Bool}:decide (V.bl i=V.bl j)=(i==j):=by
 rw[Bool.eq_iff_iff]
 simp
theorem zde {i j:Str}:decide (V.str i=V.str j)=(i==j):=by
 rw[Bool.eq_iff_iff]
 simp
theorem zdM {i j:Array UInt8}:decide (V.byt i=V.byt j)=(i.toList==j.toList):=by
 rw[Bool.eq_iff_iff]
 cases i
 cases j
 simp
section
variable {X:Cx}{a b c:Expr}{ta tb tc:TE}{pos:Pos}
theorem Yn {pins:List (Addr×Obj)}{σ:St}{H:Hp}{s:Shared}{Q:VK}{k k' : Bool}(I:Inv X pins σ H s)(q:Q (.bl k) H)(e:k=k'):EP X pins σ Q (.bool k') s:=by
 subst e
 exact ⟨.bl k,H,I,rfl,q⟩
theorem Xc:OpR X (compareOp .Eq) rEq:=by
 intro pins s σ H x y v u Q I rx ry h
 obtain ⟨hs,q⟩:=h
 cases x with
 | non=>
  cases rx
  cases y with
  | non=>cases ry;exact PySem.EqNone.eq_none_none (Yn I q (by simp))
  | bl j=>cases ry;exact PySem.EqNone.eq_none_bool (Yn I q (by simp))
  | int j=>obtain ⟨t',rfl⟩:=ry;exact PySem.EqNone.eq_none_int (Yn I q (by simp))
  | str j=>obtain ⟨t',rfl⟩:=ry;exact PySem.EqNone.eq_none_str (Yn I q (by simp))
  | _=>exact absurd (show false=true from hs) Bool.false_ne_true
 | bl i=>
  cases rx
  cases y with
  | non=>cases ry;exact PySem.EqNone.eq_bool_none (Yn I q (by simp))
  | bl j=>cases ry;exact eq_bool (Yn I q zfG)
  | str j=>obtain ⟨t',rfl⟩:=ry;exact PySem.EqMixed.eq_bool_str (Yn I q (by simp))
  | _=>exact absurd (show false=true from hs) Bool.false_ne_true
 | int i=>
  obtain ⟨t,rfl⟩:=rx
  cases y with
  | non=>cases ry;exact PySem.EqNone.eq_int_none (Yn I q (by simp))
  | int j=>obtain ⟨t',rfl⟩:=ry;exact eq_int (Yn I q zcG)
  | str j=>obtain ⟨t',rfl⟩:=ry;exact PySem.EqMixed.eq_int_str (Yn I q (by simp))
  | _=>exact absurd (show false=true from hs) Bool.false_ne_true
 | str i=>
  obtain ⟨t,rfl⟩:=rx
  cases y with
  | non=>cases ry;exact PySem.EqNone.eq_str_none (Yn I q (by simp))
  | bl j=>cases ry;exact PySem.EqMixed.eq_str_bool (Yn I q (by simp))
  | int j=>obtain ⟨t',rfl⟩:=ry;exact PySem.EqMixed.eq_str_int (Yn I q (by simp))
  | str j=>obtain ⟨t',rfl⟩:=ry;exact eq_str (Yn I q zde)
  | _=>exact absurd (show false=true from hs) Bool.false_ne_true
 | byt i=>
  obtain ⟨t,rfl⟩:=rx
  cases y with
  | byt j=>obtain ⟨t',rfl⟩:=ry;exact PySem.W.eq_bytes (Yn I q zdM)
  | _=>exact absurd (show false=true from hs) Bool.false_ne_true
 | _=>cases y <;> exact absurd (show false=true from hs) Bool.false_ne_true
theorem zix:OpR X (compareOp .NotEq) rNe:=by
 intro pins s σ H x y v u Q I rx ry h
 obtain ⟨hs,q⟩:=h
 cases x with
 | non=>
  cases rx
  cases y with
  | non=>cases ry;exact PySem.EqNone.ne_none_none (Yn I q (by simp))
  | bl j=>cases ry;exact PySem.EqNone.ne_none_bool (Yn I q (by simp))
  | int j=>obtain ⟨t',rfl⟩:=ry;exact PySem.EqNone.ne_none_int (Yn I q (by simp))
  | str j=>obtain ⟨t',rfl⟩:=ry;exact PySem.EqNone.ne_none_str (Yn I q (by simp))
  | _=>exact absurd (show false=true from hs) Bool.false_ne_true
 | bl i=>
  cases rx
  cases y with
  | non=>cases ry;exact PySem.EqNone.ne_bool_none (Yn I q (by simp))
  | bl j=>cases ry;exact ne_bool (Yn I q (congrArg not zfG))
  | str j=>obtain ⟨t',rfl⟩:=ry;exact PySem.EqMixed.ne_bool_str (Yn I q (by simp))
  | _=>exact absurd (show false=true from hs) Bool.false_ne_true
 | int i=>
  obtain ⟨t,rfl⟩:=rx
  cases y with
  | non=>cases ry;exact PySem.EqNone.ne_int_none (Yn I q (by simp))
  | int j=>obtain ⟨t',rfl⟩:=ry;exact ne_int (Yn I q (congrArg not zcG))
  | str j=>obtain ⟨t',rfl⟩:=ry;exact PySem.EqMixed.ne_int_str (Yn I q (by simp))
  | _=>exact absurd (show false=true from hs) Bool.false_ne_true
 | str i=>
  obtain ⟨t,rfl⟩:=rx
  cases y with
  | non=>cases ry;exact PySem.EqNone.ne_str_none (Yn I q (by simp))
  | bl j=>cases ry;exact PySem.EqMixed.ne_str_bool (Yn I q (by simp))
  | int j=>obtain ⟨t',rfl⟩:=ry;exact PySem.EqMixed.ne_str_int (Yn I q (by simp))
  | str j=>obtain ⟨t',rfl⟩:=ry;exact ne_str (Yn I q (congrArg not zde))
  | _=>exact absurd (show false=true from hs) Bool.false_ne_true
 | byt i=>
  obtain ⟨t,rfl⟩:=rx
  cases y with
  | byt j=>obtain ⟨t',rfl⟩:=ry;exact PySem.W.ne_bytes (Yn I q (congrArg not zdM))
  | _=>exact absurd (show false=true from hs) Bool.false_ne_true
 | _=>cases y <;> exact absurd (show false=true from hs) Bool.false_ne_true
theorem Vb:OpR X (compareOp .Lt) (rI0 λi j=>.bl (decide (i<j))):=zjh λ_ _ _ _ _ _ _ q=>lt_int q
theorem za8:OpR X (compareOp .Gt) (rI0 λi j=>.bl (decide (j<i))):=zjh λ_ _ _ _ _ _ _ q=>gt_int q
theorem zjz:OpR X (compareOp .GtE) (rI0 λi j=>.bl (decide (j<=i))):=zjh λ_ _ _ _ _ _ _ q=>ge_int q
theorem ZV (b:Expr){op:CmpOp}(h:op≠.In:=by decide)(h2:op≠.NotIn:=by decide):behindInMarks op b=false:=by
 have e1:(op==CmpOp.In)=false:=by cases op <;> first | rfl | exact absurd rfl h
 have e2:(op==CmpOp.NotIn)=false:=by cases op <;> first | rfl | exact absurd rfl h2
 cases b <;> simp[behindInMarks,e1,e2]
theorem J2 {op:CmpOp}{r:R2}(ho:OpR X (compareOp op) r)(ha:PE X a ta)(hb:PE X b tb)(hm:behindInMarks op b=false):PE X (.Compare a [op] [b] pos) (tOp r ta tb):=by
 intro pins s σ H Q I h
 exact wpAny_Compare1 (zjt ha hb I h λv u s2 x y H2 I2 rx ry q=>ho pins s2 σ H2 x y v u Q I2 rx ry q) hm
def Qs (t:TE):TT:=fun σ H Q=>t σ H λx H' => ∃ k,x = .bl k/\Q k H'
theorem ZF {op:CmpOp}{r:R2}(ho:OpR X (compareOp op) r)(ha:PE X a ta)(hb:PE X b tb)(hm:behindInMarks op b=false):PT X (.Compare a [op] [b] pos) (Qs (tOp r ta tb)):=by
 intro pins s σ H Q I h
 refine wpAny_isTrue_Compare1 (thn (ha pins s σ H _ I h) λv s1 ⟨x,H1,I1,r1,q1⟩=>thn (hb pins s1 σ H1 _ I1 q1) λu s2 ⟨y,H2,I2,r2,q2⟩=>
  thn (ho pins s2 σ H2 x y v u _ I2 r1 r2 q2) λc s3 ⟨z,H3,I3,r3,k,e,q3⟩=>?_) hm
 subst e
 cases r3
 exact wpAny_truthy_bool ⟨H3,I3,q3⟩
theorem zaK:(sizeLine:Nat)<2 ^ 63:=by rw[sizeLine_eq];decide
theorem vals1 {x:V}{us:List Value}(r:Vals [x] us):∃ u,us=[u]/\RelV x u:=by
 cases r with
 | cons r1 r2=>cases r2;exact ⟨_,rfl,r1⟩
theorem vals2 {x y:V}{us:List Value}(r:Vals [x,y] us):∃ u w',us=[u,w']/\RelV x u/\RelV y w' := by
 cases r with
 | cons r1 r2=>
  cases r2 with
  | cons r3 r4=>cases r4;exact ⟨_,_,rfl,r1,r3⟩
theorem ze1:QQ X (.builtin "abs") (λxs H Q=>∃ i,xs=[.int i]/\Q (.int (if i<0 then -i else i)) H):=by
 intro pins s σ H xs us Q I r h
 obtain ⟨i,rfl,q⟩:=h
 obtain ⟨u,rfl,t,rfl⟩:=vals1 r
 exact call_abs_int λu tk=>⟨.int (if i<0 then -i else i),H,I.tok _,⟨_,rfl⟩,q⟩
theorem Vl:QQ X (.type "int") (λxs H Q=>(∃ i,xs=[.int i]/\Q (.int i) H)\/∃ k,xs=[.bl k]/\Q (.int (if k then 1 else 0)) H):=by
 intro pins s σ H xs us Q I r h
 rcases h with ⟨i,rfl,q⟩ | ⟨k,rfl,q⟩
 ·obtain ⟨u,rfl,t,rfl⟩:=vals1 r
  exact call_int_int ⟨.int i,H,I,⟨_,rfl⟩,q⟩
 ·obtain ⟨u,rfl,r1⟩:=vals1 r
  cases r1
  exact call_int_bool ⟨.int (if k then 1 else 0),H,I.tok _,⟨_,rfl⟩,q⟩
end
structure zjM (h:Heap)(x dx C:Addr)(mA:Str->Option Value):Prop where
 obj:h.get? x=some (instObj C dx)
 ns:h.Ns1 dx mA
 ne:dx≠x
theorem zdI {h:Heap}{dx:Addr}{mA:Str->Option Value}(n:h.Ns1 dx mA):∃ od,h.get? dx=some od/\∀ name,lookIn name od=some (mA name):=by
 obtain ⟨o,es,ep,ho,hd,hk,_,hm⟩:=n
 refine ⟨o,ho,λname=>?_⟩
 have e:=hm name
 unfold nsFind findBy at e
 rw[← Array.find?_toList] at e
 unfold lookIn
 rw[hd]
 dsimp only
 split
 ·rename_i y q
  rw[q] at e
  exact congrArg some e
 ·rename_i q
  rw[q] at e
  have a:es.toList.any (·.refKey)=false:=by
   rw[List.any_eq_false]
   intro y hy
   obtain ⟨z,t,hkey⟩:=hk y (mem_toList_iff.mp hy)
   simp[DictEntry.refKey,hkey]
  have a' : ¬ es.toList.any (·.refKey)=true:=by rw[a];exact Bool.false_ne_true
  rw[if_neg a']
  exact congrArg some e
theorem zjM.look {h:Heap}{x dx C:Addr}{mA:Str->Option Value}(I:zjM h x dx C mA):∃ od,PySem.W.InstAt h x (instObj C dx) C (some od)/\∀ name,lookIn name od=some (mA name):=
 let ⟨od,ho,hl⟩:=zdI I.ns
 ⟨od,⟨I.obj,rfl,rfl,ho⟩,hl⟩
section
variable {P:Program}{w:World}{H H' : Hp}{h h' : Heap}{a C dx:Addr}{fs fs' : List (Str×V)}
theorem zgm (hok:HOk P w H h)(e:H a=some (.ins C dx fs)):∃ mA,zjM h a dx C mA/\(∀ f,zjk (fs.lookup f) (mA f))/\PySem.Within mA (fs.map (·.1))/\fs.length<=1000/\H dx=some (.own a):=by
 obtain ⟨d,z,ne,ob,mA,n,r,q⟩:=(show X5 P w H h a (.ins C dx fs) from hok a _ e)
 exact ⟨mA,⟨ob,n,ne⟩,r,q,z,d⟩
end
structure Cls (K:PySem.W.Frag)(C:Addr):Prop where
 pg:plainGet K C Str.empty=true
 hd:PySem.W.hasDictIn K C=true
 po:PySem.W.plainOver K C=true
 sa:findIn K (.ref C) "__setattr__" = some (some (.builtin "object.__setattr__"))
theorem Cls.get {K:PySem.W.Frag}{C:Addr}(c:Cls K C)(f:Str):plainGet K C f=true:=c.pg
section
variable {X:Cx}{pins:List (Addr×Obj)}{σ:St}{H:Hp}{s:Shared}{A:Around}{E:Value->Shared->Prop}{Q:Value->Shared->Prop}{c:Value}{b:Bool}
inductive zcD (K:PySem.W.Frag) (H:Hp):V->Value->Prop where
 | non:zcD K H .non (.type "NoneType")
 | bl (x:Bool):zcD K H (.bl x) (.type "bool")
 | int (i:Int):zcD K H (.int i) (.type "int")
 | str (x:Str):zcD K H (.str x) (.type "str")
 | flt (x:UInt64):zcD K H (.flt x) (.type "float")
 | lst {a:Addr}{xs:List V}(e:H a=some (.lst xs)):zcD K H (.ref a) (.type "list")
 | frz {a:Addr}{o:Obj}{xs:List V}(e:H a=some (.frz o (.lst xs))):zcD K H (.ref a) (.type "list")
 | tup {a:Addr}{xs:List V}(e:H a=some (.tup xs)):zcD K H (.ref a) (.type "tuple")
 | dK {a:Addr}{kvs:List (Key×V)}(e:H a=some (.dK kvs)):zcD K H (.ref a) (.type "dict")
 | dT {a:Addr}{kvs:List (List Key×V)}(e:H a=some (.dT kvs)):zcD K H (.ref a) (.type "dict")
 | ins {a C dx:Addr}{fs:List (Str×V)}(e:H a=some (.ins C dx fs)) (cl:Cls K C) (ha:findIn K (.ref C) "__class__" = some (some (.builtin "object.__class__")))
   (hn:PySem.W.specialIn K (.builtin "object.__class__") "__get__" = some (some (.builtin "getset_descriptor.__get__"))) (htk:PySem.W.takesIn K (.builtin "object.__class__")=some true)
   (hm:PySem.W.mroIn K C (.type "object")=some true):zcD K H (.ref a) (.ref C)
theorem Qe {x:V}{u t:Value}(I:Inv X pins σ H s)(rx:RelV x u)(ty:zcD X.K H x t)(e:kitOne X.K t c=some b)(h:∀ tk,Q (.bool b) { s with toks:=tk }):
  wpAny (model X.prog X.w) A (call (.builtin "isinstance") [u,c]) Q E s:=by
 cases ty with
 | non=>cases (show u=Value.none from rx);exact kia_one PySem.W.kitx_none I.kIn True.intro e (λz=>nomatch z) h
 | bl y=>cases (show u=Value.bool y from rx);exact kia_one PySem.W.kitx_bool I.kIn True.intro e (λz=>nomatch z) h
 | int i=>obtain ⟨t,q⟩:=(show ∃ t,u=Value.int i t from rx);cases q;exact kia_one PySem.W.kitx_int I.kIn True.intro e (λz=>nomatch z) h
 | str y=>obtain ⟨t,q⟩:=(show ∃ t,u=Value.str y t from rx);cases q;exact kia_one PySem.W.kitx_str I.kIn True.intro e (λz=>nomatch z) h
 | flt y=>obtain ⟨t,q⟩:=(show ∃ t,u=Value.float y t from rx);cases q;exact kia_one PySem.W.kitx_float I.kIn True.intro e (λz=>nomatch z) h
 | @lst a xs ea=>
  cases (show u=Value.ref a from rx)
  obtain ⟨_,_,n,_,h1⟩:=(show X5 X.prog X.w H s.heap a (.lst xs) from I.hok a _ ea)
  exact kia_one kitx_list I.kIn ⟨_,h1,rfl⟩ e (λz=>nomatch z) h
 | @frz a ob xs ea=>
  cases (show u=Value.ref a from rx)
  obtain ⟨_,_,_,n,_,h1⟩:=(show X5 X.prog X.w H s.heap a (.frz ob (.lst xs)) from I.hok a _ ea)
  exact kia_one kitx_list I.kIn ⟨_,h1,rfl⟩ e (λz=>nomatch z) h
 | @tup a xs ea=>
  cases (show u=Value.ref a from rx)
  obtain ⟨_,_,_,p,_⟩:=(show X5 X.prog X.w H s.heap a (.tup xs) from I.hok a _ ea)
  obtain ⟨o,h1,h2,_⟩:=p
  exact kia_one kitx_tuple I.kIn ⟨o,h1,h2⟩ e (λz=>nomatch z) h
 | @dK a kvs ea=>
  cases (show u=Value.ref a from rx)
  obtain ⟨_,_,vs,_,p⟩:=(show X5 X.prog X.w H s.heap a (.dK kvs) from I.hok a _ ea)
  obtain ⟨o,es,ep,h1,h2,_⟩:=p
  exact kia_one kitx_dict I.kIn ⟨o,h1,h2.1⟩ e (λz=>nomatch z) h
 | @dT a kvs ea=>
  cases (show u=Value.ref a from rx)
  obtain ⟨_,_,xs,_,o,es,ep,h1,h2,_⟩:=(show X5 X.prog X.w H s.heap a (.dT kvs) from I.hok a _ ea)
  exact kia_one kitx_dict I.kIn ⟨o,h1,h2.1⟩ e (λz=>nomatch z) h
 | @ins a C dx fs ea cl ha hn htk hm=>
  cases (show u=Value.ref a from rx)
  obtain ⟨mA,O,_⟩:=zgm I.hok ea
  obtain ⟨od,J,_⟩:=O.look
  exact kia_one (PySem.W.kitx_own (cl.get _) cl.hd ha hn htk hm) I.kIn J e (λz=>nomatch z) h
end
structure Wa (k:Nat)(A:Around):Prop where
 hd:A.handled=none
 dp:A.depth+3*k+5<recursionLimit
 un:A.units+16*k+200<cLine
theorem Wa.mono {j k:Nat}{A:Around}(r:Wa k A)(h:j<=k):Wa j A:=⟨r.hd,by have:=r.dp;omega,by have:=r.un;omega⟩
theorem Wa.deeper {k:Nat}{A:Around}(r:Wa (k+1) A)(env:Env):Wa k (A.deeper env):=
 ⟨r.hd,by have:=r.dp;show A.depth+1+3*k+5<_;omega,by have:=r.un;show A.units+3+16*k+200<_;omega⟩
theorem Wa.depth {k:Nat}{A:Around}(r:Wa k A):A.depth<recursionLimit:=by have:=r.dp;omega
theorem Wa.units {k:Nat}{A:Around}(r:Wa k A):A.units+64<cLine:=by have:=r.un;omega
def Q4:TA:=λ_ H Q=>Q [] H
def Yh (ta:TE)(tr:TA):TA:=fun σ H Q=>ta σ H λx H1=>tr σ H1 λxs H2=>Q (x::xs) H2
section
variable {X:Cx}{e:Expr}{es:List Expr}{te:TE}{t:TA}{pos:Pos}
theorem Zg:PA X [] Q4:=λ_ _ _ _ H Q I h=>Calls.spliced_nil ⟨[],H,I,.nil,h⟩
theorem Za (ha:PE X e te)(hr:PA X es t)(hs:starEach (e::es) X.env=(false,eval e X.env)::starEach es X.env:=by rfl):PA X (e::es) (Yh te t):=by
 intro pos pins s σ H Q I h
 rw[hs]
 show wpAny _ _ (spliced ((false,eval e X.env)::backTo pos (starEach es X.env))) _ _ s
 refine Calls.spliced_cons (thn (ha pins s σ H _ I h) λu s1 ⟨x,H1,I1,r1,q1⟩=>?_)
 exact thn (hr pos pins s1 σ H1 _ I1 q1) λus s2 ⟨xs,H2,I2,r2,q2⟩=>⟨x::xs,H2,I2,.cons r1 r2,q2⟩
def zg3 (t:TA):TE:=fun σ H Q=>t σ H λxs H1=>xs.length<=sizeLine/\∀ p,H1 p=none->Q (.ref p) (upd H1 p (.tup xs))
def zgp (t:TA):TE:=fun σ H Q=>t σ H λxs H1=>xs.length<=sizeLine/\∀ p,H1 p=none->Q (.ref p) (upd H1 p (.lst xs))
theorem Yz {x1}(h:PA X es t):PE X (.Tuple es x1 pos) (zg3 t):=by
 intro pins s σ H Q I hq
 refine wpAny_Tuple_spliced (thn (h pos pins s σ H _ I hq) λus s1 ⟨xs,H1,I1,r,z,q⟩=>⟨by rw[← r.length];exact z,?_⟩)
 have hf:H1 s1.heap.objs.size=none:=I1.hok.fresh (Nat.le_refl _)
 refine ⟨.ref s1.heap.objs.size,upd H1 s1.heap.objs.size (.tup xs),I1.laid (t' := s1.toks) (λb u e=>get?_push_of_some _ e) (Nat.le_refl _) ?_,rfl,q _ hf⟩
 exact ⟨z,us,r,⟨_,get?_push_size _ rfl,rfl,_,rfl⟩,_,get?_push_size _ rfl,rfl⟩
theorem Yg (h:PA X es t):PE X (.List es pos) (zgp t):=by
 intro pins s σ H Q I hq
 refine wpAny_List_spliced (thn (h pos pins s σ H _ I hq) λus s1 ⟨xs,H1,I1,r,z,q⟩=>⟨by rw[← r.length];exact z,?_⟩)
 have hf:H1 s1.heap.objs.size=none:=I1.hok.fresh (Nat.le_refl _)
 refine ⟨.ref s1.heap.objs.size,upd H1 s1.heap.objs.size (.lst xs),I1.laid (t' := s1.toks) (λb u e=>get?_push_of_some _ e) (Nat.le_refl _) ?_,rfl,q _ hf⟩
 exact ⟨z,us,0,r,get?_push_size _ rfl⟩
end
abbrev Sp:=List V->Hp->VK->XK->Prop
abbrev CXT:=List Env->Hp->Shared->XK->Value->Shared->Prop
structure zds (P:Program)(w:World)(K:PySem.W.Frag)(mg:Str->Option Value)(base:Heap)(A:Around)(outer:List Env)(s:Shared)(H:Hp):Prop where
 frames:A.frames=some outer
 mod:Mod K mg base
 bs:∀ b o,base.get? b=some o->s.heap.get? b=some o/\H b=none
 bsz:base.objs.size<=s.heap.objs.size
 zbO:s.heap.FunFrames base outer
 frf:∀ b∈frs outer,H b=none
 hok:HOk P w H s.heap
 bare:AllBare s.gens
def CE (outer:List Env)(P:Program)(w:World)(H:Hp)(s:Shared)(Q:VK)(u:Value)(s' : Shared):Prop:=
 ∃ v H',s'.os=s.os/\AllBare s'.gens/\Un (frs outer) [] H H' s.heap s'.heap/\HOk P w H' s'.heap/\RelV v u/\Q v H'
def CR (CX:CXT)(outer:List Env)(P:Program)(w:World)(H:Hp)(s:Shared)(Q:VK)(E:XK)(r:Result)(s' : Shared):Prop:=
 match r with
 | .ok (.ret u)=>CE outer P w H s Q u s'
 | .ok _=>False
 | .error e=>CX outer H s E e s'
structure QS (P:Program)(w:World)(K:PySem.W.Frag)(mg:Str->Option Value)(base:Heap)(CX:CXT)(k:Nat)(f:Addr)(fd:FuncData)(ps:List Str)(sp:Sp):Prop where
 len:∀ vs H Q E,sp vs H Q E->vs.length=ps.length
 run:∀ (A:Around) (outer:List Env) (s:Shared) (H:Hp) (args:Args) (us:List Value) (vs:List V) (Q:VK) (E:XK),Wa k A->zds P w K mg base A outer s H->BindsTo s fd args (ps.zip us)->Vals vs us->sp vs H Q E->
  codeAny (model P w) A (.call (.ref f) args) (CR CX outer P w H s Q E) s
theorem QS.mono {P:Program}{w:World}{K:PySem.W.Frag}{mg:Str->Option Value}{base:Heap}{CX:CXT}{j k:Nat}{f:Addr}{fd:FuncData}{ps:List Str}{sp:Sp}(F:QS P w K mg base CX j f fd ps sp)(h:j<=k):
  QS P w K mg base CX k f fd ps sp:=⟨F.len,λA outer s H args us vs Q E hr=>F.run A outer s H args us vs Q E (hr.mono h)⟩
theorem QS.imp {P:Program}{w:World}{K:PySem.W.Frag}{mg:Str->Option Value}{base:Heap}{CX:CXT}{k:Nat}{f:Addr}{fd:FuncData}{ps:List Str}{sp sp' : Sp}(F:QS P w K mg base CX k f fd ps sp)
  (h:∀ vs H Q E,sp' vs H Q E->sp vs H Q E):QS P w K mg base CX k f fd ps sp' :=
 ⟨λvs H Q E q=>F.len vs H Q E (h _ _ _ _ q),λA outer s H args us vs Q E hr he hb hv hs=>F.run A outer s H args us vs Q E hr he hb hv (h _ _ _ _ hs)⟩
section
variable {X:Cx}{pins:List (Addr×Obj)}{σ:St}{H:Hp}{s s' : Shared}
theorem Inv.env0 (I:Inv X pins σ H s):zds X.prog X.w X.K X.mg X.base X.A X.stack s H:=
 ⟨I.ok.frames,I.ok.mod,I.bs,le_trans I.ok.bsz I.sz,I.stack,I.zdA,I.hok,I.bare⟩
theorem Inv.after {Q:VK}{u:Value}(I:Inv X pins σ H s)(h:CE X.stack X.prog X.w H s Q u s'):EP X pins σ Q u s' := by
 obtain ⟨v,H',os,bare,un,hok,r,q⟩:=h
 obtain ⟨hh,g,d,t,os'⟩:=s'
 obtain rfl:os'=s.os:=os
 exact ⟨v,H',I.call (h' := hh) (g' := g) (d' := d) (t' := t) (ch:=[]) un hok bare (λb z=>absurd z (by simp)),r,q⟩
end
def Jx (sp:Sp)(dvs:List V)(E:XK)(t:TA):TE:=fun σ H Q=>t σ H λvs H1=>sp (vs++dvs) H1 Q E
def Binds (K:PySem.W.Frag)(fd:FuncData)(ps:List Str)(ds:List Value):Prop:=
 ∀ (s:Shared) (us:List Value),K.In s.heap->(us++ds).length=ps.length->BindsTo s fd ⟨us,[]⟩ (ps.zip (us++ds))
theorem Binds.all {K:PySem.W.Frag}{fd:FuncData}{ps:List Str}(h:∀ us:List Value,us.length=ps.length->bindArgs fd ⟨us,[]⟩=pure (ps.zip us)):Binds K fd ps []:=λs us _ hl=>by
 rw[append_nil] at hl ⊢
 exact .of_eq (h us hl)
def zdv (CX:CXT)(X:Cx)(E:XK):Prop:=∀ (pins:List (Addr×Obj)) (σ:St) (H:Hp) (s:Shared) (e:Value) (s' : Shared),Inv X pins σ H s->CX X.stack H s E e s' -> X.xe e s'
section
variable {X:Cx}{CX:CXT}{k:Nat}{f C:Addr}{fd:FuncData}{ps:List Str}{sp:Sp}{dvs:List V}{ds:List Value}{E:XK}{x m:Str}{p pos apos:Pos}{e o:Expr}{es:List Expr}{ta:TE}{t:TA}
theorem ziY {pins:List (Addr×Obj)}{σ:St}{H:Hp}{s:Shared}{Q:VK}{us:List Value}{vs:List V}(F:QS X.prog X.w X.K X.mg X.base CX k f fd ps sp)(hr:Wa k X.A)(hb:Binds X.K fd ps ds)(hd:Vals dvs ds)(hx:zdv CX X E)
  (I:Inv X pins σ H s) (r:Vals vs us) (h:sp (vs++dvs) H Q E):wpAny (model X.prog X.w) X.A (call (.ref f) us) (EP X pins σ Q) X.xe s:=by
 have r2:Vals (vs++dvs) (us++ds):=r.append hd
 have hl:(us++ds).length=ps.length:=by rw[← r2.length];exact F.len _ _ _ _ h
 refine wpAny_call (codeAny_mono (F.run X.A X.stack s H ⟨us,[]⟩ (us++ds) (vs++dvs) Q E hr I.env0 (hb s us I.kIn hl) r2 h) λr s' hq=>?_)
 cases r with
 | error e=>exact hx pins σ H s e s' I hq
 | ok fl=>
  cases fl with
  | ret u=>exact I.after hq
  | next=>exact False.elim hq
  | brk=>exact False.elim hq
  | cont=>exact False.elim hq
theorem zcN (F:QS X.prog X.w X.K X.mg X.base CX k f fd ps sp)(hr:Wa k X.A)(hg:Gl X x)(hm:X.mg x=some (.ref f))(hk:keepIn X.K (.ref f)=true)(hb:Binds X.K fd ps ds)(hd:Vals dvs ds)(hx:zdv CX X E)
  (ha:PA X (e::es) t) (hdb:(x==("__debug__" : Str))=false:=by decide) (he:starEach (e::es) X.env=(false,eval e X.env)::starEach es X.env:=by rfl) (hpl:(backTo pos (starEach es X.env)).any (·.1)=false:=by rfl):
  PE X (.Call (.Name x p) (e::es) [] pos) (Jx sp dvs E t):=by
 intro pins s σ H Q I h
 refine wpAny_Call_Name_kw (Vq I hg hm ?_ hdb)
 refine callWith_K (h₀:=X.base) I.ok.mod.kin hk (thn (ha pos pins s σ H _ I h) λus s1 ⟨vs,H1,I1,r,q⟩=>⟨I1.kIn,?_⟩) he hpl
 exact ziY F hr hb hd hx I1 r q
end
structure ZP (N P:List Str)(sc:Scope):Prop where
 kind:sc.kind = .function
 co:sc.isCoroutine=false
 gen:sc.isGenerator=false
 nd:N.Nodup
 pre:N.take P.length=P
 par:∀ x∈P,sc.names.lookup x=some .local\/sc.names.lookup x=some .cell
 nofree:∀ y∈sc.names,y.2≠.free
theorem zap {kindOf:Str->Option NameKind}{x:Str}:∀ {binds:List (Str×Value)}{m:Str->Option Value},(∀ v,(x,v)∉binds)->bindL kindOf binds m x=m x
 | [],_,_=>rfl
 | (n,v)::r,m,h=>by
  unfold bindL
  rw[zap λw hw=>h w (mem_cons_of_mem _ hw)]
  split
  ·have:x≠n:=by rintro rfl;exact h v mem_cons_self
   simp[this]
  ·rfl
theorem zat {kindOf:Str->Option NameKind}{x:Str}:∀ {binds:List (Str×Value)}{m:Str->Option Value},(∀ v,(x,v)∉binds)->bindC kindOf binds m x=m x
 | [],_,_=>rfl
 | (n,v)::r,m,h=>by
  unfold bindC
  rw[zat λw hw=>h w (mem_cons_of_mem _ hw)]
  split
  ·rfl
  ·have:x≠n:=by rintro rfl;exact h v mem_cons_self
   simp[this]
theorem Vu {kindOf:Str->Option NameKind}{x:Str}{v:Value}:∀ {P:List Str}{vs:List Value}{i:Nat}{m:Str->Option Value},P.Nodup->P[i]?=some x->vs[i]?=some v->kindOf x=some .local->
  bindL kindOf (P.zip vs) m x=some v
 | [],_,_,_,_,h,_,_=>by simp at h
 | _::_,[],_,_,_,_,h,_=>by simp at h
 | p::P,w::vs,0,m,nd,h1,h2,hk=>by
  simp at h1 h2;subst h1;subst h2
  show bindL kindOf ((p,w)::P.zip vs) m p=_
  unfold bindL
  rw[zap λv hv=>(nodup_cons.mp nd).1 (of_mem_zip hv).1,if_pos hk]
  simp
 | p::P,w::vs,i+1,m,nd,h1,h2,hk=>by
  show bindL kindOf ((p,w)::P.zip vs) m x=_
  unfold bindL
  exact Vu (i:=i) (nodup_cons.mp nd).2 (by simpa using h1) (by simpa using h2) hk
theorem V7 {kindOf:Str->Option NameKind}{x:Str}{v:Value}:∀ {P:List Str}{vs:List Value}{i:Nat}{m:Str->Option Value},P.Nodup->P[i]?=some x->vs[i]?=some v->kindOf x≠some .local->
  bindC kindOf (P.zip vs) m x=some v
 | [],_,_,_,_,h,_,_=>by simp at h
 | _::_,[],_,_,_,_,h,_=>by simp at h
 | p::P,w::vs,0,m,nd,h1,h2,hk=>by
  simp at h1 h2;subst h1;subst h2
  show bindC kindOf ((p,w)::P.zip vs) m p=_
  unfold bindC
  rw[zat λv hv=>(nodup_cons.mp nd).1 (of_mem_zip hv).1,if_neg hk]
  simp
 | p::P,w::vs,i+1,m,nd,h1,h2,hk=>by
  show bindC kindOf ((p,w)::P.zip vs) m x=_
  unfold bindC
  exact V7 (i:=i) (nodup_cons.mp nd).2 (by simpa using h1) (by simpa using h2) hk
noncomputable def start (N:List Str) (vs:List V):St:=vs.map some++List.replicate (N.length-vs.length) none
noncomputable def Uw (CX:CXT) (P:Program) (w:World) (K:PySem.W.Frag) (mg:Str->Option Value) (base:Heap) (N:List Str) (qual:Str) (scope:Scope) (f:Addr) (cd:Value) (A:Around) (outer:List Env) (s:Shared) (H:Hp) (E:XK):Cx where
 prog:=P
 w:=w
 K:=K
 mg:=mg
 base:=base
 A:=A.deeper (envOfC qual scope s.heap.objs.size f cd)
 N:=N
 s₀:=s
 H₀:=H
 env:=envOfC qual scope s.heap.objs.size f cd
 outer:=outer
 stack:=envOfC qual scope s.heap.objs.size f cd::outer
 ex:=[]
 calm:=true
 fn:=λ_=>true
 pn:=[]
 xe:=λe s' => wpAny (model P w) (A.deeper (envOfC qual scope s.heap.objs.size f cd)) (leaving (envOfC qual scope s.heap.objs.size f cd) e) (λ_ s'' => CX outer H s E e s'') (λe' s'' => CX outer H s E e' s'') s'
theorem Vd {sc:Scope}{n:Nat}{x:Str}(h:sc.names.lookup x=some .cell):∃ c,(cellsFrom n sc.names []).lookup x=some c:=by
 have q:=cellsFrom_some sc.names n [] (.inl h)
 exact isSome_iff_exists.mp q
theorem zaw {CX:CXT}{P:Program}{w:World}{K:PySem.W.Frag}{mg:Str->Option Value}{base:Heap}{N ps:List Str}{qual:Str}{scope:Scope}{f:Addr}{cd:Value}{A:Around}{outer:List Env}{s s1:Shared}{H:Hp}{E:XK}{us:List Value}{vs:List V}
  (S:ZP N ps scope) (hd:A.handled=none) (e0:zds P w K mg base A outer s H) (hl:vs.length=ps.length) (r:Vals vs us)
  (x:InCallC s s.heap.objs.size (bindL (envOfC qual scope s.heap.objs.size f cd).kindOf (ps.zip us) λ_=>none) (cellsFrom (s.heap.objs.size+1) scope.names []) (bindC (envOfC qual scope s.heap.objs.size f cd).kindOf (ps.zip us) λ_=>none) s1):
  Inv (Uw CX P w K mg base N qual scope f cd A outer s H E) [] (start N vs) H s1:=by
 have hpl:ps.length<=N.length:=by have:=congrArg List.length S.pre;rw[length_take] at this;omega
 obtain ⟨h1,tk,rfl,hk⟩:=x.done
 have noA:∀ b:Addr,b∉(Uw CX P w K mg base N qual scope f cd A outer s H E).ex:=λb z=>absurd (show b∈([]:List Addr) from z) (by simp)
 refine ⟨⟨e0.mod,S.kind,rfl,rfl,Nat.le_refl _,λy z c h1 h2=>?_,λy hy=>?_,λy c _ h=>?_,λ_=>hd,frames_deeper e0.frames,.inr ⟨rfl,rfl⟩,λb z=>absurd z (noA b),e0.bs,e0.bsz,λb _ _=>noA b,λb z=>absurd z (noA b),e0.zbO,e0.frf⟩,
  rfl,e0.bare,Un.kept hk,⟨_,x.toInCall.ns,λi y v h1 h2 h3=>?_⟩,λy c h=>⟨_,x.cell y c h⟩,e0.hok.fresh (Nat.le_refl _),λy c h=>?_,λp hp=>absurd (show p∈([]:List (Addr×Obj)) from hp) (by simp),e0.hok.kept hk,?_⟩
 ·exact name_of_addr x.apart (PySem.mem_of_lookup h1) (PySem.mem_of_lookup h2)
 ·have hy:scope.names.lookup y=some .cell\/scope.names.lookup y=some .free:=hy
  rcases hy with hy | hy
  ·exact Vd hy
  ·exact absurd rfl (S.nofree _ (PySem.mem_of_lookup hy))
 ·exact le_of_lt (x.above y c (PySem.mem_of_lookup h))
 ·have hi:i<vs.length:=by
   unfold start at h2
   by_cases hi:i<vs.length
   ·exact hi
   ·rw[getElem?_append_right (by simpa using hi)] at h2
    rw[List.getElem?_replicate] at h2
    split at h2 <;> cases h2
  have ha:vs[i]?=some v:=by
   unfold start at h2
   rw[getElem?_append_left (by simpa using hi),getElem?_map] at h2
   cases e:vs[i]? with
   | none=>rw[e] at h2;cases h2
   | some a=>rw[e] at h2;cases h2;rfl
  obtain ⟨u,hu,rv⟩:=r.get ha
  have hp:ps[i]?=some y:=by
   rw[← S.pre,List.getElem?_take_of_lt (by omega)];exact h1
  have ndP:ps.Nodup:=by rw[← S.pre];exact S.nd.sublist (List.take_sublist _ _)
  refine ⟨u,rv,?_⟩
  rcases S.par y (List.mem_of_getElem? hp) with k | k
  ·exact .inl ⟨k,Vu ndP hp hu k⟩
  ·obtain ⟨c,e⟩:=Vd (n:=s.heap.objs.size+1) k
   refine .inr ⟨.inl k,c,e,?_⟩
   have q:=x.cell y c e
   rw[V7 ndP hp hu (by show scope.names.lookup y≠_;rw[k];decide)] at q
   exact q
 ·exact e0.hok.fresh (le_of_lt (x.above y c (PySem.mem_of_lookup h)))
 ·unfold start
  show _=N.length
  rw[length_append,length_map,length_replicate]
  omega
theorem zhT {CX:CXT}{P:Program}{w:World}{K:PySem.W.Frag}{mg:Str->Option Value}{base:Heap}{k:Nat}{f:Addr}{name qual:Str}{params:Arguments}{body:List Stmt}{scope:Scope}{dV kV doc pm cdv ct oc:Value}{an od:Option Addr}
  {osl:Array (Option Value)}{N ps:List Str}{sp:Sp}(lk:K.lookup f=some ⟨oc,od,.func (PySem.W.fnOf name qual params body scope dV kV doc pm an cdv ct),osl⟩) (hcd:codeIn K cdv qual=true) (S:ZP N ps scope)
  (len:∀ vs H Q E,sp vs H Q E->vs.length=ps.length)
  (hbody:∀ (A:Around) (outer:List Env) (s:Shared) (H:Hp) (vs:List V) (Q:VK) (E:XK),Wa k (A.deeper (envOfC qual scope s.heap.objs.size f cdv))->sp vs H Q E->
   ∃ t,PSs (Uw CX P w K mg base N qual scope f cdv A outer s H E) body t/\t { nx:=λ_ H' => Q .non H',rt:=Q } (start N vs) H):
  QS P w K mg base CX (k+1) f (PySem.W.fnOf name qual params body scope dV kV doc pm an cdv ct) ps sp:=by
 refine ⟨len,λA outer s H args us vs Q E hr e0 hb r hsp=>?_⟩
 have hl:=len _ _ _ _ hsp
 have KX:K.In s.heap:=e0.mod.kin.keeps λb o e=>(e0.bs b o e).1
 have lim:s.heap.NoLimit:=e0.mod.nolimit.keeps λb o e=>(e0.bs b o e).1
 have hkind:∀ y∈ps.zip us,scope.names.lookup y.1=some .local\/(scope.names.lookup y.1=some .cell/\((cellsFrom (s.heap.objs.size+1) scope.names []).lookup y.1).isSome=true):=λ⟨n,v⟩ hy=>by
  rcases S.par n (of_mem_zip hy).1 with q | q
  ·exact .inl q
  ·exact .inr ⟨q,cellsFrom_some _ _ _ (.inl q)⟩
 refine codeAny_call_function hr.depth (KX _ _ lk) rfl S.co S.gen rfl (codeRec_of KX hcd) (hb _ _ _ _ ?_)
 refine wpAny_newFunctionEnv_cells S.kind hkind λenv he s1 x=>?_
 subst he
 refine ⟨lim.keeps x.toInCall.keep,codeAny_func ?_⟩
 obtain ⟨t,ht,hq⟩:=hbody A outer s H vs Q E (hr.deeper _) hsp
 have I:Inv (Uw CX P w K mg base N qual scope f cdv A outer s H E) [] (start N vs) H s1:=zaw S hr.hd e0 hl r x
 refine wpAny_mono (ht [] s1 (start N vs) H _ I hq) (λfl s' hs=>?_) λe s' hs=>hs
 have fin:∀ {σ' : St} {H' : Hp} {v:V}{u:Value},Inv (Uw CX P w K mg base N qual scope f cdv A outer s H E) [] σ' H' s' -> RelV v u->Q v H' -> CE outer P w H s Q u s' :=
  λ{σ' H' v u} J rv q=>⟨v,H',J.os,J.bare,J.base,J.hok,rv,q⟩
 cases fl with
 | ret u=>
  obtain ⟨v,σ',H',J,rv,q⟩:=hs
  exact fin J rv q
 | next=>
  obtain ⟨σ',H',J,q⟩:=hs
  exact fin (v:=V.non) (u:=Value.none) J rfl q
 | brk=>
  obtain ⟨_,_,_,q⟩:=hs
  exact False.elim q
 | cont=>
  obtain ⟨_,_,_,q⟩:=hs
  exact False.elim q
section
variable {X:Cx}{x:Str}{p pos:Pos}{e:Expr}{es:List Expr}{t:TA}{id T:String}{r:List V->Hp->VK->Prop}
def tCB (r:List V->Hp->VK->Prop)(t:TA):TE:=fun σ H Q=>t σ H λvs H1=>r vs H1 Q
theorem Yq (hc:QQ X (.builtin id) r)(hg:Gl X x)(hm:X.mg x=none)(hv:bootBuiltins x=some (.builtin id))(ha:PA X (e::es) t)(hn:x≠ "__name__" := by decide)(hdb:(x==("__debug__" : Str))=false:=by decide)
  (he:starEach (e::es) X.env=(false,eval e X.env)::starEach es X.env:=by rfl) (hpl:(backTo pos (starEach es X.env)).any (·.1)=false:=by rfl):PE X (.Call (.Name x p) (e::es) [] pos) (tCB r t):=by
 intro pins s σ H Q I h
 refine wpAny_Call_Name_kw (Vx I hg hm hv ?_ hn hdb)
 exact PyProof.Rows.callWith_builtin1 (thn (ha pos pins s σ H _ I h) λus s1 ⟨vs,H1,I1,r1,q1⟩=>hc pins s1 σ H1 vs us Q I1 r1 q1) he hpl
theorem YC (hc:QQ X (.type T) r)(hg:Gl X x)(hm:X.mg x=none)(hv:bootBuiltins x=some (.type T))(ha:PA X (e::es) t)(hn:x≠ "__name__" := by decide)(hdb:(x==("__debug__" : Str))=false:=by decide)
  (he:starEach (e::es) X.env=(false,eval e X.env)::starEach es X.env:=by rfl) (hpl:(backTo pos (starEach es X.env)).any (·.1)=false:=by rfl):PE X (.Call (.Name x p) (e::es) [] pos) (tCB r t):=by
 intro pins s σ H Q I h
 refine wpAny_Call_Name_kw (Vx I hg hm hv ?_ hn hdb)
 exact PyProof.Rows.callWith_type1 (thn (ha pos pins s σ H _ I h) λus s1 ⟨vs,H1,I1,r1,q1⟩=>hc pins s1 σ H1 vs us Q I1 r1 q1) he hpl
end
end L2
namespace HT
open PySem PyProof.Rows
section
variable {prog:Program}{w:World}{A:Around}{E:Value->Shared->Prop}{s:Shared}
theorem zf3 {t b:Addr}{vs ws:List Value}{Q:Value->Shared->Prop}(ht:IsTup s.heap t vs.toArray)(hb:IsTup s.heap b ws.toArray)(hv:vs≠[])
  (h1:ws=[]->Q (.ref t) s) (h2:ws≠[]->Q (.ref s.heap.objs.size) { s with heap:=s.heap.push { cls:=.type "tuple",data:=.seq (vs++ws).toArray } })
  (hsz:vs.length+ws.length<=sizeLine):wpAny (model prog w) A (binaryOp .Add (.ref t) (.ref b)) Q E s:=by
 obtain ⟨⟨cls,dd,data,sl⟩,ho,hc,n,hd⟩:=id ht
 obtain ⟨⟨cls2,dd2,data2,sl2⟩,ho2,hc2,n2,hd2⟩:=id hb
 simp only at hc hd hc2 hd2
 subst hc hd hc2 hd2
 have e:vs.toArray++ws.toArray=(vs++ws).toArray:=by simp
 by_cases hw:ws=[]
 ·exact concat_meets ⟨_,ho,rfl⟩ ⟨_,ho2,rfl⟩ noFill_tuple_add seq_tuple_add PySem.F.slot_tuple_add PySem.F.entry_tuple_add (PySem.F.args_tuple_add_2 _ _)
   (tuple_addW1 t b vs.toArray ws.toArray n n2 dd dd2 sl sl2 (by simpa using hv) (by simp[hw])) ⟨ho,ho2,h1 hw⟩
 ·refine concat_meets ⟨_,ho,rfl⟩ ⟨_,ho2,rfl⟩ noFill_tuple_add seq_tuple_add PySem.F.slot_tuple_add PySem.F.entry_tuple_add (PySem.F.args_tuple_add_2 _ _)
   (tuple_addW2 t b vs.toArray ws.toArray n n2 dd dd2 sl sl2 (by simpa using hv) (by simpa using hw) (by rw[size_toArray,size_toArray];exact hsz)) ⟨ho,ho2,?_⟩
  rw[e]
  exact h2 hw
noncomputable def sIx (n d:Nat):Option Int->Nat
 | none=>d
 | some v=>if v<0 then (v+(n:Int)).toNat else min v.toNat n
theorem zbt (n d:Nat):sIx n d none=d:=rfl
theorem zcX (n d k:Nat):sIx n d (some (k:Int))=min k n:=by
 show (if (k:Int)<0 then ((k:Int)+(n:Int)).toNat else min (k:Int).toNat n)=min k n
 rw[if_neg (by omega),toNat_natCast]
theorem zid (n d:Nat)(hd:d<=n)(o:Option Int):sIx n d o<=n:=by
 cases o with
 | none=>exact hd
 | some v=>
  show (if v<0 then (v+(n:Int)).toNat else min v.toNat n)<=n
  by_cases hv:v<0
  ·rw[if_pos hv];omega
  ·rw[if_neg hv];exact Nat.min_le_right _ _
theorem zdR (v:Int)(n d:Nat):(if v<0 then max (v+(n:Int)) 0 else min v (n:Int))=((sIx n d (some v):Nat):Int):=by
 show (if v<0 then max (v+(n:Int)) 0 else min v (n:Int))=(((if v<0 then (v+(n:Int)).toNat else min v.toNat n):Nat):Int)
 by_cases hv:v<0
 ·simp only[if_pos hv];omega
 ·simp only[if_neg hv];omega
theorem zce (lo hi:Option Int)(n:Nat):Builtin.Slice.sliceAdjust lo hi 1 (n:Int)=(((sIx n 0 lo:Nat):Int),((sIx n n hi:Nat):Int)):=by
 have h1:¬ ((1:Int)<0):=by omega
 unfold Builtin.Slice.sliceAdjust
 simp only[h1,if_false]
 refine Prod.ext ?_ ?_
 ·cases lo with
  | none=>rfl
  | some v=>exact zdR v n 0
 ·cases hi with
  | none=>rfl
  | some v=>exact zdR v n n
theorem zcf (i j:Nat):Builtin.Slice.slicePlaces (i:Int) (j:Int) 1=j-i:=by
 unfold Builtin.Slice.slicePlaces
 have h1:(1:Int)>0:=by omega
 simp only[h1,if_true,Int.ediv_one]
 split <;> omega
theorem Um {v:Value}{o:Option Int}{Q:Option Int->Shared->Prop}(p:IsPart v o)(h:Q o s):wpAny (model prog w) A (Builtin.Slice.slicePartIndex v) Q E s:=by
 cases p with
 | none=>exact slicePart_none h
 | int i t=>exact slicePart_int h
theorem Jf {sl:Addr}{vl vu:Value}{lo hi:Option Int}{n:Nat}{Q:Int×Int×Nat->Shared->Prop}(hs:s.heap.IsSliceOf sl vl vu .none)(pl:IsPart vl lo)(pu:IsPart vu hi)
  (h:Q (((sIx n 0 lo:Nat):Int),1,sIx n n hi-sIx n 0 lo) s):wpAny (model prog w) A (Builtin.Slice.sliceApplied (.ref sl) (pure (n:Int))) Q E s:=by
 obtain ⟨os,hos,hcs,hds⟩:=id hs
 unfold Builtin.Slice.sliceApplied Builtin.Slice.sliceFields
 refine wpAny_bind (wpAny_bind (wpAny_field hos hds (x:=vl) rfl (wpAny_bind (wpAny_field hos hds (x:=vu) rfl (wpAny_bind (wpAny_field hos hds (x:=.none) rfl (wpAny_pure ?_)))))))
 refine wpAny_bind (slicePart_none ?_)
 show wpAny _ _ (if ((1:Int)==0)=true then _ else _) _ _ s
 rw[if_neg (by decide)]
 refine wpAny_bind (Um pl (wpAny_bind (Um pu (wpAny_bind (wpAny_pure ?_)))))
 show wpAny _ _ (match Builtin.Slice.sliceAdjust lo hi 1 (n:Int) with | (lo,hi)=>pure (lo,(1:Int),Builtin.Slice.slicePlaces lo hi 1)) _ _ s
 rw[zce lo hi n]
 show wpAny _ _ (pure (((sIx n 0 lo:Nat):Int),(1:Int),Builtin.Slice.slicePlaces ((sIx n 0 lo:Nat):Int) ((sIx n n hi:Nat):Int) 1)) _ _ s
 rw[zcf]
 exact wpAny_pure h
theorem zeD (xs:Array Value)(i k:Nat):((List.range k).filterMap λ(m:Nat)=>xs[((i:Int)+(m:Int)*1).toNat]?).toArray=((xs.toList.drop i).take k).toArray:=by
 have e:(λ(m:Nat)=>xs[((i:Int)+(m:Int)*1).toNat]?)=λm=>xs[i+m]?:=by
  funext m
  have:((i:Int)+(m:Int)*1).toNat=i+m:=by omega
  rw[this]
 rw[e]
 have:=pick_run xs i k
 rw[List.filterMap_map] at this
 have e2:((λx=>xs[x]?)∘λx=>i+x)=λm=>xs[i+m]?:=rfl
 rw[e2] at this
 rw[this]
theorem Qt {t sl:Addr}{items:Array Value}{vl vu:Value}{lo hi:Option Int}{Q:Value->Shared->Prop}(ht:IsTup s.heap t items)(hs:s.heap.IsSliceOf sl vl vu .none)(pl:IsPart vl lo)(pu:IsPart vu hi)
  (hw:¬ (sIx items.size 0 lo=0/\sIx items.size items.size hi=items.size))
  (h:Q (.ref s.heap.objs.size) { s with heap:=s.heap.push { cls:=.type "tuple",data:=.seq ((items.toList.drop (sIx items.size 0 lo)).take (sIx items.size items.size hi-sIx items.size 0 lo)).toArray } })
  (hsz:items.size<=sizeLine):wpAny (model prog w) A (getItem (.ref t) (.ref sl)) Q E s:=by
 have htake:sizeOk (.seq ((items.toList.drop (sIx items.size 0 lo)).take (sIx items.size items.size hi-sIx items.size 0 lo)).toArray):=by
  show ((items.toList.drop (sIx items.size 0 lo)).take (sIx items.size items.size hi-sIx items.size 0 lo)).toArray.size<=sizeLine
  rw[size_toArray,length_take,length_drop,length_toList]
  omega
 have hj:sIx items.size items.size hi<=items.size:=zid _ _ (Nat.le_refl _) hi
 obtain ⟨os,hos,hcs,hds⟩:=id hs
 have hTs:s.TypeIs (.ref sl) "slice" := ⟨os,hos,hcs⟩
 unfold getItem
 try with_reducible refine wpAny_holding ?_
 first | refine wpAny_bind (wpAny_pure ?_) | skip
 refine wpAny_bind (wpAny_sequenceKey ht.typeIs (by decide) ?_)
 refine wpAny_bind (wpAny_callSpecial?_slot (name:=Str.ofString "__getitem__") ht.typeIs PyProof.Rows.slot_tuple_getitem
  (wpAny_call_entry PyProof.Rows.slot_tuple_getitem ht.typeIs entry_tuple_getitem ?_ (args_tuple_getitem _ _)))
 show wpAny _ _ (Builtin.Tuple.tupleItemsOf (.ref t) >>= _) _ _ s
 refine wpAny_bind (tupleItemsOf_ ht ?_)
 refine wpAny_bind (wpAny_typeOf hTs ?_)
 rw[if_pos (by decide)]
 refine wpAny_bind (Jf hs pl pu ?_)
 have hno:¬ ((((sIx items.size 0 lo:Nat):Int)==0&&(1:Int)==1&&(sIx items.size items.size hi-sIx items.size 0 lo)==items.size)=true):=by
  intro q
  rw[and_eq_true,and_eq_true] at q
  have q1:((sIx items.size 0 lo:Nat):Int)=0:=eq_of_beq q.1.1
  have q2:sIx items.size items.size hi-sIx items.size 0 lo=items.size:=eq_of_beq q.2
  exact hw ⟨by omega,by omega⟩
 show wpAny _ _ (if (((sIx items.size 0 lo:Nat):Int)==0&&(1:Int)==1&&(sIx items.size items.size hi-sIx items.size 0 lo)==items.size)=true then _ else _) _ _ s
 rw[if_neg hno,zeD]
 first
  | exact wpAny_bind (m:=Builtin.Tuple.tupleExact _) (wpAny_newObj_type (wpAny_pure ⟨_,rfl,wpAny_pure h⟩) htake)
  | exact wpAny_bind (m:=Builtin.Tuple.tupleExact _) (wpAny_newObj_type (wpAny_bind (wpAny_pure (wpAny_pure ⟨_,rfl,wpAny_pure h⟩))) htake)
  | exact wpAny_bind (wpAny_bind (m:=Builtin.Tuple.tupleExact _) (wpAny_newObj_type (wpAny_pure (wpAny_pure ⟨_,rfl,wpAny_pure h⟩)) htake))
  | exact wpAny_bind (wpAny_bind (m:=Builtin.Tuple.tupleExact _) (wpAny_newObj_type (wpAny_pure ⟨_,rfl,wpAny_pure h⟩) htake))
end
end HT
namespace L2
open PySem PySem.Spec PyProof.Rows
abbrev TO:=St->Hp->(Option Int->Hp->Prop)->Prop
def PO (X:Cx)(e:Option Expr)(t:TO):Prop:=
 ∀ (pins:List (Addr×Obj)) (s:Shared) (σ:St) (H:Hp) (Q:Option Int->Hp->Prop),Inv X pins σ H s->t σ H Q->
  wpAny (model X.prog X.w) X.A (evalPart e X.env) (λu s' => ∃ o H',Inv X pins σ H' s' /\ IsPart u o/\Q o H') X.xe s
def V3:TO:=λ_ H Q=>Q none H
def zcu (t:TE):TO:=fun σ H Q=>t σ H λx H1=>∃ i,x = .int i/\Q (some i) H1
theorem intsAre_of {ns:List Int}:∀ {us:List Value},Vals (ns.map V.int) us->IntsAre us ns:=by
 induction ns with
 | nil=>intro us r;rw[map_nil] at r;cases r;exact .nil
 | cons n ns ih=>
  intro us r
  rw[map_cons] at r
  cases r with
  | cons r1 r2=>
   obtain ⟨t,e⟩:=r1
   subst e
   exact .cons n t (ih r2)
section
variable {X:Cx}{e:Expr}{te:TE}{lo hi:Option Expr}{tl th:TO}{pos p2:Pos}
theorem WY:PO X none V3:=by
 intro pins s σ H Q I h
 rw[evalPart_none]
 exact wpAny_pure ⟨none,H,I,.none,h⟩
theorem W3 (h:PE X e te):PO X (some e) (zcu te):=by
 intro pins s σ H Q I hw
 rw[evalPart_some]
 refine thn (h pins s σ H _ I hw) λu s1 ⟨x,H1,I1,r1,q1⟩=>?_
 obtain ⟨i,rfl,q⟩:=q1
 obtain ⟨t,rfl⟩:=r1
 exact ⟨some i,H1,I1,.int i t,q⟩
def SlR (X:Cx)(r:V->Option Int->Option Int->Hp->VK->Prop):Prop:=
 ∀ (pins:List (Addr×Obj)) (s:Shared) (σ:St) (H:Hp) (x:V) (v vl vu:Value) (lo hi:Option Int) (sl:Addr) (Q:VK),Inv X pins σ H s->RelV x v->s.heap.IsSliceOf sl vl vu .none->IsPart vl lo->IsPart vu hi->r x lo hi H Q->
  ∃ T id,typeLookup (.type T) "__getitem__" = pure (some (.builtin id))/\s.TypeIs v T/\wpAny (model X.prog X.w) X.A (getItem v (.ref sl)) (EP X pins σ Q) X.xe s
def tSl (r:V->Option Int->Option Int->Hp->VK->Prop)(te:TE)(tl th:TO):TE:=fun σ H Q=>te σ H λx H1=>tl σ H1 λl H2=>th σ H2 λu H3=>r x l u H3 Q
theorem X4 {r:V->Option Int->Option Int->Hp->VK->Prop}(hr:SlR X r)(he:PE X e te)(hl:PO X lo tl)(hu:PO X hi th):PE X (.Subscript e (.Slice lo hi none p2) pos) (tSl r te tl th):=by
 intro pins s σ H Q I h
 refine Subscript_ (thn (he pins s σ H _ I h) λv s1 ⟨x,H1,I1,r1,q1⟩=>?_)
 refine wpAny_Slice (thn (hl pins s1 σ H1 _ I1 q1) λvl s2 ⟨l,H2,I2,pl,q2⟩=>thn (hu pins s2 σ H2 _ I2 q2) λvu s3 ⟨u,H3,I3,pu,q3⟩=>?_)
 rw[evalPart_none]
 refine wpAny_pure ?_
 have I4:Inv X pins σ H3 { s3 with heap:=s3.heap.push { cls:=.type "slice",data:=.fields #[vl,vu,.none] } }:=I3.kept (t' := s3.toks) λb ob q=>get?_push_of_some _ q
 obtain ⟨T,id,hT,ht,hg⟩:=hr pins { s3 with heap:=s3.heap.push { cls:=.type "slice",data:=.fields #[vl,vu,.none] } } σ H3 x v vl vu l u s3.heap.objs.size Q I4 r1 (Heap.IsSliceOf.new ..) pl pu q3
 show wpAny (model X.prog X.w) X.A (subscriptTail e (.Slice lo hi none p2) v (.ref s3.heap.objs.size)) (EP X pins σ Q) X.xe { s3 with heap:=s3.heap.push { cls:=.type "slice",data:=.fields #[vl,vu,.none] } }
 exact tail_any (ops:=[.ref s3.heap.objs.size,v]) ht hT hg (by with_unfolding_all rfl)
noncomputable def zcA (xs:List V) (lo hi:Option Int):List V:=(xs.drop (HT.sIx xs.length 0 lo)).take (HT.sIx xs.length xs.length hi-HT.sIx xs.length 0 lo)
theorem Vo (xs:List V)(lo hi:Option Int):(zcA xs lo hi).length<=xs.length:=by
 unfold zcA
 rw[length_take,length_drop]
 omega
def zkr (K:PySem.W.Frag):V->Option Int->Option Int->Hp->VK->Prop:=λx lo hi H Q=>∃ a xs,x = .ref a/\SqT K H a xs/\
 ¬ (HT.sIx xs.length 0 lo=0/\HT.sIx xs.length xs.length hi=xs.length)/\∀ p,H p=none->Q (.ref p) (upd H p (.tup (zcA xs lo hi)))
theorem zg9:SlR X (zkr X.K):=by
 intro pins s σ H x v vl vu lo hi sl Q I rx hs pl pu h
 obtain ⟨a,xs,rfl,hx,hw,q⟩:=h
 cases rx
 obtain ⟨its,r,ht,hz⟩:=I.tuple hx
 have hlen:its.toArray.size=xs.length:=by rw[size_toArray];exact r.length.symm
 refine ⟨"tuple",_,PyProof.Rows.slot_tuple_getitem.lookup,ht.typeIs,?_⟩
 refine HT.Qt ht hs pl pu (by rw[hlen];exact hw) ?_ (by rw[hlen];exact hz)
 rw[hlen]
 refine ⟨.ref s.heap.objs.size,_,I.laid (t' := s.toks) (o:=.tup (zcA xs lo hi)) (λb ob q=>get?_push_of_some _ q) (Nat.le_refl _) ?_,rfl,q _ (I.hok.fresh (Nat.le_refl _))⟩
 exact ⟨le_trans (Vo xs lo hi) hz,_,(r.drop (HT.sIx xs.length 0 lo)).take (HT.sIx xs.length xs.length hi-HT.sIx xs.length 0 lo),IsTup.new _ _,_,get?_push_size _ rfl,rfl⟩
def zi9 (K:PySem.W.Frag):R2:=λx y H Q=>∃ a b xs ys,x = .ref a/\y = .ref b/\SqT K H a xs/\SqT K H b ys/\xs≠[]/\xs.length+ys.length<=sizeLine/\
 (ys=[]->Q (.ref a) H)/\(ys≠[]->∀ p,H p=none->Q (.ref p) (upd H p (.tup (xs++ys))))
theorem Vals.Uz {xs:List V}{us:List Value}(r:Vals xs us):us=[]↔xs=[]:=by
 cases r with
 | nil=>simp
 | cons _ _=>simp
theorem zgO:OpR X (binaryOp .Add) (zi9 X.K):=by
 intro pins s σ H x y v u Q I rx ry h
 obtain ⟨a,b,xs,ys,rfl,rfl,ha,hb,hx,hz,q1,q2⟩:=h
 cases rx
 cases ry
 obtain ⟨its,r1,p1,_⟩:=I.tuple ha
 obtain ⟨its2,r2,p2,_⟩:=I.tuple hb
 refine HT.zf3 p1 p2 (λz=>hx (r1.Uz.mp z)) (λz=>⟨.ref a,H,I,rfl,q1 (r2.Uz.mp z)⟩) (λz=>?_) (by rw[← r1.length,← r2.length];exact hz)
 refine ⟨.ref s.heap.objs.size,_,I.laid (t' := s.toks) (o:=.tup (xs++ys)) (λb ob q=>get?_push_of_some _ q) (Nat.le_refl _) ?_,rfl,q2 (λw=>z (r2.Uz.mpr w)) _ (I.hok.fresh (Nat.le_refl _))⟩
 exact ⟨by rw[length_append];exact hz,_,r1.append r2,IsTup.new _ _,_,get?_push_size _ rfl,rfl⟩
end
noncomputable def ixN (n:Nat) (i:Int):Option Nat:=if 0<=i then (if i<n then some i.toNat else none) else if -(n:Int)<=i then some (i+n).toNat else none
noncomputable def atI {α:Type}(xs:List α) (i:Int):Option α:=(ixN xs.length i).bind λj=>xs[j]?
theorem zcR {n:Nat}{i:Int}{j:Nat}(h:ixN n i=some j):seqIndex? i n=some j/\j<n/\-(n:Int)<=i/\i<n:=by
 unfold ixN at h
 by_cases h0:0<=i
 ·rw[if_pos h0] at h
  by_cases h1:i<n
  ·rw[if_pos h1] at h
   have e:i.toNat=j:=Option.some.inj h
   exact ⟨by rw[seqIndex_of h0 h1,e],by omega,by omega,h1⟩
  ·rw[if_neg h1] at h;cases h
 ·rw[if_neg h0] at h
  by_cases h1:-(n:Int)<=i
  ·rw[if_pos h1] at h
   have e:(i+n).toNat=j:=Option.some.inj h
   exact ⟨by rw[seqIndex_neg (by omega) h1,e],by omega,h1,by omega⟩
  ·rw[if_neg h1] at h;cases h
theorem zbc {α:Type}{xs:List α}{i:Int}{v:α}(h:atI xs i=some v):∃ j,seqIndex? i xs.length=some j/\xs[j]?=some v/\j<xs.length/\-(xs.length:Int)<=i/\i<xs.length:=by
 unfold atI at h
 cases e:ixN xs.length i with
 | none=>rw[e] at h;cases h
 | some j=>
  rw[e] at h
  obtain ⟨h1,h2,h3,h4⟩:=zcR e
  exact ⟨j,h1,h,h2,h3,h4⟩
theorem zfS {α:Type}{xs:List α}{j:Nat}{v:α}(h:xs[j]?=some v):atI xs (j:Int)=some v:=by
 have hj:j<xs.length:=(List.getElem?_eq_some_iff.mp h).1
 have e:ixN xs.length (j:Int)=some j:=by
  unfold ixN
  rw[if_pos (by omega),if_pos (by omega)];simp
 unfold atI;rw[e];exact h
def zgv (b:Expr):Prop:=∀ o i,subscripted b false o i=operate [o,i] (getItem o i)
def IxR (X:Cx)(r:R2):Prop:=
 ∀ (value slice:Expr) (pins:List (Addr×Obj)) (s:Shared) (σ:St) (H:Hp) (x y:V) (v u:Value) (Q:VK),Inv X pins σ H s->RelV x v->RelV y u->r x y H Q->
  subscripted slice false v u=operate [v,u] (getItem v u)->wpAny (model X.prog X.w) X.A (subscriptTail value slice v u) (EP X pins σ Q) X.xe s
def MtR (X:Cx)(id:String)(r:V->List V->Hp->VK->Prop):Prop:=
 ∀ (pins:List (Addr×Obj)) (s:Shared) (σ:St) (H:Hp) (x:V) (xs:List V) (v:Value) (us:List Value) (Q:VK),Inv X pins σ H s->RelV x v->Vals xs us->r x xs H Q->
  wpAny (model X.prog X.w) X.A (call (.builtin id) (v::us)) (EP X pins σ Q) X.xe s
section
variable {X:Cx}{a b:Expr}{ta tb:TE}{pos:Pos}
theorem ZG {r:R2}(hr:IxR X r)(ha:PE X a ta)(hb:PE X b tb)(hs:zgv b):PE X (.Subscript a b pos) (tOp r ta tb):=by
 intro pins s σ H Q I h
 exact Subscript_ (zjt ha hb I h λv u s2 x y H2 I2 rx ry q=>hr a b pins s2 σ H2 x y v u Q I2 rx ry q (hs _ _))
def za2 (K:PySem.W.Frag):R2:=λx y H Q=>∃ p xs i v,x = .ref p/\y = .int i/\SqL K H p xs/\atI xs i=some v/\Q v H
def zd5 (K:PySem.W.Frag):R2:=λx y H Q=>∃ p xs i v,x = .ref p/\y = .int i/\SqT K H p xs/\atI xs i=some v/\Q v H
def zky:R2:=λx y H Q=>∃ z i c,x = .str z/\y = .int i/\z.length<=sizeLine/\atI z.cps.toList i=some c/\Q (.str ⟨#[c]⟩) H
theorem zfU:IxR X (za2 X.K):=by
 intro value slice pins s σ H x y v u Q I rx ry h hs
 obtain ⟨p,xs,i,z,rfl,rfl,hq,he,q⟩:=h
 cases rx
 obtain ⟨t,rfl⟩:=ry
 obtain ⟨its,r,pl,hz⟩:=I.list hq
 obtain ⟨j,h1,h2,h3,h4,h5⟩:=zbc he
 obtain ⟨w,ew,rw'⟩:=r.get h2
 have hl:=r.length
 have hn:=zaK
 have fin:EP X pins σ Q w s:=⟨z,H,I,rw',q⟩
 by_cases h0:0<=i
 ·have hj:i.toNat=j:=by
   rw[seqIndex_of h0 h5] at h1
   exact Option.some.inj h1
  exact item_listR pl.isList h0 (by omega) (by rw[hj];simpa using ew) fin hs
 ·have hj:(i+(its.toArray.size:Int)).toNat=j:=by
   rw[seqIndex_neg (by omega) h4] at h1
   rw[size_toArray,← hl]
   exact Option.some.inj h1
  exact subscriptTail_builtinR (x:=w) pl.isList.typeIs slot_list_getitem.lookup
   (wpAny_getItem_list_neg (Q:=λr s' => r=w/\EP X pins σ Q r s') pl.isList (by omega) (by rw[size_toArray] <;> omega) (by omega) (by rw[hj];simpa using ew) ⟨rfl,fin⟩) hs
theorem zhs:IxR X (zd5 X.K):=by
 intro value slice pins s σ H x y v u Q I rx ry h hs
 obtain ⟨p,xs,i,z,rfl,rfl,hq,he,q⟩:=h
 cases rx
 obtain ⟨t,rfl⟩:=ry
 obtain ⟨its,r,pl,hz⟩:=I.tuple hq
 obtain ⟨j,h1,h2,h3,h4,h5⟩:=zbc he
 obtain ⟨w,ew,rw'⟩:=r.get h2
 have hl:=r.length
 have hn:=zaK
 have fin:EP X pins σ Q w s:=⟨z,H,I,rw',q⟩
 exact subscriptTail_builtinR (x:=w) pl.typeIs slot_tuple_getitem.lookup
  (getItem_tuple (j:=j) (Q:=λr s' => r=w/\EP X pins σ Q r s') pl (by omega) (by omega) (by rw[size_toArray,← hl];exact h1) (by simpa using ew) ⟨rfl,fin⟩) hs
theorem zhB:IxR X zky:=by
 intro value slice pins s σ H x y v u Q I rx ry h hs
 obtain ⟨z,i,c,rfl,rfl,hz,he,q⟩:=h
 obtain ⟨t,rfl⟩:=rx
 obtain ⟨t',rfl⟩:=ry
 obtain ⟨j,h1,h2,h3,h4,h5⟩:=zbc he
 have hl:z.cps.toList.length=z.length:=by simp[Str.length]
 rw[hl] at h1 h4 h5
 have hn:=zaK
 exact tail_any (typeIs_str s z t) slot_str_getitem.lookup (getItem_str (c:=c) (by
  have e1:decide (i < -(2 ^ 63:Int))=false:=decide_eq_false (by omega)
  have e2:decide (i ≥ 2 ^ 63)=false:=decide_eq_false (by omega)
  rw[e1,e2,Bool.or_false]) (by rw[h1];simpa using h2) ⟨.str ⟨#[c]⟩,H,I.tok _,⟨_,rfl⟩,q⟩) hs
theorem zb4 (its:List Value)(n j:Nat)(u:Value):Obj.mapSeq (·.setIfInBounds j u) { cls:=.type "list",data:=.seq its.toArray n }={ cls:=.type "list",data:=.seq (its.set j u).toArray n }:=by
 simp[Obj.mapSeq]
theorem Inv.lst {pins:List (Addr×Obj)}{σ:St}{H:Hp}{s:Shared}{p:Addr}{xs:List V}(I:Inv X pins σ H s)(h:H p=some (.lst xs)):
  ∃ (its:List Value) (n:Nat),Vals xs its/\s.heap.get? p=some { cls:=.type "list",data:=.seq its.toArray n }/\xs.length<=sizeLine:=by
 obtain ⟨z,its,n,r,e⟩:=I.hok p _ h
 exact ⟨its,n,r,e,z⟩
theorem Inv.ziP {pins:List (Addr×Obj)}{σ:St}{H:Hp}{s:Shared}{p:Addr}{xs ys:List V}{its its' : List Value}{n n' : Nat}{f:Obj->Obj}(I:Inv X pins σ H s)(h:H p=some (.lst xs))
  (ho:s.heap.get? p=some { cls:=.type "list",data:=.seq its.toArray n }) (hf:f { cls:=.type "list",data:=.seq its.toArray n }={ cls:=.type "list",data:=.seq its'.toArray n' }) (r:Vals ys its') (hz:ys.length<=sizeLine) (t:Nat):
  Inv X pins σ (upd H p (.lst ys)) { s with heap:=s.heap.update p f,toks:=t }:=by
 have e:(s.heap.update p f).get? p=some { cls:=.type "list",data:=.seq its'.toArray n' }:=by
  rw[Heap.get?_update_self f ho (by rw[hf] <;> rfl),hf]
 refine I.write (x:=p) (e:=p) (by rw[h];trivial) (.inl rfl) (λb u hb q=>(Heap.get?_update_other _ _ (Ne.symm hb)).trans q) ⟨_,e⟩ ?_
 exact ⟨hz,its',n',r,e⟩
def zeL:V->V->V->Hp->(Hp->Prop)->Prop:=λo i v H Q=>∃ p xs k j,o = .ref p/\i = .int k/\H p=some (.lst xs)/\ixN xs.length k=some j/\Q (upd H p (.lst (xs.set j v)))
theorem set_list:zka X zeL:=by
 intro pins s σ H o i v ov iv u Q I ro ri rv h
 obtain ⟨p,xs,k,j,rfl,rfl,hp,hj,q⟩:=h
 cases ro
 obtain ⟨t,rfl⟩:=ri
 obtain ⟨its,n,r,ho,hz⟩:=I.lst hp
 obtain ⟨h1,h2,h3,h4⟩:=zcR hj
 have hl:=r.length
 have hn:=zaK
 have I' : Inv X pins σ (upd H p (.lst (xs.set j v))) { s with heap:=s.heap.update p (Obj.mapSeq (·.setIfInBounds j u)) }:=
  I.ziP hp ho (zb4 its n j u) (r.set rv j) (by rw[length_set];exact hz) s.toks
 by_cases h0:0<=k
 ·have hk:k.toNat=j:=by
   rw[seqIndex_of h0 h4] at h1
   exact Option.some.inj h1
  exact PySem.W.ki_setAt ho h0 (by omega) (by rw[size_toArray,← hl];exact h4) (by rw[hk];exact ⟨_,I',q⟩)
 ·have hk:(k+(its.toArray.size:Int)).toNat=j:=by
   rw[seqIndex_neg (by omega) h3] at h1
   rw[size_toArray,← hl]
   exact Option.some.inj h1
  exact PySem.W.ki_setBack ho (by omega) (by rw[size_toArray,← hl];exact h3) (by omega) (by rw[hk];exact ⟨_,I',q⟩)
theorem zaJ (lo hi:Option Int)(n:Nat):(sliceBounds lo hi none n).1=((HT.sIx n 0 lo:Nat):Int)/\(sliceBounds lo hi none n).2.1=((HT.sIx n n hi:Nat):Int)/\(sliceBounds lo hi none n).2.2=1:=by
 refine ⟨?_,?_,rfl⟩
 ·cases lo with
  | none=>simp[sliceBounds,HT.sIx]
  | some i=>
   simp only[sliceBounds,HT.sIx,Option.getD_none,show (1:Int)>0 by decide,if_true]
   by_cases h:i<0
   ·simp only[h,if_true] <;> omega
   ·simp only[h,if_false] <;> omega
 ·cases hi with
  | none=>simp[sliceBounds,HT.sIx]
  | some i=>
   simp only[sliceBounds,HT.sIx,Option.getD_none,show (1:Int)>0 by decide,if_true]
   by_cases h:i<0
   ·simp only[h,if_true] <;> omega
   ·simp only[h,if_false] <;> omega
theorem U9 (its:List Value)(lo hi:Option Int):slicePick its.toArray lo hi none=((its.drop (HT.sIx its.length 0 lo)).take (HT.sIx its.length its.length hi-HT.sIx its.length 0 lo)).toArray:=by
 obtain ⟨h1,h2,h3⟩:=zaJ lo hi its.toArray.size
 unfold slicePick
 rw[h1,h2,h3]
 simp only[sliceRange_one,pick_run,size_toArray] <;> rfl
def zg7 (K:PySem.W.Frag):V->Option Int->Option Int->Hp->VK->Prop:=λx lo hi H Q=>∃ a xs,x = .ref a/\SqL K H a xs/\∀ p,H p=none->Q (.ref p) (upd H p (.lst (zcA xs lo hi)))
theorem zf2:SlR X (zg7 X.K):=by
 intro pins s σ H x v vl vu lo hi sl Q I rx hs pl pu h
 obtain ⟨a,xs,rfl,hx,q⟩:=h
 cases rx
 obtain ⟨its,r,ht,hz⟩:=I.list hx
 have hlen:=r.length
 refine ⟨"list",_,slot_list_getitem.lookup,ht.isList.typeIs,?_⟩
 refine wpAny_getItem_list_slice ht.isList hs pl pu .none (by simp) ?_ (by rw[size_toArray] <;> omega)
 rw[U9,← hlen]
 refine ⟨.ref s.heap.objs.size,_,I.laid (t' := s.toks) (o:=.lst (zcA xs lo hi)) (λb ob q=>get?_push_of_some _ q) (Nat.le_refl _) ?_,rfl,q _ (I.hok.fresh (Nat.le_refl _))⟩
 exact ⟨le_trans (Vo xs lo hi) hz,_,0,(r.drop (HT.sIx xs.length 0 lo)).take (HT.sIx xs.length xs.length hi-HT.sIx xs.length 0 lo),get?_push_size _ rfl⟩
noncomputable def Ul:V->Bool
 | .non=>true
 | .bl _=>true
 | .int _=>true
 | .str _=>true
 | _=>false
noncomputable def eqV:V->V->Bool
 | .non,.non=>true
 | .bl a,.bl b=>a==b
 | .bl a,.int b=>(if a then 1 else 0)==b
 | .int a,.bl b=>a==(if b then 1 else 0)
 | .int a,.int b=>a==b
 | .str a,.str b=>a==b
 | _,_=>false
theorem zif {A:Around}{s:Shared}{y x:V}{u v:Value}(ry:RelV y u)(rx:RelV x v)(fy:Ul y=true)(fx:Ul x=true):SeqAt.EqAt A s u v (eqV y x):=by
 cases y with
 | non=>
  cases ry
  cases x with
  | non=>cases rx;exact SeqAt.EqAt.same _
  | bl b=>cases rx;exact SeqAt.EqAt.none_bool b
  | int b=>obtain ⟨t,rfl⟩:=rx;exact SeqAt.EqAt.none_int b t
  | str b=>obtain ⟨t,rfl⟩:=rx;exact SeqAt.EqAt.none_str b t
  | _=>exact absurd (show false=true from fx) Bool.false_ne_true
 | bl a=>
  cases ry
  cases x with
  | non=>cases rx;exact SeqAt.EqAt.bool_none a
  | bl b=>cases rx;exact SeqAt.EqAt.bool_bool a b
  | int b=>obtain ⟨t,rfl⟩:=rx;exact SeqAt.EqAt.bool_int a b t
  | str b=>obtain ⟨t,rfl⟩:=rx;exact SeqAt.EqAt.bool_str a b t
  | _=>exact absurd (show false=true from fx) Bool.false_ne_true
 | int a=>
  obtain ⟨t',rfl⟩:=ry
  cases x with
  | non=>cases rx;exact SeqAt.EqAt.int_none a t'
  | bl b=>cases rx;exact SeqAt.EqAt.int_bool a t' b
  | int b=>obtain ⟨t,rfl⟩:=rx;exact SeqAt.EqAt.int_int a t' b t
  | str b=>obtain ⟨t,rfl⟩:=rx;exact SeqAt.EqAt.int_str a t' b t
  | _=>exact absurd (show false=true from fx) Bool.false_ne_true
 | str a=>
  obtain ⟨t',rfl⟩:=ry
  cases x with
  | non=>cases rx;exact SeqAt.EqAt.str_none a t'
  | bl b=>cases rx;exact SeqAt.EqAt.str_bool a t' b
  | int b=>obtain ⟨t,rfl⟩:=rx;exact SeqAt.EqAt.str_int a t' b t
  | str b=>obtain ⟨t,rfl⟩:=rx;exact SeqAt.EqAt.str_str a t' b t
  | _=>exact absurd (show false=true from fx) Bool.false_ne_true
 | _=>exact absurd (show false=true from fy) Bool.false_ne_true
noncomputable def eqU (x:V) (u:Value):Bool:=match u with
 | .none=>eqV .non x
 | .bool b=>eqV (.bl b) x
 | .int i _=>eqV (.int i) x
 | .str z _=>eqV (.str z) x
 | _=>false
theorem zfA {x y:V}{u:Value}(r:RelV y u)(f:Ul y=true):eqU x u=eqV y x:=by
 cases y with
 | non=>cases r;rfl
 | bl b=>cases r;rfl
 | int i=>obtain ⟨t,rfl⟩:=r;rfl
 | str z=>obtain ⟨t,rfl⟩:=r;rfl
 | _=>exact absurd (show false=true from f) Bool.false_ne_true
theorem V6 {x:V}:∀ {xs:List V}{us:List Value},Vals xs us->xs.all Ul=true->us.any (eqU x)=xs.any λy=>eqV y x
 | _,_,.nil,_=>rfl
 | y::xs,u::us,.cons r t,f=>by
  rw[List.all_cons,and_eq_true] at f
  rw[any_cons,any_cons,zfA r f.1,V6 t f.2]
theorem Qk {A:Around}{s:Shared}{x:V}{v:Value}(rx:RelV x v)(fx:Ul x=true):∀ {xs:List V}{us:List Value},Vals xs us->xs.all Ul=true->∀ u∈us,SeqAt.EqAt A s u v (eqU x u)
 | _,_,.nil,_=>λu hu=>by cases hu
 | y::xs,u::us,.cons r t,f=>λu' hu=>by
  rw[List.all_cons,and_eq_true] at f
  rcases mem_cons.mp hu with rfl | hu
  ·rw[zfA r f.1];exact zif r rx f.1 fx
  ·exact Qk rx fx t f.2 u' hu
noncomputable def inV (x:V) (xs:List V):Bool:=xs.any λy=>eqV y x
def rIn (K:PySem.W.Frag)(neg:Bool):R2:=λx y H Q=>∃ p xs,y = .ref p/\(SqL K H p xs\/SqT K H p xs)/\Ul x=true/\xs.all Ul=true/\Q (.bl (if neg then !inV x xs else inV x xs)) H
theorem zaQ:OpR X (compareOp .In) (rIn X.K false):=by
 intro pins s σ H x y v u Q I rx ry h
 obtain ⟨p,xs,rfl,hq,fx,fs,q⟩:=h
 cases ry
 rcases hq with hq | hq
 ·obtain ⟨its,r,pl,hz⟩:=I.list hq
  refine SeqAt.in_listAt (eqU x) pl.isList (λw hw=>Qk rx fx r fs w (by simpa using hw)) ⟨.bl _,H,I,rfl,?_⟩
  rw[show its.toArray.any (eqU x)=its.any (eqU x) by simp,V6 r fs]
  exact q
 ·obtain ⟨its,r,pl,hz⟩:=I.tuple hq
  refine SeqAt.in_tupleAt (eqU x) pl (λw hw=>Qk rx fx r fs w (by simpa using hw)) ⟨.bl _,H,I,rfl,?_⟩
  rw[show its.toArray.any (eqU x)=its.any (eqU x) by simp,V6 r fs]
  exact q
theorem zax:OpR X (compareOp .NotIn) (rIn X.K true):=by
 intro pins s σ H x y v u Q I rx ry h
 obtain ⟨p,xs,rfl,hq,fx,fs,q⟩:=h
 cases ry
 rcases hq with hq | hq
 ·obtain ⟨its,r,pl,hz⟩:=I.list hq
  refine SeqAt.notIn_listAt (eqU x) pl.isList (λw hw=>Qk rx fx r fs w (by simpa using hw)) ⟨.bl _,H,I,rfl,?_⟩
  rw[show its.toArray.any (eqU x)=its.any (eqU x) by simp,V6 r fs]
  exact q
 ·obtain ⟨its,r,pl,hz⟩:=I.tuple hq
  refine SeqAt.notIn_tupleAt (eqU x) pl (λw hw=>Qk rx fx r fs w (by simpa using hw)) ⟨.bl _,H,I,rfl,?_⟩
  rw[show its.toArray.any (eqU x)=its.any (eqU x) by simp,V6 r fs]
  exact q
theorem zaB:QQ X (.builtin "len") (λxs H Q=>∃ p ys,xs=[.ref p]/\(SqL X.K H p ys\/SqT X.K H p ys)/\Q (.int ys.length) H):=by
 intro pins s σ H xs us Q I r h
 obtain ⟨p,ys,rfl,hq,q⟩:=h
 obtain ⟨u,rfl,rx⟩:=vals1 r
 cases rx
 have hn:=zaK
 rcases hq with hq | hq
 ·obtain ⟨its,r',pl,hz⟩:=I.list hq
  have hlen:=r'.length
  exact Calls.call_len_list pl.isList (by simp only[size_toArray] <;> omega) ⟨.int ys.length,H,I.tok _,⟨s.toks+1,by rw[size_toArray,hlen]⟩,q⟩
 ·obtain ⟨its,r',pl,hz⟩:=I.tuple hq
  have hlen:=r'.length
  exact len_tuple pl (by simp only[size_toArray] <;> omega) ⟨.int ys.length,H,I.tok _,⟨s.toks+1,by rw[size_toArray,hlen]⟩,q⟩
theorem zal:QQ X (.type "list") (λxs H Q=>∃ p ys,xs=[.ref p]/\(SqL X.K H p ys\/SqT X.K H p ys)/\∀ l,H l=none->Q (.ref l) (upd H l (.lst ys))):=by
 intro pins s σ H xs us Q I r h
 obtain ⟨p,ys,rfl,hq,q⟩:=h
 obtain ⟨u,rfl,rx⟩:=vals1 r
 cases rx
 have fin:∀ (its:List Value),Vals ys its->ys.length<=sizeLine->∀ (h' : Heap) (c' : Nat),(∀ b o',s.heap.get? b=some o' -> h'.get? b=some o')->
   h'.get? s.heap.objs.size=some { cls:=.type "list",dict:=none,data:=.seq its.toArray c',slots:=#[] }->EP X pins σ Q (.ref s.heap.objs.size) { s with heap:=h' }:=λits r' hz h' c' kp e=>
  ⟨.ref s.heap.objs.size,_,I.laid (t' := s.toks) kp (Nat.le_refl _) (show X5 X.prog X.w _ h' _ (.lst ys) from ⟨hz,its,c',r',e⟩),rfl,q _ (I.hok.fresh (Nat.le_refl _))⟩
 rcases hq with hq | hq
 ·obtain ⟨its,r',pl,hz⟩:=I.list hq
  have hlen:=r'.length
  obtain ⟨o,ho,hc,n,hd⟩:=pl.isList
  exact call_list_seq p (.inl rfl) ho hc hd (λh' c' kp e=>fin its r' hz h' c' kp e) (by simp only[size_toArray] <;> omega)
 ·obtain ⟨its,r',pl,hz⟩:=I.tuple hq
  have hlen:=r'.length
  obtain ⟨o,ho,hc,n,hd⟩:=pl
  exact call_list_seq p (.inr rfl) ho hc hd (λh' c' kp e=>fin its r' hz h' c' kp e) (by simp only[size_toArray] <;> omega)
theorem zai:QQ X (.type "tuple") (λxs H Q=>∃ p ys,xs=[.ref p]/\((SqL X.K H p ys/\∀ l,H l=none->Q (.ref l) (upd H l (.tup ys)))\/(SqT X.K H p ys/\Q (.ref p) H))):=by
 intro pins s σ H xs us Q I r h
 obtain ⟨p,ys,rfl,h⟩:=h
 obtain ⟨u,rfl,rx⟩:=vals1 r
 cases rx
 rcases h with ⟨hq,q⟩ | ⟨hq,q⟩
 ·obtain ⟨its,r',pl,hz⟩:=I.list hq
  have hlen:=r'.length
  refine call_tuple_list pl.isList (λh' kp=>?_) (by simp only[size_toArray] <;> omega)
  have I1:Inv X pins σ H { s with heap:=h' }:=I.kept (t' := s.toks) kp
  have I2:Inv X pins σ (upd H h'.objs.size (.tup ys)) { s with heap:=h'.push { cls:=.type "tuple",data:=.seq its.toArray } }:=
   I1.laid (t' := s.toks) (λb o e=>get?_push_of_some _ e) (Nat.le_refl _) (show X5 X.prog X.w _ _ _ (.tup ys) from ⟨hz,its,r',IsTup.new _ _,_,get?_push_size _ rfl,rfl⟩)
  exact ⟨.ref h'.objs.size,_,I2,rfl,q _ (I1.hok.fresh (Nat.le_refl _))⟩
 ·obtain ⟨its,r',pl,hz⟩:=I.tuple hq
  exact call_tuple_same pl ⟨.ref p,H,I,rfl,q⟩
def tyV (K:PySem.W.Frag)(T:String)(x:V)(H:Hp):Prop:=match x with
 | .str _=>T = "str"
 | .int _=>T = "int"
 | .ref p=>(T = "list" /\ ∃ xs,SqL K H p xs)\/(T = "tuple" /\ ∃ o,K.lookup p=some o/\o.cls = .type "tuple" /\ o.dict=none)\/
   (T = "dict" /\ ((∃ kvs,H p=some (.dK kvs))\/∃ kvs,H p=some (.dT kvs)))\/(T = "set" /\ ∃ S n,H p=some (.set S n))
 | _=>False
theorem zfl {pins:List (Addr×Obj)}{σ:St}{H:Hp}{s:Shared}{T:String}{x:V}{v:Value}(I:Inv X pins σ H s)(r:RelV x v)(ty:tyV X.K T x H):
  s.TypeIs v T/\∀ a,v = .ref a->∃ ob,s.heap.get? a=some ob/\ob.dict=none:=by
 cases x with
 | str z=>
  obtain ⟨t,rfl⟩:=r
  cases (show T = "str" from ty)
  exact ⟨typeIs_str s z t,λ_ e=>nomatch e⟩
 | int i=>
  obtain ⟨t,rfl⟩:=r
  cases (show T = "int" from ty)
  exact ⟨typeIs_int s i t,λ_ e=>nomatch e⟩
 | ref p=>
  cases r
  rcases ty with ⟨rfl,xs,hq⟩ | ⟨rfl,o,hk,hc,hd⟩ | ⟨rfl,hk⟩ | ⟨rfl,S,n,hk⟩
  ·obtain ⟨its,_,pl,_⟩:=I.list hq
   refine ⟨pl.isList.typeIs,λa e=>?_⟩
   cases e
   obtain ⟨o,n,e,c,hd,_⟩:=pl
   exact ⟨o,e,hd⟩
  ·refine ⟨⟨o,I.kIn p o hk,hc⟩,λa e=>?_⟩
   cases e
   exact ⟨o,I.kIn _ o hk,hd⟩
  ·have z:∃ o,s.heap.get? p=some o/\o.ExactDict:=by
    rcases hk with ⟨kvs,hk⟩ | ⟨kvs,hk⟩
    ·obtain ⟨_,_,_,_,o,_,_,e,ex,_⟩:=I.hok p _ hk
     exact ⟨o,e,ex⟩
    ·obtain ⟨_,_,_,_,o,_,_,e,ex,_⟩:=I.hok p _ hk
     exact ⟨o,e,ex⟩
   obtain ⟨o,e,ex⟩:=z
   refine ⟨⟨o,e,ex.1⟩,λa e2=>?_⟩
   cases e2
   exact ⟨o,e,ex.2.1⟩
  ·obtain ⟨o,_,_,_,e,ex,_⟩:=I.hok p _ hk
   refine ⟨⟨o,e,ex.1⟩,λa e2=>?_⟩
   cases e2
   exact ⟨o,e,ex.2.1⟩
 | _=>exact False.elim ty
def zkA (K:PySem.W.Frag)(T:String)(r:V->List V->Hp->VK->Prop)(to:TE):TE:=fun σ H Q=>to σ H λx H1=>tyV K T x H1/\r x [] H1 Q
def tBM (K:PySem.W.Frag)(T:String)(r:V->List V->Hp->VK->Prop)(to:TE)(t:TA):TE:=fun σ H Q=>to σ H λx H1=>tyV K T x H1/\t σ H1 λxs H2=>r x xs H2 Q
variable {o e:Expr}{es:List Expr}{to:TE}{t:TA}{name:Str}{apos cpos:Pos}{T id:String}{r:V->List V->Hp->VK->Prop}
theorem zhU (pa:PlainAttrs T)(slot:Slot T name id)(hty:typeOf (.builtin id)=pure (.type "method_descriptor"))(hm:MtR X id r)(ho:PE X o to)
  (hbase:attributeBase o name X.env (eval o X.env)=eval o X.env:=by rfl) (hline:(apos.endLine==cpos.line)=true:=by rfl):PE X (.Call (.Attribute o name apos) [] [] cpos) (zkA X.K T r to):=by
 intro pins s σ H Q I h
 refine wpAny_Call_method0_late hbase hline (thn (ho pins s σ H _ I h) λv s1 ⟨x,H1,I1,r1,ty,q1⟩=>?_)
 obtain ⟨h1,h2⟩:=zfl I1 r1 ty
 exact ⟨T,id,pa,slot,hty,h1,h2,Calls.callWith_builtin rfl (PySem.evalArgs_none (hm pins s1 σ H1 x [] v [] Q I1 r1 .nil q1))⟩
theorem Ui (pa:PlainAttrs T)(slot:Slot T name id)(hty:typeOf (.builtin id)=pure (.type "method_descriptor"))(hm:MtR X id r)(ho:PE X o to)(ha:PA X (e::es) t)
  (hbase:attributeBase o name X.env (eval o X.env)=eval o X.env:=by rfl)
  (hfew:((backTo cpos (starEach (e::es) X.env)).all (λx=>!x.1)&&(backToKw cpos (keywordEach [] X.env)).all (λx=>x.1.isSome)
   && decide ((e::es).length+([]:List Keyword).length+(if ([]:List Keyword).isEmpty then 0 else 1)<30))=true:=by rfl)
  (hline:(apos.endLine==cpos.line)=true:=by rfl) (hs:starEach (e::es) X.env=(false,eval e X.env)::starEach es X.env:=by rfl) (hplain:(backTo cpos (starEach es X.env)).any (·.1)=false:=by rfl):
  PE X (.Call (.Attribute o name apos) (e::es) [] cpos) (tBM X.K T r to t):=by
 intro pins s σ H Q I h
 refine wpAny_Call_method_late hbase hfew hline rfl (thn (ho pins s σ H _ I h) λv s1 ⟨x,H1,I1,r1,ty,q1⟩=>?_)
 obtain ⟨h1,h2⟩:=zfl I1 r1 ty
 refine ⟨T,id,pa,slot,hty,h1,h2,?_⟩
 have hA:=ha cpos pins s1 σ H1 _ I1 q1
 rw[hs] at hA ⊢
 refine Calls.callWith_builtin (by show (false||(backTo cpos (starEach es X.env)).any (·.1))=false;rw[hplain] <;> rfl) (Calls.evalArgs_plain ?_)
 exact thn hA λus s2 ⟨vs,H2,I2,r2,q2⟩=>hm pins s2 σ H2 x vs v us Q I2 r1 r2 q2
end
def MtM (X:Cx)(id:String)(r:V->List V->Hp->VK->Prop):Prop:=
 ∀ (pins:List (Addr×Obj)) (s:Shared) (σ:St) (H:Hp) (x:V) (xs:List V) (v:Value) (us:List Value) (Q:VK),Inv X pins σ H s->RelV x v->Vals xs us->r x xs H Q->
  wpAny (model X.prog X.w) X.A (call (.builtin id) (v::us)) (EP X pins σ Q) X.xe s
theorem Vals.one:∀ {x:V}{us:List Value},Vals [x] us->∃ u,us=[u]/\RelV x u
 | _,_,.cons r .nil=>⟨_,rfl,r⟩
theorem Vals.zero:∀ {us:List Value},Vals [] us->us=[]
 | _,.nil=>rfl
theorem Vals.dropLast {xs:List V}{us:List Value}(h:Vals xs us):Vals xs.dropLast us.dropLast:=by
 induction h with
 | nil=>exact .nil
 | cons r t ih=>
  cases t with
  | nil=>exact .nil
  | cons q t' => exact .cons r ih
theorem Vals.reverse {xs:List V}{us:List Value}(h:Vals xs us):Vals xs.reverse us.reverse:=by
 induction h with
 | nil=>exact .nil
 | cons r t ih=>rw[reverse_cons,reverse_cons];exact Vals.append ih (.cons r .nil)
theorem Vals.rep {xs:List V}{us:List Value}(h:Vals xs us):∀ k:Nat,Vals (List.replicate k xs).flatten (List.replicate k us).flatten
 | 0=>.nil
 | k+1=>by
  rw[replicate_succ,replicate_succ,flatten_cons,flatten_cons]
  exact Vals.append h (Vals.rep h k)
theorem zcc {α:Type}(l:List α):l.eraseIdx (l.length-1)=l.dropLast:=by
 induction l with
 | nil=>rfl
 | cons a r ih=>
  cases r with
  | nil=>rfl
  | cons b r=>
   have e:(a::b::r).length-1=((b::r).length-1)+1:=by
    have h1:(a::b::r).length=r.length+2:=rfl
    have h2:(b::r).length=r.length+1:=rfl
    omega
   rw[e,List.eraseIdx_cons_succ,ih]
   all_goals rfl
theorem foldl_rep (its:List Value):∀ (k:Nat) (acc:List Value),
  List.foldl (λx1 x2=>x1++x2) acc.toArray (List.replicate k its.toArray)=(acc++(List.replicate k its).flatten).toArray
 | 0,acc=>by simp
 | k+1,acc=>by
  have e:acc.toArray++its.toArray=(acc++its).toArray:=by simp
  have e2:(acc++its)++(List.replicate k its).flatten=acc++(List.replicate (k+1) its).flatten:=by
   rw[replicate_succ,flatten_cons,append_assoc]
  rw[← e2,← foldl_rep its k (acc++its),← e,replicate_succ,List.foldl_cons]
section
variable {X:Cx}{pins:List (Addr×Obj)}{σ:St}{H:Hp}{s:Shared}{l b:Addr}{xs ys zs:List V}
theorem Inv.zj3 {its its' : List Value}{n:Nat}{f:Array Value->Array Value}{t' : Nat}(I:Inv X pins σ H s)(hH:H l=some (.lst xs))
  (e:s.heap.get? l=some { cls:=.type "list",data:=.seq its.toArray n }) (hf:f its.toArray=its'.toArray) (hv:Vals ys its') (hz:ys.length<=sizeLine):
  Inv X pins σ (upd H l (.lst ys)) { s with heap:=s.heap.update l (Obj.mapSeq f),toks:=t' }:=by
 have q:=PySem.IsL.update e f
 rw[hf] at q
 refine I.write (x:=l) (e:=l) (by rw[hH];exact trivial) (.inl rfl) (λb' u hb hu=>(Heap.get?_update_other s.heap (Obj.mapSeq f) (Ne.symm hb)).trans hu) ⟨_,q⟩ ?_
 exact ⟨hz,its',_,hv,q⟩
theorem Inv.zj5 {its:List Value}{t' : Nat}(I:Inv X pins σ H s)(hv:Vals ys its)(hz:ys.length<=sizeLine):
  Inv X pins σ (upd H s.heap.objs.size (.lst ys)) { s with heap:=s.heap.push { cls:=.type "list",data:=.seq its.toArray },toks:=t' }:=
 I.laid (λ_ _ q=>get?_push_of_some _ q) (Nat.le_refl _) ⟨hz,its,0,hv,get?_push_size _ rfl⟩
theorem Inv.fresh (I:Inv X pins σ H s):H s.heap.objs.size=none:=I.hok.fresh (Nat.le_refl _)
theorem Inv.zhL (I:Inv X pins σ H s)(hH:H l=some (.lst xs)):xs.length<=sizeLine/\∃ (its:List Value) (n:Nat),Vals xs its/\xs.length=its.length/\s.heap.get? l=some { cls:=.type "list",data:=.seq its.toArray n }:=by
 obtain ⟨z,its,n,r,e⟩:=I.hok l _ hH
 exact ⟨z,its,n,r,r.length,e⟩
theorem zex {n:Nat}(h:n<=sizeLine):Builtin.List.listTooLong n=false:=by
 unfold Builtin.List.listTooLong
 exact decide_eq_false (by omega)
end
section
variable {X:Cx}
def zdu:V->List V->Hp->VK->Prop:=λx vs H Q=>∃ l xs y,x = .ref l/\vs=[y]/\H l=some (.lst xs)/\xs.length<sizeLine/\Q .non (upd H l (.lst (xs++[y])))
theorem XC:MtM X "list.append" zdu:=by
 intro pins s σ H x vs v us Q I rx rv h
 obtain ⟨l,xs,y,rfl,rfl,hH,hz,q⟩:=h
 cases rx
 obtain ⟨u,rfl,ru⟩:=rv.one
 obtain ⟨z,its,n,r,hl,e⟩:=I.zhL hH
 refine call_meets F.slot_list_append ⟨_,e,rfl⟩ F.entry_list_append (F.args_list_append_2 _ _) (PySem.list_append l its.toArray n u (by rw[size_toArray];omega)) ⟨e,?_⟩
 refine ⟨.non,_,I.zj3 (its' := its++[u]) hH e (by simp) (r.append (.cons ru .nil)) ?_,rfl,q⟩
 rw[length_append,List.length_singleton]
 omega
def zkp:V->List V->Hp->VK->Prop:=λx vs H Q=>∃ l xs y,x = .ref l/\vs=[]/\H l=some (.lst xs)/\xs[xs.length-1]?=some y/\Q y (upd H l (.lst xs.dropLast))
theorem zhK:MtM X "list.pop" zkp:=by
 intro pins s σ H x vs v us Q I rx rv h
 obtain ⟨l,xs,y,rfl,rfl,hH,hy,q⟩:=h
 cases rx
 have hus:=rv.zero
 subst hus
 obtain ⟨z,its,n,r,hl,e⟩:=I.zhL hH
 obtain ⟨u,hu,ru⟩:=r.get hy
 have hy' : its.toArray[its.toArray.size-1]?=some u:=by
  show its.toArray[its.length-1]?=some u
  rw[← Array.getElem?_toList,← hl]
  exact hu
 refine call_meets F.slot_list_pop ⟨_,e,rfl⟩ F.entry_list_pop (F.args_list_pop_1 _) (MeetsSeq.list_pop_last l its.toArray n u hy' (by rw[size_toArray];omega)) ⟨e,?_⟩
 refine ⟨y,_,I.zj3 (its' := its.dropLast) hH e ?_ r.dropLast ?_,ru,q⟩
 ·show its.toArray.eraseIdxIfInBounds (its.toArray.size-1)=its.dropLast.toArray
  rw[size_toArray,List.eraseIdxIfInBounds_toArray,zcc]
 ·rw[List.length_dropLast]
  omega
def zjy:R2:=λx y H Q=>∃ l b xs zs,x = .ref l/\y = .ref b/\H l=some (.lst xs)/\H b=some (.lst zs)/\xs.length+zs.length<=sizeLine/\∀ p,H p=none->Q (.ref p) (upd H p (.lst (xs++zs)))
theorem Wq:OpR X (binaryOp .Add) zjy:=by
 intro pins s σ H x y v u Q I rx ry h
 obtain ⟨l,b,xs,zs,rfl,rfl,hH,hB,hz,q⟩:=h
 cases rx
 cases ry
 obtain ⟨z,its,n,r,hl,e⟩:=I.zhL hH
 obtain ⟨z2,its2,n2,r2,hl2,e2⟩:=I.zhL hB
 refine PySem.P.add_list e e2 ?_ (by rw[size_toArray,size_toArray];omega)
 have ea:its.toArray++its2.toArray=(its++its2).toArray:=by simp
 rw[ea]
 exact ⟨.ref _,_,I.zj5 (t' := s.toks) (r.append r2) (by rw[length_append];omega),rfl,q _ I.fresh⟩
def zjY:R2:=λx y H Q=>∃ l k xs,x = .ref l/\y = .int k/\H l=some (.lst xs)/\-(2 ^ 63)<=k/\k<2 ^ 63/\xs.length*k.toNat<=sizeLine/\
 ∀ p,H p=none->Q (.ref p) (upd H p (.lst (List.replicate k.toNat xs).flatten))
theorem len_rep {α:Type}(xs:List α)(k:Nat):(List.replicate k xs).flatten.length=k*xs.length:=by
 induction k with
 | zero=>simp
 | succ k ih=>rw[replicate_succ,flatten_cons,length_append,ih,Nat.succ_mul,Nat.add_comm]
theorem zfx:OpR X (binaryOp .Mult) zjY:=by
 intro pins s σ H x y v u Q I rx ry h
 obtain ⟨l,k,xs,rfl,rfl,hH,h1,h2,hz,q⟩:=h
 cases rx
 obtain ⟨t,rfl⟩:=ry
 obtain ⟨z,its,n,r,hl,e⟩:=I.zhL hH
 have hlen:its.toArray.size*k.toNat<=sizeLine:=by rw[size_toArray,← hl];exact hz
 have hcap:¬ its.toArray.size*k.toNat>(2 ^ 63-1) / 8:=by
  have:(sizeLine:Nat)<=(2 ^ 63-1) / 8:=by decide
  omega
 have hfit:¬ (!Builtin.List.listFitsIndex k)=true:=by
  rw[fitsIndex_both h1 h2]
  exact Bool.false_ne_true
 have hlong:¬ Builtin.List.listTooLong (its.toArray.size*k.toNat)=true:=by
  rw[zex hlen]
  exact Bool.false_ne_true
 have hnew:List.foldl (λx1 x2=>x1++x2) #[] (List.replicate (if its.toArray.isEmpty=true then 0 else k.toNat) its.toArray)=(List.replicate k.toNat its).flatten.toArray:=by
  have f0:∀ m:Nat,List.foldl (λx1 x2=>x1++x2) #[] (List.replicate m its.toArray)=(List.replicate m its).flatten.toArray:=λm=>by
   have:=foldl_rep its m []
   rw[List.nil_append] at this
   exact this
  rw[f0]
  cases its with
  | nil=>simp
  | cons a r' => rw[if_neg (by simp)]
 refine wpAny_binaryOp_repeat_ref (T:= "list") (U:= "int") (by decide) ⟨_,e,rfl⟩ (λs' => typeIs_int s' k t) noFill_list_mul F.fills_int_mul F.slot_int_rmul repeat_list F.slot_int_index.lookup
  (call_meets F.slot_int_rmul (typeIs_int s k t) F.entry_int_rmul (F.args_int_rmul_2 _ _) (int___rmul___int_list k t l its.toArray n)
   ⟨e,rfl,⟨_,e,rfl⟩,call_meets F.slot_list_mul ⟨_,e,rfl⟩ F.entry_list_mul (F.args_list_mul_2 _ _) (AutoListH.list___mul___list_int_3 l its.toArray n k t hfit hcap hlong) ⟨e,?_⟩⟩)
 rw[hnew]
 exact ⟨.ref _,_,I.zj5 (t' := s.toks) (r.rep k.toNat) (by rw[len_rep,Nat.mul_comm];exact hz),rfl,q _ I.fresh⟩
end
section
variable {prog:Program}{w:World}{A:Around}{E:Value->Shared->Prop}{s:Shared}
set_option maxRecDepth 100000 in
end
end L2
namespace Att
open PySem PySem.W PySem.Calls PyProof.Rows
theorem V8 {P:Params}{h:Heap}:∀ (ns:List Int) (vs:List Value),WellAll P h vs (ns.map WData.int)->IntsAre vs ns:=by
 intro ns
 induction ns with
 | nil=>
  intro vs w
  rw[map_nil] at w
  cases w
  exact .nil
 | cons n ns ih=>
  intro vs w
  rw[map_cons] at w
  cases w with
  | cons a b=>
   cases a
   exact .cons _ _ (ih _ b)
theorem zcY {l:OpenLaw}{n:Nat}(hn:l.most=some n){P:Params}{h:Heap}{args:List WData}{vals:List Value}
  (hpre:l.row.toRowW.claim.pre args=true) (hwl:WellAll P h vals args):
  ∃ a vs ns,vals=[Value.ref a]/\args=[WData.list (ns.map WData.int)]/\h.get? a=some { cls:=.type "list",data:=.seq vs.toArray }/\IntsAre vs ns/\ns.length<=n:=by
 have hsh:WShape.hasAll [] args [.list .int]=true:=(pre_splitW hpre).1
 have hc:l.pre.holds [] { args:=args }=true:=(pre_splitW hpre).2
 obtain ⟨d,r,rfl,h1,h2⟩:=hasAllW_cons hsh
 obtain rfl:=hasAllW_nil h2
 obtain ⟨xs,rfl,h3⟩:=hasW_list h1
 obtain ⟨ns,rfl⟩:=items_int h3
 have hlen:ns.length<=n:=by
  unfold OpenLaw.pre at hc
  have h4:(WTm.not (.lt (.lit (.int (n:Int))) (.len (.arg 0)))).holds [] { args:=[.list (ns.map .int)] }=true:=by
   have h4:=(holds_andW hc).1
   rw[hn] at h4
   exact h4
  have h5:=condW_of h4 (w_not (w_lt w_lit (w_len_list (w_arg rfl))))
  rw[length_map] at h5
  refine Nat.le_of_not_lt λq=>?_
  have q' : (n:Int)<((ns.length:Nat):Int):=by omega
  first
   | (rw[decide_eq_true q'] at h5;exact absurd h5 (by decide))
   | (simp at h5;omega)
 cases hwl with
 | cons w1 w2=>
  cases w2
  cases w1 with
  | list ho hall=>exact ⟨_,_,ns,rfl,rfl,ho,V8 ns _ hall,hlen⟩
theorem zcF (l:OpenLaw)(args:List WData):l.row.toRowW.claim.post args (.bool true) args=true:=
 postW_of (r:=l.row.toRowW) (X:=(true==true))
  (show WShape.has [] (.bool true) .bool=true by first | rfl | decide | simp[WShape.has,WShape.arms,WShape.armsAll])
  (show (WTm.eq .res (.lit (.bool true))).value [] { args:=args,res:=some (.bool true),after:=args }=some (.bool (true==true)) from w_eq_bool (w_res rfl) w_lit) rfl
theorem za4 {l:OpenLaw}{n:Nat}{q:Program}{loose:List Str}{XP:(Str->Option Value)->Heap->Prop}{YP:World->Heap->Prop}{d:DefRec}
  (hn:l.most=some n) (hdf:d.params.defaults=[])
  (call:∀ (w:World) (s₀ s₁:Shared) (mg mb:Str->Option Value) (fa:Addr) (o:Obj) (pm cd doc:Value) (a:Addr) (vs:List Value) (ns:List Int),
   Ground q loose [] XP w s₀ mg mb s₁.heap->YP w s₁.heap->
   s₁.heap.get? fa=some o->o.data = .func (docDef d.name d.params d.body d.scope pm cd doc)->s₁.heap.CodeRec cd d.name->mg d.name=some (.ref fa)->
   s₁.heap.get? a=some { cls:=.type "list",data:=.seq vs.toArray }->IntsAre vs ns->ns.length<=n->s₁.gens = #[]->
   codeAny (model l.prog w) callerA (.call (.ref fa) ⟨[.ref a],[]⟩) (λr s' => r = .ok (.ret (.bool true))/\OldK s₁.heap s'.heap/\s'.os=s₁.os/\AllBare s'.gens) s₁):
  WalkO q loose XP YP l.row.toRowW d [] (λf vs=>PySem.call f vs):=by
 intro w s₀ s₁ mg mb G Y fa o pm cd doc dV kV ho hd hcd hD hmg hg args vals as hpre hlay hrd hwl hlo
 obtain rfl:dV = .none:=Dflts.none hD hdf
 obtain rfl:kV = .none:=Dflts.noKw hD
 obtain ⟨a,vs,ns,rfl,rfl,hobj,hints,hlen⟩:=zcY hn hpre hwl
 refine enter_call (codeAny_mono (call w s₀ s₁ mg mb fa o pm cd doc a vs ns G Y ho (fd_plain hd) hcd hmg hobj hints hlen hg) λr s' hq=>?_)
 obtain ⟨rfl,h2,h3,h4⟩:=hq
 exact ⟨.inl ⟨.bool true,.bool true,[],rfl,λ_=>rfl,.bool true,zcF l _,λ_=>⟨List.Pairwise.nil,λ_ hm=>(nomatch hm)⟩⟩,h2,h3,h4⟩
end Att
namespace L2
open PySem PySem.Spec PyProof.Rows
theorem zaV:∀ {vs:List Value}{ns:List Int},IntsAre vs ns->Vals (ns.map V.int) vs
 | _,_,.nil=>.nil
 | _,_,.cons n t h=>.cons ⟨t,rfl⟩ (zaV h)
noncomputable def Xq (s:Stmt):Arguments:=match s with
 | .FunctionDef _ a _ _ _ _ _ _ _ _=>a
 | _=>{ posonlyargs:=[],args:=[],vararg:=none,kwonlyargs:=[],kw_defaults:=[],kwarg:=none,defaults:=[] }
noncomputable def Z5 (s:Stmt):List Stmt:=match s with
 | .FunctionDef _ _ b _ _ _ _ _ _ _=>b
 | _=>[]
noncomputable def Zj (s:Stmt):Scope:=match s with
 | .FunctionDef _ _ _ _ _ _ sc _ _ _=>sc
 | _=>{ kind:=.function,names:=[],isGenerator:=false,isCoroutine:=false }
abbrev CX0:CXT:=λ_ _ _ _ _ _=>False
abbrev E0:XK:=λ_ _ _=>False
theorem zic {X:Cx}:zdv CX0 X E0:=λ_ _ _ _ _ _ _ h=>h.elim
structure Fun (K:PySem.W.Frag)(x qual:Str)(st:Stmt)(f:Addr)(fd:FuncData):Prop where
 ex:∃ (oc:Value) (od:Option Addr) (kV doc pm:Value) (an:Option Addr) (cdv ct:Value) (osl:Array (Option Value)),
  fd=PySem.W.fnOf x qual (Xq st) (Z5 st) (Zj st) .none kV doc pm an cdv ct/\K.lookup f=some ⟨oc,od,.func fd,osl⟩/\codeIn K cdv qual=true
 kp:keepIn K (.ref f)=true
section
variable {P:Program}{w:World}{K:PySem.W.Frag}{mg:Str->Option Value}{base:Heap}
theorem Fun.ok {x qual:Str}{st:Stmt}{f:Addr}{fd:FuncData}{N ps:List Str}{k:Nat}{sp:Sp}(F:Fun K x qual st f fd)(S:ZP N ps (Zj st))(len:∀ vs H Q E,sp vs H Q E->vs.length=ps.length)
  (hbody:∀ (cdv:Value) (A:Around) (outer:List Env) (s:Shared) (H:Hp) (vs:List V) (Q:VK) (E:XK),Wa k (A.deeper (envOfC qual (Zj st) s.heap.objs.size f cdv))->sp vs H Q E->
   ∃ t,PSs (Uw CX0 P w K mg base N qual (Zj st) f cdv A outer s H E).nox (Z5 st) t/\t { nx:=λ_ H' => Q .non H',rt:=Q } (start N vs) H):QS P w K mg base CX0 (k+1) f fd ps sp:=by
 obtain ⟨oc,od,kV,doc,pm,an,cdv,ct,osl,rfl,lk,hcd⟩:=F.ex
 refine zhT lk hcd S len λA outer s H vs Q E hr hsp=>?_
 obtain ⟨t,h,q⟩:=hbody cdv A outer s H vs Q E hr hsp
 exact ⟨t,h.nox,q⟩
theorem Fun.binds {x qual:Str}{st:Stmt}{f:Addr}{fd:FuncData}{ps:List Str}(F:Fun K x qual st f fd)
  (h:∀ (kV doc pm:Value) (an:Option Addr) (cdv ct:Value) (us:List Value),us.length=ps.length->bindArgs (PySem.W.fnOf x qual (Xq st) (Z5 st) (Zj st) .none kV doc pm an cdv ct) ⟨us,[]⟩=pure (ps.zip us)):Binds K fd ps []:=by
 obtain ⟨oc,od,kV,doc,pm,an,cdv,ct,osl,rfl,lk,hcd⟩:=F.ex
 exact .all (h kV doc pm an cdv ct)
theorem Vz {x qual:Str}{st:Stmt}{f:Addr}{oc:Value}{od an:Option Addr}{osl:Array (Option Value)}{kV doc pm cdv ct:Value}(l:K.lookup f=some ⟨oc,od,.func (PySem.W.fnOf x qual (Xq st) (Z5 st) (Zj st) .none kV doc pm an cdv ct),osl⟩)
  (c:codeIn K cdv qual=true) (k:keepIn K (.ref f)=true):Fun K x qual st f (PySem.W.fnOf x qual (Xq st) (Z5 st) (Zj st) .none kV doc pm an cdv ct):=⟨⟨oc,od,kV,doc,pm,an,cdv,ct,osl,rfl,l,c⟩,k⟩
end
section
variable {X:Cx}
theorem pv (i:Nat){x:Str}{pos:Pos}(hN:X.N[i]?=some x:=by rfl)(hv:Vis X.env.scope x:=by first | exact Or.inl rfl | exact Or.inr (Or.inl rfl) | exact Or.inr (Or.inr rfl))(hd:(x==("__debug__" : Str))=false:=by decide)
  (hcd:(x==("__classdict__" : Str))=false:=by decide):PE X (.Name x pos) (XQ i):=zdZ hN hv hd hcd
end
theorem zjw {A B:Prop}(h:B):if false=true then A else B:=by
 rw[if_neg Bool.false_ne_true]
 exact h
theorem zjQ {A B:Prop}(h:A):if true=true then A else B:=by
 rw[if_pos rfl]
 exact h
def ZR (H H' : Hp):Prop:=∀ b o,H b=some o->H' b=some o
theorem ZR.refl (H:Hp):ZR H H:=λ_ _ h=>h
theorem ZR.trans {H H1 H2:Hp}(a:ZR H H1)(b:ZR H1 H2):ZR H H2:=λc o h=>b c o (a c o h)
theorem ZR.free {H H' : Hp}(e:ZR H H'){l:Addr}(h:H' l=Option.none):H l=Option.none:=by
 cases q:H l with
 | none=>rfl
 | some o=>
  rw[e l o q] at h
  cases h
theorem ZR.seq {K:PySem.W.Frag}{H H' : Hp}{a:Addr}{xs:List V}(e:ZR H H')(h:SqL K H a xs):SqL K H' a xs:=by
 rcases h with (h | ⟨o,h⟩) | h
 ·exact .inl (.inl (e _ _ h))
 ·exact .inl (.inr ⟨o,e _ _ h⟩)
 ·exact .inr h
end L2
set_option maxHeartbeats 4000000
namespace L2
open PySem PySem.Spec PyProof.Rows
section
variable {X:Cx}
def zep (i j:Int):Prop:=i.natAbs<2 ^ 4000/\j.natAbs<2 ^ 4000
theorem zep.ok {i j:Int}(h:zep i j):IntMulOk i j:=
 IntMulOk.of_le (m:=4000) (n:=4000) (intBits_le_iff.mpr h.1) (intBits_le_iff.mpr h.2) (by decide)
theorem Wf:OpR X (binaryOp .Mult) (rI zep λi j=>.int (i*j)):=opI λ_ _ _ _ _ _ _ hc q=>mul_int q hc.ok
def zjq (i j:Int):Prop:=j≠0/\j.natAbs<2 ^ 4000
theorem zko {i j:Int}(h:zjq i j):Builtin.divisionGoesByPylong i j=false:=by
 refine PyProof.noPylong_of_log2 ?_
 have h0:j.natAbs≠0:=by have:=h.1;omega
 have:=(Nat.log2_lt h0).mpr h.2
 omega
def zhd (i j:Int):Prop:=0<j/\j.natAbs<2 ^ 4000
theorem Qn:OpR X (binaryOp .FloorDiv) (rI zhd λi j=>.int (i / j)):=opI λi j _ _ _ _ _ hc q=>by
 refine floordiv_int (by have:=hc.1;omega) ?_ (.inl (zko ⟨by have:=hc.1;omega,hc.2⟩))
 rw[Int.fdiv_eq_ediv_of_nonneg i (by have:=hc.1;omega)]
 exact q
theorem zeN (hc:X.calm=true):QQ X (.builtin "sum") (λxs H Q=>∃ (p:Addr) (ns:List Int),xs=[.ref p]/\SqL X.K H p (ns.map V.int)/\Q (.int ns.sum) H):=by
 intro pins s σ H xs us Q I r h
 obtain ⟨p,ns,rfl,hq,q⟩:=h
 obtain ⟨u,rfl,r1⟩:=vals1 r
 cases r1
 obtain ⟨its,rv,pl,hz⟩:=I.list hq
 have hi:IntsAre its ns:=intsAre_of rv
 have hl:s.heap.IsList p its.toArray:=by
  obtain ⟨o,n,e,c,_,d⟩:=pl
  exact ⟨o,e,c,n,d⟩
 obtain ⟨xs,hx⟩:=hi.allInts.items
 have hl' : s.heap.IsList p (intItems xs):=hx ▸ hl
 refine sum_intListG (I.ok.hd hc) hl' λh' tk t' hk=>?_
 have e1:ns=xs.toList.map (·.1):=by
  rw[← nums_intItems,← hx]
  exact (show numsOf its.toArray.toList=ns from hi.numsOf).symm
 have e2:preSum (numAt xs) xs.size=ns.sum:=by
  rw[preSum_eq,take_of_length_le (by simp),e1]
 rw[e2]
 exact ⟨.int ns.sum,H,I.kept hk,⟨_,rfl⟩,q⟩
theorem plainIs {h:Heap}{p:Addr}{its:Array Value}(pl:PlainL h p its):h.IsList p its:=by
 obtain ⟨o,n,e,c,_,d⟩:=pl
 exact ⟨o,e,c,n,d⟩
end
noncomputable def Ji (env:Env):List (Str×NameKind)->List (Str×Addr)->List (Str×Addr)
 | [],acc=>acc
 | (n,k)::r,acc=>Ji env r (if (k==NameKind.free)=true then (n,(env.cells.lookup n).getD 0)::acc else acc)
theorem zcs {env:Env}:∀ (names:List (Str×NameKind)) (acc:List (Str×Addr)),(∀ p∈names,p.2 = .free->∃ c,env.cells.lookup p.1=some c)->
  (forIn names acc λ(x:Str×NameKind) (cs:List (Str×Addr))=>(match x with
   | (name,kind)=>if (kind==NameKind.free)=true then (do let __do_lift ← cellOf env name;pure (ForInStep.yield ((name,__do_lift)::cs))) else pure (ForInStep.yield cs):Sem (ForInStep (List (Str×Addr)))))=pure (Ji env names acc):=by
 intro names
 induction names with
 | nil=>intro acc _;rfl
 | cons p r ih=>
  intro acc h
  obtain ⟨n,k⟩:=p
  rw[List.forIn_cons]
  have hr:=λacc=>ih acc λq hq=>h q (mem_cons_of_mem _ hq)
  by_cases hk:k = .free
  ·subst hk
   obtain ⟨c,hc⟩:=h (n,.free) mem_cons_self rfl
   have e:cellOf env n=pure c:=by unfold cellOf;rw[hc]
   simp only[beq_self_eq_true,if_true,e,pure_bind]
   rw[hr]
   simp only[Ji,beq_self_eq_true,if_true,hc,Option.getD_some]
  ·have hb:(k==NameKind.free)=false:=by simpa using hk
   simp only[hb,false_eq_true,if_false,pure_bind]
   rw[hr]
   simp only[Ji,hb,false_eq_true,if_false]
theorem XS {env:Env}{scope:Scope}(h:∀ p∈scope.names,p.2 = .free->∃ c,env.cells.lookup p.1=some c):closureFor scope env=pure (Ji env scope.names []):=by
 unfold closureFor
 have e:=zcs (env:=env) scope.names [] h
 simp only[e,pure_bind]
theorem Vi {env:Env}{y:Str}{c:Addr}:∀ {names:List (Str×NameKind)}{acc:List (Str×Addr)},(∀ p∈names,p.2 = .free->∃ c,env.cells.lookup p.1=some c)->(∀ y c,acc.lookup y=some c->env.cells.lookup y=some c)->
  (Ji env names acc).lookup y=some c->env.cells.lookup y=some c
 | [],_,_,ha,e=>ha _ _ e
 | (n,k)::r,acc,h,ha,e=>by
  refine Vi (names:=r) (λp hp=>h p (mem_cons_of_mem _ hp)) (λy c q=>?_) e
  by_cases hk:(k==NameKind.free)=true
  ·rw[if_pos hk] at q
   obtain ⟨c',hc'⟩:=h (n,k) mem_cons_self (by simpa using hk)
   rw[lookup_cons] at q
   cases hy:y==n with
   | true=>
    rw[hy] at q
    have hy' : y=n:=by simpa using hy
    subst hy'
    rw[hc'] at q
    cases q
    exact hc'
   | false=>
    rw[hy] at q
    exact ha y c q
  ·rw[if_neg hk] at q
   exact ha y c q
theorem zbN {env:Env}{y:Str}:∀ {names:List (Str×NameKind)}{acc:List (Str×Addr)},(acc.lookup y).isSome=true->((Ji env names acc).lookup y).isSome=true
 | [],_,h=>h
 | (n,k)::r,acc,h=>by
  refine zbN (names:=r) ?_
  split
  ·rw[lookup_cons]
   split
   ·rfl
   ·exact h
  ·exact h
theorem W0 {env:Env}{y:Str}:∀ {names:List (Str×NameKind)}{acc:List (Str×Addr)},(y,NameKind.free)∈names->((Ji env names acc).lookup y).isSome=true
 | (n,k)::r,acc,h=>by
  rcases mem_cons.mp h with e | h
  ·cases e
   refine zbN (names:=r) ?_
   rw[if_pos (by simp),lookup_cons]
   simp
  ·exact W0 (names:=r) h
abbrev Xk (X:Cx)(scope:Scope)(Nc:List Str)(C:Addr)(s0:Shared)(H0:Hp)(ex:List Addr):Cx:=
 { X with N:=Nc,s₀:=s0,H₀:=H0,env:=compEnvC scope (Ji X.env scope.names []) C X.env,outer:=X.stack,ex:=ex,fn:=λ_=>false,pn:=[],xe:=λ_ _=>False }
structure Xf (fr sc:Scope)(xs cap:List Str):Prop where
 kind:sc.kind = .function
 cell:∀ p∈sc.names,p.2≠.cell
 names:∀ p∈sc.names,p.2 = .local->sc.names.lookup p.1=some .local
 free:∀ p∈sc.names,p.2 = .free->fr.names.lookup p.1=some .cell
 caps:∀ y∈cap,(y,NameKind.free)∈sc.names
 noboth:∀ y∈cap,sc.names.lookup y≠some .local
structure WL (fr sc:Scope)(x:Str)(cap:List Str):Prop where
 kind:sc.kind = .function
 cell:∀ p∈sc.names,p.2≠.cell
 names:∀ p∈sc.names,p.2 = .local->sc.names.lookup p.1=some .local
 tgt:sc.names.lookup x=some .local
 free:∀ p∈sc.names,p.2 = .free->fr.names.lookup p.1=some .cell
 caps:∀ y∈cap,(y,NameKind.free)∈sc.names
 nd:(x::cap).Nodup
 noboth:∀ y∈cap,sc.names.lookup y≠some .local
theorem V4 {sc:Scope}{env:Env}{y:Str}{k:NameKind}(h:(y,k)∈(relabel sc env).names):∃ k',(y,k')∈sc.names/\(k=k' \/ (k' = .free/\k = .cell)):=by
 unfold relabel at h
 obtain ⟨⟨n,k'⟩,hm,e⟩:=mem_map.mp h
 by_cases hc:(k'==NameKind.free&&env.scope.kind == .function&&env.kindOf n==some .cell)=true
 ·have e:(n,NameKind.cell)=(y,k):=by simpa [hc] using e
  cases e
  refine ⟨k',hm,.inr ⟨?_,rfl⟩⟩
  rw[and_eq_true,and_eq_true] at hc
  simpa using hc.1.1
 ·have e:(n,k')=(y,k):=by simpa [hc] using e
  cases e
  exact ⟨k,hm,.inl rfl⟩
section
variable {X:Cx}{pins:List (Addr×Obj)}{σ:St}{H:Hp}{s:Shared}{sc:Scope}{xs cap:List Str}
theorem Xf.cells (S:Xf X.env.scope sc xs cap)(ok:X.Ok):∀ p∈sc.names,p.2 = .free->∃ c,X.env.cells.lookup p.1=some c:=
 λp hp e=>ok.has p.1 (.inl (S.free p hp e))
theorem Xf.sub (S:Xf X.env.scope sc xs cap)(ok:X.Ok){y:Str}{c:Addr}(h:(Ji X.env sc.names []).lookup y=some c):X.env.cells.lookup y=some c:=
 Vi (S.cells ok) (λ_ _ z=>by simp at z) h
theorem zd6 {a b:Addr}(h:a<b):a≠b:=ne_of_lt h
theorem zkg {a b:Addr}(h:b<a):a≠b:=Nat.ne_of_gt h
noncomputable def Wu (σ:St) (js:List Nat):St:=js.map λj=>(σ[j]?).join
theorem zcL (S:Xf X.env.scope sc xs cap){js:List Nat}(hjs:js.map (λj=>X.N[j]?)=cap.map some)(I:Inv X pins σ H s){fp:List Addr}(hf:∀ b∈fp,zcC X pins H b)(hlt:∀ b∈fp,b<s.heap.objs.size)
  {h1:Heap}{tk:Nat}{D C:Addr}{oD:Obj}{m:Str->Option Value}(hD:D=s.heap.objs.size) (hC:C=s.heap.objs.size+1) (keep:∀ b o,s.heap.get? b=some o->h1.get? b=some o) (hoD:h1.get? D=some oD) (hnc:∀ v,oD.data≠.cell v) (hns:h1.Ns C m):
  Inv (Xk X sc (xs++cap) C s H fp) [(D,oD)] (xs.map (λ_=>none)++Wu σ js) H { s with heap:=h1,toks:=tk }:=by
 subst hD hC
 have lenJ:js.length=cap.length:=by have:=congrArg List.length hjs;simpa using this
 have ok:=I.ok
 refine ⟨⟨ok.mod,S.kind,ok.glob,ok.blt,?_,λy z c h1 h2=>ok.inj y z c (S.sub ok h1) (S.sub ok h2),λy hy=>?_,(λy c h=>Bool.noConfusion h),ok.hd,ok.frames,.inl rfl,λb hb=>⟨?_,λy c e=>(hf b hb).2.2.2.2.1 y c (S.sub ok e)⟩,I.bs,le_trans ok.bsz I.sz,λb o e hb=>?_,λb hb hb' => ?_,I.stack,I.zdA⟩,
  rfl,I.bare,Un.kept keep,⟨m,hns,λi y v e1 e2 e3=>?_⟩,λy c e=>?_,I.hok.fresh (le_succ _),λy c e=>I.freeC y c (S.sub ok e),λp hp=>?_,I.hok.kept keep,?_⟩
 ·exact le_succ _
 ·have hy' : ∃ k,(y,k)∈(relabel sc X.env).names/\(k = .cell\/k = .free):=by
   rcases hy with hy | hy
   ·exact ⟨_,PySem.mem_of_lookup hy,.inl rfl⟩
   ·exact ⟨_,PySem.mem_of_lookup hy,.inr rfl⟩
  obtain ⟨k,hm,hk⟩:=hy'
  obtain ⟨k',hm',hk'⟩:=V4 hm
  have hfree:k' = .free:=by
   rcases hk' with e | ⟨e,_⟩
   ·subst e
    rcases hk with e | e
    ·exact absurd e (S.cell _ hm')
    ·exact e
   ·exact e
  subst hfree
  exact isSome_iff_exists.mp (W0 hm')
 ·exact zd6 (Nat.lt_succ_of_lt (hlt b hb))
 ·obtain ⟨_,_,_,z,_⟩:=hf b hb
  rcases z with z | z
  ·exact ok.noex b o e z
  ·have:=lt_size (ok.bs b o e).1
   exact absurd (Nat.lt_of_lt_of_le this z) (lt_irrefl _)
 ·obtain ⟨_,z1,z2,_⟩:=hf b hb
  rcases mem_cons.mp (I.zc3 b hb') with z | z
  ·exact z1 z
  ·exact z2 z
 ·have e2:(xs.map (λ_=>(none:Option V))++Wu σ js)[i]?=some (some v):=e2
  have e1:(xs++cap)[i]?=some y:=e1
  by_cases hi:i<xs.length
  ·rw[getElem?_append_left (by rw[length_map];exact hi),getElem?_map,getElem?_eq_getElem hi] at e2
   cases e2
  ·obtain ⟨i,rfl⟩:∃ i',i=xs.length+i' := ⟨i-xs.length,by omega⟩
   rw[getElem?_append_right (by rw[length_map];omega),length_map,Nat.add_sub_cancel_left] at e2
   rw[getElem?_append_right (by omega),Nat.add_sub_cancel_left] at e1
   have e1' := e1
   have e2' := e2
   have hy:y∈cap:=List.mem_of_getElem? e1'
   unfold Wu at e2'
   rw[getElem?_map] at e2'
   cases ej:js[i]? with
   | none=>rw[ej] at e2';cases e2'
   | some j=>
    rw[ej] at e2'
    have e2'' : (σ[j]?).join=some v:=Option.some.inj e2'
    have eN:X.N[j]?=some y:=by
     have:=congrArg (λl=>l[i]?) hjs
     simp only[getElem?_map,ej,e1',map_some] at this
     exact Option.some.inj this
    have eσ:σ[j]?=some (some v):=by
     cases q:σ[j]? with
     | none=>rw[q] at e2'';cases e2''
     | some w' =>
      rw[q] at e2''
      have:w'=some v:=by simpa using e2''
      rw[this]
    have kc:X.env.scope.names.lookup y=some .cell:=S.free (y,.free) (S.caps y hy) rfl
    obtain ⟨m0,hn0,hl0⟩:=I.loc
    obtain ⟨u,ru,lk⟩:=hl0 j y v eN eσ (.inr (.inl kc))
    refine ⟨u,ru,?_⟩
    rcases lk with ⟨k,_⟩ | ⟨_,c,ec,hc⟩
    ·have k' : X.env.scope.names.lookup y=some .local:=k
     rw[kc] at k';cases k'
    ·obtain ⟨c',hc'⟩:=isSome_iff_exists.mp (W0 (env:=X.env) (acc:=[]) (S.caps y hy))
     have hcc:c'=c:=Option.some.inj ((S.sub ok hc').symm.trans ec)
     subst hcc
     refine .inr ⟨?_,c',hc',?_⟩
     ·rcases e3 with e3 | e3 | e3
      ·exfalso
       have hm:=PySem.mem_of_lookup e3
       obtain ⟨k',hm',hk'⟩:=V4 hm
       rcases hk' with e | ⟨_,e⟩
       ·subst e
        exact S.noboth y hy (S.names _ hm' rfl)
       ·cases e
      ·exact .inl e3
      ·exact .inr e3
     ·obtain ⟨o,ho,hd⟩:=hc
      exact ⟨o,keep _ o ho,hd⟩
 ·obtain ⟨v,o,ho,hd⟩:=I.cell y c (S.sub ok e)
  exact ⟨v,o,keep _ o ho,hd⟩
 ·have hp' : p=(s.heap.objs.size,oD):=by simpa using hp
  subst hp'
  refine ⟨hoD,I.hok.fresh (Nat.le_refl _),zd6 (Nat.lt_succ_self _),λhb=>?_,hnc⟩
  obtain ⟨_,o,ho,_⟩:=I.stack.mem hb
  exact lt_irrefl _ (lt_size ho)
 ·show (xs.map (λ_=>(none:Option V))++Wu σ js).length=(xs++cap).length
  unfold Wu
  simp[lenJ]
theorem zau (S:Xf X.env.scope sc xs cap)(I:Inv X pins σ H s){fp:List Addr}(hf:∀ b∈fp,zcC X pins H b){D C:Addr}{pn' : List (Addr×Obj)}{σ' : St}{H' : Hp}{s' : Shared}{ys:List V}{its:List Value}{k:Nat}{h' : Heap}
  (hD:D=s.heap.objs.size) (hC:C=s.heap.objs.size+1) (J:Inv (Xk X sc (xs++cap) C s H fp) pn' σ' H' s') (hnD:H' D=none) (hoD:s'.heap.get? D=some { cls:=.type "list",data:=.seq its.toArray k }) (rv:Vals ys its) (hz:ys.length<=sizeLine)
  (hs:SameBut C s'.heap h'):Inv X pins σ (upd H' D (.lst ys)) { s' with heap:=h' }:=by
 subst hD hC
 have base:Un (frs X.stack) fp H H' s.heap s'.heap:=J.base
 have hnC:H' (s.heap.objs.size+1)=none:=J.free
 have neC:∀ {b:Addr}{o:Obj},s.heap.get? b=some o->b≠s.heap.objs.size+1:=λe=>zd6 (Nat.lt_succ_of_lt (lt_size e))
 have neD:∀ {b:Addr}{o:Obj},s.heap.get? b=some o->b≠s.heap.objs.size:=λe=>zd6 (lt_size e)
 have neDH:∀ {b:Addr}{o:HO},H b=some o->b≠s.heap.objs.size:=λe=>zd6 (I.hok.lt e)
 refine I.call' (s' := { s' with heap:=h' }) (ch:=fp) J.os ⟨λb o e n hb hx=>?_,λb o e n hb hx=>?_,λb o e n hx=>?_,λb o e hx=>?_,λb xs e=>?_,λb o u e=>?_,λb ps e=>?_⟩ (λb u e=>?_) J.bare λb hb=>?_
 ·exact (hs.2 b (neC e)).trans (base.keep b o e n hb hx)
 ·obtain ⟨sl,q⟩:=base.slot b o e n hb hx
  exact ⟨sl,(hs.2 b (neC e)).trans q⟩
 ·rw[ZC (neD e)];exact base.free b o e n hx
 ·obtain ⟨o',q⟩:=base.there b o e hx
  exact ⟨o',(hs.2 b (neC e)).trans q⟩
 ·rw[ZC (neDH e)];exact base.tups b xs e
 ·rw[ZC (neDH e)];exact base.frzs b o u e
 ·rw[ZC (neDH e)];exact base.tbls b ps e
 ·by_cases hb:b=s.heap.objs.size
  ·subst hb
   rw[Zy] at e
   cases e
   exact ⟨hz,its,k,rv,(hs.2 _ (zd6 (Nat.lt_succ_self _))).trans hoD⟩
  ·rw[ZC hb] at e
   have J' : X5 X.prog X.w H' s'.heap b u:=J.hok b u e
   refine J'.stay (λc v hc q=>(hs.2 c ?_).trans q) (λc q=>?_) (λc xs q=>?_) λc o u q=>?_
   ·rintro rfl
    rcases hc with rfl | hc
    ·rw[hnC] at e;cases e
    ·rw[hnC] at hc;cases hc
   ·rw[ZC (ZM q hnD)];exact q
   ·rw[ZC (ZM q hnD)];exact q
   ·rw[ZC (ZM q hnD)];exact q
 ·obtain ⟨_,z1,_,z3,z4,z5⟩:=hf b hb
  exact ⟨z3,z1,z4,z5⟩
end
section
variable {X:Cx}{pins:List (Addr×Obj)}{σ:St}{H:Hp}{s:Shared}{sc:Scope}{x:Str}{cap:List Str}
def PIf (X:Cx)(ifs:List Expr)(t:TT):Prop:=
 ∀ (pins:List (Addr×Obj)) (s:Shared) (σ:St) (H:Hp) (Q:Bool->Hp->Prop),Inv X pins σ H s->t σ H Q->
  wpAny (model X.prog X.w) X.A (forIn ifs true λc r=>if r=true then do let ok ← isTrue c X.env (eval c X.env);pure (ForInStep.yield ok) else pure (ForInStep.yield r)) (TP X pins σ Q) X.xe s
def ze2:TT:=λ_ H Q=>Q true H
theorem WW {X:Cx}:PIf X [] ze2:=λ_ _ _ H _ I h=>wpAny_tests_nil ⟨H,I,h⟩
theorem zcZ {X:Cx}{c:Expr}{t:TT}(h:PT X c t):PIf X [c] t:=λpins s σ H Q I q=>wpAny_tests_one (h pins s σ H Q I q)
end
section
variable {prog:Program}{w:World}{A:Around}{R:Result->Shared->Prop}{s:Shared}
theorem zcp {elt target iter:Expr}{ifs:List Expr}{scope:Scope}{pos:Pos}{it acc:Value}{env:Env}(J:Nat->Shared->Prop)
  (turn:∀ n s,J n s->wpAny (model prog w) A (pyNext it) (λr s₁=>match r with
   | none=>R (.ok .next) s₁
   | some v=>wpAny (model prog w) A (letOwnedTupleGo target it v) (λ_ s₂=>wpAny (model prog w) A (assign target env v) (λ_ s₃=>
     wpAny (model prog w) A (forIn ifs true λc r=>if r=true then do let ok ← isTrue c env (eval c env);pure (ForInStep.yield ok) else pure (ForInStep.yield r)) (λok s₄=>
      if ok=true then wpAny (model prog w) A (eval elt env) (λx s₅=>
       wpAny (model prog w) A (call (.builtin "list.append") [acc,x]) (λ_ s₆=>∃ m,m<n/\J m s₆) (λ_ _=>False) s₅) (λ_ _=>False) s₄
      else ∃ m,m<n/\J m s₄) (λ_ _=>False) s₃) (λ_ _=>False) s₂) (λ_ _=>False) s₁) (λ_ _=>False) s)
  (n:Nat) (h:J n s):codeAny (model prog w) A (.compLoop (.ListComp elt [⟨target,iter,ifs,0⟩] scope pos) 0 it acc env) R s:=by
 refine codeAny_loop rfl J (λn s hJ=>?_) n h
 show wpAny _ A ((compTurn (.ListComp elt [⟨target,iter,ifs,0⟩] scope pos) 0 it acc env).onRaise (λx=>do noteFrame x env;theTreesLotGoes x)) _ _ s
 refine wpAny_noted ?_
 rw[compTurn_list]
 refine wpAny_bind (wpAny_standAt (wpAny_bind (wpAny_mono (turn n s hJ) (λr s₁ h₁=>?_) λ_ _ z=>z.elim)))
 cases r with
 | none=>exact wpAny_pure h₁
 | some v=>
  refine wpAny_bind (wpAny_mono h₁ (λ_ s₂ h₂=>?_) λ_ _ z=>z.elim)
  refine wpAny_bind (wpAny_mono h₂ (λ_ s₃ h₃=>wpAny_bind (wpAny_mono h₃ (λok s₄ h₄=>?_) λ_ _ z=>z.elim)) λ_ _ z=>z.elim)
  cases ok with
  | false=>exact wpAny_pure ⟨rfl,h₄⟩
  | true=>
   exact wpAny_bind (wpAny_bind (wpAny_mono h₄ (λx s₅ h₅=>wpAny_bind (wpAny_mono h₅ (λ_ s₆ h₆=>wpAny_pure (wpAny_pure ⟨rfl,h₆⟩)) λ_ _ z=>z.elim)) λ_ _ z=>z.elim))
end
section
variable {X:Cx}{pins:List (Addr×Obj)}{σ:St}{H:Hp}{s:Shared}{sc:Scope}{x:Str}{cap:List Str}
def LCw (J:It)(js:List Nat)(σ:St)(tt:TT)(te:TE)(Q:VK)(W:Nat->Nat->List V->Hp->Prop):Prop:=
 ∀ i m ys H,W i m ys H->ys.length<sizeLine/\
  ((J.stop i H/\∀ p,H p=none->Q (.ref p) (upd H p (.lst ys)))\/
   (J.go i H/\∀ x H',J.yld i H x H' -> tt (some x::Wu σ js) H' λb H2=>if b=true then te (some x::Wu σ js) H2 λv H3=>∃ m',m'<m/\W (i+1) m' (ys++[v]) H3 else ∃ m',m'<m/\W (i+1) m' ys H2))
def tLC (wi:TI)(js:List Nat)(tt:TT)(te:TE):TE:=fun σ H Q=>wi σ H λJ H1=>∃ W:Nat->Nat->List V->Hp->Prop,(∃ m,W 0 m [] H1)/\LCw J js σ tt te Q W
def zj9 (n:Nat)(J:It)(js:List Nat)(σ:St)(g:TG)(tt:TT)(te:TE)(Q:VK)(W:Nat->Nat->List V->Hp->Prop):Prop:=
 ∀ i m ys H,W i m ys H->ys.length<sizeLine/\
  ((J.stop i H/\∀ p,H p=none->Q (.ref p) (upd H p (.lst ys)))\/
   (J.go i H/\∀ x H',J.yld i H x H' -> ∀ ws:List (Option V),ws.length=n->g x (ws++Wu σ js) H' fun σ2 H2=>∃ ws',σ2=ws'++Wu σ js/\ws'.length=n/\tt σ2 H2 λb H3=>if b=true then te σ2 H3 λv H4=>∃ m',m'<m/\W (i+1) m' (ys++[v]) H4 else ∃ m',m'<m/\W (i+1) m' ys H3))
end
section
variable {X:Cx}{pins:List (Addr×Obj)}{σ:St}{H:Hp}{s:Shared}{sc:Scope}{xs cap:List Str}
theorem za1 (S:Xf X.env.scope sc xs cap){js:List Nat}(hjs:js.map (λj=>X.N[j]?)=cap.map some)(hc:X.calm=true){elt iter:Expr}{ifs:List Expr}{pos:Pos}{tg:Expr}{g:TG}{tt:TT}{te:TE}(hg:∀ C s0 H0 ex,PG (Xk X sc (xs++cap) C s0 H0 ex) tg g)
  (hb:∀ C s0 H0 ex,PIf (Xk X sc (xs++cap) C s0 H0 ex) ifs tt/\PE (Xk X sc (xs++cap) C s0 H0 ex) elt te)
  (I:Inv X pins σ H s) {J:It}{fp:List Addr}{it:Addr}{tn:Nat->Heap->Prop}(T:Turn X.prog X.w X.K tg J fp it tn) (st:tn 0 s.heap) (hf:∀ b∈fp,zcC X pins H b)
  {Q:VK}{W:Nat->Nat->List V->Hp->Prop}(w0:∃ m,W 0 m [] H) (turn:zj9 xs.length J js σ g tt te Q W) {RR:Value->Addr->Result->Shared->Prop}{E:Value->Shared->Prop}
  (hR:∀ D C s' σ' H' ys its k,D=s.heap.objs.size->C=s.heap.objs.size+1->Inv (Xk X sc (xs++cap) C s H fp) [(D,{ cls:=.type "list",data:=.seq its.toArray k })] σ' H' s' -> Vals ys its->ys.length<=sizeLine->(∀ p,H' p=none->Q (.ref p) (upd H' p (.lst ys)))->RR (.ref D) C (.ok .next) s'):
  wpAny (model X.prog X.w) X.A (newList []) (λacc s₃=>wpAny (model X.prog X.w) X.A (newFunctionEnv sc X.env.globals (Ji X.env sc.names []) [] X.env.qual none .none (some X.env)) (λcenv s₄=>
   codeAny (model X.prog X.w) X.A (.compStart (.ListComp elt [⟨tg,iter,ifs,0⟩] sc pos) 0 (.ref it) acc { cenv with scope:=relabel sc X.env }) (RR acc cenv.locals) s₄) E s₃) E s:=by
 refine wpAny_newObj_type (wpAny_newFunctionEnv S.cell (by intro y hy;simp at hy) (λh₁ hns₁ hsb₁=>?_) S.kind)
 dsimp only at hns₁ hsb₁ ⊢
 have hlt:∀ b∈fp,b<s.heap.objs.size:=λb hb' => by
  obtain ⟨o,e,_⟩:=T.obj 0 _ st b hb'
  exact lt_size e
 generalize hH2:s.heap.push { cls:=.type "list",dict:=none,data:=.seq ([]:List Value).toArray }=H2 at hns₁ hsb₁ ⊢
 have hC:H2.objs.size=s.heap.objs.size+1:=by rw[← hH2,size_push]
 have old:∀ b o,s.heap.get? b=some o->h₁.get? b=some o:=λb o e=>
  hsb₁.extBut b o (by rw[hC];exact zd6 (Nat.lt_succ_of_lt (lt_size e))) (get?_push_of_some _ (hH2 ▸ get?_push_of_some _ e))
 have hacc:h₁.get? s.heap.objs.size=some { cls:=.type "list",data:=.seq ([]:List Value).toArray }:=
  hsb₁.extBut _ _ (by rw[hC];exact zd6 (Nat.lt_succ_self _)) (get?_push_of_some _ (hH2 ▸ get?_push_size _ rfl))
 have st₁:tn 0 h₁:=T.keep _ _ _ st λb _ o e=>old b o e
 obtain ⟨m0,w0⟩:=w0
 rw[hC] at hns₁ hsb₁ ⊢
 generalize hCe:s.heap.objs.size+1=C at hns₁ hsb₁ hR ⊢
 generalize hDe:s.heap.objs.size=D at hacc hR ⊢
 have hDe' := hDe.symm
 have hC' : C=s.heap.objs.size+1:=hCe.symm
 have ltD:∀ {b:Addr},b<s.heap.objs.size->b≠D:=λh=>by rw[← hDe];exact zd6 h
 have loop:∀ s₃:Shared,s₃={ s with heap:=h₁,toks:=s.toks+([]:List (Str×Value)).length }->
   codeAny (model X.prog X.w) X.A (.compLoop (.ListComp elt [⟨tg,iter,ifs,0⟩] sc pos) 0 (.ref it) (.ref D) (compEnvC sc (Ji X.env sc.names []) C X.env)) (RR (.ref D) C) s₃:=by
  rintro s₃ rfl
  have I0:Inv (Xk X sc (xs++cap) C s H fp) [(D,{ cls:=.type "list",data:=.seq ([]:List Value).toArray })] (xs.map (λ_=>none)++Wu σ js) H { s with heap:=h₁,toks:=s.toks+([]:List (Str×Value)).length }:=
   zcL S hjs I hf hlt hDe' hC' old hacc (λv z=>by cases z) hns₁
  have fpD:∀ b∈fp,b≠D:=λb hb' => ltD (hlt b hb')
  refine zcp (λn s' => ∃ i ws H' ys its k,ws.length=xs.length/\Inv (Xk X sc (xs++cap) C s H fp) [(D,{ cls:=.type "list",data:=.seq its.toArray k })] (ws++Wu σ js) H' s' /\ tn i s'.heap/\(∀ b∈fp,H' b=none)/\Vals ys its/\W i n ys H')
   ?_ m0 ⟨0,xs.map (λ_=>none),H,[],[],0,length_map _,I0,st₁,λb hb' => (hf b hb').1,.nil,w0⟩
  rintro n s3 ⟨i,ws,H3,ys,its,k,hws,I3,st3,fr3,rv,w3⟩
  obtain ⟨hlen,hor⟩:=turn i n ys H3 w3
  have stat:∀ {H' : Hp} {o:Obj},(∀ b∈fp,H' b=none)->∀ b∈fp,zcC (Xk X sc (xs++cap) C s H fp) [(D,o)] H' b:=λ{H' o} hn b hb' =>
   ⟨hn b hb',(I3.ok.exf b hb').1,I3.ok.exfs b hb',.inl hb',(I3.ok.exf b hb').2,λp hp=>by
    have hp' : p=(D,o):=by simpa using hp
    rw[hp']
    exact Ne.symm (fpD b hb')⟩
  rcases hor with ⟨stop,qn⟩ | ⟨go,step⟩
  ·refine thn (T.done (Xk X sc (xs++cap) C s H fp) rfl rfl rfl hc i _ s3 _ H3 _ I3 (stat fr3) st3 stop) λr s4 ⟨hr,I4⟩=>?_
   subst hr
   exact hR D C s4 _ H3 ys its k rfl rfl I4 rv (le_of_lt hlen) qn
  ·refine thn (T.item (Xk X sc (xs++cap) C s H fp) rfl rfl rfl hc i _ s3 _ H3 _ I3 (stat fr3) st3 go) λr s4 ⟨u,hr,h4⟩=>?_
   subst hr
   refine thn h4 λ_ s5 ⟨xv,H5,I5,r5,y5,st5,fr5⟩=>?_
   have I5' := I5.pinned (stat fr5) (T.obj _ _ st5)
   refine thn (hg C s H fp _ s5 _ H5 xv u _ I5' r5 (step xv H5 y5 ws hws)) λ_ s6 ⟨σ6,H6,I6,ws',e6,hws',q6⟩=>?_
   subst e6
   refine thn ((hb C s H fp).1 _ s6 _ H6 _ I6 q6) λok s7 ⟨H7,I7,q7⟩=>?_
   have fin:∀ {s8:Shared}{H8:Hp}{σ8:St},Inv (Xk X sc (xs++cap) C s H fp) ([(D,{ cls:=.type "list",data:=.seq its.toArray k })]++QX fp s5.heap) σ8 H8 s8->tn (i+1) s8.heap/\(∀ b∈fp,H8 b=none)/\s8.heap.get? D=some { cls:=.type "list",data:=.seq its.toArray k }/\H8 D=none/\D≠C:=λ{s8 H8 σ8} I8=>by
    have pinD:=I8.pin (D,{ cls:=.type "list",data:=.seq its.toArray k }) (mem_append_right _ (List.mem_append_left _ (mem_singleton.mpr rfl)))
    have pinF:∀ b∈fp,∀ o,s5.heap.get? b=some o->s8.heap.get? b=some o/\H8 b=none:=λb hb' o e=>
     have z:=I8.pin (b,o) (mem_append_right _ (mem_append_right _ (Qx hb' e)))
     ⟨z.1,z.2.1⟩
    refine ⟨T.keep _ _ _ st5 λb hb' o e=>(pinF b hb' o e).1,λb hb' => ?_,pinD.1,pinD.2.1,pinD.2.2.1⟩
    obtain ⟨o,e,_⟩:=T.obj _ _ st5 b hb'
    exact (pinF b hb' o e).2
   cases ok with
   | false=>
    rw[if_neg Bool.false_ne_true] at q7 ⊢
    obtain ⟨m',hm,w7⟩:=q7
    obtain ⟨f1,f2,_⟩:=fin I7
    exact ⟨m',hm,i+1,ws',H7,ys,its,k,hws',I7.Qg,f1,f2,rv,w7⟩
   | true=>
    rw[if_pos rfl] at q7 ⊢
    refine thn ((hb C s H fp).2 _ s7 _ H7 _ I7 q7) λu8 s8 ⟨v,H8,I8,r8,q8⟩=>?_
    obtain ⟨f1,f2,f3,f4,f5⟩:=fin I8
    obtain ⟨m',hm,w8⟩:=q8
    have rv' : Vals (ys++[v]) (its++[u8]):=rv.append (.cons r8 .nil)
    refine wpAny_list_append_plain ⟨k,f3⟩ (λh9 hl9 hs9=>?_) (by rw[size_toArray,← rv.length];exact le_of_lt hlen)
    obtain ⟨k9,e9⟩:=hl9
    have e9' : h9.get? D=some { cls:=.type "list",data:=.seq (its++[u8]).toArray k9 }:=by rw[e9];simp
    have In:Inv (Xk X sc (xs++cap) C s H fp) (QX fp s5.heap) (ws'++Wu σ js) H8 s8:=I8.QR λp hp=>I8.pin p (mem_append_right _ (mem_append_right _ hp))
    have It' : Inv (Xk X sc (xs++cap) C s H fp) (QX fp s5.heap) (ws'++Wu σ js) H8 { s8 with heap:=h9 }:=
     In.turned (it:=D) (h' := h9) (t' := s8.toks) (λb o hb' e=>hs9.extBut b o hb' e) f4 f5 (.inr (Nat.le_of_eq hDe)) (λy c e z=>by
      obtain ⟨v',o,ho,_⟩:=I.cell y c (S.sub I.ok e)
      exact ltD (lt_size ho) z) λp hp z=>by
      have hp' : p∈QX fp s5.heap:=by simpa using hp
      exact fpD p.1 (zaE hp').1 z
    refine ⟨m',hm,i+1,ws',H8,ys++[v],its++[u8],k9,hws',It'.QR λp hp=>?_,T.keep _ _ _ f1 λb hb' o e=>hs9.extBut b o (fpD b hb') e,f2,rv',w8⟩
    have hp' : p=(D,{ cls:=.type "list",data:=.seq (its++[u8]).toArray k9 }):=by simpa using hp
    subst hp'
    refine ⟨e9',f4,f5,λhb' => ?_,λv z=>by cases z⟩
    obtain ⟨_,o,ho,_⟩:=I.stack.mem hb'
    exact ltD (lt_size ho) rfl
 exact codeAny_compStart_list (loop _ rfl) (T.self X.A 0 _ _ _ st₁ (loop _ rfl))
theorem ziu {J:It}{js:List Nat}{tt:TT}{te:TE}{Q:VK}{W:Nat->Nat->List V->Hp->Prop}(h:LCw J js σ tt te Q W):zj9 1 J js σ (Va 0) tt te Q W:=λi m ys H w=>by
 obtain ⟨a,b⟩:=h i m ys H w
 refine ⟨a,b.imp id λ⟨go,st⟩=>⟨go,λx H' y ws hw=>?_⟩⟩
 match ws,hw with
 | [v],_=>exact ⟨[some x],rfl,rfl,st x H' y⟩
end
section
variable {X:Cx}{pins:List (Addr×Obj)}{σ:St}{H:Hp}{s:Shared}{sc:Scope}{x:Str}{cap:List Str}
theorem WL.n {fr:Scope}(S:WL fr sc x cap):Xf fr sc [x] cap:=⟨S.kind,S.cell,S.names,S.free,S.caps,S.noboth⟩
theorem WL.pg (S:WL X.env.scope sc x cap){px:Pos}(C:Addr)(s0:Shared)(H0:Hp)(ex:List Addr):PG (Xk X sc ([x]++cap) C s0 H0 ex) (.Name x px) (Va 0):=Xn S.nd rfl (.inl (lookup_relabel_local S.tgt)) (.inr (lookup_relabel_local S.tgt))
theorem zbh (S:WL X.env.scope sc x cap){js:List Nat}(hjs:js.map (λj=>X.N[j]?)=cap.map some)(hc:X.calm=true)(hxe:∀ e s,¬ X.xe e s){elt iter:Expr}{ifs:List Expr}{pos px:Pos}{wi:TI}{tt:TT}{te:TE}
  (hi:PI X (.Name x px) iter wi) (hb:∀ C s0 H0 ex,PIf (Xk X sc (x::cap) C s0 H0 ex) ifs tt/\PE (Xk X sc (x::cap) C s0 H0 ex) elt te)
  (hs:∀ x,foldedSetIterable iter X.env x=pure x:=by intro _;rfl):PE X (.ListComp elt [⟨.Name x px,iter,ifs,0⟩] sc pos) (tLC wi js tt te):=by
 intro pins s σ H Q I h
 rw[eval_ListComp]
 refine wpAny_comprehension_free (use:=none) rfl hs (XS (S.n.cells I.ok)) S.kind S.names (thn (hi pins s σ H _ I h) λxv s₁ h₁=>thn h₁ λitv s₂ h₂=>?_)
 obtain ⟨it,fp,tn,J,H2,e,I2,T,st2,f2,W,w0,turn⟩:=h₂
 subst e
 refine za1 (xs:=[x]) (Q:=Q) (RR:=λacc C=>compPost (model X.prog X.w) X.A X.xe none (EP X pins σ Q) acc C) S.n hjs hc S.pg hb I2 T st2 f2 w0 (ziu turn) ?_
 intro D C s' σ' H' ys its k hD hC J' rv hz q
 obtain ⟨m,hn,_⟩:=J'.loc
 have pinD:=J'.pin (D,{ cls:=.type "list",data:=.seq its.toArray k }) (mem_append_right _ (mem_singleton.mpr rfl))
 exact ⟨m,hn,λh' hs' => ⟨.ref D,_,zau (xs:=[x]) S.n I2 f2 hD hC J' pinD.2.1 pinD.1 rv hz hs',rfl,q D pinD.2.1⟩⟩
def zkt (i:Nat)(wi:TI)(js:List Nat)(tt:TT)(te:TE):TS:=λD σ H=>tLC wi js tt te σ H λv H' => D.nx (σ.set i (some v)) H'
theorem zej (S:WL X.env.scope sc x cap){js:List Nat}(hjs:js.map (λj=>X.N[j]?)=cap.map some)(hc:X.calm=true)(hxe:∀ e s,¬ X.xe e s){elt iter:Expr}{ifs:List Expr}{pos px py spos:Pos}{wi:TI}{tt:TT}{te:TE}{i:Nat}{y:Str}
  (hN:X.N.Nodup) (hi' : X.N[i]?=some y) (hy:X.env.scope.names.lookup y=some .local)
  (hi:PI X (.Name x px) iter wi) (hb:∀ C s0 H0 ex,PIf (Xk X sc (x::cap) C s0 H0 ex) ifs tt/\PE (Xk X sc (x::cap) C s0 H0 ex) elt te)
  (hsw:swapsWith (.ListComp elt [⟨.Name x px,iter,ifs,0⟩] sc pos) (some (.Name y py)) spos.line X.env=pure true:=by rfl)
  (hs:∀ x,foldedSetIterable iter X.env x=pure x:=by intro _;rfl):PS X (.Assign [.Name y py] (.ListComp elt [⟨.Name x px,iter,ifs,0⟩] sc pos) spos) (zkt i wi js tt te):=by
 intro pins s σ H D0 I h
 rw[exec_Assign_Name_used _ _ _ _ hsw]
 refine wpAny_bind (wpAny_standAt (wpAny_bind ?_))
 show wpAny _ X.A (do let _ ← comprehension (.ListComp elt [⟨.Name x px,iter,ifs,0⟩] sc pos) sc X.env _ (newList []) false (eval iter X.env) (some (assign (.Name y py) X.env))) _ _ s
 refine wpAny_bind (wpAny_mono (wpAny_comprehension_free (use:=some (assign (.Name y py) X.env)) (Q:=λ_ s' => SP X pins D0 .next s') rfl hs (XS (S.n.cells I.ok)) S.kind S.names
  (thn (hi pins s σ H _ I h) λxv s₁ h₁=>thn h₁ λitv s₂ h₂=>?_)) (λ_ s' hq=>wpAny_pure (wpAny_pure hq)) λ_ _ e=>e)
 obtain ⟨it,fp,tn,J,H2,e,I2,T,st2,f2,W,w0,turn⟩:=h₂
 subst e
 refine za1 (xs:=[x]) (Q:=λv H' => D0.nx (σ.set i (some v)) H') (RR:=λacc C=>compPost (model X.prog X.w) X.A X.xe (some (assign (.Name y py) X.env)) (λ_ s' => SP X pins D0 .next s') acc C) S.n hjs hc S.pg hb I2 T st2 f2 w0 (ziu turn) ?_
 intro D C s' σ' H' ys its k hD hC J' rv hz q
 have gtC:∀ {b:Addr},b<s₂.heap.objs.size->b≠C:=λh=>by rw[hC];exact zd6 (Nat.lt_succ_of_lt h)
 have pinD:=J'.pin (D,{ cls:=.type "list",data:=.seq its.toArray k }) (mem_append_right _ (mem_singleton.mpr rfl))
 obtain ⟨m,hn,_⟩:=id J'.loc
 have hn:s'.heap.Ns C m:=hn
 obtain ⟨oC,es,ep,hoC,hdC,rest⟩:=id hn
 have hCn:C∉X.fs/\C≠X.env.locals:=by
  constructor
  ·intro hb'
   obtain ⟨_,o,ho,_⟩:=I2.zbO.mem hb'
   exact gtC (lt_size ho) rfl
  ·exact λz=>gtC I2.lt z.symm
 have I3:Inv X pins σ (upd H' D (.lst ys)) s' := zau (xs:=[x]) (h' := s'.heap) S.n I2 f2 hD hC J' pinD.2.1 pinD.1 rv hz (.refl ..)
 have hDC:C≠D:=by rw[hC,hD];exact zkg (Nat.lt_succ_self _)
 have hH'C:H' C=none:=J'.free
 have I4:Inv X [(C,oC)] σ (upd H' D (.lst ys)) s' := I3.QR λp hp=>by
  have hp' : p=(C,oC):=by simpa using hp
  subst hp'
  exact ⟨hoC,by rw[ZC hDC];exact hH'C,hCn.2,hCn.1,λv z=>by rw[hdC] at z;cases z⟩
 have I5:Inv X (pins++[(C,oC)]) σ (upd H' D (.lst ys)) s' := I3.QR λp hp=>by
  rcases mem_append.mp hp with hp | hp
  ·exact I3.pin p (mem_append_right _ hp)
  ·exact I4.pin p (mem_append_right _ hp)
 show wpAny _ X.A (assign (.Name y py) X.env (.ref D)) _ _ _
 refine wpAny_assign_Name (JD I5 hN hi' (.inl hy) (v:=.ref D) rfl (λs6 I6=>?_) (.inr hy))
 have pinC:=I6.pin (C,oC) (mem_append_right _ (mem_append_right _ (mem_singleton.mpr rfl)))
 refine ⟨m,⟨oC,es,ep,pinC.1,hdC,rest⟩,λh' hs' => ⟨_,_,?_,q D pinD.2.1⟩⟩
 refine I6.Qg.turned (it:=C) (h' := h') (t' := s6.toks) (λb o hb' e=>hs'.extBut b o hb' e) pinC.2.1 hCn.2 (.inr ?_) (λy' c e z=>?_) λp hp z=>?_
 ·rw[hC];exact Nat.le_succ_of_le I2.sz
 ·obtain ⟨v',o,ho,_⟩:=I2.cell y' c e
  exact gtC (lt_size ho) z
 ·exact gtC (lt_size (I2.pin p hp).1) z
end
mutual
def Dat (K:PySem.W.Frag)(G:Hp):V->PyData->Prop
 | v,.none=>v = .non
 | v,.bool b=>v = .bl b
 | v,.int i=>v = .int i
 | v,.str x=>v = .str x
 | v,.list ds=>∃ p xs,v = .ref p/\G p=some (.lst xs)/\Yc K G xs ds
 | v,.tuple ds=>∃ p xs,v = .ref p/\SqT K G p xs/\Yc K G xs ds
 | _,.dict _=>False
def Yc (K:PySem.W.Frag)(G:Hp):List V->List PyData->Prop
 | xs,[]=>xs=[]
 | xs,d::ds=>∃ y ys,xs=y::ys/\Dat K G y d/\Yc K G ys ds
end
theorem ZR.tup {K:PySem.W.Frag}{H H' : Hp}{a:Addr}{xs:List V}(e:ZR H H')(h:SqT K H a xs):SqT K H' a xs:=by
 rcases h with (h | ⟨o,h⟩) | h
 ·exact .inl (.inl (e _ _ h))
 ·exact .inl (.inr ⟨o,e _ _ h⟩)
 ·exact .inr h
section
variable {K:PySem.W.Frag}{G G' : Hp}
theorem Zx (i:Int):Dat K G (.int i) (.int i):=by unfold Dat;rfl
theorem YZ (x:Str):Dat K G (.str x) (.str x):=by unfold Dat;rfl
theorem Yb (b:Bool):Dat K G (.bl b) (.bool b):=by unfold Dat;rfl
theorem Ju:Dat K G .non .none:=by unfold Dat;rfl
theorem Xr {p:Addr}{xs:List V}{ds:List PyData}(h:SqT K G p xs)(r:Yc K G xs ds):Dat K G (.ref p) (.tuple ds):=by unfold Dat;exact ⟨p,xs,rfl,h,r⟩
theorem YX {p:Addr}{xs:List V}{ds:List PyData}(h:G p=some (.lst xs))(r:Yc K G xs ds):Dat K G (.ref p) (.list ds):=by unfold Dat;exact ⟨p,xs,rfl,h,r⟩
theorem Z7:Yc K G [] []:=by unfold Yc;rfl
theorem Z1 {x:V}{xs:List V}{d:PyData}{ds:List PyData}(h:Dat K G x d)(r:Yc K G xs ds):Yc K G (x::xs) (d::ds):=by
 unfold Yc;exact ⟨x,xs,rfl,h,r⟩
theorem Dat.int {v:V}{i:Int}(h:Dat K G v (.int i)):v = .int i:=by unfold Dat at h;exact h
theorem Dat.str {v:V}{x:Str}(h:Dat K G v (.str x)):v = .str x:=by unfold Dat at h;exact h
theorem Dat.bl {v:V}{x:Bool}(h:Dat K G v (.bool x)):v = .bl x:=by unfold Dat at h;exact h
theorem Dat.non {v:V}(h:Dat K G v .none):v = .non:=by unfold Dat at h;exact h
theorem Dat.tup {v:V}{ds:List PyData}(h:Dat K G v (.tuple ds)):∃ p xs,v = .ref p/\SqT K G p xs/\Yc K G xs ds:=by unfold Dat at h;exact h
theorem Dat.lst {v:V}{ds:List PyData}(h:Dat K G v (.list ds)):∃ p xs,v = .ref p/\G p=some (.lst xs)/\Yc K G xs ds:=by unfold Dat at h;exact h
theorem Yc.nil {xs:List V}(h:Yc K G xs []):xs=[]:=by unfold Yc at h;exact h
theorem Yc.cons {xs:List V}{d:PyData}{ds:List PyData}(h:Yc K G xs (d::ds)):∃ y ys,xs=y::ys/\Dat K G y d/\Yc K G ys ds:=by unfold Yc at h;exact h
theorem Yc.length:∀ {ds:List PyData}{xs:List V},Yc K G xs ds->xs.length=ds.length
 | [],_,h=>by rw[h.nil];rfl
 | d::ds,_,h=>by
  obtain ⟨y,ys,rfl,_,r⟩:=h.cons
  show ys.length+1=ds.length+1
  rw[r.length]
theorem Yc.get:∀ {ds:List PyData}{xs:List V}{i:Nat}{d:PyData},Yc K G xs ds->ds[i]?=some d->∃ x,xs[i]?=some x/\Dat K G x d
 | [],_,_,_,_,e=>by simp at e
 | d::ds,_,0,_,h,e=>by
  obtain ⟨y,ys,rfl,hd,r⟩:=h.cons
  simp at e;subst e;exact ⟨y,rfl,hd⟩
 | d::ds,_,i+1,d',h,e=>by
  obtain ⟨y,ys,rfl,hd,r⟩:=h.cons
  obtain ⟨x,h1,h2⟩:=Yc.get (i:=i) (d:=d') r (by simpa using e)
  exact ⟨x,by simpa using h1,h2⟩
theorem Yc.zjC {ds:List PyData}{xs:List V}{i:Nat}{x:V}(h:Yc K G xs ds)(e:xs[i]?=some x):∃ d,ds[i]?=some d/\Dat K G x d:=by
 have hl:=h.length
 have hi:i<xs.length:=(List.getElem?_eq_some_iff.mp e).1
 obtain ⟨y,h1,h2⟩:=h.get (getElem?_eq_getElem (show i<ds.length by omega))
 rw[e] at h1;cases h1
 exact ⟨_,getElem?_eq_getElem (by omega),h2⟩
theorem We:∀ {ds es:List PyData}{xs ys:List V},Yc K G xs ds->Yc K G ys es->Yc K G (xs++ys) (ds++es)
 | [],_,_,_,h,r=>by rw[h.nil];exact r
 | d::ds,_,_,_,h,r=>by
  obtain ⟨y,ys,rfl,hd,r'⟩:=h.cons
  exact Z1 hd (We r' r)
theorem XJ {ds:List PyData}{d:PyData}{xs:List V}{x:V}(h:Yc K G xs ds)(r:Dat K G x d):Yc K G (xs++[x]) (ds++[d]):=We h (Z1 r Z7)
theorem Jp:∀ {ds:List PyData}{xs:List V}(n:Nat),Yc K G xs ds->Yc K G (xs.take n) (ds.take n)
 | _,_,0,_=>Z7
 | [],_,n+1,h=>by rw[h.nil];exact Z7
 | d::ds,_,n+1,h=>by
  obtain ⟨y,ys,rfl,hd,r⟩:=h.cons
  exact Z1 hd (Jp n r)
theorem Jo:∀ {ds:List PyData}{xs:List V}(n:Nat),Yc K G xs ds->Yc K G (xs.drop n) (ds.drop n)
 | _,_,0,h=>h
 | [],_,n+1,h=>by rw[h.nil];exact Z7
 | d::ds,_,n+1,h=>by
  obtain ⟨y,ys,rfl,hd,r⟩:=h.cons
  exact Jo n r
theorem zbG:∀ {ds:List PyData}{xs:List V}{x:V}{d:PyData}(n:Nat),Yc K G xs ds->Dat K G x d->Yc K G (xs.set n x) (ds.set n d)
 | [],_,_,_,_,h,_=>by rw[h.nil];exact Z7
 | d::ds,_,_,_,0,h,e=>by
  obtain ⟨y,ys,rfl,hd,r⟩:=h.cons
  exact Z1 e r
 | d::ds,_,_,_,n+1,h,e=>by
  obtain ⟨y,ys,rfl,hd,r⟩:=h.cons
  exact Z1 hd (zbG n r e)
theorem Uy:∀ {ds:List PyData}{xs:List V},Yc K G xs ds->Yc K G xs.reverse ds.reverse
 | [],_,h=>by rw[h.nil];exact Z7
 | d::ds,_,h=>by
  obtain ⟨y,ys,rfl,hd,r⟩:=h.cons
  rw[reverse_cons,reverse_cons]
  exact XJ (Uy r) hd
theorem zan:∀ ns:List Int,Yc K G (ns.map V.int) (ns.map PyData.int)
 | []=>Z7
 | n::ns=>Z1 (Zx n) (zan ns)
theorem Yc.ints:∀ {ns:List Int}{xs:List V},Yc K G xs (ns.map PyData.int)->xs=ns.map V.int
 | [],_,h=>h.nil
 | n::ns,_,h=>by
  obtain ⟨y,ys,rfl,hd,r⟩:=h.cons
  rw[hd.int,Yc.ints r];rfl
end
mutual
theorem Dat.same {K:PySem.W.Frag}{G G' : Hp}(e:ZR G G'):∀ {d:PyData}{v:V},Dat K G v d->Dat K G' v d
 | .none,_,h=>by rw[h.non];exact Ju
 | .bool b,_,h=>by rw[h.bl];exact Yb b
 | .int i,_,h=>by rw[h.int];exact Zx i
 | .str x,_,h=>by rw[h.str];exact YZ x
 | .list ds,_,h=>by
  obtain ⟨p,xs,rfl,h1,h2⟩:=h.lst
  exact YX (e _ _ h1) (Yc.same e h2)
 | .tuple ds,_,h=>by
  obtain ⟨p,xs,rfl,h1,h2⟩:=h.tup
  exact Xr (e.tup h1) (Yc.same e h2)
 | .dict _,_,h=>by unfold Dat at h;exact h.elim
theorem Yc.same {K:PySem.W.Frag}{G G' : Hp}(e:ZR G G'):∀ {ds:List PyData}{xs:List V},Yc K G xs ds->Yc K G' xs ds
 | [],_,h=>by rw[h.nil];exact Z7
 | d::ds,_,h=>by
  obtain ⟨y,ys,rfl,hd,r⟩:=h.cons
  exact Z1 (Dat.same e hd) (Yc.same e r)
end
section
variable {X:Cx}{pins:List (Addr×Obj)}{σ:St}{H G:Hp}{s:Shared}
mutual
theorem Dat.reads (I:Inv X pins σ H s)(e:ZR G H):∀ {d:PyData}{v:V}{u:Value},Dat X.K G v d->RelV v u->∃ as,Reads s.heap u d as
 | .none,_,u,h,r=>by
  rw[h.non] at r
  cases (show u=Value.none from r)
  exact ⟨_,.none⟩
 | .bool b,_,u,h,r=>by
  rw[h.bl] at r
  cases (show u=Value.bool b from r)
  exact ⟨_,.bool b⟩
 | .int i,_,u,h,r=>by
  rw[h.int] at r
  obtain ⟨t,q⟩:=(show ∃ t,u=Value.int i t from r)
  subst q
  exact ⟨_,.int i t⟩
 | .str x,_,u,h,r=>by
  rw[h.str] at r
  obtain ⟨t,q⟩:=(show ∃ t,u=Value.str x t from r)
  subst q
  exact ⟨_,.str x t⟩
 | .list ds,_,u,h,r=>by
  obtain ⟨p,xs,rfl,h1,h2⟩:=h.lst
  cases (show u=Value.ref p from r)
  obtain ⟨its,rv,⟨o,n,e1,c,_,d1⟩,_⟩:=I.list (SqL.of (e _ _ h1))
  obtain ⟨as,ra⟩:=Yc.reads I e h2 rv
  exact ⟨_,Reads.list e1 c d1 (by simpa using ra)⟩
 | .tuple ds,_,u,h,r=>by
  obtain ⟨p,xs,rfl,h1,h2⟩:=h.tup
  cases (show u=Value.ref p from r)
  obtain ⟨its,rv,⟨o,e1,c,n,d1⟩,_⟩:=I.tuple (e.tup h1)
  obtain ⟨as,ra⟩:=Yc.reads I e h2 rv
  exact ⟨_,Reads.tuple e1 c d1 (by simpa using ra)⟩
 | .dict _,_,_,h,_=>by unfold Dat at h;exact h.elim
theorem Yc.reads (I:Inv X pins σ H s)(e:ZR G H):∀ {ds:List PyData}{xs:List V}{us:List Value},Yc X.K G xs ds->Vals xs us->∃ as,ReadsAll s.heap us ds as
 | [],_,us,h,r=>by
  rw[h.nil] at r
  cases r
  exact ⟨_,.nil⟩
 | d::ds,_,us,h,r=>by
  obtain ⟨y,ys,rfl,hd,hr⟩:=h.cons
  cases r with
  | cons r1 r2=>
   obtain ⟨as,ra⟩:=Dat.reads I e hd r1
   obtain ⟨bs,rb⟩:=Yc.reads I e hr r2
   exact ⟨_,.cons ra rb⟩
end
end
mutual
noncomputable def noBool:PyData->Bool
 | .bool _=>false
 | .dict _=>false
 | .list xs=>Wb xs
 | .tuple xs=>Wb xs
 | .none | .int _ | .str _=>true
noncomputable def Wb:List PyData->Bool
 | []=>true
 | x::xs=>noBool x&&Wb xs
end
mutual
theorem zbU:∀ a b:PyData,noBool a=true->noBool b=true->SeqAt.noMix a b=true
 | .list xs,.list ys,h,k=>by rw[SeqAt.noMix];exact Uc xs ys (by simpa [noBool] using h) (by simpa [noBool] using k)
 | .tuple xs,.tuple ys,h,k=>by rw[SeqAt.noMix];exact Uc xs ys (by simpa [noBool] using h) (by simpa [noBool] using k)
 | .bool _,_,h,_=>by simp[noBool] at h
 | .dict _,_,h,_=>by simp[noBool] at h
 | .none,.bool _,_,k | .int _,.bool _,_,k | .str _,.bool _,_,k | .list _,.bool _,_,k | .tuple _,.bool _,_,k=>by simp[noBool] at k
 | .none,.dict _,_,k | .int _,.dict _,_,k | .str _,.dict _,_,k | .list _,.dict _,_,k | .tuple _,.dict _,_,k=>by simp[noBool] at k
 | .none,.none,_,_ | .none,.int _,_,_ | .none,.str _,_,_ | .none,.list _,_,_ | .none,.tuple _,_,_=>by simp[SeqAt.noMix]
 | .int _,.none,_,_ | .int _,.int _,_,_ | .int _,.str _,_,_ | .int _,.list _,_,_ | .int _,.tuple _,_,_=>by simp[SeqAt.noMix]
 | .str _,.none,_,_ | .str _,.int _,_,_ | .str _,.str _,_,_ | .str _,.list _,_,_ | .str _,.tuple _,_,_=>by simp[SeqAt.noMix]
 | .list _,.none,_,_ | .list _,.int _,_,_ | .list _,.str _,_,_ | .list _,.tuple _,_,_=>by simp[SeqAt.noMix]
 | .tuple _,.none,_,_ | .tuple _,.int _,_,_ | .tuple _,.str _,_,_ | .tuple _,.list _,_,_=>by simp[SeqAt.noMix]
theorem Uc:∀ a b:List PyData,Wb a=true->Wb b=true->SeqAt.noMixAll a b=true
 | [],[],_,_ | [],_::_,_,_ | _::_,[],_,_=>by simp[SeqAt.noMixAll]
 | x::xs,y::ys,h,k=>by
  have h' : noBool x=true/\Wb xs=true:=by simpa [Wb] using h
  have k' : noBool y=true/\Wb ys=true:=by simpa [Wb] using k
  rw[SeqAt.noMixAll,zbU x y h'.1 k'.1,Uc xs ys h'.2 k'.2];rfl
end
structure Pl (n:Nat)(d:PyData):Prop where
 lay:d.canLay0=true
 dep:d.depth<=n
 nb:noBool d=true
theorem Pl.shaped {n:Nat}{d:PyData}(h:Pl n d)(k:n<=64):SeqAt.shaped d=true:=by
 show (PyData.canLay0 d&&decide (PyData.depth d<=64))=true
 rw[and_eq_true]
 exact ⟨h.lay,decide_eq_true (le_trans h.dep k)⟩
theorem Pl.mix {n:Nat}{a b:PyData}(h:Pl n a)(k:Pl n b):SeqAt.noMix a b=true:=zbU a b h.nb k.nb
mutual
theorem zah:∀ {a b:PyData},PySem.Spec.same a b=true->a=b
 | .none,b,h=>by cases b <;> first | rfl | simp[PySem.Spec.same] at h
 | .bool x,b,h=>by cases b <;> simp[PySem.Spec.same] at h <;> rw[h]
 | .int x,b,h=>by cases b <;> simp[PySem.Spec.same] at h <;> rw[h]
 | .str x,b,h=>by cases b <;> simp[PySem.Spec.same] at h <;> rw[h]
 | .list x,b,h=>by
  cases b <;> simp[PySem.Spec.same] at h
  rw[Qv h]
 | .tuple x,b,h=>by
  cases b <;> simp[PySem.Spec.same] at h
  rw[Qv h]
 | .dict x,b,h=>by
  cases b <;> simp[PySem.Spec.same] at h
  rw[Q0 h]
theorem Qv:∀ {a b:List PyData},sameAll a b=true->a=b
 | [],[],_=>rfl
 | [],_::_,h=>by simp[sameAll] at h
 | _::_,[],h=>by simp[sameAll] at h
 | x::xs,y::ys,h=>by
  have h' : PySem.Spec.same x y=true/\sameAll xs ys=true:=by simpa [sameAll] using h
  rw[zah h'.1,Qv h'.2]
theorem Q0:∀ {a b:List (PyData×PyData)},samePairs a b=true->a=b
 | [],[],_=>rfl
 | [],_::_,h=>by simp[samePairs] at h
 | _::_,[],h=>by simp[samePairs] at h
 | (x,z)::xs,(y,w)::ys,h=>by
  have h' : (PySem.Spec.same x y=true/\PySem.Spec.same z w=true)/\samePairs xs ys=true:=by simpa [samePairs] using h
  rw[zah h'.1.1,zah h'.1.2,Q0 h'.2]
end
theorem zfK {a b:PyData}(h:a≠b):PySem.Spec.same a b=false:=by
 cases e:PySem.Spec.same a b with
 | false=>rfl
 | true=>exact absurd (zah e) h
section
variable {X:Cx}
def zf1 (K:PySem.W.Frag)(g:Bool->Bool):R2:=λx y H Q=>∃ (G:Hp) (a b:PyData),ZR G H/\Dat K G x a/\Dat K G y b/\(SeqAt.shaped a=true/\SeqAt.shaped b=true/\SeqAt.noMix a b=true)/\Q (.bl (g (PySem.Spec.same a b))) H
theorem ziq (hu:X.A.units+64<cLine):OpR X (compareOp .Eq) (zf1 X.K λb=>b):=by
 intro pins s σ H x y v u Q I rx ry h
 obtain ⟨G,a,b,e,ha,hb,⟨sa,sb,nm⟩,q⟩:=h
 obtain ⟨as,ra⟩:=Dat.reads I e ha rx
 obtain ⟨bs,rb⟩:=Dat.reads I e hb ry
 exact eq_dataH_same ra rb sa sb hu nm ⟨.bl (PySem.Spec.same a b),H,I,rfl,q⟩
theorem ziT (hu:X.A.units+64<cLine):OpR X (compareOp .NotEq) (zf1 X.K λb=>!b):=by
 intro pins s σ H x y v u Q I rx ry h
 obtain ⟨G,a,b,e,ha,hb,⟨sa,sb,nm⟩,q⟩:=h
 obtain ⟨as,ra⟩:=Dat.reads I e ha rx
 obtain ⟨bs,rb⟩:=Dat.reads I e hb ry
 exact ne_dataH_same ra rb sa sb hu nm ⟨.bl (!PySem.Spec.same a b),H,I,rfl,q⟩
end
theorem zfu (i:Int){n:Nat}:Pl n (.int i):=⟨by unfold PyData.canLay0;rfl,by unfold PyData.depth;omega,by unfold noBool;rfl⟩
theorem WX:∀ {ds:List PyData},(∀ d∈ds,d.canLay0=true)->PyData.canLayAll0 ds=true
 | [],_=>rfl
 | d::ds,h=>by
  unfold PyData.canLayAll0
  rw[h d (by simp),WX λe he=>h e (by simp[he])];rfl
theorem J0:∀ {ds:List PyData}{n:Nat},(∀ d∈ds,d.depth<=n)->PyData.depthAll ds<=n
 | [],_,_=>by unfold PyData.depthAll;omega
 | d::ds,n,h=>by
  have h1:=h d (by simp)
  have h2:=J0 (ds:=ds) (n:=n) λe he=>h e (by simp[he])
  unfold PyData.depthAll
  omega
theorem QG:∀ {ds:List PyData},(∀ d∈ds,noBool d=true)->Wb ds=true
 | [],_=>rfl
 | d::ds,h=>by
  unfold Wb
  rw[h d (by simp),QG λe he=>h e (by simp[he])];rfl
theorem zdz {n:Nat}{ds:List PyData}(h:∀ d∈ds,Pl n d):Pl (n+1) (.tuple ds):=by
 refine ⟨?_,?_,?_⟩
 ·unfold PyData.canLay0;exact WX λd hd=>(h d hd).lay
 ·have:=J0 λd hd=>(h d hd).dep
  unfold PyData.depth;omega
 ·unfold noBool;exact QG λd hd=>(h d hd).nb
theorem zia {n:Nat}{ds:List PyData}(h:∀ d∈ds,Pl n d):Pl (n+1) (.list ds):=by
 refine ⟨?_,?_,?_⟩
 ·unfold PyData.canLay0;exact WX λd hd=>(h d hd).lay
 ·have:=J0 λd hd=>(h d hd).dep
  unfold PyData.depth;omega
 ·unfold noBool;exact QG λd hd=>(h d hd).nb
structure Yt (G H G' H' : Hp):Prop where
 gg:ZR G G'
 gh:ZR G' H'
 hh:ZR H H'
 fr:∀ b o,G' b=some o->G b=some o\/H b=none
theorem Yt.refl {G H:Hp}(s:ZR G H):Yt G H G H:=⟨ZR.refl _,s,ZR.refl _,λ_ _ h=>.inl h⟩
theorem Yt.trans {G H G1 H1 G2 H2:Hp}(a:Yt G H G1 H1)(b:Yt G1 H1 G2 H2):Yt G H G2 H2:=
 ⟨a.gg.trans b.gg,b.gh,a.hh.trans b.hh,λx o h=>by
  rcases b.fr x o h with h | h
  ·exact a.fr x o h
  ·exact .inr (a.hh.free h)⟩
theorem Yw {G H:Hp}{p:Addr}{o:HO}(s:ZR G H)(hp:H p=none):Yt G H (upd G p o) (upd H p o):=by
 have hg:G p=none:=s.free hp
 refine ⟨λb u e=>?_,λb u e=>?_,λb u e=>?_,λb u e=>?_⟩
 ·rw[ZC (ZM e hg)];exact e
 ·by_cases h:b=p
  ·subst h;rw[Zy] at e ⊢;exact e
  ·rw[ZC h] at e ⊢;exact s b u e
 ·rw[ZC (ZM e hp)];exact e
 ·by_cases h:b=p
  ·subst h;exact .inr hp
  ·rw[ZC h] at e;exact .inl e
theorem VN {G H H' : Hp}(s:ZR G H)(h:ZR H H'):Yt G H G H' := ⟨ZR.refl _,s.trans h,h,λ_ _ e=>.inl e⟩
theorem Yt.out {G H G' H' : Hp}(a:Yt G H G' H'){p:Addr}{o:HO}(hp:H p=some o)(hg:G p=none):G' p=none:=by
 cases e:G' p with
 | none=>rfl
 | some u=>
  rcases a.fr p u e with h | h
  ·rw[hg] at h;cases h
  ·rw[hp] at h;cases h
def Ev (K:PySem.W.Frag)(t:TE)(σ:St)(G:Hp)(d:PyData):Prop:=
 ∀ G1 H,ZR G G1->ZR G1 H->∀ Q:VK,(∀ v G' H',Yt G1 H G' H' -> Dat K G' v d->Q v H')->t σ H Q
def EvT (t:TT)(σ:St)(G:Hp)(b:Bool):Prop:=
 ∀ G1 H,ZR G G1->ZR G1 H->∀ Q:Bool->Hp->Prop,(∀ G' H',Yt G1 H G' H' -> Q b H')->t σ H Q
def EvA (K:PySem.W.Frag)(t:TA)(σ:St)(G:Hp)(ds:List PyData):Prop:=
 ∀ G1 H,ZR G G1->ZR G1 H->∀ Q:List V->Hp->Prop,(∀ vs G' H',Yt G1 H G' H' -> Yc K G' vs ds->Q vs H')->t σ H Q
section
variable {K:PySem.W.Frag}{σ:St}{G:Hp}{ta tb tc:TE}{a b d:PyData}
theorem Ev.use {t:TE}{H:Hp}{Q:VK}(h:Ev K t σ G d)(s:ZR G H)(k:∀ v G' H',Yt G H G' H' -> Dat K G' v d->Q v H'):t σ H Q:=h G H (ZR.refl _) s Q k
theorem EvT.use {t:TT}{c:Bool}{H:Hp}{Q:Bool->Hp->Prop}(h:EvT t σ G c)(s:ZR G H)(k:∀ G' H',Yt G H G' H' -> Q c H'):t σ H Q:=h G H (ZR.refl _) s Q k
theorem Zh {i:Nat}{v:V}(h:σ[i]?=some (some v))(hd:Dat K G v d):Ev K (XQ i) σ G d:=λG1 H s1 s2 Q k=>⟨v,h,k v G1 H (Yt.refl s2) (hd.same s1)⟩
theorem Y7 {v:V}(hd:Dat K G v d):Ev K (tC v) σ G d:=λG1 H s1 s2 Q k=>k v G1 H (Yt.refl s2) (hd.same s1)
theorem YD {i:Int}:Ev K (tC (.int i)) σ G (.int i):=Y7 (Zx i)
theorem Zu {x:Str}:Ev K (tC (.str x)) σ G (.str x):=Y7 (YZ x)
theorem zf8 {x:Bool}:Ev K (tC (.bl x)) σ G (.bool x):=Y7 (Yb x)
theorem Jk {r:R2}(ha:Ev K ta σ G a)(hb:Ev K tb σ G b)(hr:∀ G1 H x y (Q:VK),ZR G G1->ZR G1 H->Dat K G1 x a->Dat K G1 y b->(∀ v G' H',Yt G1 H G' H' -> Dat K G' v d->Q v H')->r x y H Q):Ev K (tOp r ta tb) σ G d:=
 λG1 H s1 s2 Q k=>ha G1 H s1 s2 _ λx G2 H2 g2 hx=>hb G2 H2 (s1.trans g2.gg) g2.gh _ λy G3 H3 g3 hy=>
  hr G3 H3 x y Q ((s1.trans g2.gg).trans g3.gg) g3.gh (hx.same g3.gg) hy λv G' H' g hv=>k v G' H' ((g2.trans g3).trans g) hv
theorem Vc {g:Int->Int->V}{i j:Int}(ha:Ev K ta σ G (.int i))(hb:Ev K tb σ G (.int j))(hg:Dat K G (g i j) d):Ev K (tOp (rI0 g) ta tb) σ G d:=
 Jk ha hb λG1 H x y Q s1 s2 hx hy k=>by
  rw[hx.int,hy.int]
  exact ⟨i,j,rfl,rfl,k _ G1 H (Yt.refl s2) (hg.same s1)⟩
theorem zdD {C:Int->Int->Prop}{g:Int->Int->V}{i j:Int}(ha:Ev K ta σ G (.int i))(hb:Ev K tb σ G (.int j))(hc:C i j)(hg:Dat K G (g i j) d):Ev K (tOp (rI C g) ta tb) σ G d:=
 Jk ha hb λG1 H x y Q s1 s2 hx hy k=>by
  rw[hx.int,hy.int]
  exact ⟨i,j,rfl,rfl,hc,k _ G1 H (Yt.refl s2) (hg.same s1)⟩
theorem JR {ds:List PyData}{i:Int}{n:Nat}(ha:Ev K ta σ G (.tuple ds))(hb:Ev K tb σ G (.int i))(hn:ixN ds.length i=some n)(hd:ds[n]?=some d):Ev K (tOp (zd5 K) ta tb) σ G d:=
 Jk ha hb λG1 H x y Q s1 s2 hx hy k=>by
  obtain ⟨p,xs,rfl,hp,hxs⟩:=hx.tup
  obtain ⟨z,hz,hzd⟩:=hxs.get hd
  rw[hy.int]
  exact ⟨p,xs,i,z,rfl,rfl,s2.tup hp,by unfold atI;rw[hxs.length,hn];exact hz,k z G1 H (Yt.refl s2) hzd⟩
theorem YF {ds:List PyData}{i:Int}{n:Nat}(ha:Ev K ta σ G (.list ds))(hb:Ev K tb σ G (.int i))(hn:ixN ds.length i=some n)(hd:ds[n]?=some d):Ev K (tOp (za2 K) ta tb) σ G d:=
 Jk ha hb λG1 H x y Q s1 s2 hx hy k=>by
  obtain ⟨p,xs,rfl,hp,hxs⟩:=hx.lst
  obtain ⟨z,hz,hzd⟩:=hxs.get hd
  rw[hy.int]
  exact ⟨p,xs,i,z,rfl,rfl,SqL.of (s2 _ _ hp),by unfold atI;rw[hxs.length,hn];exact hz,k z G1 H (Yt.refl s2) hzd⟩
theorem zfB {g:Bool->Bool}{n:Nat}(ha:Ev K ta σ G a)(hb:Ev K tb σ G b)(pa:Pl n a)(pb:Pl n b)(hn:n<=64):Ev K (tOp (zf1 K g) ta tb) σ G (.bool (g (PySem.Spec.same a b))):=
 Jk ha hb λG1 H x y Q s1 s2 hx hy k=>⟨G1,a,b,s2,hx,hy,⟨pa.shaped hn,pb.shaped hn,pa.mix pb⟩,k _ G1 H (Yt.refl s2) (Yb _)⟩
theorem ZZ:EvA K Q4 σ G []:=λG1 H s1 s2 Q k=>k [] G1 H (Yt.refl s2) Z7
theorem Zv {t:TA}{ds:List PyData}(ha:Ev K ta σ G a)(hb:EvA K t σ G ds):EvA K (Yh ta t) σ G (a::ds):=
 λG1 H s1 s2 Q k=>ha G1 H s1 s2 _ λx G2 H2 g2 hx=>hb G2 H2 (s1.trans g2.gg) g2.gh _ λys G3 H3 g3 hy=>k (x::ys) G3 H3 (g2.trans g3) (Z1 (hx.same g3.gg) hy)
theorem zfC {t:TA}{ds:List PyData}(h:EvA K t σ G ds)(hl:ds.length<=sizeLine):Ev K (zg3 t) σ G (.tuple ds):=
 λG1 H s1 s2 Q k=>h G1 H s1 s2 _ λvs G2 H2 g2 hv=>⟨by rw[hv.length];exact hl,λp hp=>by
  have g:=Yw (o:=.tup vs) g2.gh hp
  exact k _ _ _ (g2.trans g) (Xr (SqT.of Zy) (hv.same g.gg))⟩
theorem ze9 {t:TA}{ds:List PyData}(h:EvA K t σ G ds)(hl:ds.length<=sizeLine):Ev K (zgp t) σ G (.list ds):=
 λG1 H s1 s2 Q k=>h G1 H s1 s2 _ λvs G2 H2 g2 hv=>⟨by rw[hv.length];exact hl,λp hp=>by
  have g:=Yw (o:=.lst vs) g2.gh hp
  exact k _ _ _ (g2.trans g) (YX Zy (hv.same g.gg))⟩
theorem zcx {r:List V->Hp->VK->Prop}{t:TA}{ds:List PyData}(h:EvA K t σ G ds)(hr:∀ G1 H xs (Q:VK),ZR G G1->ZR G1 H->Yc K G1 xs ds->(∀ v G' H',Yt G1 H G' H' -> Dat K G' v d->Q v H')->r xs H Q):Ev K (tCB r t) σ G d:=
 λG1 H s1 s2 Q k=>h G1 H s1 s2 _ λvs G2 H2 g2 hv=>hr G2 H2 vs Q (s1.trans g2.gg) g2.gh hv λv G' H' g hd=>k v G' H' (g2.trans g) hd
theorem zgx {t:TA}{ds:List PyData}(h:EvA K t σ G [.list ds]):Ev K (tCB (λxs H Q=>∃ p ys,xs=[.ref p]/\(SqL K H p ys\/SqT K H p ys)/\Q (.int ys.length) H) t) σ G (.int ds.length):=
 zcx h λG1 H xs Q s1 s2 hx k=>by
  obtain ⟨y,ys,rfl,hy,r⟩:=hx.cons
  rw[r.nil]
  obtain ⟨p,zs,rfl,hp,hz⟩:=hy.lst
  refine ⟨p,zs,rfl,.inl (SqL.of (s2 _ _ hp)),?_⟩
  rw[hz.length]
  exact k _ G1 H (Yt.refl s2) (Zx _)
theorem zc6 {t:TA}{ds:List PyData}(h:EvA K t σ G [.tuple ds]):Ev K (tCB (λxs H Q=>∃ p ys,xs=[.ref p]/\(SqL K H p ys\/SqT K H p ys)/\Q (.int ys.length) H) t) σ G (.int ds.length):=
 zcx h λG1 H xs Q s1 s2 hx k=>by
  obtain ⟨y,ys,rfl,hy,r⟩:=hx.cons
  rw[r.nil]
  obtain ⟨p,zs,rfl,hp,hz⟩:=hy.tup
  refine ⟨p,zs,rfl,.inr (s2.tup hp),?_⟩
  rw[hz.length]
  exact k _ G1 H (Yt.refl s2) (Zx _)
theorem V1 {t:TA}{ds:List PyData}(h:EvA K t σ G [.list ds]):Ev K (tCB (λxs H Q=>∃ p ys,xs=[.ref p]/\((SqL K H p ys/\∀ l,H l=none->Q (.ref l) (upd H l (.tup ys)))\/(SqT K H p ys/\Q (.ref p) H))) t) σ G (.tuple ds):=
 zcx h λG1 H xs Q s1 s2 hx k=>by
  obtain ⟨y,ys,rfl,hy,r⟩:=hx.cons
  rw[r.nil]
  obtain ⟨p,zs,rfl,hp,hz⟩:=hy.lst
  refine ⟨p,zs,rfl,.inl ⟨SqL.of (s2 _ _ hp),λl hl=>?_⟩⟩
  have g:=Yw (o:=.tup zs) s2 hl
  exact k _ _ _ g (Xr (SqT.of Zy) (hz.same g.gg))
theorem Xa {t:TE}{c:Bool}(h:Ev K t σ G (.bool c)):EvT (Qs t) σ G c:=λG1 H s1 s2 Q k=>h G1 H s1 s2 _ λv G' H' g hv=>⟨c,hv.bl,k G' H' g⟩
theorem za5 {t:TE}{c:Bool}(h:Ev K t σ G (.bool c)):EvT (tB t) σ G c:=λG1 H s1 s2 Q k=>h G1 H s1 s2 _ λv G' H' g hv=>⟨c,hv.bl,k G' H' g⟩
theorem zgb {t:TT}{c:Bool}(h:EvT t σ G c):EvT (zjn t) σ G (!c):=λG1 H s1 s2 Q k=>h G1 H s1 s2 _ λG' H' g=>k G' H' g
theorem zh7 {t u:TT}{c e:Bool}(h:EvT t σ G c)(h' : c=false->EvT u σ G e):EvT (tOr t u) σ G (c||e):=λG1 H s1 s2 Q k=>h G1 H s1 s2 _ λG' H' g=>by
 cases c with
 | true=>rw[if_pos rfl];exact k G' H' g
 | false=>
  rw[if_neg Bool.false_ne_true]
  exact h' rfl G' H' (s1.trans g.gg) g.gh _ λG2 H2 g2=>k G2 H2 (g.trans g2)
theorem zgd {t u:TT}{c e:Bool}(h:EvT t σ G c)(h' : c=true->EvT u σ G e):EvT (zje t u) σ G (c&&e):=λG1 H s1 s2 Q k=>h G1 H s1 s2 _ λG' H' g=>by
 cases c with
 | false=>rw[if_neg Bool.false_ne_true];exact k G' H' g
 | true=>
  rw[if_pos rfl]
  exact h' rfl G' H' (s1.trans g.gg) g.gh _ λG2 H2 g2=>k G2 H2 (g.trans g2)
theorem zig {t:TT}{c e:Bool}(h:EvT t σ G c)(q:c=e):EvT t σ G e:=q ▸ h
theorem zb1 {t:TE}{e:PyData}(h:Ev K t σ G d)(q:d=e):Ev K t σ G e:=q ▸ h
theorem V2 {t:TT}{c:Bool}(h:EvT t σ G c)(h1:c=true->Ev K ta σ G d)(h2:c=false->Ev K tb σ G d):Ev K (tIf t ta tb) σ G d:=λG1 H s1 s2 Q k=>h G1 H s1 s2 _ λG' H' g=>by
 cases c with
 | true=>rw[if_pos rfl];exact h1 rfl G' H' (s1.trans g.gg) g.gh _ λv G2 H2 g2 hv=>k v G2 H2 (g.trans g2) hv
 | false=>rw[if_neg Bool.false_ne_true];exact h2 rfl G' H' (s1.trans g.gg) g.gh _ λv G2 H2 g2 hv=>k v G2 H2 (g.trans g2) hv
def spP (K:PySem.W.Frag)(R:List PyData->PyData->Prop):Sp:=λvs H Q _=>∃ (G:Hp) (ds:List PyData) (d:PyData),ZR G H/\Yc K G vs ds/\R ds d/\∀ v G' H',Yt G H G' H' -> Dat K G' v d->Q v H'
theorem Yi {R:List PyData->PyData->Prop}{E:XK}{t:TA}{ds:List PyData}(h:EvA K t σ G ds)(hR:R ds d):Ev K (Jx (spP K R) [] E t) σ G d:=
 λG1 H s1 s2 Q k=>h G1 H s1 s2 _ λvs G2 H2 g2 hv=>by
  refine ⟨G2,ds,d,g2.gh,?_,hR,λv G' H' g hd=>k v G' H' (g2.trans g) hd⟩
  rw[append_nil];exact hv
theorem QD {α β:Type}(f:α->Option β):∀ ds:List α,(List.range ds.length).filterMap (λi=>(ds[i]?).bind f)=ds.filterMap f
 | []=>rfl
 | d::ds=>by
  rw[length_cons,List.range_succ_eq_map,filterMap_cons,List.filterMap_map]
  have e:(λi=>((d::ds)[i]?).bind f)∘Nat.succ=λi=>(ds[i]?).bind f:=by
   funext i;simp
  rw[e,QD f ds]
  rw[filterMap_cons]
  simp
structure Walk (J:It)(n:Nat)(H:Hp)(items:Nat->V->Prop):Prop where
 go:∀ i H',ZR H H' -> i<n->J.go i H'
 stop:∀ i H',ZR H H' -> n<=i->J.stop i H'
 yld:∀ i H' x H'',ZR H H' -> J.yld i H' x H'' -> H''=H' /\ items i x
theorem zez {a:Addr}{xs:List V}{H:Hp}(h:SqT K H a xs):Walk (Itt K a) xs.length H (λi x=>xs[i]?=some x):=
 ⟨λi H' s hi=>⟨xs,_,s.tup h,getElem?_eq_getElem hi⟩,λi H' s hi=>⟨xs,s.tup h,hi⟩,λi H' x H'' s y=>⟨y.1,y.2 xs (s.tup h)⟩⟩
theorem zeY {a:Addr}{xs:List V}{H:Hp}(h:SqL K H a xs):Walk (Itl K a) xs.length H (λi x=>xs[i]?=some x):=
 ⟨λi H' s hi=>⟨xs,_,s.seq h,getElem?_eq_getElem hi⟩,λi H' s hi=>⟨xs,s.seq h,hi⟩,λi H' x H'' s y=>⟨y.1,y.2 xs (s.seq h)⟩⟩
theorem zho {wi:TI}{js:List Nat}{tt:TT}{te:TE}{H:Hp}{Q:VK}{n:Nat}(f:Nat->Option PyData)(items:Hp->Nat->V->Prop){G1:Hp}(s2:ZR G1 H)
  (hw:∀ R:It->Hp->Prop,(∀ J G2 H2,Yt G1 H G2 H2->Walk J n H2 (items G2)->R J H2)->wi σ H R)
  (hn:n<sizeLine)
  (hc:∀ G2 i x,ZR G1 G2->i<n->items G2 i x->(∃ d,f i=some d/\EvT tt (some x::Wu σ js) G2 true/\Ev K te (some x::Wu σ js) G2 d)\/(f i=none/\EvT tt (some x::Wu σ js) G2 false))
  (k:∀ v G' H',Yt G1 H G' H' -> Dat K G' v (.list ((List.range n).filterMap f))->Q v H'):tLC wi js tt te σ H Q:=by
 refine hw _ λJ G2 H2 g2 W=>?_
 refine ⟨λi m ys H' => m=n-i/\i<=n/\ys.length<=i/\∃ G',Yt G2 H2 G' H' /\ Yc K G' ys ((List.range i).filterMap f),⟨n,by omega,by omega,by simp,G2,Yt.refl g2.gh,by simpa using Z7⟩,?_⟩
 rintro i m ys H' ⟨rfl,hi,hl,G',g',hys⟩
 refine ⟨by omega,?_⟩
 by_cases h:i=n
 ·subst h
  refine .inl ⟨W.stop i H' g'.hh (Nat.le_refl _),λp hp=>?_⟩
  have g3:=Yw (o:=.lst ys) g'.gh hp
  exact k _ _ _ ((g2.trans g').trans g3) (YX Zy (hys.same g3.gg))
 ·refine .inr ⟨W.go i H' g'.hh (by omega),λx H'' hy=>?_⟩
  obtain ⟨rfl,hit⟩:=W.yld i H' x H'' g'.hh hy
  rcases hc G2 i x g2.gg (by omega) hit with ⟨d,hf,ht,he⟩ | ⟨hf,ht⟩
  ·refine ht G' H'' g'.gg g'.gh _ λG4 H4 g4=>?_
   rw[if_pos rfl]
   refine he G4 H4 (g'.gg.trans g4.gg) g4.gh _ λv G5 H5 g5 hv=>⟨n-(i+1),by omega,rfl,by omega,by rw[length_append];show ys.length+1<=i+1;omega,G5,(g'.trans g4).trans g5,?_⟩
   rw[List.range_succ,List.filterMap_append]
   simp only[filterMap_cons,hf,List.filterMap_nil]
   exact XJ (hys.same (g4.gg.trans g5.gg)) hv
  ·refine ht G' H'' g'.gg g'.gh _ λG4 H4 g4=>?_
   rw[if_neg Bool.false_ne_true]
   refine ⟨n-(i+1),by omega,rfl,by omega,by omega,G4,g'.trans g4,?_⟩
   rw[List.range_succ,List.filterMap_append]
   simp only[filterMap_cons,hf,List.filterMap_nil,append_nil]
   exact hys.same g4.gg
def Lc1 (K:PySem.W.Frag)(tt:TT)(te:TE)(σ' : St)(G:Hp)(o:Option PyData):Prop:=
 (∃ d,o=some d/\EvT tt σ' G true/\Ev K te σ' G d)\/(o=none/\EvT tt σ' G false)
theorem zh8 {α:Type}{tl:TE}{js:List Nat}{tt:TT}{te:TE}(as:List α)(enc:α->PyData)(f:α->Option PyData)(h:Ev K tl σ G (.tuple (as.map enc)))(hj:as.length<sizeLine)
  (hc:∀ G2 (i:Nat) (a:α) x,ZR G G2->as[i]?=some a->Dat K G2 x (enc a)->Lc1 K tt te (some x::Wu σ js) G2 (f a)):Ev K (tLC (zjI K tl) js tt te) σ G (.list (as.filterMap f)):=
 λG1 H s1 s2 Q k=>zho (n:=as.length) (λi=>(as[i]?).bind f) (λG2 i x=>∃ a,as[i]?=some a/\Dat K G2 x (enc a)) s2 (λR hR=>h G1 H s1 s2 _ λv G2 H2 g2 hv=>by
  obtain ⟨p,xs,rfl,hp,hxs⟩:=hv.tup
  refine ⟨p,rfl,⟨xs,g2.gh.tup hp⟩,hR _ G2 H2 g2 ?_⟩
  have W:=zez (K:=K) (H:=H2) (g2.gh.tup hp)
  rw[hxs.length,length_map] at W
  refine ⟨W.go,W.stop,λi H' x H'' s y=>⟨(W.yld i H' x H'' s y).1,?_⟩⟩
  obtain ⟨d,hd,hx⟩:=hxs.zjC (W.yld i H' x H'' s y).2
  rw[getElem?_map] at hd
  cases e:as[i]? with
  | none=>rw[e] at hd;cases hd
  | some a=>rw[e] at hd;cases hd;exact ⟨a,rfl,hx⟩) hj
  (λG2 i x s3 hi ⟨a,ha,hx⟩=>by
   show Lc1 K tt te (some x::Wu σ js) G2 ((as[i]?).bind f)
   rw[ha];exact hc G2 i a x (s1.trans s3) ha hx) (by rw[QD];exact k)
theorem zhV {α:Type}{tl:TE}{js:List Nat}{tt:TT}{te:TE}(as:List α)(enc:α->PyData)(f:α->Option PyData)(h:Ev K tl σ G (.list (as.map enc)))(hj:as.length<sizeLine)
  (hc:∀ G2 (i:Nat) (a:α) x,ZR G G2->as[i]?=some a->Dat K G2 x (enc a)->Lc1 K tt te (some x::Wu σ js) G2 (f a)):Ev K (tLC (zgk K tl) js tt te) σ G (.list (as.filterMap f)):=
 λG1 H s1 s2 Q k=>zho (n:=as.length) (λi=>(as[i]?).bind f) (λG2 i x=>∃ a,as[i]?=some a/\Dat K G2 x (enc a)) s2 (λR hR=>h G1 H s1 s2 _ λv G2 H2 g2 hv=>by
  obtain ⟨p,xs,rfl,hp,hxs⟩:=hv.lst
  refine ⟨p,rfl,⟨xs,SqL.of (g2.gh _ _ hp)⟩,hR _ G2 H2 g2 ?_⟩
  have W:=zeY (K:=K) (H:=H2) (SqL.of (g2.gh _ _ hp))
  rw[hxs.length,length_map] at W
  refine ⟨W.go,W.stop,λi H' x H'' s y=>⟨(W.yld i H' x H'' s y).1,?_⟩⟩
  obtain ⟨d,hd,hx⟩:=hxs.zjC (W.yld i H' x H'' s y).2
  rw[getElem?_map] at hd
  cases e:as[i]? with
  | none=>rw[e] at hd;cases hd
  | some a=>rw[e] at hd;cases hd;exact ⟨a,rfl,hx⟩) hj
  (λG2 i x s3 hi ⟨a,ha,hx⟩=>by
   show Lc1 K tt te (some x::Wu σ js) G2 ((as[i]?).bind f)
   rw[ha];exact hc G2 i a x (s1.trans s3) ha hx) (by rw[QD];exact k)
theorem zbw:EvT ze2 σ G true:=λG1 H s1 s2 Q k=>k G1 H (Yt.refl s2)
end
section
variable {K:PySem.W.Frag}{σ:St}{G H:Hp}{te:TE}{d:PyData}{D:Ends}
theorem Yj (h:Ev K te σ G d)(s:ZR G H)(k:∀ v G' H',Yt G H G' H' -> Dat K G' v d->D.rt v H'):zhk te D σ H:=h.use s k
theorem zaP {i:Nat}(h:Ev K te σ G d)(s:ZR G H)(k:∀ v G' H',Yt G H G' H' -> Dat K G' v d->D.nx (σ.set i (some v)) H'):zeu te (Va i) D σ H:=h.use s k
theorem zbe {tc:TT}{t u:TS}{c:Bool}(h:EvT tc σ G c)(s:ZR G H)(k1:c=true->∀ G' H',Yt G H G' H' -> t D σ H')(k2:c=false->∀ G' H',Yt G H G' H' -> u D σ H'):zeb tc t u D σ H:=
 h.use s λG' H' g=>by
  cases c with
  | true=>rw[if_pos rfl];exact k1 rfl G' H' g
  | false=>rw[if_neg Bool.false_ne_true];exact k2 rfl G' H' g
theorem ZS {tc:TT}{t u:TS}(h:EvT tc σ G false)(s:ZR G H)(k:∀ G' H',Yt G H G' H' -> u D σ H'):zeb tc t u D σ H:=zbe h s (λz=>nomatch z) λ_=>k
theorem Xb {n i:Nat}(h:i<n):ixN n (i:Int)=some i:=by unfold ixN;rw[if_pos (by omega),if_pos (by omega)];simp
end
section
variable {K:PySem.W.Frag}{σ:St}{G H:Hp}{ta tb:TE}
theorem zjs {i j:Int}(ha:Ev K ta σ G (.int i))(hb:Ev K tb σ G (.int j)):Ev K (tOp rNe ta tb) σ G (.bool (!decide (i=j))):=
 Jk ha hb λG1 H x y Q s1 s2 hx hy k=>by
  rw[hx.int,hy.int]
  refine ⟨rfl,?_⟩
  have e:decide (V.int i=V.int j)=decide (i=j):=by
   by_cases h:i=j
   ·rw[decide_eq_true h,decide_eq_true (by rw[h])]
   ·rw[decide_eq_false h,decide_eq_false λz=>h (by injection z)]
  rw[e]
  exact k _ G1 H (Yt.refl s2) (Yb _)
theorem zc1 {i j:Int}(ha:Ev K ta σ G (.int i))(hb:Ev K tb σ G (.int j)):Ev K (tOp rEq ta tb) σ G (.bool (decide (i=j))):=
 Jk ha hb λG1 H x y Q s1 s2 hx hy k=>by
  rw[hx.int,hy.int]
  refine ⟨rfl,?_⟩
  have e:decide (V.int i=V.int j)=decide (i=j):=by
   by_cases h:i=j
   ·rw[decide_eq_true h,decide_eq_true (by rw[h])]
   ·rw[decide_eq_false h,decide_eq_false λz=>h (by injection z)]
  rw[e]
  exact k _ G1 H (Yt.refl s2) (Yb _)
theorem JB {d:Addr}{o:HO}(s:ZR G H)(n:G d=none):ZR G (upd H d o):=λb u e=>by
 rw[ZC (ZM e n)];exact s b u e
end
section
variable {X:Cx}{pins:List (Addr×Obj)}{σ:St}{H:Hp}{s:Shared}{h' : Heap}
theorem Inv.zei {t' : Nat}{fp:List Addr}{T:Addr}{o:HO}(I:Inv X pins σ H s)(k:∀ b u,b∉fp->s.heap.get? b=some u->h'.get? b=some u)(hf:∀ b∈fp,zcC X pins H b)
  (hT:s.heap.objs.size<=T) (new:X5 X.prog X.w (upd H T o) h' T o):Inv X pins σ (upd H T o) { s with heap:=h',toks:=t' }:=by
 have nfp:∀ b u,H b=some u->b∉fp:=λb u e z=>by rw[(hf b z).1] at e;cases e
 have nT:∀ b u,H b=some u->b≠T:=λb u e=>ne_of_lt (Nat.lt_of_lt_of_le (I.hok.lt e) hT)
 have nT' : ∀ b u,s.heap.get? b=some u->b≠T:=λb u e=>ne_of_lt (Nat.lt_of_lt_of_le (lt_size e) hT)
 refine I.step (g' := s.gens) (d' := s.drawn) (ch:=fp) (λb hb=>?_) (λb u _ _ hc e _=>k b u hc e) (λb u _ _ hc e _=>⟨u.slots,k b u hc e⟩) (λb u _ e n=>by rw[ZC (nT' b u e)];exact n)
  (λb u hc e=>⟨u,k b u hc e⟩) (λb xs e=>by rw[ZC (nT b _ e)];exact e) (λb u v e=>by rw[ZC (nT b _ e)];exact e) (λb cr e=>by rw[ZC (nT b _ e)];exact e) (λm hm=>?_) (λb u e=>?_) I.bare
 ·obtain ⟨f0,f1,f2,f3,f4,f5⟩:=hf b hb
  exact ⟨f3,f1,f4,f5⟩
 ·obtain ⟨ob,es,ep,ho,r⟩:=hm
  exact ⟨ob,es,ep,k _ ob (λz=>(hf _ z).2.1 rfl) ho,r⟩
 ·by_cases hb:b=T
  ·subst hb;rw[Zy] at e;cases e;exact new
  ·rw[ZC hb] at e
   refine (I.hok b u e).stay (λc v hc q=>k c v ?_ q) (λc q=>by rw[ZC (nT c _ q)];exact q) (λc xs q=>by rw[ZC (nT c _ q)];exact q) λc o u q=>by rw[ZC (nT c _ q)];exact q
   rcases hc with z | z
   ·rw[z];exact nfp b u e
   ·exact nfp c _ z
theorem Inv.turns {t' : Nat}{fp:List Addr}(I:Inv X pins σ H s)(k:∀ b u,b∉fp->s.heap.get? b=some u->h'.get? b=some u)(hf:∀ b∈fp,zcC X pins H b):Inv X pins σ H { s with heap:=h',toks:=t' }:=by
 have nfp:∀ b u,H b=some u->b∉fp:=λb u e z=>by rw[(hf b z).1] at e;cases e
 refine I.step (g' := s.gens) (d' := s.drawn) (ch:=fp) (λb hb=>?_) (λb u _ _ hc e _=>k b u hc e) (λb u _ _ hc e _=>⟨u.slots,k b u hc e⟩) (λb u _ e n=>n)
  (λb u hc e=>⟨u,k b u hc e⟩) (λb xs e=>e) (λb u v e=>e) (λ_ _ e=>e) (λm hm=>?_) (λb u e=>?_) I.bare
 ·obtain ⟨f0,f1,f2,f3,f4,f5⟩:=hf b hb
  exact ⟨f3,f1,f4,f5⟩
 ·obtain ⟨ob,es,ep,ho,r⟩:=hm
  exact ⟨ob,es,ep,k _ ob (λz=>(hf _ z).2.1 rfl) ho,r⟩
 ·refine (I.hok b u e).stay (λc v hc q=>k c v ?_ q) (λc q=>q) (λc xs q=>q) λc o u q=>q
  rcases hc with z | z
  ·rw[z];exact nfp b u e
  ·exact nfp c _ z
end
section
variable {prog:Program}{w:World}{A:Around}{E:Value->Shared->Prop}{s:Shared}
theorem zch {it t:Addr}{i:Nat}{items:Array Value}{x:Value}{Q:Value->Shared->Prop}(q1:s.heap.IsTupleIter it t i)(q2:s.heap.IsTuple t items)(q3:items[i]?=some x)
  (k:∀ h',h'.IsTupleIter it t (i+1)->SameBut it s.heap h' -> Q x { s with heap:=h' }):wpAny (model prog w) A (Builtin.SmallTypes.nextOf (.ref it)) Q E s:=by
 obtain ⟨oi,e1,e2,e3⟩:=id q1
 obtain ⟨ot,e4,_,nt,e5⟩:=q2
 unfold Builtin.SmallTypes.nextOf
 refine wpAny_bind (wpAny_callSpecial?_slot (name:=Str.ofString "__next__") q1.typeIs F.slot_tuple_iterator_next (wpAny_call_entry F.slot_tuple_iterator_next q1.typeIs F.entry_tuple_iterator_next ?_ (F.args_tuple_iterator_next_1 _)))
 show wpAny (model prog w) _ (field (.ref it) 0 >>= _) _ _ s
 refine wpAny_bind (wpAny_field e1 e3 (x:=.ref t) rfl ?_)
 rw[if_neg (show ¬ ((Value.ref t==Value.none)=true) from Bool.false_ne_true)]
 refine wpAny_bind (wpAny_field e1 e3 (x:=.int i 0) rfl ?_)
 refine wpAny_bind (wpAny_seqItems e4 e5 ?_)
 simp only[toNat_natCast,q3]
 refine wpAny_bind (wpAny_setField e1 e3 (by simp) (wpAny_pure ⟨x,rfl,wpAny_pure (k _ ⟨_,Heap.get?_update_self _ e1 (Obj.isFreed_of_fields (Obj.data_mapFields e3 _)),(Obj.cls_mapFields ..).trans e2,by rw[Obj.data_mapFields e3];simp[rawInt]⟩ (SameBut.update ..))⟩))
theorem JM {it t:Addr}{i:Nat}{items:Array Value}{Q:Value->Shared->Prop}(q0:A.handled=none)(q1:s.heap.IsTupleIter it t i)(q2:s.heap.IsTuple t items)(q3:items[i]?=none)
  (k:∀ h' e,ExtBut it s.heap h' -> (∃ o,h'.get? e=some o/\o.cls = .type "StopIteration")->E (.ref e) { s with heap:=h' }):wpAny (model prog w) A (Builtin.SmallTypes.nextOf (.ref it)) Q E s:=by
 obtain ⟨oi,e1,e2,e3⟩:=id q1
 obtain ⟨ot,e4,_,nt,e5⟩:=q2
 unfold Builtin.SmallTypes.nextOf
 refine wpAny_bind (wpAny_callSpecial?_slot (name:=Str.ofString "__next__") q1.typeIs F.slot_tuple_iterator_next (wpAny_call_entry F.slot_tuple_iterator_next q1.typeIs F.entry_tuple_iterator_next ?_ (F.args_tuple_iterator_next_1 _)))
 show wpAny (model prog w) _ (field (.ref it) 0 >>= _) _ _ s
 refine wpAny_bind (wpAny_field e1 e3 (x:=.ref t) rfl ?_)
 rw[if_neg (show ¬ ((Value.ref t==Value.none)=true) from Bool.false_ne_true)]
 refine wpAny_bind (wpAny_field e1 e3 (x:=.int i 0) rfl ?_)
 refine wpAny_bind (wpAny_seqItems e4 e5 ?_)
 simp only[toNat_natCast,q3]
 refine wpAny_bind (wpAny_rule (wpAny_bind (wpAny_setField e1 e3 (by simp) (wpAny_bind ?_))))
 simp only[newExc,newTuple]
 refine wpAny_bind (wpAny_newObj_type (wpAny_bind (m:=firstArgMember _ _) (wpAny_of_eq (a:=Value.none) (by first | rfl | (simp only[firstArgMember];rfl)) (wpAny_newObj_type ?_ (by size_fits)))) (by size_fits))
 simp only[raiseNew]
 refine wpAny_bind (wpAny_handled (?_:wpAny _ _ _ _ _ _))
 first | rw[show A.in1.handled=none from q0] | rw[q0]
 exact wpAny_bind (wpAny_pure (wpAny_throw (k _ _ (((SameBut.update ..).extBut.push _).push _) ⟨_,get?_push_size _ rfl,rfl⟩)))
theorem zdn (hh:A.handled=none)(it l:Addr)(hne:l≠it)(items:Array Value):
  Draws prog w A it [it,l] items.size (λi v=>items[i]?=some v) (λi h=>h.IsTupleIter it l i/\h.IsTuple l items) where
 live:=λ_ _ st=>let ⟨o,ho,_⟩:=st.1;⟨o,ho⟩
 frame:=λ_ _ _ st hk=>⟨let ⟨o,ho,r⟩:=st.1;⟨o,hk it (by simp) o ho,r⟩,let ⟨o,ho,r⟩:=st.2;⟨o,hk l (by simp) o ho,r⟩⟩
 item:=λi s Q E hi st hQ=>zch st.1 st.2 (x:=items[i]) (by simp[hi]) λh' hit' hs' => hQ _ h' s.toks (by simp[hi]) ⟨hit',let ⟨o,ho,r⟩:=st.2;⟨o,(hs'.2 l hne).trans ho,r⟩⟩ hs'
 done:=λs Q E st hE=>JM hh st.1 st.2 (by simp) hE
end
noncomputable def zjN (K:PySem.W.Frag) (a:Addr):It:=
 ⟨λi H=>∃ xs x,SqT K H a xs/\xs[i]?=some x,λi H v H' => ∃ p x,H p=none/\v = .ref p/\H'=upd H p (.tup [.int i,x])/\∀ xs,SqT K H a xs->xs[i]?=some x,λi H=>∃ xs,SqT K H a xs/\xs.length<=i⟩
theorem zbF {h:Heap}{a b:Addr}{o u:Obj}(e:h.get? a=some o)(e' : h.get? b=some u)(n:o.cls≠u.cls):a≠b:=by
 rintro rfl;rw[e] at e';cases e';exact n rfl
theorem zb8 {P:Program}{w:World}{K:PySem.W.Frag}{elts:List Expr}{tk:Nat}{tpos:Pos}(a e it:Addr):Turn P w K (.Tuple elts tk tpos) (zjN K a) [e,it] e (λi h=>(∃ old,IsEnum h e it i old)/\h.IsTupleIter it a i) where
 mem:=by simp
 obj:=λi h st b hb=>by
  obtain ⟨⟨old,he⟩,o,ho,hc,hd⟩:=st
  rcases mem_cons.mp hb with rfl | hb
  ·exact ⟨_,he,λv z=>by cases z⟩
  ·have eb:b=it:=by simpa using hb
   subst eb
   exact ⟨o,ho,λv z=>by rw[hd] at z;cases z⟩
 keep:=λi h h' st k=>by
  obtain ⟨⟨old,he⟩,o,ho,r⟩:=st
  exact ⟨⟨old,k e (by simp) _ he⟩,o,k it (by simp) o ho,r⟩
 item:=by
  intro X hP hw hK hc i pins s σ H E I hf st hg
  subst hP hw hK
  obtain ⟨xs,x,hq,hx⟩:=hg
  obtain ⟨its,rv,p,hz⟩:=I.tuple hq
  obtain ⟨u,hu,ru⟩:=rv.get hx
  obtain ⟨⟨old,he⟩,hit⟩:=st
  obtain ⟨oi,hoi,hci,hdi⟩:=id hit
  obtain ⟨ot,hot,hct,nt,hdt⟩:=id p
  have hei:e≠it:=zbF he hoi (by rw[hci];show Value.type "enumerate" ≠ Value.type "tuple_iterator";decide)
  have hea:e≠a:=zbF he hot (by rw[hct];show Value.type "enumerate" ≠ Value.type "tuple";decide)
  have hai:a≠it:=zbF hot hoi (by rw[hci,hct];decide)
  have hlt:i<its.toArray.size:=by
   have:=(List.getElem?_eq_some_iff.mp hu).1
   simpa using this
  refine wpAny_pyNext_enum_itemD (zdn (show X.A.in1.handled=none from I.ok.hd hc) it a hai its.toArray) he ⟨hit,p⟩ hlt hei (by simp[hei,hea]) λx' h' tk' hP ho hs' hT hsz hk=>?_
  have ex:x'=u:=by
   have hP' : its.toArray[i]?=some x' := hP
   have:its[i]?=some x' := by simpa using hP'
   rw[hu] at this;exact (Option.some.inj this).symm
  subst ex
  refine ⟨_,rfl,wpAny_letOwnedTupleGo_enum ho λh2 he2 hs2=>?_⟩
  have het:e≠s.heap.objs.size:=ne_of_lt (lt_size he)
  have new:X5 X.prog X.w (upd H s.heap.objs.size (.tup [.int i,x])) h2 s.heap.objs.size (.tup [.int i,x]):=
   ⟨by show 2<=sizeLine;decide,[.int i tk',x'],.cons ⟨tk',rfl⟩ (.cons ru .nil),⟨_,(hs2.2 _ (Ne.symm het)).trans hT,rfl,_,rfl⟩,_,(hs2.2 _ (Ne.symm het)).trans hT,rfl⟩
  have kk:∀ b o,b∉[e,it]->s.heap.get? b=some o->h2.get? b=some o:=λb o hb q=>by
   have h1:b≠e:=λz=>hb (by simp[z])
   have h2' : b≠it:=λz=>hb (by simp[z])
   exact (hs2.2 b h1).trans (hk b o h1 h2' q)
  have fresh:=I.hok.fresh (Nat.le_refl s.heap.objs.size)
  refine ⟨.ref s.heap.objs.size,_,I.zei (t' := tk'+1) kk hf (Nat.le_refl _) new,rfl,⟨_,x,fresh,rfl,rfl,λys hy=>by rw[I.VR hy hq];exact hx⟩,⟨⟨_,he2⟩,?_⟩,λb hb=>?_⟩
  ·obtain ⟨o3,g1,g2,g3⟩:=hs'.1
   exact ⟨o3,(hs2.2 it (Ne.symm hei)).trans g1,g2,g3⟩
  ·have hb' : b≠s.heap.objs.size:=by
    rcases mem_cons.mp hb with rfl | hb
    ·exact het
    ·rw[mem_singleton.mp hb];exact ne_of_lt (lt_size hoi)
   rw[ZC hb'];exact (hf b hb).1
 done:=by
  intro X hP hw hK hc i pins s σ H E I hf st hg
  subst hP hw hK
  obtain ⟨xs,hq,hx⟩:=hg
  obtain ⟨its,rv,p,hz⟩:=I.tuple hq
  obtain ⟨⟨old,he⟩,hit⟩:=st
  obtain ⟨oi,hoi,hci,hdi⟩:=id hit
  obtain ⟨ot,hot,hct,nt,hdt⟩:=id p
  have hai:a≠it:=zbF hot hoi (by rw[hci,hct];decide)
  have hl:=rv.length
  unfold pyNext
  have hTy:s.TypeIs (.ref e) "enumerate" := ⟨_,he,rfl⟩
  refine wpAny_bind (wpAny_attempt (wpAny_callSpecial?_slot (name:=Str.ofString "__next__") hTy F.slot_enumerate_next (wpAny_call_entry F.slot_enumerate_next hTy F.entry_enumerate_next ?_ (F.args_enumerate_next_1 _))))
  show wpAny (model X.prog X.w) X.A.in1 (field (.ref e) 2 >>= _) _ _ s
  refine wpAny_bind (wpAny_field he rfl (x:=.ref it) rfl (wpAny_bind (JM (I.ok.hd hc) hit p (by simp;omega) λh' y g1 g2=>?_)))
  obtain ⟨o,ho,hcl⟩:=g2
  refine wpAny_bind (wpAny_isInstance (T:= "StopIteration") (b:=true) ⟨o,ho,hcl⟩ isSubtype_stop (wpAny_pure ?_))
  exact ⟨rfl,I.turns (t' := s.toks) (λb u hb q=>g1 b u (λz=>hb (by simp[z])) q) hf⟩
 self:=λ_ _ _ _ _ st h=>by
  obtain ⟨⟨old,he⟩,_⟩:=st
  exact wpAny_pyIter_enum he h
theorem zd0 (l:Addr)(items:Array Value)(n:Nat)(dct:Option Addr)(sl:Array (Option Value)):
  Meets (Builtin.«enumerate.__new__» ⟨[.type "enumerate",.ref l],[]⟩) (λ_ R s=>s.heap.get? l=some { cls:=.type "tuple",dict:=dct,data:=.seq items n,slots:=sl }/\
   R (.ok (.ret (.ref (s.heap.push { cls:=.type "tuple_iterator",data:=.fields #[.ref l,.int 0 0] }).objs.size)))
    { s with heap:=(s.heap.push { cls:=.type "tuple_iterator",data:=.fields #[.ref l,.int 0 0] }).push { cls:=.type "enumerate",data:=.fields #[.none,.bool false,.ref s.heap.objs.size,rawInt 0,.none,.none] } }):=
 .of_wp λprog w A R s h=>by
  obtain ⟨hp,g,d,tk,os⟩:=s;obtain ⟨q1,h⟩:=h
  have q0:=sub_enumerate
  have q2:Heap.IsTuple (Shared.heap ⟨hp,g,d,tk,os⟩) l items:=⟨_,q1,rfl,n,rfl⟩
  wp_walk using AutoSeq1.wpAny_loadPart' q1
  refine wpAny_stack_any λst0=>wpAny_pure ?_
  split
  ·rename_i c0 _ _ _ _ _
   cases (c0==Value.type "enumerate") <;> (wp_walk using AutoSeq1.wpAny_loadPart' q1,wpAny_pyIter_tuple q2;exact ⟨_,rfl,h⟩)
  ·wp_walk using AutoSeq1.wpAny_loadPart' q1,wpAny_pyIter_tuple q2
   exact ⟨_,rfl,h⟩
section
variable {prog:Program}{w:World}{A:Around}{E:Value->Shared->Prop}{s:Shared}
theorem zb3 {l:Addr}{items:Array Value}{Q:Value->Shared->Prop}(q2:s.heap.IsTuple l items)
  (h:∀ h',IsEnum h' (s.heap.objs.size+1) s.heap.objs.size 0 .none->h'.IsTupleIter s.heap.objs.size l 0->(∀ b o,s.heap.get? b=some o->h'.get? b=some o)->Q (.ref (s.heap.objs.size+1)) { s with heap:=h' }):
  wpAny (model prog w) A (call (.type "enumerate") [.ref l]) Q E s:=by
 obtain ⟨⟨c,dct,dt,sl⟩,q1,e1,n,e2⟩:=q2
 replace e1:c = .type "tuple" := e1
 replace e2:dt = .seq items n:=e2
 subst e1 e2
 refine callType_new F.called_enumerate (by decide) (F.typeCall_enumerate_1 _) (F.newCall_enumerate_1 _) (λobj=>F.args_object_init_2 obj _) F.entry_enumerate_new (zd0 l items n dct sl) ⟨q1,?_⟩
 have z1:(s.heap.push { cls:=.type "tuple_iterator",data:=.fields #[.ref l,.int 0 0] }).objs.size=s.heap.objs.size+1:=size_push ..
 show _/\_
 rw[z1]
 have q3:IsEnum ((s.heap.push { cls:=.type "tuple_iterator",data:=.fields #[.ref l,.int 0 0] }).push { cls:=.type "enumerate",data:=.fields #[.none,.bool false,.ref s.heap.objs.size,rawInt 0,.none,.none] }) (s.heap.objs.size+1) s.heap.objs.size 0 .none:=by
  have:=get?_push_size (s.heap.push { cls:=.type "tuple_iterator",data:=.fields #[.ref l,.int 0 0] }) (o:={ cls:=.type "enumerate",data:=.fields #[.none,.bool false,.ref s.heap.objs.size,rawInt 0,.none,.none] }) rfl
  rw[z1] at this;exact this
 exact ⟨⟨_,q3,rfl⟩,h _ q3 ⟨_,get?_push_of_some _ (get?_push_size _ rfl),rfl,rfl⟩ λb o x=>get?_push_of_some _ (get?_push_of_some _ x)⟩
end
section
variable {X:Cx}
def zj4 (K:PySem.W.Frag)(ta:TA):TI:=fun σ H R=>ta σ H λvs H1=>∃ a,vs=[.ref a]/\(∃ xs,SqT K H1 a xs)/\R (zjN K a) H1
theorem zdU:bootBuiltins "enumerate" = some (.type "enumerate"):=by decide +kernel
theorem zey {a:Expr}{ta:TA}{p pos:Pos}{elts:List Expr}{tk:Nat}{tpos:Pos}(hg:Gl X "enumerate")(hm:X.mg "enumerate" = none)(ha:PA X [a] ta)(hs:starEach [a] X.env=[(false,eval a X.env)]:=by rfl):PI X (.Tuple elts tk tpos) (.Call (.Name "enumerate" p) [a] [] pos) (zj4 X.K ta):=by
 intro pins s σ H R I h
 refine Call_ (Vx I hg hm zdU (PyProof.Rows.callWith_type1 (thn (ha pos pins s σ H _ I h) λus s1 ⟨vs,H1,I1,r1,q1⟩=>?_) hs rfl))
 obtain ⟨l,e,⟨xs,hq⟩,q⟩:=q1
 subst e
 obtain ⟨u,rfl,r⟩:=Vals.one r1
 cases (show u=Value.ref l from r)
 obtain ⟨its,rv,pt,hz⟩:=I1.tuple hq
 refine zb3 (show s1.heap.IsTuple l its.toArray from pt) λh' he hi hk=>?_
 refine wpAny_pyIter_enum he ⟨s1.heap.objs.size+1,[s1.heap.objs.size+1,s1.heap.objs.size],_,_,H1,rfl,I1.kept (t' := s1.toks) hk,zb8 l _ _,⟨⟨_,he⟩,hi⟩,λb hb=>?_,q⟩
 have hb' : s1.heap.objs.size<=b:=by
  rcases mem_cons.mp hb with rfl | hb
  ·exact le_succ _
  ·rw[mem_singleton.mp hb];exact Nat.le_refl _
 exact I1.zg5 hb' (I1.hok.fresh hb')
theorem zaX:∀ (l:List (Str×Tok)),Vals (l.map λp=>V.str p.1) (strValues l)
 | []=>.nil
 | _::r=>.cons ⟨_,rfl⟩ (zaX r)
def zff:V->List V->Hp->VK->Prop:=λx vs H Q=>∃ a c,x = .str a/\vs=[.str ⟨#[c]⟩]/\a.length+2<=sizeLine/\∀ l,H l=none->Q (.ref l) (upd H l (.lst ((Txt.split a ⟨#[c]⟩).map V.str)))
theorem zdV (a y:Str):(Builtin.Str.partsBetween a (Builtin.Str.occurrences a y 0 a.length (a.length+1)) y.length).length<=a.length+2:=by
 have h:=PySem.StrLaws.occ_length_le a y 0 a.length (a.length+1)
 unfold Builtin.Str.partsBetween
 simp only[length_map,List.length_zip,length_cons,length_append,List.length_nil]
 omega
theorem zer:MtR X "str.split" zff:=by
 intro pins s σ H x vs v us Q I rx rv h
 obtain ⟨a,c,rfl,rfl,hz,q⟩:=h
 obtain ⟨t,rfl⟩:=rx
 obtain ⟨w1,rfl,u,rfl⟩:=rv.one
 have hx:a.length<=sizeLine:=by omega
 have hn:(Builtin.Str.partsBetween a (Builtin.Str.occurrences a ⟨#[c]⟩ 0 a.length (a.length+1)) (⟨#[c]⟩:Str).length).length<=sizeLine:=le_trans (zdV a _) hz
 have fin:∀ (l:List (Str×Tok)) (k:Nat),l.map (·.1)=Txt.split a ⟨#[c]⟩->l.length<=sizeLine->EP X pins σ Q (.ref s.heap.objs.size) { s with toks:=k,heap:=s.heap.push { cls:=.type "list",data:=.seq (strValues l).toArray } }:=λl k e hl=>by
  have ev:(Txt.split a ⟨#[c]⟩).map V.str=l.map λp=>V.str p.1:=by rw[← e,map_map];rfl
  refine ⟨.ref s.heap.objs.size,_,I.laid (t' := k) (o:=.lst ((Txt.split a ⟨#[c]⟩).map V.str)) (λb ob z=>get?_push_of_some _ z) (Nat.le_refl _) ?_,rfl,q _ (I.hok.fresh (Nat.le_refl _))⟩
  refine ⟨by rw[ev,length_map];exact hl,strValues l,0,by rw[ev];exact zaX l,get?_push_size _ rfl⟩
 have hy:((⟨#[c]⟩:Str).length==0)=false:=rfl
 cases hk:(decide (a.length<(⟨#[c]⟩:Str).length)||decide (Builtin.Str.strKind a<Builtin.Str.strKind ⟨#[c]⟩))
 ·cases hf:(Builtin.Str.occurrences a ⟨#[c]⟩ 0 a.length (a.length+1)).isEmpty
  ·refine call_meets F.slot_str_split (typeIs_str _ _ _) F.entry_str_split (F.args_str_split_2 _ _) (meets_str_split_sep a ⟨#[c]⟩ t u hk hy hf hx hn) ?_
   show wants (EP X pins σ Q) X.xe _ { s with toks:=_,heap:=s.heap.push { cls:=.type "list",data:=.seq (strsFrom s.toks _).toArray } }
   rw[strsFrom_eq]
   refine fin (numbered s.toks _) _ ((numbered_texts _ _).trans ((if_neg (ne_true_of_eq_false hk)).trans (if_neg (ne_true_of_eq_false hf))).symm) ?_
   have:=congrArg List.length (numbered_texts s.toks (Builtin.Str.partsBetween a (Builtin.Str.occurrences a ⟨#[c]⟩ 0 a.length (a.length+1)) (⟨#[c]⟩:Str).length))
   rw[length_map] at this
   rw[this]
   exact hn
  ·exact call_meets F.slot_str_split (typeIs_str _ _ _) F.entry_str_split (F.args_str_split_2 _ _) (meets_str_split_not_found a ⟨#[c]⟩ t u hk hy hf)
    (fin [(a,t)] s.toks ((if_neg (ne_true_of_eq_false hk)).trans (if_pos hf)).symm (by show 1<=sizeLine;decide))
 ·exact call_meets F.slot_str_split (typeIs_str _ _ _) F.entry_str_split (F.args_str_split_2 _ _) (meets_str_split_cannot_occur a ⟨#[c]⟩ t u hk)
   (fin [(a,t)] s.toks (if_pos hk).symm (by show 1<=sizeLine;decide))
theorem zct {ys:List Str}:∀ {us:List Value},Vals (ys.map V.str) us->StrsAre us ys:=by
 induction ys with
 | nil=>intro us r;rw[map_nil] at r;cases r;exact .nil
 | cons n ns ih=>
  intro us r
  rw[map_cons] at r
  cases r with
  | cons r1 r2=>
   obtain ⟨t,e⟩:=r1
   subst e
   exact .cons n t (ih r2)
theorem zgz {K:PySem.W.Frag}(hK:X.K=K):MtR X "str.join" (λx vs H Q=>∃ (a:Str) (p:Addr) (ys:List Str),x = .str a/\vs=[.ref p]/\SqL K H p (ys.map V.str)/\(ys.map (·.length)).sum+ys.length*a.length<=16777216/\Q (.str (Txt.join a ys)) H):=by
 subst hK
 intro pins s σ H x vs v us Q I rx rv h
 obtain ⟨a,p,ys,rfl,rfl,hq,hz,q⟩:=h
 obtain ⟨t,rfl⟩:=rx
 obtain ⟨w1,rfl,r1⟩:=rv.one
 cases r1
 obtain ⟨its,r2,pl,_⟩:=I.list hq
 exact join_list (plainIs pl) (zct r2) hz λt' k=>⟨.str (Txt.join a ys),H,I.tok _,⟨_,rfl⟩,q⟩
end
noncomputable def zjo (lo c:Int) (n:Nat):It:=⟨λi _=>i<n,λi H x H' => H'=H/\x = .int (lo+i*c),λi _=>n<=i⟩
theorem zbr {P:Program}{w:World}{K:PySem.W.Frag}{tg:Expr}(it:Addr)(lo c:Int)(n:Nat):Turn P w K tg (zjo lo c n) [it] it (λi h=>IsRangeIter h it (lo+(i:Nat)*c) ((n:Int)-(i:Nat)) c) where
 mem:=by simp
 obj:=λi h st b hb=>by
  have e:b=it:=by simpa using hb
  subst e
  refine ⟨_,st,λv z=>?_⟩
  have z' : Data.fields _=Data.cell v:=z
  cases z'
 keep:=λi h h' st k=>k it (by simp) _ st
 item:=by
  intro X hP hw hK hc i pins s σ H E I hf st hg
  subst hP hw hK
  obtain ⟨f0,f1,f2,f3,f4,f5⟩:=hf it (by simp)
  refine (Walks.range (prog:=X.prog) (w:=X.w) (I.ok.hd hc) it lo c n).item i s _ _ hg st λv h' tk hv st' kk=>?_
  obtain ⟨t,rfl⟩:=hv
  have I1:Inv X pins σ H { s with heap:=h',toks:=tk }:=I.turned (λb o hb e=>kk b o (by simpa using hb) e) f0 f1 f3 f4 f5
  exact ⟨_,rfl,zc4 (s:={ s with heap:=h',toks:=tk }) (n:= "range_iterator") st' rfl rfl (by decide) ⟨.int (lo+i*c),H,I1,⟨t,rfl⟩,⟨rfl,rfl⟩,st',λb hb=>(hf b hb).1⟩⟩
 done:=by
  intro X hP hw hK hc i pins s σ H E I hf st hg
  subst hP hw hK
  obtain ⟨f0,f1,f2,f3,f4,f5⟩:=hf it (by simp)
  have hg' : n<=i:=hg
  exact wpAny_pyNext_range_end (I.ok.hd hc) st (by omega) λh' eb=>⟨rfl,I.turned (t' := s.toks) (λb o hb e=>eb b o hb e) f0 f1 f3 f4 f5⟩
 self:=λ_ _ _ _ _ st h=>wpAny_pyIter_rangeiter st h
section
variable {X:Cx}
theorem zeh:bootBuiltins "reversed" = some (.type "reversed"):=by decide +kernel
theorem zbv:bootBuiltins "list" = some (.type "list"):=by decide +kernel
end
section
variable {X:Cx}{K:PySem.W.Frag}
theorem Z3 (e:X.K=K):IxR X (zd5 K):=by subst e;exact zhs
theorem Zt (e:X.K=K):IxR X (za2 K):=by subst e;exact zfU
theorem W9 (e:X.K=K):SlR X (zg7 K):=by subst e;exact zf2
theorem zgX (e:X.K=K)(hu:X.A.units+64<cLine):OpR X (compareOp .Eq) (zf1 K λb=>b):=by subst e;exact ziq hu
theorem Ux (e:X.K=K)(hu:X.A.units+64<cLine):OpR X (compareOp .NotEq) (zf1 K λb=>!b):=by subst e;exact ziT hu
theorem YB (e:X.K=K):QQ X (.builtin "len") (λxs H Q=>∃ p ys,xs=[.ref p]/\(SqL K H p ys\/SqT K H p ys)/\Q (.int ys.length) H):=by subst e;exact zaB
theorem Xd (e:X.K=K):QQ X (.type "tuple") (λxs H Q=>∃ p ys,xs=[.ref p]/\((SqL K H p ys/\∀ l,H l=none->Q (.ref l) (upd H l (.tup ys)))\/(SqT K H p ys/\Q (.ref p) H))):=by subst e;exact zai
end
theorem Z0 {a:Expr}{op:Operator}{b:Expr}{p:Pos}{es:List Expr}{env:Env}:starEach (.BinOp a op b p::es) env=(false,eval (.BinOp a op b p) env)::starEach es env:=rfl
theorem zb6 {op:UnaryOp}{a:Expr}{p:Pos}{es:List Expr}{env:Env}:starEach (.UnaryOp op a p::es) env=(false,eval (.UnaryOp op a p) env)::starEach es env:=rfl
theorem Vp {a:Expr}{g:List Comprehension}{sc:Scope}{p:Pos}{es:List Expr}{env:Env}:starEach (.ListComp a g sc p::es) env=(false,eval (.ListComp a g sc p) env)::starEach es env:=rfl
theorem JG {a:Expr}{ops:List CmpOp}{cs:List Expr}{p:Pos}{es:List Expr}{env:Env}:starEach (.Compare a ops cs p::es) env=(false,eval (.Compare a ops cs p) env)::starEach es env:=rfl
theorem Z8 {f:Expr}{as:List Expr}{kw:List Keyword}{p:Pos}{es:List Expr}{env:Env}:starEach (.Call f as kw p::es) env=(false,eval (.Call f as kw p) env)::starEach es env:=rfl
theorem Zb {c:Const}{k:Nat}{p:Pos}{es:List Expr}{env:Env}:starEach (.Constant c k p::es) env=(false,eval (.Constant c k p) env)::starEach es env:=rfl
theorem Zk {a b:Expr}{p:Pos}{es:List Expr}{env:Env}:starEach (.Subscript a b p::es) env=(false,eval (.Subscript a b p) env)::starEach es env:=rfl
theorem Zd {n:Str}{p:Pos}{es:List Expr}{env:Env}:starEach (.Name n p::es) env=(false,eval (.Name n p) env)::starEach es env:=rfl
theorem zbn {as:List Expr}{p:Pos}{es:List Expr}{env:Env}:starEach (.List as p::es) env=(false,eval (.List as p) env)::starEach es env:=rfl
theorem zaf {as:List Expr}{k:Nat}{p:Pos}{es:List Expr}{env:Env}:starEach (.Tuple as k p::es) env=(false,eval (.Tuple as k p) env)::starEach es env:=rfl
noncomputable def tyN:PyData->String
 | .none=> "NoneType"
 | .bool _=> "bool"
 | .int _=> "int"
 | .str _=> "str"
 | .list _=> "list"
 | .tuple _=> "tuple"
 | .dict _=> "dict"
def zjr (K:PySem.W.Frag):List V->Hp->VK->Prop:=λxs H Q=>∃ G x d n b,xs=[x,.ty n]/\ZR G H/\Dat K G x d/\kitOne K (.type (tyN d)) (.type n)=some b/\Q (.bl b) H
theorem zbT {X:Cx}{K:PySem.W.Frag}(eK:X.K=K):QQ X (.builtin "isinstance") (zjr K):=by
 subst eK
 intro pins s σ H xs us Q I r h
 obtain ⟨G,x,d,n,b,rfl,sg,hd,e,q⟩:=h
 obtain ⟨u,w',rfl,rx,ry⟩:=vals2 r
 cases (show w'=Value.type n from ry)
 have fin:∀ tk,EP X pins σ Q (.bool b) { s with toks:=tk }:=λtk=>⟨.bl b,H,I.tok _,rfl,q⟩
 cases d with
 | none=>rw[hd.non] at rx;exact Qe I rx .non e fin
 | bool y=>rw[hd.bl] at rx;exact Qe I rx (.bl y) e fin
 | int i=>rw[hd.int] at rx;exact Qe I rx (.int i) e fin
 | str y=>rw[hd.str] at rx;exact Qe I rx (.str y) e fin
 | list ds=>
  obtain ⟨p,ys,rfl,hp,_⟩:=hd.lst
  cases (show u=Value.ref p from rx)
  obtain ⟨its,_,⟨o,n',e1,c,_⟩,_⟩:=I.list (SqL.of (sg _ _ hp))
  exact kia_one kitx_list I.kIn ⟨o,e1,c⟩ e (λz=>nomatch z) fin
 | tuple ds=>
  obtain ⟨p,ys,rfl,hp,_⟩:=hd.tup
  cases (show u=Value.ref p from rx)
  obtain ⟨its,_,⟨o,e1,c,_⟩,_⟩:=I.tuple (sg.tup hp)
  exact kia_one kitx_tuple I.kIn ⟨o,e1,c⟩ e (λz=>nomatch z) fin
 | dict _=>unfold Dat at hd;exact hd.elim
theorem zdC {K:PySem.W.Frag}{σ:St}{G:Hp}{ta:TE}{d:PyData}{n:String}{b:Bool}(ha:Ev K ta σ G d)(e:kitOne K (.type (tyN d)) (.type n)=some b):Ev K (tCB (zjr K) (Yh ta (Yh (tC (.ty n)) Q4))) σ G (.bool b):=
 λG1 H s1 s2 Q k=>ha G1 H s1 s2 _ λx G2 H2 g2 hx=>⟨G2,x,d,n,b,rfl,g2.gh,hx,e,k _ G2 H2 g2 (Yb b)⟩
end L2
namespace Frac
noncomputable def cmp (a b:Int×Int):Int:=if a.1*b.2<b.1*a.2 then -1 else if a.1*b.2>b.1*a.2 then 1 else 0
end Frac
namespace Lw
open PySem L2 Frac
theorem zkB:bootBuiltins "abs" = some (.builtin "abs"):=by decide +kernel
theorem zjX:bootBuiltins "isinstance" = some (.builtin "isinstance"):=by decide +kernel
theorem zeW:bootBuiltins "tuple" = some (.type "tuple"):=by decide +kernel
theorem zjl:bootBuiltins "int" = some (.type "int"):=by decide +kernel
theorem zkv:bootBuiltins "max" = some (.builtin "max"):=by decide +kernel
theorem zkl:bootBuiltins "sum" = some (.builtin "sum"):=by decide +kernel
theorem w0 {i:Int}(h:i.natAbs<10 ^ 100):i.natAbs<2 ^ 4000:=Nat.lt_of_lt_of_le h (by decide +kernel)
theorem mw {i j:Int}(h:i.natAbs<10 ^ 100)(h' : j.natAbs<10 ^ 100):zep i j:=⟨w0 h,w0 h'⟩
theorem XR {H:Hp}{p:Addr}{o:HO}(hp:H p=none):ZR H (upd H p o):=λb u e=>by
 rw[ZC (ZM e hp)];exact e
end Lw
namespace Nm
open PySem L2 Lw
theorem zbY (x:Str)(xs:List Str):inV (.str x) (xs.map V.str)=decide (x∈xs):=by
 unfold inV
 induction xs with
 | nil=>simp
 | cons y r ih=>
  rw[map_cons,any_cons,ih]
  by_cases h:y=x
  ·subst h
   simp[eqV]
  ·have h2:¬ x=y:=λe=>h e.symm
   simp[eqV,h,h2]
end Nm
namespace Ord
open PySem
abbrev S (x:String):Str:=Str.ofString x
noncomputable def zaA (want:Str):List (List Str):=
 if want=S "order" then [[S "like"],[S "up",S "field"],[S "down",S "field"],[S "then",S "order",S "order"],[S "turn",S "order"],[S "pick",S "case",S "order",S "order"]]
 else if want=S "case" then [[S "same",S "field"],[S "both",S "mark"],[S "either",S "mark"],[S "not",S "case"],[S "and",S "case",S "case"],[S "or",S "case",S "case"]]
 else [[S "under",S "field",S "number"],[S "is",S "field",S "number"]]
inductive Wd where
 | t (x:Str)
 | n (a b:Int)
noncomputable def Wd.d:Wd->PyData
 | .t x=>.str x
 | .n a b=>.tuple [.int a,.int b]
inductive Step (fld:Str->Prop) (num:Int->Int->Prop):List Str->Wd->List Str->Prop
 | field {x:Str}{st:List Str}:fld x->Step fld num (S "field" :: st) (.t x) st
 | number {a b:Int}{st:List Str}:num a b->Step fld num (S "number" :: st) (.n a b) st
 | word {want x:Str}{ps st:List Str}:want≠S "field" -> want≠S "number" -> (x::ps)∈zaA want->Step fld num (want::st) (.t x) (ps++st)
inductive Run (fld:Str->Prop) (num:Int->Int->Prop):List Str->List Wd->List Str->Prop
 | nil {st:List Str}:Run fld num st [] st
 | cons {st st1 st2:List Str}{w:Wd}{ws:List Wd}:Step fld num st w st1->Run fld num st1 ws st2->Run fld num st (w::ws) st2
def Ql (fld:Str->Prop)(num:Int->Int->Prop)(ws:List Wd):Prop:=Run fld num [S "order"] ws []
theorem zdO (want:Str):∀ o∈zaA want,∃ x ps,o=x::ps/\ps.length<=3/\∀ p∈ps,p=S "order" \/ p=S "case" \/ p=S "mark" \/ p=S "field" \/ p=S "number" := by
 unfold zaA
 intro o ho
 have:o.length<=4/\o≠[]/\∀ p∈o.drop 1,p=S "order" \/ p=S "case" \/ p=S "mark" \/ p=S "field" \/ p=S "number" := by
  split at ho
  ·revert o;decide +kernel
  ·split at ho
   ·revert o;decide +kernel
   ·revert o;decide +kernel
 cases o with
 | nil=>exact absurd rfl this.2.1
 | cons x ps=>exact ⟨x,ps,rfl,by have:=this.1;simp at this;omega,this.2.2⟩
end Ord
namespace L2
open PySem PySem.Spec PyProof.Rows
section
variable {X:Cx}{pins:List (Addr×Obj)}{σ:St}{H G:Hp}{s:Shared}
open Classical in
noncomputable def JW (s:Shared) (d:PyData) (u:Value):Bool:=decide (∃ as,Reads s.heap u d as)
theorem zeo {a b:PyData}(ha:Pl 60 a)(hb:Pl 60 b):PyData.eqv a b=PySem.Spec.same a b:=(SeqAt.same_eq_eqv a b (ha.mix hb)).symm
theorem zak (I:Inv X pins σ H s)(e:ZR G H)(hu:X.A.units+64<cLine){d:PyData}{v:Value}{as:List Addr}(rd:Reads s.heap v d as)(pd:Pl 60 d):∀ {ds:List PyData}{xs:List V}{its:List Value},Yc X.K G xs ds->Vals xs its->(∀ e∈ds,Pl 60 e)->
  (∀ y∈its,SeqAt.EqAt X.A.in1 s y v (JW s d y))/\its.any (JW s d)=ds.any λe=>PySem.Spec.same e d
 | [],_,its,h,r,_=>by
  rw[h.nil] at r
  cases r
  exact ⟨λy hy=>(by cases hy),rfl⟩
 | a::ds,_,its,h,r,hp=>by
  obtain ⟨y,ys,rfl,hd,hr⟩:=h.cons
  cases r with
  | @cons _ u _ us r1 r2=>
   obtain ⟨h1,h2⟩:=zak I e hu rd pd hr r2 λx hx=>hp x (mem_cons_of_mem _ hx)
   obtain ⟨bs,ra⟩:=Dat.reads I e hd r1
   have pa:=hp a mem_cons_self
   have key:JW s d u=PySem.Spec.same a d:=by
    unfold JW
    by_cases h:a=d
    ·subst h;rw[same_self];exact @decide_eq_true _ (Classical.propDecidable _) ⟨_,ra⟩
    ·rw[zfK h]
     exact @decide_eq_false _ (Classical.propDecidable _) λ⟨cs,rc⟩=>h (SeqAt.Reads.unique a d u _ _ pa.lay ra rc)
   refine ⟨λz hz=>?_,by rw[any_cons,any_cons,key,h2]⟩
   rcases mem_cons.mp hz with rfl | hz
   ·rw[key,← zeo pa pd]
    exact SeqAt.eqAt_reads a d X.A.in1 s z v bs as ra rd pa.lay pd.lay (by
     have:=pa.dep
     show X.A.units+1+min a.depth d.depth<cLine
     omega)
   ·exact h1 z hz
end
structure zaU (K:PySem.W.Frag)(P:Params)(a:Addr)(g:Str->Option (V×Value)):Prop where
 ex:∃ (es:Array DictEntry) (n:Nat),K.lookup a=some ⟨.type "dict",none,.dict es n,#[]⟩/\KeysLit P es.toList
 lo:(a==sysModules)=false
 at_:∀ x,PySem.W.nsIn K a x=some ((g x).map (·.2))
 rel:∀ x v u,g x=some (v,u)->RelV v u
section
variable {X:Cx}
theorem zhR:OpR X (compareOp .In) (λx y H Q=>∃ z a g,x = .str z/\y = .ref a/\zaU X.K X.w.params a g/\Q (.bl (g z).isSome) H):=by
 intro pins s σ H x y v u Q I rx ry h
 obtain ⟨z,a,g,rfl,rfl,D,q⟩:=h
 obtain ⟨t,rfl⟩:=rx
 cases ry
 obtain ⟨es,n,hl,hk⟩:=D.ex
 obtain ⟨m,F⟩:=I.fr
 refine PySem.W.topIn_K F I.mod.kin hl hk (D.at_ z) D.lo ⟨.bl _,H,I.tok _,rfl,?_⟩
 rw[Option.isSome_map];exact q
theorem UV:IxR X (λx y H Q=>∃ z a g v u,x = .ref a/\y = .str z/\zaU X.K X.w.params a g/\g z=some (v,u)/\Q v H):=by
 intro value slice pins s σ H x y v u Q I rx ry h hs
 obtain ⟨z,a,g,v',u',rfl,rfl,D,e,q⟩:=h
 cases rx
 obtain ⟨t,rfl⟩:=ry
 obtain ⟨es,n,hl,hk⟩:=D.ex
 obtain ⟨m,F⟩:=I.fr
 exact PySem.W.topItem_K F I.mod.kin hl hk (by rw[D.at_ z,e];rfl) ⟨v',H,I.tok _,D.rel z v' u' e,q⟩ hs
end
theorem zdx:typeLookup (.type "tuple") "__reversed__" = pure none:=by rw[typeLookup_type,builtinLookup_eq_fast];kernel_rfl
theorem zc8:typeLookup (.type "tuple") "__getitem__" = pure (some (.builtin "tuple.__getitem__")):=by rw[typeLookup_type,builtinLookup_eq_fast];kernel_rfl
theorem zcg:isSubtype (.type "tuple") (.type "dict")=pure false:=by rw[isSubtype_type];kernel_rfl
theorem zae (t:Addr)(items:Array Value)(n:Nat)(dct:Option Addr)(sl:Array (Option Value))(hsz:items.size<=sizeLine):
  Meets (Builtin.«reversed.__new__» ⟨[.type "reversed",.ref t],[]⟩) (λ_ R s=>s.heap.get? t=some { cls:=.type "tuple",dict:=dct,data:=.seq items n,slots:=sl }/\
   R (.ok (.ret (Value.ref s.heap.objs.size))) { s with heap:=s.heap.push { cls:=.type "reversed",data:=.fields #[.ref t,rawInt ((items.size:Int)-1)] },toks:=s.toks+1+1 }):=
 .of_wp λprog w A R s h=>by
  obtain ⟨hp,g,d,tk,os⟩:=s;obtain ⟨q1,h⟩:=h
  have hT:Shared.TypeIs ⟨hp,g,d,tk,os⟩ (.ref t) "tuple" := ⟨_,q1,rfl⟩
  unfold Builtin.«reversed.__new__»
  refine wpAny_bind (wpAny_of_eq (newClass_reversed _) ?_)
  try dsimp only
  refine wpAny_bind (wpAny_of_eq (a:=()) (by first | rfl | kernel_rfl) ?_)
  refine wpAny_bind (wpAny_of_eq (a:=()) (by first | rfl | kernel_rfl) ?_)
  try dsimp only
  refine wpAny_bind (wpAny_specialOf hT zdx ?_)
  try dsimp only
  have hz:IsTup hp t items:=⟨_,q1,rfl,n,rfl⟩
  have z62:sizeLine<2 ^ 62:=by decide
  have hf:(items.size:Int)<2 ^ 63:=by omega
  wp_walk using wpAny_isInstance (b:=false) hT zcg,wpAny_specialOf hT zc8,len_tuple (s:=⟨hp,g,d,tk,os⟩) hz hf
  exact ⟨_,rfl,h⟩
theorem zeB:Slot "reversed" "__init__" "object.__init__" :=
 .of (owner:= "object") (n:= "__init__") (by rw[typeLookup_type,builtinLookup_eq_fast];kernel_rfl) (by decide +kernel) (by decide +kernel) (by decide +kernel)
  (by first | exact .inl (by decide +kernel) | exact .inr (by decide +kernel)) (by rw[isSubtype_type];kernel_rfl)
theorem zcq:TypeCalled "reversed" "reversed.__new__" "object.__init__" :=
 ⟨by decide +kernel,by decide +kernel,⟨_,_,F.mro_reversed⟩,F.made_reversed,by decide +kernel,by rw[isSubtype_type];kernel_rfl,zeB⟩
noncomputable def zgf (t:Addr) (i:Int):Obj:={ cls:=.type "reversed",data:=.fields #[.ref t,rawInt i] }
section
variable {prog:Program}{w:World}{A:Around}{E:Value->Shared->Prop}{s:Shared}
theorem zaY {t:Addr}{items:Array Value}{Q:Value->Shared->Prop}(ht:IsTup s.heap t items)(hsz:items.size<=sizeLine)
  (h:Q (.ref s.heap.objs.size) { s with heap:=s.heap.push (zgf t ((items.size:Int)-1)),toks:=s.toks+1+1 }):wpAny (model prog w) A (call (.type "reversed") [.ref t]) Q E s:=by
 obtain ⟨⟨c,dct,dt,sl⟩,e1,e2,n,e3⟩:=ht
 replace e2:c = .type "tuple" := e2
 replace e3:dt = .seq items n:=e3
 subst e2 e3
 exact callType_new zcq (by decide) (F.typeCall_reversed_1 _) (F.newCall_reversed_1 _) (λobj=>F.args_object_init_2 obj _) F.entry_reversed_new (zae t items n dct sl hsz) ⟨e1,⟨_,get?_push_size _ rfl,rfl⟩,h⟩
end
theorem zbE:Manifest.owners.lookup (String.ofList ['d', 'e', 's', 'r', 'e', 'v', 'e', 'r'].reverse)=some Manifest.sig_reversed:=by kernel_rfl
theorem Ue:Slot "reversed" "__next__" "reversed.__next__" :=
 .of (owner:= "reversed") (n:= "__next__") (by rw[typeLookup_type,builtinLookup_eq_fast];kernel_rfl) (by decide +kernel) (by decide +kernel) (by decide +kernel)
  (by first | exact .inl (by decide +kernel) | exact .inr (by decide +kernel)) (by rw[isSubtype_type];kernel_rfl)
theorem zbu:entryFor table "reversed.__next__" = some Builtin.«reversed.__next__» := entryFor_of_tree (by kernel_rfl)
theorem zdj (a:Value):argsOk "reversed.__next__" ⟨[a],[]⟩:=by
 unfold argsOk
 rw[signature?_of (id:= "reversed.__next__") (n:=['_', '_', 't', 'x', 'e', 'n', '_', '_']) (o:=['d', 'e', 's', 'r', 'e', 'v', 'e', 'r']) (by kernel_rfl) zbE];kernel_rfl
theorem zbx:Slot "reversed" "__iter__" "reversed.__iter__" :=
 .of (owner:= "reversed") (n:= "__iter__") (by rw[typeLookup_type,builtinLookup_eq_fast];kernel_rfl) (by decide +kernel) (by decide +kernel) (by decide +kernel)
  (by first | exact .inl (by decide +kernel) | exact .inr (by decide +kernel)) (by rw[isSubtype_type];kernel_rfl)
theorem ze3 (a:Value):argsOk "reversed.__iter__" ⟨[a],[]⟩:=by
 unfold argsOk
 rw[signature?_of (id:= "reversed.__iter__") (n:=['_', '_', 'r', 'e', 't', 'i', '_', '_']) (o:=['d', 'e', 's', 'r', 'e', 'v', 'e', 'r']) (by kernel_rfl) zbE];kernel_rfl
theorem zdf:entryFor table "reversed.__iter__" = some Builtin.«dict_keyiterator.__iter__» :=
 entryFor_alias (id' := "dict_keyiterator.__iter__") (by kernel_rfl) (by first | rfl | decide +kernel | (unfold String.splitOn;simp +decide [String.splitOnAux])) (by decide +kernel) (by kernel_rfl)
def zdh (h:Heap)(a t:Addr)(i:Int):Prop:=∃ o,h.get? a=some o/\o.cls = .type "reversed" /\ o.data = .fields #[.ref t,rawInt i]
theorem zdh.ty {s:Shared}{a t:Addr}{i:Int}(x:zdh s.heap a t i):s.TypeIs (.ref a) "reversed" := let ⟨o,ho,hc,_⟩:=x;⟨o,ho,hc⟩
section
variable {prog:Program}{w:World}{A:Around}{E:Value->Shared->Prop}{s:Shared}
theorem zgS {it t:Addr}{i:Nat}{items:Array Value}{x:Value}{Q:Option Value->Shared->Prop}(hit:zdh s.heap it t (i:Int))(ht:IsTup s.heap t items)(hx:items[i]?=some x)(hi:(i:Int)<2 ^ 62)
  (hQ:∀ h' tk,zdh h' it t ((i:Int)-1)->SameBut it s.heap h' -> Q (some x) { s with heap:=h',toks:=tk }):wpAny (model prog w) A (pyNext (.ref it)) Q E s:=by
 obtain ⟨o,ho,hc,hd⟩:=id hit
 have hlt:i<items.size:=by
  rcases Nat.lt_or_ge i items.size with z | z
  ·exact z
  ·rw[Array.getElem?_eq_none z] at hx;cases hx
 unfold pyNext
 refine wpAny_bind (wpAny_attempt (wpAny_callSpecial?_slot (name:=Str.ofString "__next__") hit.ty Ue (wpAny_call_entry Ue hit.ty zbu ?_ (zdj _))))
 unfold Builtin.«reversed.__next__»
 refine wpAny_bind (wpAny_of_eq (a:=(Value.ref it,[])) rfl ?_)
 try dsimp only
 refine wpAny_bind (wpAny_field ho hd (x:=.ref t) rfl ?_)
 refine wpAny_bind (wpAny_field ho hd (x:=rawInt (i:Int)) rfl ?_)
 show wpAny _ _ (if (i:Int)<0 then _ else _) _ _ s
 rw[if_neg (by omega)]
 refine wpAny_bind (wpAny_specialOf ht.typeIs zc8 ?_)
 show wpAny _ _ (if (some (Value.builtin "tuple.__getitem__")).isNone=true then _ else _) _ _ _
 rw[if_neg (by decide)]
 refine wpAny_bind (wpAny_mkInt ?_)
 refine wpAny_bind (wpAny_attempt (getItem_tuple (s:={ s with toks:=s.toks+1 }) ht (by omega) (by omega) (j:=i) (by unfold seqIndex?;simp;omega) hx ?_))
 refine wpAny_bind (wpAny_field (s:={ s with toks:=s.toks+1 }) ho hd (x:=rawInt (i:Int)) rfl ?_)
 try dsimp only
 refine wpAny_bind (wpAny_setField (s:={ s with toks:=s.toks+1 }) ho hd (by simp) ?_)
 refine wpAny_pure ⟨x,rfl,wpAny_pure (hQ _ _ ?_ (SameBut.update ..))⟩
 exact ⟨_,Heap.get?_update_self _ ho (Obj.isFreed_of_fields (Obj.data_mapFields hd _)),(Obj.cls_mapFields ..).trans hc,by
  rw[Obj.data_mapFields hd];simp⟩
theorem zhP {it t:Addr}{Q:Option Value->Shared->Prop}(hh:A.handled=none)(hit:zdh s.heap it t (-1))
  (hQ:∀ h',ExtBut it s.heap h' -> Q none { s with heap:=h' }):wpAny (model prog w) A (pyNext (.ref it)) Q E s:=by
 obtain ⟨o,ho,hc,hd⟩:=id hit
 unfold pyNext
 refine wpAny_bind (wpAny_attempt (wpAny_callSpecial?_slot (name:=Str.ofString "__next__") hit.ty Ue (wpAny_call_entry Ue hit.ty zbu ?_ (zdj _))))
 unfold Builtin.«reversed.__next__»
 refine wpAny_bind (wpAny_of_eq (a:=(Value.ref it,[])) rfl ?_)
 try dsimp only
 refine wpAny_bind (wpAny_field ho hd (x:=.ref t) rfl ?_)
 refine wpAny_bind (wpAny_field ho hd (x:=rawInt (-1)) rfl ?_)
 show wpAny _ _ (if (-1:Int)<0 then _ else _) _ _ s
 rw[if_pos (by decide)]
 refine wpAny_bind (wpAny_rule ?_)
 refine wpAny_bind ?_
 show wpAny _ _ (setField (.ref it) 1 (rawInt (-1)) >>= λ_=>setField (.ref it) 0 .none) _ _ s
 refine wpAny_bind (wpAny_setField ho hd (by simp) ?_)
 have ho2:=Heap.get?_update_self (Obj.mapFields λf=>f.setIfInBounds 1 (rawInt (-1))) ho (Obj.isFreed_of_fields (Obj.data_mapFields hd _))
 refine wpAny_setField ho2 (Obj.data_mapFields hd _) (by simp) ?_
 refine wpAny_bind ?_
 show wpAny _ _ (newExc (.type "StopIteration") [] >>= _) _ _ _
 refine wpAny_bind ?_
 simp only[newExc,newTuple]
 refine wpAny_bind (wpAny_newObj_type ?_ (by size_fits))
 refine wpAny_bind (m:=firstArgMember _ _) (wpAny_of_eq (a:=Value.none) (by first | rfl | (simp only[firstArgMember];rfl)) ?_)
 refine wpAny_newObj_type ?_ (by size_fits)
 simp only[raiseNew]
 refine wpAny_bind (wpAny_handled ?_)
 rw[show A.in1.handled=none from hh]
 refine wpAny_bind (wpAny_pure (wpAny_throw ?_))
 refine wpAny_bind (wpAny_isInstance (T:= "StopIteration") (b:=true) ⟨_,get?_push_size _ rfl,rfl⟩ isSubtype_stop ?_)
 refine wpAny_pure (hQ _ ((ExtBut.push (ExtBut.push (λb o hb e=>?_) _) _)))
 exact (Heap.get?_update_other _ _ (Ne.symm hb)).trans ((Heap.get?_update_other _ _ (Ne.symm hb)).trans e)
theorem zc7 {it t:Addr}{i:Int}{Q:Value->Shared->Prop}(hit:zdh s.heap it t i)(h:Q (.ref it) s):wpAny (model prog w) A (pyIter (.ref it)) Q E s:=by
 refine wpAny_pyIter_slot hit.ty zbx (wpAny_call_entry zbx hit.ty zdf ?_ (ze3 _))
 show wpAny _ _ (ret (.ref it)) _ _ s
 exact wpAny_pure ⟨_,rfl, "reversed",_,hit.ty,Ue.lookup,h⟩
end
theorem zdh.at {h h' : Heap}{a l:Addr}{i:Int}(x:zdh h a l i)(e:∀ o,h.get? a=some o->h'.get? a=some o):zdh h' a l i:=let ⟨o,ho,r⟩:=x;⟨o,e _ ho,r⟩
section
variable {X:Cx}
noncomputable def Itv (K:PySem.W.Frag) (a:Addr) (n:Nat):It:=
 ⟨λi H=>i<n/\∃ xs,SqT K H a xs/\xs.length=n,λi H x H' => H'=H/\∀ xs,SqT K H a xs->xs.reverse[i]?=some x,λi H=>i=n/\∃ xs,SqT K H a xs⟩
theorem zee {P:Program}{w:World}{K:PySem.W.Frag}{tg:Expr}(a it:Addr)(n:Nat):Turn P w K tg (Itv K a n) [it] it (λi h=>zdh h it a ((n:Int)-1-(i:Int))) where
 mem:=by simp
 obj:=λi h st b hb=>by
  have e:b=it:=by simpa using hb
  subst e
  obtain ⟨o,e,c,d⟩:=st
  exact ⟨o,e,λv z=>by rw[d] at z;cases z⟩
 keep:=λi h h' st k=>st.at λo e=>k it (by simp) o e
 item:=by
  intro X hP hw hK hc i pins s σ H E I hf st hg
  subst hP hw hK
  obtain ⟨hi,xs,hq,hl⟩:=hg
  obtain ⟨its,rv,p,hz⟩:=I.tuple hq
  have z62:sizeLine<2 ^ 62:=by decide
  have hx:xs.reverse[i]?=some (xs.reverse[i]'(by rw[length_reverse];omega)):=getElem?_eq_getElem _
  obtain ⟨u,hu,ru⟩:=rv.reverse.get hx
  obtain ⟨f0,f1,f2,f3,f4,f5⟩:=hf it (by simp)
  have e1:(n:Int)-1-(i:Int)=((n-1-i:Nat):Int):=by omega
  have st1:=st
  rw[e1] at st1
  have hl' : its.length=n:=by rw[← rv.length];exact hl
  have hu' : its.toArray[n-1-i]?=some u:=by
   rw[List.getElem?_reverse (by omega)] at hu
   simpa [hl'] using hu
  refine zgS st1 p hu' (by omega) λh' tk st' sb=>?_
  have I1:Inv X pins σ H { s with heap:=h',toks:=tk }:=I.turned (λb o hb e=>(sb.2 b hb).trans e) f0 f1 f3 f4 f5
  have e2:((n-1-i:Nat):Int)-1=(n:Int)-1-((i+1:Nat):Int):=by omega
  rw[e2] at st'
  obtain ⟨o,e,c,d⟩:=id st'
  exact ⟨u,rfl,zc4 (s:={ s with heap:=h',toks:=tk }) e c d (by decide) ⟨_,H,I1,ru,⟨rfl,λys hy=>by rw[I.VR hy hq];exact hx⟩,st',λb hb=>(hf b hb).1⟩⟩
 done:=by
  intro X hP hw hK hc i pins s σ H E I hf st hg
  subst hP hw hK
  obtain ⟨rfl,xs,hq⟩:=hg
  obtain ⟨f0,f1,f2,f3,f4,f5⟩:=hf it (by simp)
  have e1:(i:Int)-1-(i:Int) = -1:=by omega
  rw[e1] at st
  exact zhP (I.ok.hd hc) st λh' eb=>⟨rfl,I.turned (t' := s.toks) (λb o hb e=>eb b o hb e) f0 f1 f3 f4 f5⟩
 self:=λ_ _ _ _ _ st h=>zc7 st h
def zkh (K:PySem.W.Frag)(tl:TE):TI:=fun σ H R=>tl σ H λx H1=>∃ a xs,x = .ref a/\SqT K H1 a xs/\R (Itv K a xs.length) H1
theorem zi0 {tg l:Expr}{tl:TE}{p2 q2:Pos}(hg2:Gl X "reversed")(hm2:X.mg "reversed" = none)(hl:PE X l tl)(hs2:starEach [l] X.env=[(false,eval l X.env)]:=by rfl):PI X tg (.Call (.Name "reversed" p2) [l] [] q2) (zkh X.K tl):=by
 intro pins s σ H R I h
 refine wpAny_Call_Name_kw (Vx I hg2 hm2 zeh (PyProof.Rows.callWith_type1 ?_ hs2 rfl))
 rw[hs2]
 show wpAny _ _ (spliced [(false,eval l X.env)]) _ _ s
 refine Calls.spliced_cons (thn (hl pins s σ H _ I h) λv s1 ⟨x,H1,I1,r1,q1⟩=>Calls.spliced_nil ?_)
 obtain ⟨a,xs,e,hq,q⟩:=q1
 subst e
 cases r1
 obtain ⟨its,rv,p,hz⟩:=I1.tuple hq
 have hsz:its.toArray.size<=sizeLine:=by rw[size_toArray,← rv.length];exact hz
 refine zaY p hsz ?_
 have it1:zdh (s1.heap.push (zgf a ((its.toArray.size:Int)-1))) s1.heap.objs.size a ((xs.length:Int)-1-((0:Nat):Int)):=by
  refine ⟨_,get?_push_size _ rfl,rfl,?_⟩
  show Data.fields #[.ref a,rawInt ((its.toArray.size:Int)-1)]=_
  rw[size_toArray,← rv.length];simp
 refine zc7 (s:={ s1 with heap:=s1.heap.push (zgf a ((its.toArray.size:Int)-1)),toks:=s1.toks+1+1 }) it1 ?_
 refine ⟨s1.heap.objs.size,[s1.heap.objs.size],_,_,H1,rfl,I1.kept (t' := s1.toks+1+1) λb o e=>get?_push_of_some _ e,zee a _ xs.length,it1,λb hb=>?_,q⟩
 have e:b=s1.heap.objs.size:=by simpa using hb
 subst e
 exact I1.zg5 (Nat.le_refl _) (I1.hok.fresh (Nat.le_refl _))
end
noncomputable def zes (K:PySem.W.Frag):Value->Option (List Value)
 | .ref a=>(match K.lookup a with
  | some o=>(match o.cls,o.data with
   | .type n,.seq its _=>if n == "tuple" && its.size<=8 then some its.toList else none
   | _,_=>none)
  | none=>none)
 | _=>none
noncomputable def Uu:List Value->Option (List Str)
 | []=>some []
 | .str x _::r=>(Uu r).map (x :: ·)
 | _=>none
noncomputable def zi2 (K:PySem.W.Frag) (e:DictEntry) (r:Str×Str×List Str):Bool:=
 match e.key with
 | .str x _=>x==r.1&&(match zes K e.val with
  | some [.str k _,v2]=>k==r.2.1&&(match zes K v2 with
   | some its=>Uu its==some r.2.2
   | none=>false)
  | _=>false)
 | _=>false
noncomputable def zaD (K:PySem.W.Frag):List DictEntry->List (Str×Str×List Str)->Bool
 | [],[]=>true
 | e::es,r::rs=>zi2 K e r&&zaD K es rs
 | _,_=>false
noncomputable def gOf (es:List DictEntry) (z:Str):Option (V×Value):=(es.find? (·.key.isStr z)).map λe=>((zjR e.val).getD .non,e.val)
theorem zaS {K:PySem.W.Frag}{v:Value}{its:List Value}(h:zes K v=some its):∃ a,v = .ref a/\∀ (H:Hp) (xs:List V),Vals xs its->SqT K H a xs:=by
 unfold zes at h
 cases v with
 | ref a=>
  dsimp only at h
  refine ⟨a,rfl,λH xs hv=>?_⟩
  cases hk:K.lookup a with
  | none=>rw[hk] at h;cases h
  | some o=>
   rw[hk] at h
   dsimp only at h
   split at h
   ·rename_i n its' m hc hd
    split at h
    ·rename_i hz
     injection h with h
     subst h
     simp only[and_eq_true,beq_iff_eq,decide_eq_true_eq] at hz
     exact .inr ⟨o,its',m,hk,by rw[hc,hz.1],hd,le_trans hz.2 (by decide),hv⟩
    ·cases h
   ·cases h
 | _=>cases h
theorem VV:∀ {l:List Value}{xs:List Str},Uu l=some xs->Vals (xs.map V.str) l
 | [],xs,h=>by
  unfold Uu at h
  injection h with h;subst h;exact .nil
 | v::r,xs,h=>by
  unfold Uu at h
  split at h
  ·rename_i e;cases e
  ·rename_i x t r' e
   injection e with e1 e2
   subst e1 e2
   cases hr:Uu r with
   | none=>rw[hr] at h;cases h
   | some ys=>
    rw[hr] at h
    injection h with h
    subst h
    exact .cons ⟨_,rfl⟩ (VV hr)
  ·cases h
theorem Vf {K:PySem.W.Frag}{e:DictEntry}{r:Str×Str×List Str}(h:zi2 K e r=true):(∃ t,e.key = .str r.1 t)/\∃ a,e.val = .ref a/\∀ G:Hp,Dat K G (.ref a) (.tuple [.str r.2.1,.tuple (r.2.2.map PyData.str)]):=by
 unfold zi2 at h
 split at h
 ·rename_i x t hk
  rw[and_eq_true,beq_iff_eq] at h
  obtain ⟨rfl,h⟩:=h
  refine ⟨⟨t,hk⟩,?_⟩
  split at h
  ·rename_i k t2 v2 ht
   rw[and_eq_true,beq_iff_eq] at h
   obtain ⟨rfl,h⟩:=h
   split at h
   ·rename_i its hi
    rw[beq_iff_eq] at h
    obtain ⟨a,ha,sa⟩:=zaS ht
    obtain ⟨b,hb,sb⟩:=zaS hi
    refine ⟨a,ha,λG=>Xr (sa G [.str r.2.1,.ref b] (.cons ⟨_,rfl⟩ (.cons (by rw[hb];rfl) .nil))) (Z1 (YZ _) (Z1 (Xr (sb G _ (VV h)) ?_) Z7))⟩
    exact dats_strs' _
   ·cases h
  ·cases h
 ·cases h
where
 dats_strs' {K:PySem.W.Frag}{G:Hp}:∀ ws:List Str,Yc K G (ws.map V.str) (ws.map PyData.str)
  | []=>Z7
  | w::ws=>Z1 (YZ w) (dats_strs' ws)
theorem zaq {x z:Str}{t:Tok}:(Value.str x t).isStr z=decide (x=z):=by
 unfold Value.isStr
 by_cases h:x=z
 ·subst h;simp
 ·simp[h]
theorem Ve {K:PySem.W.Frag}(z:Str):∀ {es:List DictEntry}{rs:List (Str×Str×List Str)},zaD K es rs=true->
  (es.find? (·.key.isStr z)=none/\rs.find? (λr=>decide (r.1=z))=none)\/∃ e r,es.find? (·.key.isStr z)=some e/\rs.find? (λr=>decide (r.1=z))=some r/\zi2 K e r=true
 | [],[],_=>.inl ⟨rfl,rfl⟩
 | [],_::_,h=>by cases h
 | _::_,[],h=>by cases h
 | e::es,r::rs,h=>by
  unfold zaD at h
  rw[and_eq_true] at h
  obtain ⟨⟨t,hk⟩,_⟩:=Vf h.1
  have q:e.key.isStr z=decide (r.1=z):=by rw[hk];exact zaq
  rw[find?_cons,find?_cons,q]
  by_cases hz:r.1=z
  ·rw[decide_eq_true hz]
   exact .inr ⟨e,r,rfl,rfl,h.1⟩
  ·rw[decide_eq_false hz]
   exact Ve z h.2
theorem zas {K:PySem.W.Frag}:∀ {es:List DictEntry}{rs:List (Str×Str×List Str)},zaD K es rs=true->es.any (·.refKey)=false
 | [],[],_=>rfl
 | [],_::_,h=>by cases h
 | _::_,[],h=>by cases h
 | e::es,r::rs,h=>by
  unfold zaD at h
  rw[and_eq_true] at h
  obtain ⟨⟨t,hk⟩,_⟩:=Vf h.1
  rw[any_cons,zas h.2,Bool.or_false]
  unfold DictEntry.refKey
  rw[hk]
theorem zel {K:PySem.W.Frag}{P:Params}{a:Addr}{es:Array DictEntry}{n:Nat}{rs:List (Str×Str×List Str)}(hl:K.lookup a=some ⟨.type "dict",none,.dict es n,#[]⟩)(hk:KeysLit P es.toList)(lo:(a==sysModules)=false)
  (h:zaD K es.toList rs=true):zaU K P a (gOf es.toList)/\∀ z,(rs.find? (λr=>decide (r.1=z))=none/\gOf es.toList z=none)\/∃ r v u,rs.find? (λr=>decide (r.1=z))=some r/\gOf es.toList z=some (v,u)/\∀ G:Hp,Dat K G v (.tuple [.str r.2.1,.tuple (r.2.2.map PyData.str)]):=by
 refine ⟨⟨⟨es,n,hl,hk⟩,lo,λx=>?_,λx v u e=>?_⟩,λz=>?_⟩
 ·unfold PySem.W.nsIn
  rw[hl]
  dsimp only
  unfold gOf
  rcases Ve x h with ⟨e1,_⟩ | ⟨e,r,e1,_,_⟩
  ·rw[e1,zas h];rfl
  ·rw[e1];rfl
 ·unfold gOf at e
  rcases Ve x h with ⟨e1,_⟩ | ⟨e',r,e1,_,ok⟩
  ·rw[e1] at e;cases e
  ·rw[e1] at e
   obtain ⟨_,a',ha,_⟩:=Vf ok
   rw[map_some] at e
   injection e with e
   injection e with e1 e2
   subst e1 e2
   rw[ha];rfl
 ·rcases Ve z h with ⟨e1,e2⟩ | ⟨e,r,e1,e2,ok⟩
  ·exact .inl ⟨e2,by unfold gOf;rw[e1];rfl⟩
  ·obtain ⟨_,a',ha,hd⟩:=Vf ok
   refine .inr ⟨r,.ref a',e.val,e2,?_,hd⟩
   unfold gOf
   rw[e1,map_some,ha];rfl
end L2
namespace Ord
open PySem L2
noncomputable def Q5:List (Str×Str×List Str):=
 [(S "like",S "order",[]),(S "up",S "order",[S "field"]),(S "down",S "order",[S "field"]),(S "then",S "order",[S "order",S "order"]),(S "turn",S "order",[S "order"]),(S "pick",S "order",[S "case",S "order",S "order"]),
  (S "same",S "case",[S "field"]),(S "both",S "case",[S "mark"]),(S "either",S "case",[S "mark"]),(S "not",S "case",[S "case"]),(S "and",S "case",[S "case",S "case"]),(S "or",S "case",[S "case",S "case"]),
  (S "under",S "mark",[S "field",S "number"]),(S "is",S "mark",[S "field",S "number"])]
noncomputable def Ym (z:Str):Option (Str×Str×List Str):=Q5.find? (λr=>decide (r.1=z))
structure Wds (K:PySem.W.Frag)(P:Params)(mg:Str->Option Value) where
 a:Addr
 g:Str->Option (V×Value)
 m:mg "WORDS" = some (.ref a)
 D:zaU K P a g
 no:∀ z,Ym z=none->g z=none
 yes:∀ z r,Ym z=some r->∃ v u,g z=some (v,u)/\∀ G:Hp,Dat K G v (.tuple [.str r.2.1,.tuple (r.2.2.map PyData.str)])
theorem zhN {K:PySem.W.Frag}{P:Params}{mg:Str->Option Value}{a:Addr}{es:Array DictEntry}{n:Nat}(hm:mg "WORDS" = some (.ref a))(hl:K.lookup a=some ⟨.type "dict",none,.dict es n,#[]⟩)(hk:KeysLit P es.toList)(lo:(a==sysModules)=false)
  (h:zaD K es.toList Q5=true):Nonempty (Wds K P mg):=by
 obtain ⟨D,q⟩:=zel hl hk lo h
 refine ⟨⟨a,_,hm,D,λz e=>?_,λz r e=>?_⟩⟩
 ·rcases q z with ⟨_,e1⟩ | ⟨r,v,u,e1,_⟩
  ·exact e1
  ·rw[show Ym z=_ from e1] at e;cases e
 ·rcases q z with ⟨e1,_⟩ | ⟨r',v,u,e1,e2,hd⟩
  ·rw[show Ym z=_ from e1] at e;cases e
  ·rw[show Ym z=_ from e1] at e
   injection e with e;subst e
   exact ⟨v,u,e2,hd⟩
theorem zcr:∀ want∈[S "order",S "case",S "mark"],∀ o∈zaA want,∃ x ps,o=x::ps/\Ym x=some (x,want,ps):=by
 intro want hw
 simp only[mem_cons,List.not_mem_nil,or_false] at hw
 have key:∀ want∈[S "order",S "case",S "mark"],∀ o∈zaA want,o≠[]/\Ym (o.headD (S ""))=some (o.headD (S ""),want,o.tail):=by decide +kernel
 intro o ho
 have q:=key want (by simpa using hw) o ho
 cases o with
 | nil=>exact absurd rfl q.1
 | cons x ps=>exact ⟨x,ps,rfl,q.2⟩
end Ord
namespace Rdo
open PySem Ord Nm L2 Frac
theorem VM {z:Str}{r:Str×Str×List Str}(h:Ym z=some r):r∈Q5/\r.1=z:=by
 unfold Ym at h
 exact ⟨List.mem_of_find?_eq_some h,by have:=List.find?_some h;simpa using this⟩
theorem VF {fld:Str->Prop}{num:Int->Int->Prop}{st st1:List Str}{w:Wd}(h:Step fld num st w st1)(hs:∀ x∈st,x∈[S "order",S "case",S "mark",S "field",S "number"]):
  (∃ x st0,st=S "field" :: st0/\w = .t x/\fld x/\st1=st0)\/(∃ a b st0,st=S "number" :: st0/\w = .n a b/\num a b/\st1=st0)\/
  ∃ want x ps st0,st=want::st0/\w = .t x/\want≠S "field" /\ want≠S "number" /\ Ym x=some (x,want,ps)/\ps.length<=3/\st1=ps++st0:=by
 cases h with
 | field hx=>exact .inl ⟨_,_,rfl,rfl,hx,rfl⟩
 | number hx=>exact .inr (.inl ⟨_,_,_,rfl,rfl,hx,rfl⟩)
 | @word want x ps st0 n1 n2 ho=>
  have hw:=hs want mem_cons_self
  have hw3:want∈[S "order",S "case",S "mark"]:=by
   simp only[mem_cons,List.not_mem_nil,or_false] at hw ⊢
   rcases hw with z | z | z | z | z
   ·exact .inl z
   ·exact .inr (.inl z)
   ·exact .inr (.inr z)
   ·exact absurd z n1
   ·exact absurd z n2
  obtain ⟨y,qs,e,hy⟩:=zcr want hw3 _ ho
  injection e with e1 e2
  subst e1 e2
  obtain ⟨x',ps',e,hl,_⟩:=zdO want _ ho
  injection e with e1 e2
  subst e1 e2
  exact .inr (.inr ⟨want,x,ps,st0,rfl,rfl,n1,n2,hy,hl,rfl⟩)
end Rdo
namespace L2
open PySem PySem.Spec PyProof.Rows
theorem zhx {P:Program}{w:World}{k:Key}{u:Value}(r:RelV (kV k) u):(Jd P w).is k u=true:=by
 cases k with
 | inl i=>obtain ⟨t,e⟩:=(show ∃ t,u=Value.int i t from r);subst e;exact zbf P w i t
 | inr x=>obtain ⟨t,e⟩:=(show ∃ t,u=Value.str x t from r);subst e;exact zbp P w x t
section
variable {prog:Program}{w:World}{A:Around}{E:Value->Shared->Prop}{s:Shared}
theorem zgg {a:Addr}{stored:List Value}{Q:Bool->Shared->Prop}(hq:∀ Q:Bool->Shared->Prop,Q true s->wpAny (model prog w) A (eqIsQuiet 8 (.ref a)) Q E s)(hst:∀ v∈stored,∃ x t,v = .str x t)(h:Q false s):wpAny (model prog w) A (tableMayTell (.ref a) stored) Q E s:=by
 unfold tableMayTell
 split
 ·exact wpAny_pure h
 ·refine wpAny_bind (hq _ ?_)
  simp only[Bool.not_true,false_eq_true,if_false]
  refine wpAny_bind ?_
  refine wpAny_forIn_list _ (λrest r s' => s'=s/\r=(none,())/\∀ v∈rest,∃ x t,v = .str x t) _ ?_ ?_ _ _ ⟨rfl,rfl,hst⟩
  ·rintro x rest r s' ⟨rfl,rfl,hr⟩
   obtain ⟨z,t,rfl⟩:=hr x mem_cons_self
   refine wpAny_bind ?_
   unfold eqIsQuiet
   refine wpAny_pure ?_
   simp only[Bool.not_true,false_eq_true,if_false]
   exact wpAny_pure ⟨rfl,rfl,λv hv=>hr v (mem_cons_of_mem _ hv)⟩
  ·rintro r s' ⟨rfl,rfl,_⟩
   exact wpAny_pure h
theorem zfO {d a:Addr}{o:Obj}{es:Array DictEntry}{ep:Nat}{hh:Int}{Q:Option Nat->Shared->Prop}(ho:s.heap.get? d=some o)(hd:o.data = .dict es ep)(hk:∀ e∈es,∃ x t,e.key = .str x t)
  (hq:∀ Q:Bool->Shared->Prop,Q true s->wpAny (model prog w) A (eqIsQuiet 8 (.ref a)) Q E s) (heq:∀ (x:Str) (t:Tok) (Q:Bool->Shared->Prop),Q false s->wpAny (model prog w) A (eqBool (.str x t) (.ref a)) Q E s) (h:Q none s):
  wpAny (model prog w) A (dictFind d (.ref a) hh) Q E s:=by
 have hany:¬ (es.any λe=>e.key==Value.ref a&&e.hash != hh)=true:=by
  rw[← Array.any_toList,List.any_eq_true]
  rintro ⟨e,hin,hc⟩
  obtain ⟨x,t,ek⟩:=hk e (mem_toList_iff.mp hin)
  rw[ek] at hc
  simp at hc
 have hst:∀ v∈(placesWithHash es.size (λi=>es[i]?.map (·.hash)) hh).filterMap (λi=>es[i]?.map (·.key)),∃ x t,v = .str x t:=by
  intro v hv
  obtain ⟨i,_,hi⟩:=List.mem_filterMap.mp hv
  cases hei:es[i]? with
  | none=>rw[hei] at hi;cases hi
  | some e=>
   rw[hei] at hi
   obtain rfl:e.key=v:=by simpa using hi
   exact hk e (Array.mem_of_getElem? hei)
 unfold dictFind
 try with_reducible refine wpAny_holding ?_
 refine wpAny_bind (wpAny_dictEntries ho hd ?_)
 dsimp only
 rw[if_neg (show ¬ ((Value.ref a::(placesWithHash es.size (λi=>es[i]?.map (·.hash)) hh).filterMap (λi=>es[i]?.map (·.key))).all carriedByValue)=true by simp[carriedByValue])]
 rw[if_neg hany]
 by_cases hone:(((placesWithHash es.size (λi=>es[i]?.map (·.hash)) hh).filterMap (λi=>es[i]?.map (·.key)))==[Value.ref a])=true <;>
 (first | rw[if_pos hone] | rw[if_neg hone]) <;> (first | refine wpAny_bind (wpAny_pure ?_) | refine wpAny_bind (zgg hq hst ?_)) <;> (
  rw[if_neg (by simp)]
  refine wpAny_bind ?_
  refine wpAny_forIn_list _ (λrest b s' => s'=s/\b=(none,none)) _ ?_ ?_ _ _ ⟨rfl,rfl⟩
  ·rintro x rest b s' ⟨rfl,rfl⟩
   cases hex:es[x]? with
   | none=>exact wpAny_pure ⟨rfl,rfl⟩
   | some e=>
    obtain ⟨z,t,ek⟩:=hk e (Array.mem_of_getElem? hex)
    dsimp only
    by_cases hh' : (e.hash==hh)=true
    ·rw[if_pos hh']
     rw[ek]
     refine wpAny_bind (wpAny_dictEpoch ho hd (wpAny_bind (heq z t _ (wpAny_bind (wpAny_dictEpoch ho hd ?_)))))
     show wpAny _ _ (if (ep != ep)=true then _ else _) _ E _
     rw[if_neg (by simp)]
     simp only[false_eq_true,if_false]
     refine wpAny_bind (wpAny_rule ?_)
     first | rw[if_neg (by simp)] | skip
     first
      | exact wpAny_pure ⟨rfl,rfl⟩
      | exact wpAny_bind (wpAny_pure (wpAny_pure ⟨rfl,rfl⟩))
    ·rw[if_neg hh']
     exact wpAny_pure ⟨rfl,rfl⟩
  ·rintro b s' ⟨rfl,rfl⟩
   exact wpAny_pure h)
theorem zjJ {d a:Addr}{o:Obj}{es:Array DictEntry}{ep:Nat}{ks:List Key}{Q:Value->Shared->Prop}(hu:A.units+1<cLine)(hkey:IsTupleKey (Jd prog w) s.heap ks a)(ho:s.heap.get? d=some o)(hc:o.cls = .type "dict")(hd:o.data = .dict es ep)(hs:(d==sysModules)=false)
  (hk:∀ e∈es,∃ x t,e.key = .str x t) (heq:∀ (x:Str) (t:Tok) (s' : Shared),s'.heap=s.heap->SeqAt.EqAt A.in1 s' (.str x t) (.ref a) false) (h:Q (.bool false) { s with toks:=s.toks+(ks.length+1) }):wpAny (model prog w) A (compareOp .In (.ref a) (.ref d)) Q E s:=by
 have hty:s.TypeIs (.ref d) "dict" := ⟨o,ho,hc⟩
 show wpAny _ _ (do return .bool (← contains (.ref d) (.ref a))) Q E s
 refine wpAny_bind ?_
 unfold contains
 try with_reducible refine wpAny_holding ?_
 refine wpAny_bind (wpAny_specialOf hty slot_dict_contains.lookup ?_)
 show wpAny _ _ (if (some (Value.builtin "dict.__contains__")==some Value.none)=true then _ else _) _ E s
 rw[if_neg (by rw[beq_builtin_none];exact Bool.false_ne_true)]
 refine wpAny_bind (wpAny_callSpecialUnlessNone?_slot (name:=Str.ofString "__contains__") hty slot_dict_contains
  (wpAny_call_entry slot_dict_contains hty entry_dict_contains ?_ (args_dict_contains _ _)))
 show wpAny _ _ (dictGet d (.ref a) >>= _) _ _ s
 refine wpAny_bind ?_
 unfold dictGet
 try with_reducible refine wpAny_holding ?_
 refine wpAny_bind (wpAny_pyHash_tuple (knd:=Jd prog w) (A:=A.in1) (show A.units+1<cLine from hu) hkey (wpAny_bind (zfO (s:={ s with toks:=s.toks+(ks.length+1) }) ho hd hk (λQ h=>wpAny_eqIsQuiet_tuple (knd:=Jd prog w) hkey h) (λx t Q h=>heq x t { s with toks:=s.toks+(ks.length+1) } rfl prog w _ Q h) ?_)))
 refine wpAny_pure ?_
 show wpAny _ _ (Builtin.Dict.pendingKey? d (.ref a) >>= _) _ _ _
 exact wpAny_bind (wpAny_pendingKey_other hs (wpAny_pure ⟨_,rfl,wpAny_truthy_bool (wpAny_pure h)⟩))
end
section
variable {X:Cx}
def zja (K:PySem.W.Frag)(P:Params):R2:=λx y H Q=>∃ a g,y = .ref a/\zaU K P a g/\((∃ z,x = .str z/\Q (.bl (g z).isSome) H)\/∃ (p:Addr) (b c:Int),x = .ref p/\SqT K H p [.int b,.int c]/\Q (.bl false) H)
theorem zgi (hu:X.A.units+64<cLine):OpR X (compareOp .In) (zja X.K X.w.params):=by
 intro pins s σ H x y v u Q I rx ry h
 obtain ⟨a,g,rfl,D,h⟩:=h
 rcases h with ⟨z,rfl,q⟩ | ⟨p,b,c,rfl,hp,q⟩
 ·exact zhR pins s σ H _ _ v u Q I rx ry ⟨z,a,g,rfl,rfl,D,q⟩
 ·cases rx
  cases ry
  obtain ⟨es,n,hl,hk⟩:=D.ex
  obtain ⟨its,rv,pt,hz⟩:=I.tuple hp
  obtain ⟨o,ho,hc,nn,hdt⟩:=id pt
  have hia:ItemsAre (Jd X.prog X.w) [.inl b,.inl c] its:=by
   cases rv with
   | cons r1 r2=>cases r2 with
    | cons r2 r3=>cases r3;exact .cons (zhx (k:=.inl b) r1) (.cons (zhx (k:=.inl c) r2) .nil)
  refine zjJ (by omega) (ks:=[.inl b,.inl c]) ⟨o,its.toArray,nn,ho,hc,hdt,by simpa using hia⟩ (I.mod.kin.keeps I.bk _ _ hl) rfl rfl D.lo (λe he=>?_) (λx t s' hs' => ?_) ⟨.bl false,H,I.tok _,rfl,q⟩
  ·obtain ⟨x,t,e1,_⟩:=hk.all e (mem_toList_iff.mpr he)
   exact ⟨x,t,e1⟩
  ·refine SeqAt.EqAt.str_tuple (items:=its.toArray) x t (hs'.symm ▸ pt) ?_
   show X.A.units+1<cLine
   omega
end
end L2
namespace HT
open PySem PySem.Spec PyProof.Rows
section
variable {prog:Program}{w:World}{A:Around}{E:Value->Shared->Prop}{s:Shared}
theorem Qz {t sl:Addr}{items:Array Value}{vl vu:Value}{lo hi:Option Int}{Q:Value->Shared->Prop}(ht:IsTup s.heap t items)(hs:s.heap.IsSliceOf sl vl vu .none)(pl:IsPart vl lo)(pu:IsPart vu hi)
  (hw:sIx items.size 0 lo=0/\sIx items.size items.size hi=items.size) (h:Q (.ref t) s):wpAny (model prog w) A (getItem (.ref t) (.ref sl)) Q E s:=by
 obtain ⟨os,hos,hcs,hds⟩:=id hs
 have hTs:s.TypeIs (.ref sl) "slice" := ⟨os,hos,hcs⟩
 unfold getItem
 try with_reducible refine wpAny_holding ?_
 first | refine wpAny_bind (wpAny_pure ?_) | skip
 refine wpAny_bind (wpAny_sequenceKey ht.typeIs (by decide) ?_)
 refine wpAny_bind (wpAny_callSpecial?_slot (name:=Str.ofString "__getitem__") ht.typeIs PyProof.Rows.slot_tuple_getitem
  (wpAny_call_entry PyProof.Rows.slot_tuple_getitem ht.typeIs entry_tuple_getitem ?_ (args_tuple_getitem _ _)))
 show wpAny _ _ (Builtin.Tuple.tupleItemsOf (.ref t) >>= _) _ _ s
 refine wpAny_bind (tupleItemsOf_ ht ?_)
 refine wpAny_bind (wpAny_typeOf hTs ?_)
 rw[if_pos (by decide)]
 refine wpAny_bind (Jf hs pl pu ?_)
 have hyes:(((sIx items.size 0 lo:Nat):Int)==0&&(1:Int)==1&&(sIx items.size items.size hi-sIx items.size 0 lo)==items.size)=true:=by
  rw[hw.1,hw.2];simp
 show wpAny _ _ (if (((sIx items.size 0 lo:Nat):Int)==0&&(1:Int)==1&&(sIx items.size items.size hi-sIx items.size 0 lo)==items.size)=true then _ else _) _ _ s
 rw[if_pos hyes]
 refine wpAny_bind (m:=Builtin.Tuple.tupleIsExact (.ref t)) ?_
 unfold Builtin.Tuple.tupleIsExact
 refine wpAny_bind (wpAny_typeOf ht.typeIs (wpAny_pure ?_))
 rw[if_pos (by decide)]
 refine wpAny_bind (wpAny_rule ?_)
 first
  | exact wpAny_pure ⟨_,rfl,wpAny_pure h⟩
  | exact wpAny_bind (wpAny_pure (wpAny_pure ⟨_,rfl,wpAny_pure h⟩))
end
end HT
namespace L2
open PySem PySem.Spec PyProof.Rows
section
variable {X:Cx}{K:PySem.W.Frag}
def zen (K:PySem.W.Frag):V->Option Int->Option Int->Hp->VK->Prop:=λx lo hi H Q=>∃ a xs,x = .ref a/\SqT K H a xs/\
 ((HT.sIx xs.length 0 lo=0/\HT.sIx xs.length xs.length hi=xs.length)->Q (.ref a) H)/\(¬ (HT.sIx xs.length 0 lo=0/\HT.sIx xs.length xs.length hi=xs.length)->∀ p,H p=none->Q (.ref p) (upd H p (.tup (zcA xs lo hi))))
theorem zcI (e:X.K=K):SlR X (zen K):=by
 subst e
 intro pins s σ H x v vl vu lo hi sl Q I rx hs pl pu h
 obtain ⟨a,xs,rfl,hx,q1,q2⟩:=h
 by_cases hw:HT.sIx xs.length 0 lo=0/\HT.sIx xs.length xs.length hi=xs.length
 ·cases rx
  obtain ⟨its,r,ht,hz⟩:=I.tuple hx
  have hlen:its.toArray.size=xs.length:=by rw[size_toArray];exact r.length.symm
  exact ⟨"tuple",_,PyProof.Rows.slot_tuple_getitem.lookup,ht.typeIs,HT.Qz ht hs pl pu (by rw[hlen];exact hw) ⟨.ref a,H,I,rfl,q1 hw⟩⟩
 ·exact zg9 pins s σ H _ v vl vu lo hi sl Q I rx hs pl pu ⟨a,xs,rfl,hx,hw,q2 hw⟩
theorem zil {σ:St}{G:Hp}{te:TE}{tl th:TO}{ds:List PyData}{lo hi:Option Int}(h:Ev K te σ G (.tuple ds))(hl:∀ H (Q:Option Int->Hp->Prop),Q lo H->tl σ H Q)(hh:∀ H (Q:Option Int->Hp->Prop),Q hi H->th σ H Q):
  Ev K (tSl (zen K) te tl th) σ G (.tuple ((ds.drop (HT.sIx ds.length 0 lo)).take (HT.sIx ds.length ds.length hi-HT.sIx ds.length 0 lo))):=
 λG1 H s1 s2 Q k=>h G1 H s1 s2 _ λv G2 H2 g2 hv=>by
  obtain ⟨p,xs,rfl,hp,hxs⟩:=hv.tup
  have hlen:=hxs.length
  refine hl _ _ (hh _ _ ⟨p,xs,rfl,g2.gh.tup hp,λhw=>?_,λhw q hq=>?_⟩)
  ·refine k _ _ _ g2 ?_
   rw[hlen] at hw
   rw[hw.1,hw.2,drop_zero,Nat.sub_zero,take_of_length_le (Nat.le_refl _)]
   exact Xr hp hxs
  ·have g:=Yw (o:=.tup (zcA xs lo hi)) g2.gh hq
   refine k _ _ _ (g2.trans g) (Xr (SqT.of Zy) ?_)
   have q:=Jp (HT.sIx ds.length ds.length hi-HT.sIx ds.length 0 lo) (Jo (HT.sIx ds.length 0 lo) (hxs.same g.gg))
   rw[← hlen] at q ⊢
   exact q
theorem zfi {σ:St}{G:Hp}{te:TE}{tl th:TO}{ds:List PyData}{lo hi:Option Int}(h:Ev K te σ G (.list ds))(hl:∀ H (Q:Option Int->Hp->Prop),Q lo H->tl σ H Q)(hh:∀ H (Q:Option Int->Hp->Prop),Q hi H->th σ H Q):
  Ev K (tSl (zg7 K) te tl th) σ G (.list ((ds.drop (HT.sIx ds.length 0 lo)).take (HT.sIx ds.length ds.length hi-HT.sIx ds.length 0 lo))):=
 λG1 H s1 s2 Q k=>h G1 H s1 s2 _ λv G2 H2 g2 hv=>by
  obtain ⟨p,xs,rfl,hp,hxs⟩:=hv.lst
  have hlen:=hxs.length
  refine hl _ _ (hh _ _ ⟨p,xs,rfl,SqL.of (g2.gh _ _ hp),λq hq=>?_⟩)
  have g:=Yw (o:=.lst (zcA xs lo hi)) g2.gh hq
  refine k _ _ _ (g2.trans g) (YX Zy ?_)
  have q:=Jp (HT.sIx ds.length ds.length hi-HT.sIx ds.length 0 lo) (Jo (HT.sIx ds.length 0 lo) (hxs.same g.gg))
  rw[← hlen] at q ⊢
  exact q
end
section
variable {K:PySem.W.Frag}{σ:St}{G:Hp}{ta tb:TE}
theorem zgy {t:TA}{b:Bool}(h:EvA K t σ G [.bool b]):Ev K (tCB (λxs H Q=>(∃ i,xs=[.int i]/\Q (.int i) H)\/∃ k,xs=[.bl k]/\Q (.int (if k then 1 else 0)) H) t) σ G (.int (if b then 1 else 0)):=
 zcx h λG1 H xs Q s1 s2 hx k=>by
  obtain ⟨y,r,rfl,hy,hr⟩:=hx.cons
  cases hr.nil
  cases hy.bl
  exact .inr ⟨b,rfl,k _ G1 H (Yt.refl s2) (Zx _)⟩
end
theorem zec {x:Str}(h:∀ c∈x.cps.toList,c<128):PyData.canLay0 (.str x)=true:=by
 unfold PyData.canLay0 PyData.strOk
 rw[Array.all_eq_true']
 intro c hc
 have:=h c (mem_toList_iff.mpr hc)
 simp;omega
theorem zcS {n:Nat}{x:Str}(h:∀ c∈x.cps.toList,c<128):Pl n (.str x):=⟨zec h,by unfold PyData.depth;omega,by unfold noBool;rfl⟩
structure Xh (fr sc:Scope)(ps cap:List Str):Prop where
 kind:sc.kind = .function
 co:sc.isCoroutine=false
 gen:sc.isGenerator=false
 cell:∀ p∈sc.names,p.2≠.cell
 par:∀ y∈ps,sc.names.lookup y=some .local
 free:∀ p∈sc.names,p.2 = .free->fr.names.lookup p.1=some .cell
 caps:∀ y∈cap,(y,NameKind.free)∈sc.names
 capl:∀ y∈cap,sc.names.lookup y=some .free
 nd:(ps++cap).Nodup
def Ug (H:Hp)(f:Addr)(q:Str)(params:Arguments)(body:Expr)(sc:Scope)(cl:List (Str×Addr)):Prop:=
 ∃ (pm ctv:Value) (c' : Addr) (oc:Obj),H f=some (.frz (kla_obj "<lambda>" q params body sc cl pm c' ctv) (.own f))/\H c'=some (.frz oc (.own c'))/\zbC oc q
structure CellsAre (s:Shared)(H:Hp)(cl:List (Str×Addr))(cap:List Str)(vals:St):Prop where
 inj:∀ x y c,cl.lookup x=some c->cl.lookup y=some c->x=y
 isc:∀ x c,cl.lookup x=some c->(∃ v,s.heap.IsCell c v)/\H c=none
 val:∀ (i:Nat) (y:Str) (v:V),cap[i]?=some y->vals[i]?=some (some v)->∃ c u,cl.lookup y=some c/\s.heap.IsCell c (some u)/\RelV v u
theorem Vy {P:Program}{w:World}{H:Hp}{h:Heap}{c:Addr}{oc:Obj}{q:Str}(ok:HOk P w H h)(e:H c=some (.frz oc (.own c)))(hc:zbC oc q):h.CodeRec (.ref c) q:=by
 obtain ⟨e1,_⟩:=ok c _ e
 obtain ⟨vs,t,d1,d2⟩:=hc
 exact ⟨c,oc,vs,t,rfl,e1,d1,d2⟩
theorem CellsAre.un {s s' : Shared}{H H' : Hp}{cl:List (Str×Addr)}{cap:List Str}{vals:St}{fs:List Addr}(C:CellsAre s H cl cap vals)(u:Un fs [] H H' s.heap s'.heap):CellsAre s' H' cl cap vals:=by
 have kc:∀ c v,H c=none->s.heap.IsCell c v->s'.heap.IsCell c v:=λc v n ⟨o,ho,hd⟩=>by
  obtain ⟨sl,e⟩:=u.any ho n (by simp)
  exact ⟨_,e,hd⟩
 refine ⟨C.inj,λx c h=>?_,λi y v h1 h2=>?_⟩
 ·obtain ⟨⟨v,hv⟩,n⟩:=C.isc x c h
  obtain ⟨o,ho,hd⟩:=id hv
  exact ⟨⟨v,kc c v n hv⟩,u.free c o ho n (by simp)⟩
 ·obtain ⟨c,w,e1,e2,r⟩:=C.val i y v h1 h2
  exact ⟨c,w,e1,kc c _ (C.isc y c e1).2 e2,r⟩
theorem Ug.same {H H' : Hp}{f:Addr}{q:Str}{params:Arguments}{body:Expr}{sc:Scope}{cl:List (Str×Addr)}(L:Ug H f q params body sc cl)(k:∀ b o u,H b=some (.frz o u)->H' b=some (.frz o u)):Ug H' f q params body sc cl:=
 let ⟨pm,ctv,c',oc,h1,h2,h3⟩:=L;⟨pm,ctv,c',oc,k _ _ _ h1,k _ _ _ h2,h3⟩
theorem lookup_mem {α:Type}{y:Str}{u:α}:∀ {l:List (Str×α)},(l.map (·.1)).Nodup->(y,u)∈l->l.lookup y=some u
 | [],_,h=>by simp at h
 | (z,v)::l,nd,h=>by
  rw[lookup_cons]
  rw[map_cons,nodup_cons] at nd
  rcases mem_cons.mp h with e | h
  ·cases e;simp
  ·have:y≠z:=λe=>nd.1 (e ▸ List.mem_map_of_mem (f:=(·.1)) h)
   have hb:(y==z)=false:=by simpa using this
   rw[hb]
   exact lookup_mem nd.2 h
theorem zdq {α β:Type}:∀ (l:List α) (m:List β),(l.zip m).map (·.1)=l.take m.length
 | [],_=>by simp
 | _::_,[]=>by simp
 | a::l,b::m=>by
  rw[List.zip_cons_cons,map_cons,length_cons,List.take_succ_cons,zdq l m]
theorem zcy {α:Type}{ps:List Str}{us:List α}{i:Nat}{y:Str}{u:α}(nd:ps.Nodup)(hp:ps[i]?=some y)(hu:us[i]?=some u):(ps.zip us).reverse.lookup y=some u:=by
 refine lookup_mem ?_ ?_
 ·rw[List.map_reverse]
  refine (List.reverse_perm _).nodup_iff.mpr ?_
  rw[zdq]
  exact nd.sublist (List.take_sublist _ _)
 ·rw[List.mem_reverse]
  refine List.mem_of_getElem? (i:=i) ?_
  rw[List.getElem?_zip_eq_some]
  exact ⟨hp,hu⟩
noncomputable def zco (P:Program) (w:World) (K:PySem.W.Frag) (mg:Str->Option Value) (base:Heap) (N:List Str) (q:Str) (sc:Scope) (f c' : Addr) (cl:List (Str×Addr)) (A:Around) (outer:List Env) (s:Shared) (H:Hp):Cx where
 prog:=P
 w:=w
 K:=K
 mg:=mg
 base:=base
 A:=A.deeper (PySem.W.envX q sc s.heap.objs.size f (.ref c') cl)
 N:=N
 s₀:=s
 H₀:=H
 env:=PySem.W.envX q sc s.heap.objs.size f (.ref c') cl
 outer:=outer
 stack:=PySem.W.envX q sc s.heap.objs.size f (.ref c') cl::outer
 ex:=[]
 calm:=true
 fn:=λ_=>false
 pn:=[]
 xe:=λ_ _=>False
section
variable {P:Program}{w:World}{K:PySem.W.Frag}{mg:Str->Option Value}{base:Heap}{A:Around}{outer:List Env}{s:Shared}{H:Hp}{f:Addr}{q:Str}{params:Arguments}{body:Expr}{fr sc:Scope}{cl:List (Str×Addr)}{ps cap:List Str}
theorem zge {c' : Addr}{us:List Value}{vs:List V}{vals:St}{h₁:Heap}{tk:Nat}(S:Xh fr sc ps cap)(hcap:∀ y,sc.names.lookup y=some .free->∃ c,cl.lookup y=some c)(hd:A.handled=none)(e0:zds P w K mg base A outer s H)(hl:vs.length=ps.length)(hv:vals.length=cap.length)(r:Vals vs us)(C:CellsAre s H cl cap vals)
  (hns:h₁.Ns s.heap.objs.size (λx=>(ps.zip us).reverse.lookup x)) (hk:∀ b o,s.heap.get? b=some o->h₁.get? b=some o):
  Inv (zco P w K mg base (ps++cap) q sc f c' cl A outer s H) [] (vs.map some++vals) H { s with heap:=h₁,toks:=tk }:=by
 have noA:∀ b:Addr,b∉(zco P w K mg base (ps++cap) q sc f c' cl A outer s H).ex:=λb z=>absurd (show b∈([]:List Addr) from z) (by simp)
 have ndp:ps.Nodup:=(nodup_append.mp S.nd).1
 refine ⟨⟨e0.mod,S.kind,rfl,rfl,Nat.le_refl _,C.inj,λy hy=>?_,(λy c h=>Bool.noConfusion h),λ_=>hd,frames_deeper e0.frames,.inr ⟨rfl,rfl⟩,λb z=>absurd z (noA b),e0.bs,e0.bsz,λb _ _=>noA b,λb z=>absurd z (noA b),e0.zbO,e0.frf⟩,
  rfl,e0.bare,Un.kept hk,⟨_,hns,λi y v h1 h2 h3=>?_⟩,λy c h=>?_,e0.hok.fresh (Nat.le_refl _),λy c h=>(C.isc y c h).2,λp hp=>absurd (show p∈([]:List (Addr×Obj)) from hp) (by simp),e0.hok.kept hk,?_⟩
 ·have hy:sc.names.lookup y=some .cell\/sc.names.lookup y=some .free:=hy
  rcases hy with hy | hy
  ·exact absurd rfl (S.cell _ (PySem.mem_of_lookup hy))
  ·exact hcap y hy
 ·by_cases hi:i<ps.length
  ·have hp:ps[i]?=some y:=by
    have:(ps++cap)[i]?=some y:=h1
    rw[getElem?_append_left hi] at this;exact this
   have ha:vs[i]?=some v:=by
    rw[getElem?_append_left (by rw[length_map];omega),getElem?_map] at h2
    cases e:vs[i]? with
    | none=>rw[e] at h2;cases h2
    | some a=>rw[e] at h2;cases h2;rfl
   obtain ⟨u,hu,rv⟩:=r.get ha
   refine ⟨u,rv,.inl ⟨S.par y (List.mem_of_getElem? hp),?_⟩⟩
   exact zcy ndp hp hu
  ·have hc:cap[i-ps.length]?=some y:=by
    have:(ps++cap)[i]?=some y:=h1
    rw[getElem?_append_right (by omega)] at this;exact this
   have ha:vals[i-ps.length]?=some (some v):=by
    rw[getElem?_append_right (by rw[length_map];omega),length_map,hl] at h2;exact h2
   obtain ⟨c,u,e1,e2,rv⟩:=C.val _ y v hc ha
   obtain ⟨o,ho,hd'⟩:=e2
   exact ⟨u,rv,.inr ⟨.inr (S.capl y (List.mem_of_getElem? hc)),c,e1,o,hk _ _ ho,hd'⟩⟩
 ·obtain ⟨⟨v,o,ho,hd'⟩,_⟩:=C.isc y c h
  exact ⟨v,o,hk _ _ ho,hd'⟩
 ·show (vs.map some++vals).length=(ps++cap).length
  rw[length_append,length_append,length_map,hl,hv]
theorem zgC {k:Nat}{us:List Value}{vs:List V}{vals:St}{te:TE}{Q:VK}{E:XK}(S:Xh fr sc ps cap)(hcap:∀ y,sc.names.lookup y=some .free->∃ c,cl.lookup y=some c)(hr:Wa (k+1) A)(e0:zds P w K mg base A outer s H)(L:Ug H f q params body sc cl)(C:CellsAre s H cl cap vals)
  (hbind:∀ (pm ctv:Value) (c' : Addr),bindArgs (kla_fn "<lambda>" q params body sc cl pm (.ref c') ctv) ⟨us,[]⟩=pure (ps.zip us)) (hl:vs.length=ps.length) (hv:vals.length=cap.length) (r:Vals vs us)
  (hbody:∀ c',Wa k (A.deeper (PySem.W.envX q sc s.heap.objs.size f (.ref c') cl))->PE (zco P w K mg base (ps++cap) q sc f c' cl A outer s H) body te) (hq:te (vs.map some++vals) H Q):
  codeAny (model P w) A (.call (.ref f) ⟨us,[]⟩) (CR CX0 outer P w H s Q E) s:=by
 obtain ⟨pm,ctv,c',oc,h1,h2,h3⟩:=L
 obtain ⟨ho,_⟩:=e0.hok f _ h1
 have lim:s.heap.NoLimit:=e0.mod.nolimit.keeps λb o e=>(e0.bs b o e).1
 refine PySem.W.kla_callFunE hr.depth ho rfl S.co S.gen rfl (Vy e0.hok h2 h3) ?_
 rw[hbind pm ctv c']
 refine wpAny_pure (wpAny_newFunctionEnv S.cell (λy hy=>S.par y.1 (of_mem_zip hy).1) (λh₁ hns hsb=>⟨lim.fresh _ hsb,?_⟩) S.kind)
 have old1:∀ b u,s.heap.get? b=some u->h₁.get? b=some u:=λb u e=>
  hsb.extBut b u (ne_of_lt (lt_size e)) (get?_push_of_some _ e)
 have I:=zge (tk:=s.toks+(ps.zip us).length) (f:=f) (q:=q) (c' := c') S hcap hr.hd e0 hl hv r C hns old1
 refine PySem.W.kla_codeExpr (wpAny_mono (hbody c' (hr.deeper _) [] _ _ H Q I hq) (λv s' hs=>?_) λe s' z=>z.elim)
 obtain ⟨x,H',J,rv,q'⟩:=hs
 exact ⟨x,H',J.os,J.bare,J.base,J.hok,rv,q'⟩
end
def BM (mg:Str->Option Value)(h:Heap):Prop:=∃ bm ob,mg "__builtins__" = some (.ref bm)/\bm≠builtinsNs/\h.get? bm=some ob/\ob.cls = .type "module" /\ ob.dict=some builtinsNs/\ob.data = .plain
theorem Us {pos pos' : Pos}{c v:Value}:∀ (l:List Value),TriplesOk l->codeAmong pos' (l++[rawInt pos.line,rawInt pos.col,c])=some v->codeAmong pos' l=some v\/(pos'.line=pos.line/\pos'.col=pos.col/\v=c):=by
 intro l h
 fun_induction TriplesOk l
  with
 | case1=>
  intro e
  simp only[List.nil_append,rawInt,codeAmong] at e
  split at e
  ·rename_i hc
   simp at hc
   cases e
   exact .inr ⟨by omega,by omega,rfl⟩
  ·cases e
 | case2 a t b u x rest ih=>
  intro e
  simp only[cons_append,codeAmong] at e ⊢
  split at e
  ·rename_i hc;rw[if_pos hc];exact .inl e
  ·rename_i hc;rw[if_neg hc];exact ih h e
 | case3 l z1 z2=>exact False.elim h
section
variable {X:Cx}{pins:List (Addr×Obj)}{σ:St}{H:Hp}{s:Shared}{sc:Scope}{ps cap:List Str}{P c:Addr}{cr:Nat->Nat->Option Str}{q:Str}{params:Arguments}{body:Expr}{pos:Pos}
theorem Xh.cells (S:Xh X.env.scope sc ps cap)(ok:X.Ok):∀ p∈sc.names,p.2 = .free->∃ c,X.env.cells.lookup p.1=some c:=
 λp hp e=>ok.has p.1 (.inl (S.free p hp e))
theorem Xh.sub (S:Xh X.env.scope sc ps cap)(ok:X.Ok){y:Str}{c:Addr}(h:(Ji X.env sc.names []).lookup y=some c):X.env.cells.lookup y=some c:=
 Vi (S.cells ok) (λ_ _ z=>by simp at z) h
theorem Inv.zeR (I:Inv X pins σ H s)(S:Xh X.env.scope sc ps cap){js:List Nat}(hjs:js.map (λj=>X.N[j]?)=cap.map some):CellsAre s H (Ji X.env sc.names []) cap (Wu σ js):=by
 have ok:=I.ok
 refine ⟨λx y c h1 h2=>ok.inj x y c (S.sub ok h1) (S.sub ok h2),λx c h=>⟨I.cell x c (S.sub ok h),I.freeC x c (S.sub ok h)⟩,λi y v e1 e2=>?_⟩
 have hy:y∈cap:=List.mem_of_getElem? e1
 unfold Wu at e2
 rw[getElem?_map] at e2
 cases ej:js[i]? with
 | none=>rw[ej] at e2;cases e2
 | some j=>
  rw[ej] at e2
  have e2'' : (σ[j]?).join=some v:=Option.some.inj e2
  have eN:X.N[j]?=some y:=by
   have:=congrArg (λl=>l[i]?) hjs
   simp only[getElem?_map,ej,e1,map_some] at this
   exact Option.some.inj this
  have eσ:σ[j]?=some (some v):=by
   cases z:σ[j]? with
   | none=>rw[z] at e2'';cases e2''
   | some w' =>
    rw[z] at e2''
    have:w'=some v:=by simpa using e2''
    rw[this]
  have kc:X.env.scope.names.lookup y=some .cell:=S.free (y,.free) (S.caps y hy) rfl
  obtain ⟨m0,hn0,hl0⟩:=I.loc
  obtain ⟨u,ru,lk⟩:=hl0 j y v eN eσ (.inr (.inl kc))
  rcases lk with ⟨k,_⟩ | ⟨_,c,ec,hc⟩
  ·have k' : X.env.scope.names.lookup y=some .local:=k
   rw[kc] at k';cases k'
  ·obtain ⟨c',hc'⟩:=isSome_iff_exists.mp (W0 (env:=X.env) (acc:=[]) (S.caps y hy))
   have hcc:c'=c:=Option.some.inj ((S.sub ok hc').symm.trans ec)
   subst hcc
   exact ⟨c',u,hc',hc,ru⟩
def zjP (P:Addr)(cr:Nat->Nat->Option Str)(q:Str)(params:Arguments)(body:Expr)(sc:Scope)(cl:List (Str×Addr)):TE:=fun σ H Q=>H P=some (.tbl cr)/\∀ f H',H f=none->ZR H H' -> Ug H' f q params body sc cl->Q (.ref f) H'
theorem ziw (S:Xh X.env.scope sc ps cap)(hcode:X.env.code = .ref c)(C:CodeHd X.base c P)(hbm:BM X.mg X.base)(hq:q=X.env.qual ++ "<lambda>")(hcr:cr pos.line pos.col=some q)(hdef:defaultsOf params X.env=([],[]):=by rfl):
  PE X (.Lambda params body sc pos) (zjP P cr q params body sc (Ji X.env sc.names [])):=by
 intro pins s σ H Q I h
 obtain ⟨hP,h⟩:=h
 refine PySem.W.kla_eval hdef ?_
 rw[← hq]
 obtain ⟨tb,hget,ht3,hcodes⟩:=I.hok P _ hP
 have hg:s.heap.Ns mainGlobals X.mg:=I.mod.glob.keeps I.bk
 have hgP:mainGlobals≠P:=λz=>by
  obtain ⟨o,es,ep,e,hd,_⟩:=hg
  rw[z,hget] at e;cases e;cases hd
 have hb:s.heap.BuiltinsAt X.mg P:=by
  obtain ⟨bm,ob,b1,b2,b3,b4,b5,b6⟩:=hbm
  have e:=I.bk _ _ b3
  refine ⟨bm,ob,b1,b2,λz=>?_,λz=>?_,e,b4,b5,b6⟩
  ·obtain ⟨o,es,ep,e',hd,_⟩:=hg
   rw[← z,e] at e';cases e';rw[b6] at hd;cases hd
  ·rw[z,hget] at e;cases e;cases b4
 have hcl:closureFor sc X.env=pure (Ji X.env sc.names []):=XS (S.cells I.ok)
 cases hf:codeAmong pos tb.toList with
 | some cv=>
  obtain ⟨c',oc,q',rfl,e2,e3,e4⟩:=hcodes pos cv hf
  rw[hcr] at e2;cases e2
  refine PySem.W.kla_makeFunctionHit hcl I.ok.glob hg hcode (C.keeps I.bk) hget ht3 hf hb λctv h' tk hk hsz=>?_
  have hfr:H h'.objs.size=none:=I.hok.fresh hsz
  refine ⟨.ref h'.objs.size,upd H h'.objs.size (.frz (kla_obj "<lambda>" q params body sc (Ji X.env sc.names []) ((X.mg "__name__").getD .none) c' ctv) (.own h'.objs.size)),I.laid (t' := tk) (λb u e=>get?_push_of_some _ (hk b u e)) hsz ⟨get?_push_size _ rfl,_,get?_push_size _ rfl⟩,rfl,h _ _ hfr (λb u e=>by rw[ZC (ZM e hfr)];exact e) ⟨_,_,c',oc,Zy,?_,e4⟩⟩
  rw[ZC (ZM e3 hfr)];exact e3
 | none=>
  refine PySem.W.kla_makeFunction hcl I.ok.glob hg hcode (C.keeps I.bk) hget ht3 hf hgP hb λc' ctv h' tk hx hge hlt hrec htb=>?_
  obtain ⟨c2,oc,vs,tt,e2,hoc,hd,hv⟩:=hrec
  cases e2
  have hcn:H c'=none:=I.hok.fresh hge
  have hsz:s.heap.objs.size<=h'.objs.size:=le_of_lt (lt_of_le_of_lt hge hlt)
  have hfr:H h'.objs.size=none:=I.hok.fresh hsz
  have hcf:c' ≠ h'.objs.size:=ne_of_lt hlt
  have hPc:P≠c' := ZM hP hcn
  have hPf:P≠h'.objs.size:=ZM hP hfr
  have sm:∀ b u,H b=some u->upd (upd H c' (.frz oc (.own c'))) h'.objs.size (.frz (kla_obj "<lambda>" q params body sc (Ji X.env sc.names []) ((X.mg "__name__").getD .none) c' ctv) (.own h'.objs.size)) b=some u:=λb u e=>by
   rw[ZC (ZM e hfr),ZC (ZM e hcn)];exact e
  have cc:upd (upd H c' (.frz oc (.own c'))) h'.objs.size (.frz (kla_obj "<lambda>" q params body sc (Ji X.env sc.names []) ((X.mg "__name__").getD .none) c' ctv) (.own h'.objs.size)) c'=some (.frz oc (.own c')):=by
   rw[ZC hcf,Zy]
  have hk:∀ b o,b≠P->s.heap.get? b=some o->(h'.push (kla_obj "<lambda>" q params body sc (Ji X.env sc.names []) ((X.mg "__name__").getD .none) c' ctv)).get? b=some o:=λb o hb e=>get?_push_of_some _ (hx b o hb e)
  refine ⟨.ref h'.objs.size,_,I.un (t' := tk) ⟨λb o e n _ _=>hk b o (λz=>by rw[z,hP] at n;cases n) e,λb o e n _ _=>⟨o.slots,hk b o (λz=>by rw[z,hP] at n;cases n) e⟩,λb o e n _=>?_,λb o e _=>?_,λb xs e=>sm b _ e,λb o u e=>sm b _ e,λb r e=>sm b _ e⟩ ?_,rfl,h _ _ hfr sm ⟨_,_,c',oc,Zy,cc,vs,tt,hd,hv⟩⟩
  ·have h1:b≠c' := ne_of_lt (Nat.lt_of_lt_of_le (lt_size e) hge)
   have h2:b≠h'.objs.size:=ne_of_lt (Nat.lt_of_lt_of_le (lt_size e) hsz)
   rw[ZC h2,ZC h1];exact n
  ·by_cases hb:b=P
   ·subst hb;exact ⟨_,get?_push_of_some _ htb⟩
   ·exact ⟨o,hk b o hb e⟩
  ·intro b u e
   by_cases h1:b=h'.objs.size
   ·subst h1
    rw[Zy] at e;cases e
    exact ⟨get?_push_size _ rfl,_,get?_push_size _ rfl⟩
   ·by_cases h2:b=c'
    ·subst h2
     rw[cc] at e;cases e
     exact ⟨get?_push_of_some _ hoc,_,get?_push_of_some _ hoc⟩
    ·rw[ZC h1,ZC h2] at e
     by_cases h3:b=P
     ·subst h3
      rw[hP] at e;cases e
      refine ⟨_,get?_push_of_some _ htb,?_,λpos' v e=>?_⟩
      ·rw[toList_append];exact TriplesOk_snoc _ _ _ _ ht3
      ·rw[toList_append] at e
       rcases Us (pos:=pos) tb.toList ht3 e with e | ⟨e1,e2,rfl⟩
       ·obtain ⟨d,od,q',z1,z2,z3,z4⟩:=hcodes pos' v e
        exact ⟨d,od,q',z1,z2,sm _ _ z3,z4⟩
       ·exact ⟨c',oc,q,rfl,by rw[e1,e2];exact hcr,cc,vs,tt,hd,hv⟩
     ·refine (I.hok b u e).stay (λd v hd' e' => hk d v ?_ e') (λd e' => sm d _ e') (λd xs e' => sm d _ e') λd o' u' e' => sm d _ e'
      rintro rfl
      rcases hd' with z | z
      ·exact h3 z.symm
      ·rw[hP] at z;cases z
end
abbrev SpS:=Shared->List V->Hp->VK->Prop
structure V5 (P:Program)(w:World)(K:PySem.W.Frag)(mg:Str->Option Value)(base:Heap)(k:Nat)(f:Addr)(fd:FuncData)(ps:List Str)(sp:SpS):Prop where
 len:∀ s vs H Q,sp s vs H Q->vs.length=ps.length
 run:∀ (A:Around) (outer:List Env) (s:Shared) (H:Hp) (args:Args) (us:List Value) (vs:List V) (Q:VK),Wa k A->zds P w K mg base A outer s H->BindsTo s fd args (ps.zip us)->Vals vs us->sp s vs H Q->
  codeAny (model P w) A (.call (.ref f) args) (CR CX0 outer P w H s Q E0) s
theorem ziG {P:Program}{w:World}{K:PySem.W.Frag}{mg:Str->Option Value}{base:Heap}{k:Nat}{f:Addr}{name qual:Str}{params:Arguments}{body:List Stmt}{scope:Scope}{dV kV doc pm cdv ct oc:Value}{an od:Option Addr}
  {osl:Array (Option Value)}{N ps:List Str}{sp:SpS}(lk:K.lookup f=some ⟨oc,od,.func (PySem.W.fnOf name qual params body scope dV kV doc pm an cdv ct),osl⟩) (hcd:codeIn K cdv qual=true) (S:ZP N ps scope)
  (len:∀ s vs H Q,sp s vs H Q->vs.length=ps.length)
  (hbody:∀ (A:Around) (outer:List Env) (s:Shared) (H:Hp) (vs:List V) (Q:VK),Wa k (A.deeper (envOfC qual scope s.heap.objs.size f cdv))->sp s vs H Q->
   ∃ t,PSs (Uw CX0 P w K mg base N qual scope f cdv A outer s H E0) body t/\t { nx:=λ_ H' => Q .non H',rt:=Q } (start N vs) H):
  V5 P w K mg base (k+1) f (PySem.W.fnOf name qual params body scope dV kV doc pm an cdv ct) ps sp:=by
 refine ⟨len,λA outer s H args us vs Q hr e0 hb r hsp=>?_⟩
 have hl:=len _ _ _ _ hsp
 have KX:K.In s.heap:=e0.mod.kin.keeps λb o e=>(e0.bs b o e).1
 have lim:s.heap.NoLimit:=e0.mod.nolimit.keeps λb o e=>(e0.bs b o e).1
 have hkind:∀ y∈ps.zip us,scope.names.lookup y.1=some .local\/(scope.names.lookup y.1=some .cell/\((cellsFrom (s.heap.objs.size+1) scope.names []).lookup y.1).isSome=true):=λ⟨n,v⟩ hy=>by
  rcases S.par n (of_mem_zip hy).1 with q | q
  ·exact .inl q
  ·exact .inr ⟨q,cellsFrom_some _ _ _ (.inl q)⟩
 refine codeAny_call_function hr.depth (KX _ _ lk) rfl S.co S.gen rfl (codeRec_of KX hcd) (hb _ _ _ _ ?_)
 refine wpAny_newFunctionEnv_cells S.kind hkind λenv he s1 x=>?_
 subst he
 refine ⟨lim.keeps x.toInCall.keep,codeAny_func ?_⟩
 obtain ⟨t,ht,hq⟩:=hbody A outer s H vs Q (hr.deeper _) hsp
 have I:Inv (Uw CX0 P w K mg base N qual scope f cdv A outer s H E0) [] (start N vs) H s1:=zaw S hr.hd e0 hl r x
 refine wpAny_mono (ht [] s1 (start N vs) H _ I hq) (λfl s' hs=>?_) λe s' hs=>hs
 have fin:∀ {σ' : St} {H' : Hp} {v:V}{u:Value},Inv (Uw CX0 P w K mg base N qual scope f cdv A outer s H E0) [] σ' H' s' -> RelV v u->Q v H' -> CE outer P w H s Q u s' :=
  λ{σ' H' v u} J rv q=>⟨v,H',J.os,J.bare,J.base,J.hok,rv,q⟩
 cases fl with
 | ret u=>
  obtain ⟨v,σ',H',J,rv,q⟩:=hs
  exact fin J rv q
 | next=>
  obtain ⟨σ',H',J,q⟩:=hs
  exact fin (v:=V.non) (u:=Value.none) J rfl q
 | brk=>
  obtain ⟨_,_,_,q⟩:=hs
  exact False.elim q
 | cont=>
  obtain ⟨_,_,_,q⟩:=hs
  exact False.elim q
section
variable {P:Program}{w:World}{K:PySem.W.Frag}{mg:Str->Option Value}{base:Heap}
theorem Fun.okS {x qual:Str}{st:Stmt}{f:Addr}{fd:FuncData}{N ps:List Str}{k:Nat}{sp:SpS}(F:Fun K x qual st f fd)(S:ZP N ps (Zj st))(len:∀ s vs H Q,sp s vs H Q->vs.length=ps.length)
  (hbody:∀ (cdv:Value) (A:Around) (outer:List Env) (s:Shared) (H:Hp) (vs:List V) (Q:VK),Wa k (A.deeper (envOfC qual (Zj st) s.heap.objs.size f cdv))->sp s vs H Q->
   ∃ t,PSs (Uw CX0 P w K mg base N qual (Zj st) f cdv A outer s H E0).nox (Z5 st) t/\t { nx:=λ_ H' => Q .non H',rt:=Q } (start N vs) H):V5 P w K mg base (k+1) f fd ps sp:=by
 obtain ⟨oc,od,kV,doc,pm,an,cdv,ct,osl,rfl,lk,hcd⟩:=F.ex
 refine ziG lk hcd S len λA outer s H vs Q hr hsp=>?_
 obtain ⟨t,h,q⟩:=hbody cdv A outer s H vs Q hr hsp
 exact ⟨t,h.nox,q⟩
theorem Fun.okC {x qual:Str}{st:Stmt}{f:Addr}{fd:FuncData}{N ps:List Str}{k:Nat}{sp:Sp}(F:Fun K x qual st f fd)(S:ZP N ps (Zj st))(len:∀ vs H Q E,sp vs H Q E->vs.length=ps.length)
  (hbody:∀ (cdv:Value) (A:Around) (outer:List Env) (s:Shared) (H:Hp) (vs:List V) (Q:VK) (E:XK),cdv=fd.code->Wa k (A.deeper (envOfC qual (Zj st) s.heap.objs.size f cdv))->sp vs H Q E->
   ∃ t,PSs (Uw CX0 P w K mg base N qual (Zj st) f cdv A outer s H E).nox (Z5 st) t/\t { nx:=λ_ H' => Q .non H',rt:=Q } (start N vs) H):QS P w K mg base CX0 (k+1) f fd ps sp:=by
 obtain ⟨oc,od,kV,doc,pm,an,cdv,ct,osl,rfl,lk,hcd⟩:=F.ex
 refine zhT lk hcd S len λA outer s H vs Q E hr hsp=>?_
 obtain ⟨t,h,q⟩:=hbody cdv A outer s H vs Q E rfl hr hsp
 exact ⟨t,h.nox,q⟩
end
section
variable {X:Cx}{k i:Nat}{x:Str}{f:Addr}{q:Str}{params:Arguments}{body:Expr}{fr sc:Scope}{cl:List (Str×Addr)}{ps cap:List Str}{vals:St}{te:TE}{e:Expr}{es:List Expr}{t:TA}{p pos:Pos}
def zfa (i:Nat)(f:Addr)(te:TE)(vals:St)(n:Nat)(t:TA):TE:=fun σ H Q=>σ[i]?=some (some (.ref f))/\t σ H λvs H1=>vs.length=n/\te (vs.map some++vals) H1 Q
theorem zdd {P:Program}{w:World}{H:Hp}{h:Heap}(ok:HOk P w H h)(L:Ug H f q params body sc cl):PySem.W.FnAt f h:=by
 obtain ⟨pm,ctv,c',oc,h1,_⟩:=L
 obtain ⟨ho,_⟩:=ok f _ h1
 exact ⟨_,_,_,_,ho⟩
theorem zeI (hN:X.N[i]?=some x)(hv:Vis X.env.scope x)(hr:Wa (k+1) X.A)(hex:X.ex=[])(L:Ug X.H₀ f q params body sc cl)(C:CellsAre X.s₀ X.H₀ cl cap vals)(S:Xh fr sc ps cap)(hcap:∀ y,sc.names.lookup y=some .free->∃ c,cl.lookup y=some c)
  (hbind:∀ (us:List Value),us.length=ps.length->∀ (pm ctv:Value) (c' : Addr),bindArgs (kla_fn "<lambda>" q params body sc cl pm (.ref c') ctv) ⟨us,[]⟩=pure (ps.zip us)) (hvl:vals.length=cap.length)
  (hbody:∀ A outer s H f c',Wa k (A.deeper (PySem.W.envX q sc s.heap.objs.size f (.ref c') cl))->PE (zco X.prog X.w X.K X.mg X.base (ps++cap) q sc f c' cl A outer s H) body te) (ha:PA X (e::es) t)
  (hd:(x==("__debug__" : Str))=false:=by decide) (hcd:(x==("__classdict__" : Str))=false:=by decide) (he:starEach (e::es) X.env=(false,eval e X.env)::starEach es X.env:=by rfl) (hpl:(backTo pos (starEach es X.env)).any (·.1)=false:=by rfl):
  PE X (.Call (.Name x p) (e::es) [] pos) (zfa i f te vals ps.length t):=by
 intro pins s σ H Q I h
 obtain ⟨eσ,h⟩:=h
 refine wpAny_Call_Name_kw (thn (zdZ hN hv hd hcd pins s σ H (λv H' => v = .ref f/\H'=H) I ⟨_,eσ,rfl,rfl⟩) λu s1 ⟨v,H1,I1,r,ev,eH⟩=>?_)
 subst ev eH
 obtain rfl:u=Value.ref f:=r
 have un:∀ {pins:List (Addr×Obj)}{σ:St}{H:Hp}{s:Shared},Inv X pins σ H s->Un X.fs [] X.H₀ H X.s₀.heap s.heap:=λ{pins σ H s} J=>by
  have:=J.base
  rw[hex] at this;exact this
 have Lm:∀ {pins:List (Addr×Obj)}{σ:St}{H:Hp}{s:Shared},Inv X pins σ H s->Ug H f q params body sc cl:=λJ=>L.same (un J).frzs
 refine callWith_F (zdd I1.hok (Lm I1)) (thn (ha pos pins s1 σ H1 _ I1 h) λus s2 ⟨vs,H2,I2,rv,hl,hq⟩=>⟨zdd I2.hok (Lm I2),?_⟩) he hpl
 refine wpAny_call (codeAny_mono (zgC (E:=E0) S hcap hr I2.env0 (Lm I2) (C.un (un I2)) (hbind us (by rw[← rv.length];exact hl)) hl hvl rv (λc' hr' => hbody _ _ _ _ _ c' hr') hq) λr s' hq' => ?_)
 cases r with
 | error e=>exact False.elim hq'
 | ok fl=>
  cases fl with
  | ret u=>exact I2.after hq'
  | next=>exact False.elim hq'
  | brk=>exact False.elim hq'
  | cont=>exact False.elim hq'
end
def zjU (K:PySem.W.Frag)(P:Addr)(cr:Nat->Nat->Option Str)(R:List PyData->PyData->Prop):Sp:=λvs H Q _=>∃ (G:Hp) (ds:List PyData) (d:PyData),G P=some (.tbl cr)/\ZR G H/\Yc K G vs ds/\R ds d/\∀ v G' H',Yt G H G' H' -> Dat K G' v d->Q v H'
theorem zeG {K:PySem.W.Frag}{P:Addr}{cr:Nat->Nat->Option Str}{σ:St}{G:Hp}{d:PyData}{R:List PyData->PyData->Prop}{E:XK}{t:TA}{ds:List PyData}(hP:G P=some (.tbl cr))(h:EvA K t σ G ds)(hR:R ds d):Ev K (Jx (zjU K P cr R) [] E t) σ G d:=
 λG1 H s1 s2 Q k=>h G1 H s1 s2 _ λvs G2 H2 g2 hv=>by
  refine ⟨G2,ds,d,g2.gg _ _ (s1 _ _ hP),g2.gh,?_,hR,λv G' H' g hd=>k v G' H' (g2.trans g) hd⟩
  rw[append_nil];exact hv
theorem Qi {β:Type}{a:Addr}{b:β}:∀ {l:List (Addr×β)},l.lookup a=some b->(a,b)∈l
 | [],h=>by simp at h
 | (z,v)::l,h=>by
  rw[lookup_cons] at h
  cases hb:a==z with
  | true=>
   rw[hb] at h
   have:a=z:=by simpa using hb
   cases h;subst this;exact mem_cons_self
  | false=>rw[hb] at h;exact mem_cons_of_mem _ (Qi h)
theorem zbA {β:Type}{a:Addr}{b:β}:∀ {l:List (Addr×β)},(l.map (·.1)).Nodup->(a,b)∈l->l.lookup a=some b
 | [],_,h=>by simp at h
 | (z,v)::l,nd,h=>by
  rw[lookup_cons]
  rw[map_cons,nodup_cons] at nd
  rcases mem_cons.mp h with e | h
  ·cases e;simp
  ·have:a≠z:=λe=>nd.1 (e ▸ List.mem_map_of_mem (f:=(·.1)) h)
   have hb:(a==z)=false:=by simpa using this
   rw[hb]
   exact zbA nd.2 h
structure Bs (K:PySem.W.Frag)(mg:Str->Option Value)(base:Heap):Prop where
 kin:K.In base
 bm:BM mg base
abbrev zfj:=List (Addr×(Nat->Nat->Option Str))
def zaN (H:Hp)(tabs:zfj):Prop:=∀ p∈tabs,H p.1=some (.tbl p.2)
theorem zcW {P:Program}{w:World}{K:PySem.W.Frag}{mg mb:Str->Option Value}{k:Nat}{fa a:Addr}{fd:FuncData}{x:Str}{sp:Sp}{s₁:Shared}{vs:List Value}{ns:List Int}(tabs:zfj)
  (KX:K.In s₁.heap) (hns:s₁.heap.Ns mainGlobals mg) (hb:s₁.heap.Ns builtinsNs mb) (hbb:∀ x:Str,x≠ "__name__" -> mb x=bootBuiltins x) (hlim:s₁.heap.NoLimit) (hg:s₁.gens = #[])
  (ha:s₁.heap.get? a=some { cls:=.type "list",data:=.seq vs.toArray }) (hi:IntsAre vs ns) (hl:ns.length<=sizeLine) (hr:Wa k callerA)
  (hbm:BM mg s₁.heap) (hT:∀ p∈tabs,s₁.heap.get? p.1=some { cls:=.none,data:=.fields #[] }) (hIs:∀ p∈tabs,isCodeTable s₁.heap p.1) (hKt:∀ p∈tabs,K.lookup p.1=none) (hnd:(tabs.map (·.1)).Nodup)
  (F:∀ base:Heap,K.In base->base.Ns mainGlobals mg->Bs K mg base->QS P w K mg base CX0 k fa fd [x] sp) (hbind:∀ (s:Shared) (u:Value),BindsTo s fd ⟨[u],[]⟩ [(x,u)])
  (hsp:∀ H:Hp,zaN H tabs->SqL K H a (ns.map V.int)->sp [.ref a] H (λv _=>v = .bl true) λ_ _ _=>False):
  codeAny (model P w) callerA (.call (.ref fa) ⟨[.ref a],[]⟩) (λr s' => r = .ok (.ret (.bool true))/\OldK s₁.heap s'.heap/\s'.os=s₁.os/\AllBare s'.gens) s₁:=by
 have rv:=zaV hi
 have lenV:=hi.length
 have core:∀ H:Hp,zaN H tabs->SqL K H a (ns.map V.int)->HOk P w H s₁.heap->(∀ b,H b≠none->(b=a/\∃ o xs,H b=some (.frz o (.lst xs)))\/∃ p∈tabs,p.1=b)->(H a≠none->K.lookup a=none)->
   codeAny (model P w) callerA (.call (.ref fa) ⟨[.ref a],[]⟩) (λr s' => r = .ok (.ret (.bool true))/\OldK s₁.heap s'.heap/\s'.os=s₁.os/\AllBare s'.gens) s₁:=by
  intro H hTb hS hok hA hK
  have base_of:∀ {b:Addr}{o:Obj},s₁.heap.get? b=some o->H b=none->(zd4 s₁.heap H).get? b=some o:=λe n=>zeX e n
  have noT:∀ {b:Addr}{o:Obj},s₁.heap.get? b=some o->(∀ vs n,o.data≠.seq vs n)->(∀ vs,o.data≠.fields vs)->H b=none:=λ{b o} e d1 d2=>by
   cases q:H b with
   | none=>rfl
   | some u=>
    rcases hA b (by rw[q];simp) with ⟨e',_⟩ | ⟨p,hp,e'⟩
    ·subst e'
     rw[ha] at e;cases e
     exact absurd rfl (d1 _ _)
    ·subst e'
     rw[hT p hp] at e;cases e
     exact absurd rfl (d2 _)
  have noA:∀ {b:Addr}{o:Obj}{es:Array DictEntry}{ep:Nat},s₁.heap.get? b=some o->o.data = .dict es ep->H b=none:=λ{b o es ep} e d=>noT e (λvs n z=>by rw[d] at z;cases z) λvs z=>by rw[d] at z;cases z
  have nsK:∀ {b:Addr}{m:Str->Option Value},s₁.heap.Ns b m->(zd4 s₁.heap H).Ns b m:=λ{b m} ⟨o,es,ep,e,d,r⟩=>⟨o,es,ep,base_of e (noA e d),d,r⟩
  have hKb:K.In (zd4 s₁.heap H):=λb o e=>base_of (KX b o e) (by
   cases q:H b with
   | none=>rfl
   | some u=>
    rcases hA b (by rw[q];simp) with ⟨e',_⟩ | ⟨p,hp,e'⟩
    ·subst e'
     rw[hK (by rw[q];simp)] at e;cases e
    ·subst e'
     rw[hKt p hp] at e;cases e)
  have hBs:Bs K mg (zd4 s₁.heap H):=⟨hKb,by
   obtain ⟨bm,ob,b1,b2,b3,b4,b5,b6⟩:=hbm
   exact ⟨bm,ob,b1,b2,base_of b3 (noT b3 (λvs n z=>by rw[b6] at z;cases z) λvs z=>by rw[b6] at z;cases z),b4,b5,b6⟩⟩
  have hM:Mod K mg (zd4 s₁.heap H):=⟨hKb,nsK hns,⟨mb,nsK hb,hbb⟩,let ⟨mc,h1,h2⟩:=hlim;⟨mc,nsK h1,h2⟩⟩
  have e0:zds P w K mg (zd4 s₁.heap H) callerA [] s₁ H:=⟨rfl,hM,λb o e=>zf5 e,Nat.le_of_eq (zdl _ _),trivial,λb hb=>absurd (show b∈([]:List Addr) from hb) (by simp),hok,.of_eq hg⟩
  refine codeAny_mono ((F _ hKb (nsK hns) hBs).run callerA [] s₁ H ⟨[.ref a],[]⟩ [.ref a] [.ref a] _ _ hr e0 (hbind s₁ (.ref a)) (.cons rfl .nil) (hsp H hTb hS)) λr s' h=>?_
  cases r with
  | error e=>exact False.elim h
  | ok fl=>
   cases fl with
   | next=>exact False.elim h
   | brk=>exact False.elim h
   | cont=>exact False.elim h
   | ret u=>
    obtain ⟨v,H',os,bare,un,hok',r',q⟩:=h
    have q' : v = .bl true:=q
    subst q'
    obtain rfl:u=Value.bool true:=r'
    refine ⟨rfl,⟨λb o e=>?_,λb o e=>un.there b o e (by simp)⟩,os,bare⟩
    cases q:H b with
    | none=>exact .inl (un.keep b o e q (by intro z;exact absurd (show b∈([]:List Addr) from z) (by simp)) (by simp))
    | some u=>
     rcases hA b (by rw[q];simp) with ⟨e',ob,xs,z⟩ | ⟨p,hp,e'⟩
     ·have z2:=un.frzs b ob _ z
      obtain ⟨e1,_⟩:=hok b _ z
      obtain ⟨e2,_⟩:=hok' b _ z2
      rw[e] at e1;cases e1
      exact .inl e2
     ·subst e'
      have z:=un.tbls _ _ (hTb p hp)
      obtain ⟨ps,e1,_⟩:=hok' _ _ z
      rw[hT p hp] at e;cases e
      exact .inr (.inl ⟨hIs p hp,rfl,#[],ps,rfl,by rw[Array.empty_append];exact e1⟩)
 have hpa:∀ p∈tabs,p.1≠a:=λp hp z=>by
  have:=hT p hp
  rw[z,ha] at this;cases this
 have tl:∀ p∈tabs,tabs.lookup p.1=some p.2:=λp hp=>zbA hnd hp
 have okT:∀ (H:Hp) (b:Addr) (cr:Nat->Nat->Option Str),tabs.lookup b=some cr->X5 P w H s₁.heap b (.tbl cr):=λH b cr e=>
  ⟨#[],hT (b,cr) (Qi e),trivial,λpos v z=>by cases z⟩
 cases hk:K.lookup a with
 | some o=>
  have e:=KX a o hk
  rw[ha] at e
  cases e
  refine core (λb=>(tabs.lookup b).map HO.tbl) (λp hp=>by show (tabs.lookup p.1).map HO.tbl=_;rw[tl p hp];rfl) (.inr ⟨_,vs.toArray,_,hk,rfl,rfl,rfl,by rw[size_toArray,lenV];exact hl,by simpa using rv⟩) (λb u z=>?_) (λb z=>?_) λz=>?_
  ·obtain ⟨cr,e1,e2⟩:=map_eq_some_iff.mp z
   subst e2
   exact okT _ b cr e1
  ·replace z:(tabs.lookup b).map HO.tbl≠none:=z
   cases e:tabs.lookup b with
   | none=>rw[e] at z;exact absurd rfl z
   | some cr=>exact .inr ⟨_,Qi e,rfl⟩
  ·replace z:(tabs.lookup a).map HO.tbl≠none:=z
   cases e:tabs.lookup a with
   | none=>rw[e] at z;exact absurd rfl z
   | some cr=>exact absurd rfl (hpa _ (Qi e))
 | none=>
  refine core (λb=>if b=a then some (.frz { cls:=.type "list",data:=.seq vs.toArray } (.lst (ns.map V.int))) else (tabs.lookup b).map HO.tbl) (λp hp=>?_) (.inl (.inr ⟨{ cls:=.type "list",data:=.seq vs.toArray },if_pos rfl⟩)) (λb u z=>?_) (λb z=>?_) λ_=>hk
  ·show (if p.1=a then _ else (tabs.lookup p.1).map HO.tbl)=_
   rw[if_neg (hpa p hp),tl p hp];rfl
  ·by_cases hb:b=a
   ·have z' := (if_pos hb).symm.trans z
    cases z'
    subst hb
    exact ⟨ha,by rw[length_map];exact hl,vs,_,rv,ha⟩
   ·have z' := (if_neg hb).symm.trans z
    obtain ⟨cr,e1,e2⟩:=map_eq_some_iff.mp z'
    subst e2
    exact okT _ b cr e1
  ·by_cases hb:b=a
   ·exact .inl ⟨hb,_,_,if_pos hb⟩
   ·replace z:(if b=a then _ else (tabs.lookup b).map HO.tbl)≠none:=z
    rw[if_neg hb] at z
    cases e:tabs.lookup b with
    | none=>rw[e] at z;exact absurd rfl z
    | some cr=>exact .inr ⟨_,Qi e,rfl⟩
theorem ze7 {l:PySem.W.OpenLaw}{n k:Nat}{q:Program}{loose:List Str}{XP:(Str->Option Value)->Heap->Prop}{YP:World->Heap->Prop}{d:DefRec}{K:Params->PySem.W.Frag}{sp:World->Sp}{x:Str}(tabs:World->zfj)
  (hn:l.most=some n) (hn2:n<=sizeLine) (hdf:d.params.defaults=[]) (hr:Wa k callerA)
  (hY:∀ (w:World) (h:Heap),YP w h->(K w.params).In h/\∀ p∈tabs w,h.get? p.1=some { cls:=.none,data:=.fields #[] })
  (F:∀ (w:World) (mg:Str->Option Value) (fa:Addr) (h:Heap),(K w.params).In h->h.Ns mainGlobals mg->mg d.name=some (.ref fa)->
   ∃ fd:FuncData,(∀ (s:Shared) (u:Value),BindsTo s fd ⟨[u],[]⟩ [(x,u)])/\((∀ p∈tabs w,(K w.params).lookup p.1=none)/\(∀ p∈tabs w,isCodeTable h p.1)/\((tabs w).map (·.1)).Nodup)/\
    ∀ base:Heap,(K w.params).In base->base.Ns mainGlobals mg->Bs (K w.params) mg base->QS l.prog w (K w.params) mg base CX0 k fa fd [x] (sp w))
  (hsp:∀ (w:World) (H:Hp) (a:Addr) (ns:List Int),ns.length<=n->zaN H (tabs w)->SqL (K w.params) H a (ns.map V.int)->sp w [.ref a] H (λv _=>v = .bl true) λ_ _ _=>False):
  PySem.W.WalkO q loose XP YP l.row.toRowW d [] (λf vs=>PySem.call f vs):=by
 refine Att.za4 hn hdf λw s₀ s₁ mg mb fa o pm cd doc a vs ns G Y ho hd hcd hmg hobj hints hlen hg=>?_
 obtain ⟨KX,hT⟩:=hY w _ Y
 obtain ⟨fd,hb,⟨h1,h2,h3⟩,hF⟩:=F w mg fa _ KX G.T.g hmg
 exact zcW (tabs w) KX G.T.g G.T.b G.T.builtins G.T.nolimit hg hobj hints (le_trans hlen hn2) hr G.T.bmain hT h2 h1 h3 hF hb (λH hO hS=>hsp w H a ns hlen hO hS)
def zav (K:PySem.W.Frag)(tabs:zfj):Sp:=λvs H Q _=>∃ (a:Addr) (ns:List Int),vs=[.ref a]/\SqL K H a (ns.map V.int)/\ns.length<=63/\zaN H tabs/\∀ H',Q (.bl true) H'
theorem zbW {K:PySem.W.Frag}{h:Heap}{c P:Addr}(X:K.In h)(e:codeHdIn K c P=true):isCodeTable h P:=by
 obtain ⟨o,vs,file,tf,flags,tg,inF,text,tt,e1,e2,e3,e4,_⟩:=codeHd_of_K X e
 exact ⟨c,o,vs,e1,e2,e3,e4⟩
theorem W6:∀ (names:List (Str×NameKind)) (n:Nat) (a b:List (Str×Addr)),cellsFrom n names (a++b)=cellsFrom n names a++b
 | [],_,_,_=>rfl
 | (x,k)::r,n,a,b=>by
  unfold cellsFrom
  split
  ·rw[← cons_append];exact W6 r (n+1) _ b
  ·exact W6 r n a b
theorem WK {α:Type}{y:Str}{l m:List (Str×α)}:(l++m).lookup y=(l.lookup y).or (m.lookup y):=by
 induction l with
 | nil=>simp
 | cons p r ih=>
  obtain ⟨z,v⟩:=p
  rw[cons_append,lookup_cons,lookup_cons]
  split
  ·simp
  ·exact ih
theorem Uo {α:Type}{f g:α->PUnit->Sem (ForInStep PUnit)}:∀ (l:List α),(∀ x∈l,f x ⟨⟩=g x ⟨⟩)->forIn l PUnit.unit f=forIn l PUnit.unit g
 | [],_=>rfl
 | x::l,h=>by
  rw[List.forIn_cons,List.forIn_cons,h x mem_cons_self]
  congr 1
  funext r
  cases r with
  | done b=>rfl
  | yield b=>exact Uo l λy hy=>h y (mem_cons_of_mem _ hy)
theorem zcj {e e' : Env}{n:Str}{v:Value}(h1:e.scope=e'.scope)(h2:e.locals=e'.locals)(h3:e.globals=e'.globals)(h4:e.cells.lookup n=e'.cells.lookup n):storeName e n v=storeName e' n v:=by
 unfold storeName
 have k1:e.kindOf n=e'.kindOf n:=by unfold Env.kindOf;rw[h1]
 have k2:e.blockKind=e'.blockKind:=by unfold Env.blockKind;rw[h1]
 have k3:cellOf e n=cellOf e' n:=by unfold cellOf;rw[h4]
 have k4:localSet e n v=localSet e' n v:=by unfold localSet;rw[h2]
 rw[k1,k2,k3,k4,h1,h2,h3]
section
variable {M:Model}{A:Around}{E:Value->Shared->Prop}{s:Shared}
theorem zbm {scope:Scope}{globals:Addr}{cl:List (Str×Addr)}{binds:List (Str×Value)}{qual:Str}{func:Option Addr}{code:Value}{builtins:Addr}{Q:Env->Shared->Prop}(hk:scope.kind = .function)
  (hkind:∀ x∈binds,scope.names.lookup x.1=some .local\/(scope.names.lookup x.1=some .cell/\((cellsFrom (s.heap.objs.size+1) scope.names []).lookup x.1).isSome=true))
  (hcl:∀ x∈binds,scope.names.lookup x.1=some .local->cl.lookup x.1=none)
  (hQ:∀ env',env'=newEnv scope s.heap.objs.size globals (cellsFrom (s.heap.objs.size+1) scope.names []) qual func code none builtins->∀ s',InCallC s env'.locals (bindL env'.kindOf binds λ_=>none) env'.cells (bindC env'.kindOf binds λ_=>none) s' ->
   Q (newEnv scope s.heap.objs.size globals (cellsFrom (s.heap.objs.size+1) scope.names []++cl) qual func code none builtins) s'):
  wpAny M A (newFunctionEnv scope globals cl binds qual func code none builtins) Q E s:=by
 simp only[newFunctionEnv,Option.isSome_none,false_eq_true,if_false]
 refine wpAny_bind (wpAny_alloc ?_)
 refine wpAny_bind (wpAny_layCells _ (λname kind cells=>by cases hkc:kind==NameKind.cell <;> simp[hkc]) _ _ _ _ ?_)
 have ok:=cellsFrom_ok scope.names (s.heap.push { cls:=.type "frame",data:=.dict #[] }) (s.heap.objs.size+1) [] ⟨λ_ _ hm=>(nomatch hm),List.Pairwise.nil⟩ (by rw[size_push];exact Nat.le_refl _)
 rw[size_push] at ok
 rw[show ({ s with heap:=s.heap.push { cls:=.type "frame",data:=.dict #[] } }:Shared).heap.objs.size=s.heap.objs.size+1 from size_push ..]
 rw[show cellsFrom (s.heap.objs.size+1) scope.names cl=cellsFrom (s.heap.objs.size+1) scope.names []++cl from W6 _ _ [] cl]
 refine wpAny_bind ?_
 rw[Uo (g:=λ(x:Str×Value) _=>do storeName (newEnv scope s.heap.objs.size globals (cellsFrom (s.heap.objs.size+1) scope.names []) qual func code none builtins) x.1 x.2;pure (.yield ⟨⟩)) binds λx hx=>?_]
 ·refine wpAny_bindParams (s₀:=s) (env:=newEnv scope s.heap.objs.size globals (cellsFrom (s.heap.objs.size+1) scope.names []) qual func code none builtins)
   _ (λ_ _ _=>rfl) hk binds (λ_=>none) (λ_=>none) _ _
   ⟨⟨⟨_,_,rfl⟩,(Heap.Ns.new s.heap (.type "frame")).keeps (pushCells_keeps _ _),λb o e=>pushCells_keeps _ _ b o (get?_push_of_some _ e),Nat.le_refl _⟩,
    λn c hc=>(ok.empty n c (mem_of_lookup hc)).1,ok.apart,λn c hm=>(ok.empty n c hm).2⟩
   hkind λs' x=>wpAny_pure (hQ _ rfl s' x)
 ·have e:storeName (newEnv scope s.heap.objs.size globals (cellsFrom (s.heap.objs.size+1) scope.names []++cl) qual func code none builtins) x.1 x.2=storeName (newEnv scope s.heap.objs.size globals (cellsFrom (s.heap.objs.size+1) scope.names []) qual func code none builtins) x.1 x.2:=by
   refine zcj rfl rfl rfl ?_
   show (cellsFrom (s.heap.objs.size+1) scope.names []++cl).lookup x.1=(cellsFrom (s.heap.objs.size+1) scope.names []).lookup x.1
   rw[WK]
   rcases hkind x hx with h | ⟨_,h⟩
   ·rw[hcl x hx h];simp
   ·obtain ⟨c,hc⟩:=isSome_iff_exists.mp h
    rw[hc];rfl
  exact congrArg (λm:Sem Unit=>m >>= λ_=>(pure (ForInStep.yield PUnit.unit):Sem (ForInStep PUnit))) e
end
theorem QL {y:Str}{c:Addr}:∀ {names:List (Str×NameKind)}{n:Nat}{acc:List (Str×Addr)},(y,c)∈cellsFrom n names acc->(y,NameKind.cell)∈names\/(y,c)∈acc
 | [],_,_,h=>.inr h
 | (x,k)::r,n,acc,h=>by
  unfold cellsFrom at h
  split at h
  ·rename_i hk
   have hk' : k = .cell:=by simpa using hk
   rcases QL h with a | a
   ·exact .inl (mem_cons_of_mem _ a)
   ·rcases mem_cons.mp a with e | a
    ·cases e;rw[hk'];exact .inl mem_cons_self
    ·exact .inr a
  ·rcases QL h with a | a
   ·exact .inl (mem_cons_of_mem _ a)
   ·exact .inr a
structure Y6 (fr sc:Scope)(ps loc cap:List Str):Prop where
 kind:sc.kind = .function
 co:sc.isCoroutine=false
 gen:sc.isGenerator=false
 par:∀ y∈ps,sc.names.lookup y=some .local\/sc.names.lookup y=some .cell
 free:∀ p∈sc.names,p.2 = .free->fr.names.lookup p.1=some .cell
 caps:∀ y∈cap,(y,NameKind.free)∈sc.names
 capl:∀ y∈cap,sc.names.lookup y=some .free
 nd:(ps++loc++cap).Nodup
 ndn:(sc.names.map (·.1)).Nodup
def Qu (H:Hp)(f:Addr)(name q:Str)(params:Arguments)(body:List Stmt)(sc:Scope)(cl:List (Str×Addr)):Prop:=
 ∃ (doc pm ctv:Value) (c' : Addr) (oc:Obj),H f=some (.frz (fnMade name q params body sc cl doc pm c' ctv) (.own f))/\H c'=some (.frz oc (.own c'))/\zbC oc q
theorem Qu.same {H H' : Hp}{f:Addr}{name q:Str}{params:Arguments}{body:List Stmt}{sc:Scope}{cl:List (Str×Addr)}(L:Qu H f name q params body sc cl)(k:∀ b o u,H b=some (.frz o u)->H' b=some (.frz o u)):Qu H' f name q params body sc cl:=
 let ⟨doc,pm,ctv,c',oc,h1,h2,h3⟩:=L;⟨doc,pm,ctv,c',oc,k _ _ _ h1,k _ _ _ h2,h3⟩
theorem Qu.fnAt {P:Program}{w:World}{H:Hp}{h:Heap}{f:Addr}{name q:Str}{params:Arguments}{body:List Stmt}{sc:Scope}{cl:List (Str×Addr)}(ok:HOk P w H h)(L:Qu H f name q params body sc cl):PySem.W.FnAt f h:=by
 obtain ⟨doc,pm,ctv,c',oc,h1,_⟩:=L
 obtain ⟨ho,_⟩:=ok f _ h1
 exact ⟨_,_,_,_,ho⟩
noncomputable def zgW (q:Str) (sc:Scope) (L f:Addr) (cd:Value) (cl:List (Str×Addr)):Env:=PySem.W.envX q sc L f cd (cellsFrom (L+1) sc.names []++cl)
noncomputable def Uh (P:Program) (w:World) (K:PySem.W.Frag) (mg:Str->Option Value) (base:Heap) (N:List Str) (q:Str) (sc:Scope) (f c' : Addr) (cl:List (Str×Addr)) (A:Around) (outer:List Env) (s:Shared) (H:Hp):Cx where
 prog:=P
 w:=w
 K:=K
 mg:=mg
 base:=base
 A:=A.deeper (zgW q sc s.heap.objs.size f (.ref c') cl)
 N:=N
 s₀:=s
 H₀:=H
 env:=zgW q sc s.heap.objs.size f (.ref c') cl
 outer:=outer
 stack:=zgW q sc s.heap.objs.size f (.ref c') cl::outer
 ex:=[]
 calm:=true
 fn:=λy=>match sc.names.lookup y with | some .free=>false | _=>true
 pn:=[]
 xe:=λ_ _=>False
section
variable {P:Program}{w:World}{K:PySem.W.Frag}{mg:Str->Option Value}{base:Heap}{A:Around}{outer:List Env}{s:Shared}{H:Hp}{f:Addr}{name q:Str}{params:Arguments}{body:List Stmt}{fr sc:Scope}{cl:List (Str×Addr)}{ps loc cap:List Str}
theorem zf7 {c' : Addr}{us:List Value}{vs:List V}{vals:St}{s1:Shared}(S:Y6 fr sc ps loc cap)(hcap:∀ y,sc.names.lookup y=some .free->∃ c,cl.lookup y=some c)(hclp:∀ y c,cl.lookup y=some c->sc.names.lookup y=some .free)(hd:A.handled=none)(e0:zds P w K mg base A outer s H)(hl:vs.length=ps.length)(hv:vals.length=cap.length)(r:Vals vs us)(C:CellsAre s H cl cap vals)
  (x:InCallC s s.heap.objs.size (bindL (envOfC q sc s.heap.objs.size f (.ref c')).kindOf (ps.zip us) λ_=>none) (cellsFrom (s.heap.objs.size+1) sc.names []) (bindC (envOfC q sc s.heap.objs.size f (.ref c')).kindOf (ps.zip us) λ_=>none) s1):
  Inv (Uh P w K mg base (ps++loc++cap) q sc f c' cl A outer s H) [] (vs.map some++List.replicate loc.length none++vals) H s1:=by
 obtain ⟨h1,tk,rfl,hk⟩:=x.done
 have noA:∀ b:Addr,b∉(Uh P w K mg base (ps++loc++cap) q sc f c' cl A outer s H).ex:=λb z=>absurd (show b∈([]:List Addr) from z) (by simp)
 have ndp:ps.Nodup:=(nodup_append.mp (nodup_append.mp S.nd).1).1
 have clt:∀ y c,cl.lookup y=some c->c<s.heap.objs.size:=λy c h=>by
  obtain ⟨⟨v,o,ho,_⟩,_⟩:=C.isc y c h
  exact lt_size ho
 have cgt:∀ y c,(cellsFrom (s.heap.objs.size+1) sc.names []).lookup y=some c->s.heap.objs.size<c:=λy c h=>x.above y c (PySem.mem_of_lookup h)
 have two:∀ y c,(Uh P w K mg base (ps++loc++cap) q sc f c' cl A outer s H).env.cells.lookup y=some c->(cellsFrom (s.heap.objs.size+1) sc.names []).lookup y=some c\/((cellsFrom (s.heap.objs.size+1) sc.names []).lookup y=none/\cl.lookup y=some c):=λy c h=>by
  have h:(cellsFrom (s.heap.objs.size+1) sc.names []++cl).lookup y=some c:=h
  rw[WK] at h
  cases e:(cellsFrom (s.heap.objs.size+1) sc.names []).lookup y with
  | some c2=>rw[e] at h;exact .inl h
  | none=>rw[e] at h;exact .inr ⟨rfl,by simpa using h⟩
 refine ⟨⟨e0.mod,S.kind,rfl,rfl,Nat.le_refl _,λy z c h1 h2=>?_,λy hy=>?_,λy c hf h=>?_,λ_=>hd,frames_deeper e0.frames,.inr ⟨rfl,rfl⟩,λb z=>absurd z (noA b),e0.bs,e0.bsz,λb _ _=>noA b,λb z=>absurd z (noA b),e0.zbO,e0.frf⟩,
  rfl,e0.bare,Un.kept hk,⟨_,x.toInCall.ns,λi y v h1 h2 h3=>?_⟩,λy c h=>?_,e0.hok.fresh (Nat.le_refl _),λy c h=>?_,λp hp=>absurd (show p∈([]:List (Addr×Obj)) from hp) (by simp),e0.hok.kept hk,?_⟩
 ·rcases two y c h1 with a | ⟨_,a⟩ <;> rcases two z c h2 with b | ⟨_,b⟩
  ·exact name_of_addr x.apart (PySem.mem_of_lookup a) (PySem.mem_of_lookup b)
  ·exact absurd (lt_trans (cgt y c a) (clt z c b)) (lt_irrefl _)
  ·exact absurd (lt_trans (cgt z c b) (clt y c a)) (lt_irrefl _)
  ·exact C.inj y z c a b
 ·have hy:sc.names.lookup y=some .cell\/sc.names.lookup y=some .free:=hy
  show ∃ c,(cellsFrom (s.heap.objs.size+1) sc.names []++cl).lookup y=some c
  rw[WK]
  rcases hy with hy | hy
  ·obtain ⟨c,e⟩:=Vd (n:=s.heap.objs.size+1) hy
   exact ⟨c,by rw[e];rfl⟩
  ·obtain ⟨c,e⟩:=hcap y hy
   cases e2:(cellsFrom (s.heap.objs.size+1) sc.names []).lookup y with
   | some c2=>exact ⟨c2,rfl⟩
   | none=>exact ⟨c,by rw[e];rfl⟩
 ·have hf:(match sc.names.lookup y with | some .free=>false | _=>true)=true:=hf
  rcases two y c h with a | ⟨_,a⟩
  ·exact le_of_lt (cgt y c a)
  ·rw[hclp y c a] at hf;cases hf
 ·have h1:(ps++loc++cap)[i]?=some y:=h1
  have lr:(List.replicate loc.length (none:Option V)).length=loc.length:=length_replicate
  by_cases hi:i<ps.length
  ·have hp:ps[i]?=some y:=by
    rw[append_assoc,getElem?_append_left hi] at h1;exact h1
   have ha:vs[i]?=some v:=by
    rw[append_assoc,getElem?_append_left (by rw[length_map];omega),getElem?_map] at h2
    cases e:vs[i]? with
    | none=>rw[e] at h2;cases h2
    | some a=>rw[e] at h2;cases h2;rfl
   obtain ⟨u,hu,rv⟩:=r.get ha
   refine ⟨u,rv,?_⟩
   rcases S.par y (List.mem_of_getElem? hp) with k | k
   ·exact .inl ⟨k,Vu ndp hp hu k⟩
   ·obtain ⟨c,e⟩:=Vd (n:=s.heap.objs.size+1) k
    refine .inr ⟨.inl k,c,?_,?_⟩
    ·show (cellsFrom (s.heap.objs.size+1) sc.names []++cl).lookup y=some c
     rw[WK,e];rfl
    ·have q' := x.cell y c e
     rw[V7 ndp hp hu (by show sc.names.lookup y≠_;rw[k];decide)] at q'
     exact q'
  ·by_cases hi2:i<ps.length+loc.length
   ·rw[getElem?_append_left (by rw[length_append,length_map,lr];omega),getElem?_append_right (by rw[length_map];omega),List.getElem?_replicate] at h2
    split at h2 <;> cases h2
   ·have hc:cap[i-(ps++loc).length]?=some y:=by
     rw[getElem?_append_right (by rw[length_append];omega)] at h1;exact h1
    have ha:vals[i-(ps++loc).length]?=some (some v):=by
     rw[getElem?_append_right (by rw[length_append,length_map,lr];omega)] at h2
     rw[length_append,length_map,lr,hl] at h2
     rw[length_append];exact h2
    obtain ⟨c,u,e1,e2,rv⟩:=C.val _ y v hc ha
    obtain ⟨o,ho,hd'⟩:=e2
    refine ⟨u,rv,.inr ⟨.inr (S.capl y (List.mem_of_getElem? hc)),c,?_,o,hk _ _ ho,hd'⟩⟩
    show (cellsFrom (s.heap.objs.size+1) sc.names []++cl).lookup y=some c
    have hn:(cellsFrom (s.heap.objs.size+1) sc.names []).lookup y=none:=by
     cases e3:(cellsFrom (s.heap.objs.size+1) sc.names []).lookup y with
     | none=>rfl
     | some c3=>
      have:=(QL (PySem.mem_of_lookup e3)).resolve_right (by simp)
      have k:=S.capl y (List.mem_of_getElem? hc)
      have k2:=lookup_mem S.ndn this
      rw[k] at k2;cases k2
    rw[WK,hn,e1];rfl
 ·rcases two y c h with a | ⟨_,a⟩
  ·exact ⟨_,x.cell y c a⟩
  ·obtain ⟨⟨v,o,ho,hd'⟩,_⟩:=C.isc y c a
   exact ⟨v,o,hk _ _ ho,hd'⟩
 ·rcases two y c h with a | ⟨_,a⟩
  ·exact e0.hok.fresh (le_of_lt (cgt y c a))
  ·exact (C.isc y c a).2
 ·show (vs.map some++List.replicate loc.length none++vals).length=(ps++loc++cap).length
  rw[length_append,length_append,length_append,length_append,length_map,length_replicate,hl,hv]
theorem zgJ {k:Nat}{us:List Value}{vs:List V}{vals:St}{Q:VK}(S:Y6 fr sc ps loc cap)(hcap:∀ y,sc.names.lookup y=some .free->∃ c,cl.lookup y=some c)(hclp:∀ y c,cl.lookup y=some c->sc.names.lookup y=some .free)(hr:Wa (k+1) A)(e0:zds P w K mg base A outer s H)(L:Qu H f name q params body sc cl)(C:CellsAre s H cl cap vals)
  (hbind:∀ (doc pm ctv:Value) (c' : Addr),bindArgs (PySem.W.fnX name q params body sc cl .none .none doc pm none (.ref c') ctv) ⟨us,[]⟩=pure (ps.zip us)) (hl:vs.length=ps.length) (hv:vals.length=cap.length) (r:Vals vs us)
  (hbody:∀ c',Wa k (A.deeper (zgW q sc s.heap.objs.size f (.ref c') cl))->∃ t,PSs (Uh P w K mg base (ps++loc++cap) q sc f c' cl A outer s H) body t/\t { nx:=λ_ H' => Q .non H',rt:=Q } (vs.map some++List.replicate loc.length none++vals) H):
  codeAny (model P w) A (.call (.ref f) ⟨us,[]⟩) (CR CX0 outer P w H s Q E0) s:=by
 obtain ⟨doc,pm,ctv,c',oc,h1,h2,h3⟩:=L
 obtain ⟨ho,_⟩:=e0.hok f _ h1
 have lim:s.heap.NoLimit:=e0.mod.nolimit.keeps λb o e=>(e0.bs b o e).1
 refine codeAny_call_function hr.depth ho rfl S.co S.gen rfl (Vy e0.hok h2 h3) ?_
 rw[hbind doc pm ctv c']
 have hkind:∀ y∈ps.zip us,sc.names.lookup y.1=some .local\/(sc.names.lookup y.1=some .cell/\((cellsFrom (s.heap.objs.size+1) sc.names []).lookup y.1).isSome=true):=λ⟨n,v⟩ hy=>by
  rcases S.par n (of_mem_zip hy).1 with q | q
  ·exact .inl q
  ·exact .inr ⟨q,cellsFrom_some _ _ _ (.inl q)⟩
 refine wpAny_pure (zbm S.kind hkind (λy hy hloc=>?_) λenv he s1 x=>?_)
 ·cases e:cl.lookup y.1 with
  | none=>rfl
  | some c=>rw[hclp _ _ e] at hloc;cases hloc
 subst he
 refine ⟨lim.keeps x.toInCall.keep,codeAny_func ?_⟩
 obtain ⟨t,ht,hq⟩:=hbody c' (hr.deeper _)
 have I:=zf7 (f:=f) (q:=q) (c' := c') S hcap hclp hr.hd e0 hl hv r C x
 refine wpAny_mono (ht [] s1 _ H _ I hq) (λfl s' hs=>?_) λe s' z=>z.elim
 have fin:∀ {σ' : St} {H' : Hp} {v:V}{u:Value},Inv (Uh P w K mg base (ps++loc++cap) q sc f c' cl A outer s H) [] σ' H' s' -> RelV v u->Q v H' -> CE outer P w H s Q u s' :=
  λ{σ' H' v u} J rv q=>⟨v,H',J.os,J.bare,J.base,J.hok,rv,q⟩
 cases fl with
 | ret u=>
  obtain ⟨v,σ',H',J,rv,q⟩:=hs
  exact fin J rv q
 | next=>
  obtain ⟨σ',H',J,q⟩:=hs
  exact fin (v:=V.non) (u:=Value.none) J rfl q
 | brk=>
  obtain ⟨_,_,_,q⟩:=hs
  exact False.elim q
 | cont=>
  obtain ⟨_,_,_,q⟩:=hs
  exact False.elim q
end
section
variable {X:Cx}{pins:List (Addr×Obj)}{σ:St}{H:Hp}{s:Shared}{sc:Scope}{ps loc cap:List Str}{P c:Addr}{cr:Nat->Nat->Option Str}{name q:Str}{params:Arguments}{body:List Stmt}{pos:Pos}
theorem Y6.cells {fr:Scope}(S:Y6 X.env.scope sc ps loc cap)(ok:X.Ok):∀ p∈sc.names,p.2 = .free->∃ c,X.env.cells.lookup p.1=some c:=
 λp hp e=>ok.has p.1 (.inl (S.free p hp e))
theorem Y6.sub (S:Y6 X.env.scope sc ps loc cap)(ok:X.Ok){y:Str}{c:Addr}(h:(Ji X.env sc.names []).lookup y=some c):X.env.cells.lookup y=some c:=
 Vi (S.cells (fr:=sc) ok) (λ_ _ z=>by simp at z) h
theorem zaR {env:Env}{y:Str}{c:Addr}:∀ {names:List (Str×NameKind)}{acc:List (Str×Addr)},(Ji env names acc).lookup y=some c->(y,NameKind.free)∈names\/acc.lookup y=some c
 | [],_,h=>.inr h
 | (x,k)::r,acc,h=>by
  unfold Ji at h
  rcases zaR h with a | a
  ·exact .inl (mem_cons_of_mem _ a)
  ·by_cases hk:(k==NameKind.free)=true
   ·rw[if_pos hk,lookup_cons] at a
    by_cases e:(y==x)=true
    ·have e' : y=x:=by simpa using e
     have k' : k = .free:=by simpa using hk
     subst e' k'
     exact .inl mem_cons_self
    ·have e' : (y==x)=false:=by simpa using e
     rw[e'] at a;exact .inr a
   ·rw[if_neg hk] at a;exact .inr a
theorem Inv.cellsOf (I:Inv X pins σ H s)(S:Y6 X.env.scope sc ps loc cap){js:List Nat}(hjs:js.map (λj=>X.N[j]?)=cap.map some):CellsAre s H (Ji X.env sc.names []) cap (Wu σ js):=by
 have ok:=I.ok
 refine ⟨λx y c h1 h2=>ok.inj x y c (S.sub ok h1) (S.sub ok h2),λx c h=>⟨I.cell x c (S.sub ok h),I.freeC x c (S.sub ok h)⟩,λi y v e1 e2=>?_⟩
 have hy:y∈cap:=List.mem_of_getElem? e1
 unfold Wu at e2
 rw[getElem?_map] at e2
 cases ej:js[i]? with
 | none=>rw[ej] at e2;cases e2
 | some j=>
  rw[ej] at e2
  have e2'' : (σ[j]?).join=some v:=Option.some.inj e2
  have eN:X.N[j]?=some y:=by
   have:=congrArg (λl=>l[i]?) hjs
   simp only[getElem?_map,ej,e1,map_some] at this
   exact Option.some.inj this
  have eσ:σ[j]?=some (some v):=by
   cases z:σ[j]? with
   | none=>rw[z] at e2'';cases e2''
   | some w' =>
    rw[z] at e2''
    have:w'=some v:=by simpa using e2''
    rw[this]
  have kc:X.env.scope.names.lookup y=some .cell:=S.free (y,.free) (S.caps y hy) rfl
  obtain ⟨m0,hn0,hl0⟩:=I.loc
  obtain ⟨u,ru,lk⟩:=hl0 j y v eN eσ (.inr (.inl kc))
  rcases lk with ⟨k,_⟩ | ⟨_,c,ec,hc⟩
  ·have k' : X.env.scope.names.lookup y=some .local:=k
   rw[kc] at k';cases k'
  ·obtain ⟨c',hc'⟩:=isSome_iff_exists.mp (W0 (env:=X.env) (acc:=[]) (S.caps y hy))
   have hcc:c'=c:=Option.some.inj ((S.sub ok hc').symm.trans ec)
   subst hcc
   exact ⟨c',u,hc',hc,ru⟩
theorem zh4 (S:Y6 X.env.scope sc ps loc cap)(hcode:X.env.code = .ref c)(C:CodeHd X.base c P)(hbm:BM X.mg X.base)(hcr:cr pos.line pos.col=some q)(I:Inv X pins σ H s)(hP:H P=some (.tbl cr)){E:Value->Shared->Prop}:
  wpAny (model X.prog X.w) X.A (makeFunction name q params (.stmts body) sc X.env [] [] [] pos pos.line) (λv s' => ∃ f H',Inv X pins σ H' s' /\ v=Value.ref f/\H f=none/\ZR H H' /\ Qu H' f name q params body sc (Ji X.env sc.names [])) E s:=by
 obtain ⟨tb,hget,ht3,hcodes⟩:=I.hok P _ hP
 have hg:s.heap.Ns mainGlobals X.mg:=I.mod.glob.keeps I.bk
 have hgP:mainGlobals≠P:=λz=>by
  obtain ⟨o,es,ep,e,hd,_⟩:=hg
  rw[z,hget] at e;cases e;cases hd
 have hb:s.heap.BuiltinsAt X.mg P:=by
  obtain ⟨bm,ob,b1,b2,b3,b4,b5,b6⟩:=hbm
  have e:=I.bk _ _ b3
  refine ⟨bm,ob,b1,b2,λz=>?_,λz=>?_,e,b4,b5,b6⟩
  ·obtain ⟨o,es,ep,e',hd,_⟩:=hg
   rw[← z,e] at e';cases e';rw[b6] at hd;cases hd
  ·rw[z,hget] at e;cases e;cases b4
 have hcl:closureFor sc X.env=pure (Ji X.env sc.names []):=XS (S.cells (fr:=sc) I.ok)
 cases hf:codeAmong pos tb.toList with
 | some cv=>
  obtain ⟨c',oc,q',rfl,e2,e3,e4⟩:=hcodes pos cv hf
  rw[hcr] at e2;cases e2
  refine PySem.W.makeFunction_hit hcl I.ok.glob hg hcode (C.keeps I.bk) hget ht3 hf hb λctv doc h' tk hk hsz=>?_
  have hfr:H h'.objs.size=none:=I.hok.fresh hsz
  refine ⟨h'.objs.size,upd H h'.objs.size (.frz (fnMade name q params body sc (Ji X.env sc.names []) doc ((X.mg "__name__").getD .none) c' ctv) (.own h'.objs.size)),I.laid (t' := tk) (λb u e=>get?_push_of_some _ (hk b u e)) hsz ⟨get?_push_size _ rfl,_,get?_push_size _ rfl⟩,rfl,hfr,(λb u e=>by rw[ZC (ZM e hfr)];exact e),⟨_,_,_,c',oc,Zy,?_,e4⟩⟩
  rw[ZC (ZM e3 hfr)];exact e3
 | none=>
  refine PySem.W.makeFunction_K hcl I.ok.glob hg hcode (C.keeps I.bk) hget ht3 hf hgP hb λc' ctv doc h' tk hx hge hlt hrec htb=>?_
  obtain ⟨c2,oc,vs,tt,e2,hoc,hd,hv⟩:=hrec
  cases e2
  have hcn:H c'=none:=I.hok.fresh hge
  have hsz:s.heap.objs.size<=h'.objs.size:=le_of_lt (lt_of_le_of_lt hge hlt)
  have hfr:H h'.objs.size=none:=I.hok.fresh hsz
  have hcf:c' ≠ h'.objs.size:=ne_of_lt hlt
  have hPc:P≠c' := ZM hP hcn
  have hPf:P≠h'.objs.size:=ZM hP hfr
  have sm:∀ b u,H b=some u->upd (upd H c' (.frz oc (.own c'))) h'.objs.size (.frz (fnMade name q params body sc (Ji X.env sc.names []) doc ((X.mg "__name__").getD .none) c' ctv) (.own h'.objs.size)) b=some u:=λb u e=>by
   rw[ZC (ZM e hfr),ZC (ZM e hcn)];exact e
  have cc:upd (upd H c' (.frz oc (.own c'))) h'.objs.size (.frz (fnMade name q params body sc (Ji X.env sc.names []) doc ((X.mg "__name__").getD .none) c' ctv) (.own h'.objs.size)) c'=some (.frz oc (.own c')):=by
   rw[ZC hcf,Zy]
  have hk:∀ b o,b≠P->s.heap.get? b=some o->(h'.push (fnMade name q params body sc (Ji X.env sc.names []) doc ((X.mg "__name__").getD .none) c' ctv)).get? b=some o:=λb o hb e=>get?_push_of_some _ (hx b o hb e)
  refine ⟨h'.objs.size,_,I.un (t' := tk) ⟨λb o e n _ _=>hk b o (λz=>by rw[z,hP] at n;cases n) e,λb o e n _ _=>⟨o.slots,hk b o (λz=>by rw[z,hP] at n;cases n) e⟩,λb o e n _=>?_,λb o e _=>?_,λb xs e=>sm b _ e,λb o u e=>sm b _ e,λb r e=>sm b _ e⟩ ?_,rfl,hfr,sm,⟨_,_,_,c',oc,Zy,cc,vs,tt,hd,hv⟩⟩
  ·have h1:b≠c' := ne_of_lt (Nat.lt_of_lt_of_le (lt_size e) hge)
   have h2:b≠h'.objs.size:=ne_of_lt (Nat.lt_of_lt_of_le (lt_size e) hsz)
   rw[ZC h2,ZC h1];exact n
  ·by_cases hb:b=P
   ·subst hb;exact ⟨_,get?_push_of_some _ htb⟩
   ·exact ⟨o,hk b o hb e⟩
  ·intro b u e
   by_cases h1:b=h'.objs.size
   ·subst h1
    rw[Zy] at e;cases e
    exact ⟨get?_push_size _ rfl,_,get?_push_size _ rfl⟩
   ·by_cases h2:b=c'
    ·subst h2
     rw[cc] at e;cases e
     exact ⟨get?_push_of_some _ hoc,_,get?_push_of_some _ hoc⟩
    ·rw[ZC h1,ZC h2] at e
     by_cases h3:b=P
     ·subst h3
      rw[hP] at e;cases e
      refine ⟨_,get?_push_of_some _ htb,?_,λpos' v e=>?_⟩
      ·rw[toList_append];exact TriplesOk_snoc _ _ _ _ ht3
      ·rw[toList_append] at e
       rcases Us (pos:=pos) tb.toList ht3 e with e | ⟨e1,e2,rfl⟩
       ·obtain ⟨d,od,q',z1,z2,z3,z4⟩:=hcodes pos' v e
        exact ⟨d,od,q',z1,z2,sm _ _ z3,z4⟩
       ·exact ⟨c',oc,q,rfl,by rw[e1,e2];exact hcr,cc,vs,tt,hd,hv⟩
     ·refine (I.hok b u e).stay (λd v hd' e' => hk d v ?_ e') (λd e' => sm d _ e') (λd xs e' => sm d _ e') λd o' u' e' => sm d _ e'
      rintro rfl
      rcases hd' with z | z
      ·exact h3 z.symm
      ·rw[hP] at z;cases z
def zkq (i:Nat)(P:Addr)(cr:Nat->Nat->Option Str)(name q:Str)(params:Arguments)(body:List Stmt)(sc:Scope)(cl:List (Str×Addr)):TS:=λD σ H=>H P=some (.tbl cr)/\∀ f H',H f=none->ZR H H' -> Qu H' f name q params body sc cl->D.nx (σ.set i (some (.ref f))) H'
theorem zfs {i:Nat}(S:Y6 X.env.scope sc ps loc cap)(hcode:X.env.code = .ref c)(C:CodeHd X.base c P)(hbm:BM X.mg X.base)(hq:q=qualnameIn X.env name name)(hcr:cr pos.line pos.col=some q)(hN:X.N.Nodup)(hi:X.N[i]?=some name)(hx:X.env.scope.names.lookup name=some .local)
  (hd0:params.defaults=[]:=by rfl) (hk0:params.kw_defaults=[]:=by rfl) (ha:annTrees params none X.env=[]:=by rfl):
  PS X (.FunctionDef name params body [] none [] sc none name pos) (zkq i P cr name q params body sc (Ji X.env sc.names [])):=by
 intro pins s σ H D I h
 obtain ⟨hP,h⟩:=h
 refine PySem.W.nestDef_K hd0 hk0 ha ?_
 rw[← hq]
 refine thn (zh4 S hcode C hbm hcr I hP) λv s' ⟨f,H',I',ev,hf,sm,L⟩=>?_
 subst ev
 exact JD I' hN hi (.inl hx) (show RelV (.ref f) (.ref f) from rfl) (λs2 I2=>⟨_,H',I2,h f H' hf sm L⟩) (.inr hx)
end
def Kp (H H' : Hp):Prop:=(∀ b xs,H b=some (.tup xs)->H' b=some (.tup xs))/\∀ b o u,H b=some (.frz o u)->H' b=some (.frz o u)
theorem Kp.refl (H:Hp):Kp H H:=⟨λ_ _ h=>h,λ_ _ _ h=>h⟩
theorem Kp.trans {H H1 H2:Hp}(a:Kp H H1)(b:Kp H1 H2):Kp H H2:=⟨λc xs h=>b.1 c xs (a.1 c xs h),λc o u h=>b.2 c o u (a.2 c o u h)⟩
theorem Kp.of {fs:List Addr}{H H' : Hp}{h h' : Heap}(u:Un fs [] H H' h h'):Kp H H' := ⟨u.tups,u.frzs⟩
mutual
noncomputable def noL:PyData->Bool
 | .list _=>false
 | .tuple ds=>zg6 ds
 | .dict _=>false
 | _=>true
noncomputable def zg6:List PyData->Bool
 | []=>true
 | d::r=>noL d&&zg6 r
end
theorem Kp.sqT {K:PySem.W.Frag}{H H' : Hp}{q:Addr}{xs:List V}(k:Kp H H')(h:SqT K H q xs):SqT K H' q xs:=by
 rcases h with h | h
 ·refine .inl ?_
  rcases h with h | ⟨o,h⟩
  ·exact .inl (k.1 _ _ h)
  ·exact .inr ⟨o,k.2 _ _ _ h⟩
 ·exact .inr h
mutual
theorem Kp.dat {K:PySem.W.Frag}{H H' : Hp}(k:Kp H H'):∀ (d:PyData) (v:V),noL d=true->Dat K H v d->Dat K H' v d
 | .none,v,_,h=>by rw[h.non];exact Ju
 | .bool b,v,_,h=>by rw[h.bl];exact Yb b
 | .int i,v,_,h=>by rw[h.int];exact Zx i
 | .str x,v,_,h=>by rw[h.str];exact YZ x
 | .tuple ds,v,n,h=>by
  obtain ⟨q,xs,rfl,hq,hx⟩:=h.tup
  exact Xr (k.sqT hq) (Kp.zj0 k ds xs (by unfold noL at n;exact n) hx)
 | .list _,v,n,_=>by unfold noL at n;cases n
 | .dict _,v,n,_=>by unfold noL at n;cases n
theorem Kp.zj0 {K:PySem.W.Frag}{H H' : Hp}(k:Kp H H'):∀ (ds:List PyData) (xs:List V),zg6 ds=true->Yc K H xs ds->Yc K H' xs ds
 | [],xs,_,h=>by rw[h.nil];exact Z7
 | d::r,xs,n,h=>by
  obtain ⟨y,ys,rfl,hy,hr⟩:=h.cons
  unfold zg6 at n
  rw[and_eq_true] at n
  exact Z1 (Kp.dat k d y n.1 hy) (Kp.zj0 k r ys n.2 hr)
end
def zdK (P:Program)(w:World)(K:PySem.W.Frag)(mg:Str->Option Value)(base:Heap)(k:Nat)(f:Addr)(n:Nat)(sp:Sp)(s:Shared)(H:Hp):Prop:=
 ∃ (name q:Str) (params:Arguments) (body:List Stmt) (sc:Scope) (cl:List (Str×Addr)) (cap:List Str) (vals:St) (H1:Hp),Kp H1 H/\Qu H f name q params body sc cl/\CellsAre s H cl cap vals/\
  ∀ (A:Around) (outer:List Env) (s' : Shared) (H' : Hp) (us:List Value) (vs:List V) (Q:VK),Wa k A->zds P w K mg base A outer s' H' -> Kp H1 H' -> Qu H' f name q params body sc cl->CellsAre s' H' cl cap vals->Vals vs us->vs.length=n->sp vs H' Q E0->
   codeAny (model P w) A (.call (.ref f) ⟨us,[]⟩) (CR CX0 outer P w H' s' Q E0) s'
section
variable {P:Program}{w:World}{K:PySem.W.Frag}{mg:Str->Option Value}{base:Heap}{k n:Nat}{f:Addr}{sp:Sp}{s s' : Shared}{H H' : Hp}
theorem zdK.un {fs:List Addr}(C:zdK P w K mg base k f n sp s H)(u:Un fs [] H H' s.heap s'.heap):zdK P w K mg base k f n sp s' H' :=
 let ⟨name,q,params,body,sc,cl,cap,vals,H1,h1,h2,h3,h4⟩:=C
 ⟨name,q,params,body,sc,cl,cap,vals,H1,h1.trans (Kp.of u),h2.same u.frzs,h3.un u,h4⟩
theorem zdK.fnAt (C:zdK P w K mg base k f n sp s H)(ok:HOk P w H s.heap):PySem.W.FnAt f s.heap:=
 let ⟨_,_,_,_,_,_,_,_,_,_,h2,_,_⟩:=C
 h2.fnAt ok
theorem zdK.run {A:Around}{outer:List Env}{us:List Value}{vs:List V}{Q:VK}(C:zdK P w K mg base k f n sp s H)(hr:Wa k A)(e0:zds P w K mg base A outer s H)(r:Vals vs us)(hl:vs.length=n)(hs:sp vs H Q E0):
  codeAny (model P w) A (.call (.ref f) ⟨us,[]⟩) (CR CX0 outer P w H s Q E0) s:=
 let ⟨name,q,params,body,sc,cl,cap,vals,H1,h1,h2,h3,h4⟩:=C
 h4 A outer s H us vs Q hr e0 h1 h2 h3 r hl hs
end
section
variable {X:Cx}{k i n:Nat}{x:Str}{f:Addr}{sp:Sp}{e:Expr}{es:List Expr}{t:TA}{p pos:Pos}
theorem Inv.un0 {pins:List (Addr×Obj)}{σ:St}{H:Hp}{s:Shared}(J:Inv X pins σ H s)(hex:X.ex=[]):Un X.fs [] X.H₀ H X.s₀.heap s.heap:=by
 have:=J.base
 rw[hex] at this;exact this
def zfv (i:Nat)(f:Addr)(n:Nat)(sp:Sp)(t:TA):TE:=fun σ H Q=>σ[i]?=some (some (.ref f))/\t σ H λvs H1=>vs.length=n/\sp vs H1 Q E0
theorem Qa (hN:X.N[i]?=some x)(hv:Vis X.env.scope x)(hr:Wa k X.A)(hex:X.ex=[])(C:zdK X.prog X.w X.K X.mg X.base k f n sp X.s₀ X.H₀)(ha:PA X (e::es) t)
  (hd:(x==("__debug__" : Str))=false:=by decide) (hcd:(x==("__classdict__" : Str))=false:=by decide) (he:starEach (e::es) X.env=(false,eval e X.env)::starEach es X.env:=by rfl) (hpl:(backTo pos (starEach es X.env)).any (·.1)=false:=by rfl):
  PE X (.Call (.Name x p) (e::es) [] pos) (zfv i f n sp t):=by
 intro pins s σ H Q I h
 obtain ⟨eσ,h⟩:=h
 refine wpAny_Call_Name_kw (thn (zdZ hN hv hd hcd pins s σ H (λv H' => v = .ref f/\H'=H) I ⟨_,eσ,rfl,rfl⟩) λu s1 ⟨v,H1,I1,r,ev,eH⟩=>?_)
 subst ev eH
 obtain rfl:u=Value.ref f:=r
 refine callWith_F ((C.un (I1.un0 hex)).fnAt I1.hok) (thn (ha pos pins s1 σ H1 _ I1 h) λus s2 ⟨vs,H2,I2,rv,hl,hq⟩=>⟨(C.un (I2.un0 hex)).fnAt I2.hok,?_⟩) he hpl
 refine wpAny_call (codeAny_mono ((C.un (I2.un0 hex)).run hr I2.env0 rv hl hq) λr s' hq' => ?_)
 cases r with
 | error e=>exact False.elim hq'
 | ok fl=>
  cases fl with
  | ret u=>exact I2.after hq'
  | next=>exact False.elim hq'
  | brk=>exact False.elim hq'
  | cont=>exact False.elim hq'
theorem zeQ {fd:FuncData}{ps:List Str}{C:Shared->Hp->Prop}(F:V5 X.prog X.w X.K X.mg X.base k f fd ps (λs vs H Q=>C s H/\sp vs H Q E0))(hC:C X.s₀ X.H₀)(hst:∀ fs s H s' H',Un fs [] H H' s.heap s'.heap->C s H->C s' H')(hex:X.ex=[])
  (hr:Wa k X.A) (hg:Gl X x) (hm:X.mg x=some (.ref f)) (hk:keepIn X.K (.ref f)=true) (hb:Binds X.K fd ps [])
  (ha:PA X (e::es) t) (hdb:(x==("__debug__" : Str))=false:=by decide) (he:starEach (e::es) X.env=(false,eval e X.env)::starEach es X.env:=by rfl) (hpl:(backTo pos (starEach es X.env)).any (·.1)=false:=by rfl):
  PE X (.Call (.Name x p) (e::es) [] pos) (Jx sp [] E0 t):=by
 intro pins s σ H Q I h
 refine wpAny_Call_Name_kw (Vq I hg hm ?_ hdb)
 refine callWith_K (h₀:=X.base) I.ok.mod.kin hk (thn (ha pos pins s σ H _ I h) λus s2 ⟨vs,H2,I2,rr,q⟩=>⟨I2.kIn,?_⟩) he hpl
 have q:sp (vs++[]) H2 Q E0:=q
 rw[append_nil] at q
 have hC2:=hst _ _ _ _ _ (I2.un0 hex) hC
 have hl:us.length=ps.length:=by rw[← rr.length];exact F.len _ _ _ _ ⟨hC2,q⟩
 have hb' := hb s2 us I2.kIn (by rw[append_nil];exact hl)
 rw[append_nil] at hb'
 refine wpAny_call (codeAny_mono (F.run X.A X.stack s2 H2 ⟨us,[]⟩ us _ Q hr I2.env0 hb' rr ⟨hC2,q⟩) λr s' hq' => ?_)
 cases r with
 | error e=>exact False.elim hq'
 | ok fl=>
  cases fl with
  | ret u=>exact I2.after hq'
  | next=>exact False.elim hq'
  | brk=>exact False.elim hq'
  | cont=>exact False.elim hq'
end
section
variable {K:PySem.W.Frag}{σ:St}{G:Hp}{d:PyData}{i j n:Nat}{f f1 f2:Addr}{t:TA}{ta tb:TE}{ds:List PyData}{R:List PyData->PyData->Prop}
theorem Qp (hi:σ[i]?=some (some (.ref f)))(h:EvA K t σ G ds)(hn:ds.length=n)(hR:R ds d):Ev K (zfv i f n (spP K R) t) σ G d:=
 λG1 H s1 s2 Q k=>⟨hi,h G1 H s1 s2 _ λvs G2 H2 g2 hv=>⟨by rw[hv.length];exact hn,G2,ds,d,g2.gh,hv,hR,λv G' H' g hd=>k v G' H' (g2.trans g) hd⟩⟩
def spC (K:PySem.W.Frag)(f1 f2:Addr)(R:List PyData->PyData->Prop):Sp:=λvs H Q _=>∃ (G:Hp) (ds:List PyData) (d:PyData) (xs:List V),vs=xs++[.ref f1,.ref f2]/\ZR G H/\Yc K G xs ds/\R ds d/\∀ v G' H',Yt G H G' H' -> Dat K G' v d->Q v H'
end
section
variable {X:Cx}{pins:List (Addr×Obj)}{σ:St}{H:Hp}{s:Shared}{sc:Scope}{ps loc cap:List Str}{name q:Str}{params:Arguments}{body:List Stmt}{f:Addr}{k:Nat}{sp:Sp}
theorem zhe {js:List Nat}(I:Inv X pins σ H s)(S:Y6 X.env.scope sc ps loc cap)(hjs:js.map (λj=>X.N[j]?)=cap.map some)(L:Qu H f name q params body sc (Ji X.env sc.names []))
  (hbind:∀ (cl:List (Str×Addr)) (us:List Value),us.length=ps.length->∀ (doc pm ctv:Value) (c' : Addr),bindArgs (PySem.W.fnX name q params body sc cl .none .none doc pm none (.ref c') ctv) ⟨us,[]⟩=pure (ps.zip us))
  (hbody:∀ (A:Around) (outer:List Env) (s' : Shared) (H' : Hp) (vs:List V) (Q:VK) (f c' : Addr) (cl:List (Str×Addr)),Wa k (A.deeper (zgW q sc s'.heap.objs.size f (.ref c') cl))->Kp H H' -> vs.length=ps.length->sp vs H' Q E0->
   ∃ t,PSs (Uh X.prog X.w X.K X.mg X.base (ps++loc++cap) q sc f c' cl A outer s' H') body t/\t { nx:=λ_ H' => Q .non H',rt:=Q } (vs.map some++List.replicate loc.length none++Wu σ js) H'):
  zdK X.prog X.w X.K X.mg X.base (k+1) f ps.length sp s H:=by
 have lenJ:js.length=cap.length:=by have:=congrArg List.length hjs;simpa using this
 refine ⟨name,q,params,body,sc,Ji X.env sc.names [],cap,Wu σ js,H,Kp.refl H,L,I.cellsOf S hjs,λA outer s' H' us vs Q hr e0 kp L' C' r hl hs=>?_⟩
 refine zgJ S (λy hy=>?_) (λy c hc=>?_) hr e0 L' C' (hbind _ us (by rw[← r.length];exact hl)) hl (by unfold Wu;rw[length_map,lenJ]) r λc' hr' => hbody A outer s' H' vs Q f c' _ hr' kp hl hs
 ·exact isSome_iff_exists.mp (W0 (env:=X.env) (acc:=[]) (PySem.mem_of_lookup hy))
 ·rcases zaR hc with m | m
  ·exact lookup_mem S.ndn m
  ·cases m
theorem zgl {e:Expr}{es:List Expr}{t:TA}{p pos:Pos}{x:Str}{g:Addr}{fd:FuncData}{C:Addr->Addr->Shared->Hp->Prop}{sp2:Addr->Addr->St->Sp}{RH:Addr->Addr->St->Hp->Prop}
  (F:∀ f1 f2 σ,V5 X.prog X.w X.K X.mg X.base k g fd ps (λs vs H Q=>C f1 f2 s H/\sp2 f1 f2 σ vs H Q E0))
  (hC:∀ pins σ H s f1 f2,Inv X pins σ H s->RH f1 f2 σ H->C f1 f2 s H)
  (hr:Wa k X.A) (hg:Gl X x) (hm:X.mg x=some (.ref g)) (hk:keepIn X.K (.ref g)=true) (hb:Binds X.K fd ps [])
  (ha:PA X (e::es) t) (hdb:(x==("__debug__" : Str))=false:=by decide) (he:starEach (e::es) X.env=(false,eval e X.env)::starEach es X.env:=by rfl) (hpl:(backTo pos (starEach es X.env)).any (·.1)=false:=by rfl):
  PE X (.Call (.Name x p) (e::es) [] pos) (fun σ H Q=>t σ H λvs H1=>∃ f1 f2,RH f1 f2 σ H1/\sp2 f1 f2 σ vs H1 Q E0):=by
 intro pins s σ H Q I h
 refine wpAny_Call_Name_kw (Vq I hg hm ?_ hdb)
 refine callWith_K (h₀:=X.base) I.ok.mod.kin hk (thn (ha pos pins s σ H _ I h) λus s2 ⟨vs,H2,I2,rr,f1,f2,q1,q⟩=>⟨I2.kIn,?_⟩) he hpl
 have hC2:=hC _ _ _ _ f1 f2 I2 q1
 have hl:us.length=ps.length:=by rw[← rr.length];exact (F f1 f2 σ).len _ _ _ _ ⟨hC2,q⟩
 have hb' := hb s2 us I2.kIn (by rw[append_nil];exact hl)
 rw[append_nil] at hb'
 refine wpAny_call (codeAny_mono ((F f1 f2 σ).run X.A X.stack s2 H2 ⟨us,[]⟩ us _ Q hr I2.env0 hb' rr ⟨hC2,q⟩) λr s' hq' => ?_)
 cases r with
 | error e=>exact False.elim hq'
 | ok fl=>
  cases fl with
  | ret u=>exact I2.after hq'
  | next=>exact False.elim hq'
  | brk=>exact False.elim hq'
  | cont=>exact False.elim hq'
end
end L2
namespace Rdo
open PySem Ord Nm L2 Frac
theorem Run.app {fld:Str->Prop}{num:Int->Int->Prop}{st st1 st2:List Str}{a b:List Wd}(h:Run fld num st a st1)(k:Run fld num st1 b st2):Run fld num st (a++b) st2:=by
 induction h with
 | nil=>exact k
 | cons s _ ih=>exact .cons s (ih k)
theorem Step.frame {fld:Str->Prop}{num:Int->Int->Prop}{st st1:List Str}{w:Wd}(r:List Str)(h:Ord.Step fld num st w st1):Ord.Step fld num (st++r) w (st1++r):=by
 cases h with
 | field hx=>exact .field hx
 | number hx=>exact .number hx
 | word n1 n2 ho=>
  rw[append_assoc]
  exact .word n1 n2 ho
theorem Run.frame {fld:Str->Prop}{num:Int->Int->Prop}{st st1:List Str}{a:List Wd}(r:List Str)(h:Run fld num st a st1):Run fld num (st++r) a (st1++r):=by
 induction h with
 | nil=>exact .nil
 | cons s _ ih=>exact .cons (Step.frame r s) ih
section
variable {fld:Str->Prop}{num:Int->Int->Prop}{a b:List Wd}
theorem ziR (ha:Ql fld num a)(hb:Ql fld num b):Ql fld num (.t (S "then")::(a++b)):=
 .cons (st1:=[S "order",S "order"]) (Ord.Step.word (ps:=[S "order",S "order"]) (st:=[]) (by decide +kernel) (by decide +kernel) (by decide +kernel)) (Run.app (Run.frame [S "order"] ha) hb)
theorem zh3 (hb:Ql fld num b):Ql fld num (.t (S "turn")::b):=
 .cons (st1:=[S "order"]) (Ord.Step.word (ps:=[S "order"]) (st:=[]) (by decide +kernel) (by decide +kernel) (by decide +kernel)) hb
end
end Rdo
namespace Look
open PySem Ord Rdo
inductive An where
 | ahead
 | like
 | behind
 deriving DecidableEq
noncomputable def An.turn:An->An
 | .ahead=>.behind
 | .like=>.like
 | .behind=>.ahead
noncomputable def An.t:An->Str
 | .ahead=>S "ahead"
 | .like=>S "like"
 | .behind=>S "behind"
noncomputable def An.how:An->Str
 | .ahead=>S "less"
 | .like=>S "same"
 | .behind=>S "more"
inductive Tv where
 | an (a:An)
 | tr (b:Bool)
 | mk (b c:Bool)
 | wd (w:Wd)
noncomputable def Tv.d:Tv->PyData
 | .an a=>.str a.t
 | .tr b=>.bool b
 | .mk b c=>.list [.bool b,.bool c]
 | .wd w=>w.d
structure En where
 look:Str->An
 one:Str->Int->Int->An
 two:Str->Int->Int->An
noncomputable def isA (a b:An):Bool:=decide (a=b)
noncomputable def zgn (E:En):Nat->List Tv->Tv
 | 0,_=>.an .like
 | 1,[.wd (.t z)]=>.an (E.look z)
 | 2,[.wd (.t z)]=>.an (E.look z).turn
 | 3,[.an a,.an b]=>.an (if a = .like then b else a)
 | 4,[.an a]=>.an a.turn
 | 5,[.tr c,.an a,.an b]=>.an (if c=true then a else b)
 | 6,[.wd (.t z)]=>.tr (isA (E.look z) .like)
 | 7,[.mk b c]=>.tr (b&&c)
 | 8,[.mk b c]=>.tr (b||c)
 | 9,[.tr b]=>.tr (!b)
 | 10,[.tr b,.tr c]=>.tr (b&&c)
 | 11,[.tr b,.tr c]=>.tr (b||c)
 | 12,[.wd (.t z),.wd (.n a b)]=>.mk (isA (E.one z a b) .ahead) (isA (E.two z a b) .ahead)
 | 13,[.wd (.t z),.wd (.n a b)]=>.mk (isA (E.one z a b) .like) (isA (E.two z a b) .like)
 | _,_=>.an .like
noncomputable def wix (x:Str):Nat:=Q5.findIdx λr=>decide (r.1=x)
noncomputable def push (E:En) (w:Wd) (st:List Tv):List Tv:=match w with
 | .n a b=>.wd (.n a b)::st
 | .t x=>match Ym x with
  | some r=>zgn E (wix x) (st.take r.2.2.length)::st.drop r.2.2.length
  | none=>.wd (.t x)::st
noncomputable def ev (E:En):List Wd->List Tv->List Tv
 | [],st=>st
 | w::ws,st=>push E w (ev E ws st)
theorem zaG (E:En)(a b:List Wd)(st:List Tv):ev E (a++b) st=ev E a (ev E b st):=by
 induction a with
 | nil=>rfl
 | cons w a ih=>show push E w (ev E (a++b) st)=_;rw[ih];rfl
def Ty (fld:Str->Prop)(num:Int->Int->Prop)(p:Str)(v:Tv):Prop:=
 (p=S "order" /\ ∃ a,v = .an a)\/(p=S "case" /\ ∃ b,v = .tr b)\/(p=S "mark" /\ ∃ b c,v = .mk b c)\/(p=S "field" /\ ∃ z,fld z/\v = .wd (.t z))\/(p=S "number" /\ ∃ a b,num a b/\v = .wd (.n a b))
theorem J9:(S "order" ≠ S "case" /\ S "order" ≠ S "mark" /\ S "order" ≠ S "field" /\ S "order" ≠ S "number")/\(S "case" ≠ S "mark" /\ S "case" ≠ S "field" /\ S "case" ≠ S "number")/\(S "mark" ≠ S "field" /\ S "mark" ≠ S "number")/\S "field" ≠ S "number" := by decide +kernel
theorem Ty.order {fld:Str->Prop}{num:Int->Int->Prop}{v:Tv}(h:Ty fld num (S "order") v):∃ a,v = .an a:=by
 obtain ⟨⟨n1,n2,n3,n4⟩,_⟩:=J9
 rcases h with ⟨_,h⟩ | ⟨e,_⟩ | ⟨e,_⟩ | ⟨e,_⟩ | ⟨e,_⟩
 ·exact h
 ·exact absurd e n1
 ·exact absurd e n2
 ·exact absurd e n3
 ·exact absurd e n4
theorem Ty.case {fld:Str->Prop}{num:Int->Int->Prop}{v:Tv}(h:Ty fld num (S "case") v):∃ b,v = .tr b:=by
 obtain ⟨⟨n1,n2,n3,n4⟩,⟨m1,m2,m3⟩,_⟩:=J9
 rcases h with ⟨e,_⟩ | ⟨_,h⟩ | ⟨e,_⟩ | ⟨e,_⟩ | ⟨e,_⟩
 ·exact absurd e.symm n1
 ·exact h
 ·exact absurd e m1
 ·exact absurd e m2
 ·exact absurd e m3
theorem Ty.mark {fld:Str->Prop}{num:Int->Int->Prop}{v:Tv}(h:Ty fld num (S "mark") v):∃ b c,v = .mk b c:=by
 obtain ⟨⟨n1,n2,n3,n4⟩,⟨m1,m2,m3⟩,⟨k1,k2⟩,_⟩:=J9
 rcases h with ⟨e,_⟩ | ⟨e,_⟩ | ⟨_,h⟩ | ⟨e,_⟩ | ⟨e,_⟩
 ·exact absurd e.symm n2
 ·exact absurd e.symm m1
 ·exact h
 ·exact absurd e k1
 ·exact absurd e k2
theorem Ty.field {fld:Str->Prop}{num:Int->Int->Prop}{v:Tv}(h:Ty fld num (S "field") v):∃ z,fld z/\v = .wd (.t z):=by
 obtain ⟨⟨n1,n2,n3,n4⟩,⟨m1,m2,m3⟩,⟨k1,k2⟩,l1⟩:=J9
 rcases h with ⟨e,_⟩ | ⟨e,_⟩ | ⟨e,_⟩ | ⟨_,h⟩ | ⟨e,_⟩
 ·exact absurd e.symm n3
 ·exact absurd e.symm m2
 ·exact absurd e.symm k1
 ·exact h
 ·exact absurd e l1
theorem Ty.number {fld:Str->Prop}{num:Int->Int->Prop}{v:Tv}(h:Ty fld num (S "number") v):∃ a b,num a b/\v = .wd (.n a b):=by
 obtain ⟨⟨n1,n2,n3,n4⟩,⟨m1,m2,m3⟩,⟨k1,k2⟩,l1⟩:=J9
 rcases h with ⟨e,_⟩ | ⟨e,_⟩ | ⟨e,_⟩ | ⟨e,_⟩ | ⟨_,h⟩
 ·exact absurd e.symm n4
 ·exact absurd e.symm m3
 ·exact absurd e.symm k2
 ·exact absurd e.symm l1
 ·exact h
inductive Tys (fld:Str->Prop) (num:Int->Int->Prop):List Str->List Tv->Prop
 | nil:Tys fld num [] []
 | cons {p:Str}{v:Tv}{ps:List Str}{vs:List Tv}:Ty fld num p v->Tys fld num ps vs->Tys fld num (p::ps) (v::vs)
theorem zfp {x:Str}{want:Str}{ps:List Str}(h:Ym x=some (x,want,ps)):
  (x=S "like" /\ want=S "order" /\ ps=[])\/(x=S "up" /\ want=S "order" /\ ps=[S "field"])\/(x=S "down" /\ want=S "order" /\ ps=[S "field"])\/(x=S "then" /\ want=S "order" /\ ps=[S "order",S "order"])\/
  (x=S "turn" /\ want=S "order" /\ ps=[S "order"])\/(x=S "pick" /\ want=S "order" /\ ps=[S "case",S "order",S "order"])\/(x=S "same" /\ want=S "case" /\ ps=[S "field"])\/(x=S "both" /\ want=S "case" /\ ps=[S "mark"])\/
  (x=S "either" /\ want=S "case" /\ ps=[S "mark"])\/(x=S "not" /\ want=S "case" /\ ps=[S "case"])\/(x=S "and" /\ want=S "case" /\ ps=[S "case",S "case"])\/(x=S "or" /\ want=S "case" /\ ps=[S "case",S "case"])\/
  (x=S "under" /\ want=S "mark" /\ ps=[S "field",S "number"])\/(x=S "is" /\ want=S "mark" /\ ps=[S "field",S "number"]):=by
 have m:=(VM h).1
 unfold Q5 at m
 simp only[mem_cons,List.not_mem_nil,or_false,Prod.mk.injEq] at m
 exact m
theorem JL:wix (S "like")=0/\wix (S "up")=1/\wix (S "down")=2/\wix (S "then")=3/\wix (S "turn")=4/\wix (S "pick")=5/\wix (S "same")=6/\wix (S "both")=7/\wix (S "either")=8/\wix (S "not")=9/\wix (S "and")=10/\wix (S "or")=11/\wix (S "under")=12/\wix (S "is")=13:=by decide +kernel
theorem zis {fld:Str->Prop}{num:Int->Int->Prop}{E:En}{x want:Str}{ps:List Str}{vs:List Tv}(h:Ym x=some (x,want,ps))(hv:Tys fld num ps vs):Ty fld num want (zgn E (wix x) vs):=by
 obtain ⟨w0,w1,w2,w3,w4,w5,w6,w7,w8,w9,w10,w11,w12,w13⟩:=JL
 have go1:∀ {p:Str},Tys fld num [p] vs->∃ v,vs=[v]/\Ty fld num p v:=λh=>by cases h with | cons a b=>cases b;exact ⟨_,rfl,a⟩
 have go2:∀ {p q:Str},Tys fld num [p,q] vs->∃ v u,vs=[v,u]/\Ty fld num p v/\Ty fld num q u:=λh=>by cases h with | cons a b=>cases b with | cons b c=>cases c;exact ⟨_,_,rfl,a,b⟩
 have go3:∀ {p q r:Str},Tys fld num [p,q,r] vs->∃ v u t,vs=[v,u,t]/\Ty fld num p v/\Ty fld num q u/\Ty fld num r t:=λh=>by cases h with | cons a b=>cases b with | cons b c=>cases c with | cons c d=>cases d;exact ⟨_,_,_,rfl,a,b,c⟩
 rcases zfp h with ⟨rfl,rfl,rfl⟩ | ⟨rfl,rfl,rfl⟩ | ⟨rfl,rfl,rfl⟩ | ⟨rfl,rfl,rfl⟩ | ⟨rfl,rfl,rfl⟩ | ⟨rfl,rfl,rfl⟩ | ⟨rfl,rfl,rfl⟩ | ⟨rfl,rfl,rfl⟩ | ⟨rfl,rfl,rfl⟩ | ⟨rfl,rfl,rfl⟩ | ⟨rfl,rfl,rfl⟩ | ⟨rfl,rfl,rfl⟩ | ⟨rfl,rfl,rfl⟩ | ⟨rfl,rfl,rfl⟩
 ·rw[w0];exact .inl ⟨rfl,_,rfl⟩
 ·obtain ⟨v,rfl,h1⟩:=go1 hv;obtain ⟨z,_,rfl⟩:=h1.field;rw[w1];exact .inl ⟨rfl,_,rfl⟩
 ·obtain ⟨v,rfl,h1⟩:=go1 hv;obtain ⟨z,_,rfl⟩:=h1.field;rw[w2];exact .inl ⟨rfl,_,rfl⟩
 ·obtain ⟨v,u,rfl,h1,h2⟩:=go2 hv;obtain ⟨a,rfl⟩:=h1.order;obtain ⟨b,rfl⟩:=h2.order;rw[w3];exact .inl ⟨rfl,_,rfl⟩
 ·obtain ⟨v,rfl,h1⟩:=go1 hv;obtain ⟨a,rfl⟩:=h1.order;rw[w4];exact .inl ⟨rfl,_,rfl⟩
 ·obtain ⟨v,u,t,rfl,h1,h2,h3⟩:=go3 hv;obtain ⟨a,rfl⟩:=h1.case;obtain ⟨b,rfl⟩:=h2.order;obtain ⟨c,rfl⟩:=h3.order;rw[w5];exact .inl ⟨rfl,_,rfl⟩
 ·obtain ⟨v,rfl,h1⟩:=go1 hv;obtain ⟨z,_,rfl⟩:=h1.field;rw[w6];exact .inr (.inl ⟨rfl,_,rfl⟩)
 ·obtain ⟨v,rfl,h1⟩:=go1 hv;obtain ⟨a,b,rfl⟩:=h1.mark;rw[w7];exact .inr (.inl ⟨rfl,_,rfl⟩)
 ·obtain ⟨v,rfl,h1⟩:=go1 hv;obtain ⟨a,b,rfl⟩:=h1.mark;rw[w8];exact .inr (.inl ⟨rfl,_,rfl⟩)
 ·obtain ⟨v,rfl,h1⟩:=go1 hv;obtain ⟨a,rfl⟩:=h1.case;rw[w9];exact .inr (.inl ⟨rfl,_,rfl⟩)
 ·obtain ⟨v,u,rfl,h1,h2⟩:=go2 hv;obtain ⟨a,rfl⟩:=h1.case;obtain ⟨b,rfl⟩:=h2.case;rw[w10];exact .inr (.inl ⟨rfl,_,rfl⟩)
 ·obtain ⟨v,u,rfl,h1,h2⟩:=go2 hv;obtain ⟨a,rfl⟩:=h1.case;obtain ⟨b,rfl⟩:=h2.case;rw[w11];exact .inr (.inl ⟨rfl,_,rfl⟩)
 ·obtain ⟨v,u,rfl,h1,h2⟩:=go2 hv;obtain ⟨z,_,rfl⟩:=h1.field;obtain ⟨a,b,_,rfl⟩:=h2.number;rw[w12];exact .inr (.inr (.inl ⟨rfl,_,_,rfl⟩))
 ·obtain ⟨v,u,rfl,h1,h2⟩:=go2 hv;obtain ⟨z,_,rfl⟩:=h1.field;obtain ⟨a,b,_,rfl⟩:=h2.number;rw[w13];exact .inr (.inr (.inl ⟨rfl,_,_,rfl⟩))
theorem Ud {fld:Str->Prop}{num:Int->Int->Prop}{st:List Str}:∀ {ps:List Str}{vs:List Tv},Tys fld num (ps++st) vs->Tys fld num ps (vs.take ps.length)/\Tys fld num st (vs.drop ps.length)
 | [],vs,h=>⟨.nil,h⟩
 | p::ps,vs,h=>by
  cases h with
  | cons a b=>
   obtain ⟨h1,h2⟩:=Ud b
   exact ⟨.cons a h1,h2⟩
theorem Tys.length {fld:Str->Prop}{num:Int->Int->Prop}:∀ {ps:List Str}{vs:List Tv},Tys fld num ps vs->ps.length=vs.length
 | _,_,.nil=>rfl
 | _,_,.cons _ b=>congrArg (· + 1) (Tys.length b)
abbrev Kinds (st:List Str):Prop:=∀ x∈st,x∈[S "order",S "case",S "mark",S "field",S "number"]
theorem zgP {fld:Str->Prop}{num:Int->Int->Prop}{E:En}(hf:∀ z,fld z->Ym z=none){st st1:List Str}{w:Wd}{vs:List Tv}(h:Ord.Step fld num st w st1)(hs:Kinds st)(hv:Tys fld num st1 vs):
  Tys fld num st (push E w vs)/\∀ R,push E w (vs++R)=push E w vs++R:=by
 rcases VF h hs with ⟨x,st0,rfl,rfl,hx,rfl⟩ | ⟨a,b,st0,rfl,rfl,hx,rfl⟩ | ⟨want,x,ps,st0,rfl,rfl,n1,n2,hw,hl,rfl⟩
 ·have e:∀ us,push E (.t x) us = .wd (.t x)::us:=λus=>by unfold push;dsimp only;rw[hf x hx]
  rw[e]
  exact ⟨.cons (.inr (.inr (.inr (.inl ⟨rfl,x,hx,rfl⟩)))) hv,λR=>by rw[e];rfl⟩
 ·exact ⟨.cons (.inr (.inr (.inr (.inr ⟨rfl,a,b,hx,rfl⟩)))) hv,λR=>rfl⟩
 ·have e:∀ us,push E (.t x) us=zgn E (wix x) (us.take ps.length)::us.drop ps.length:=λus=>by unfold push;dsimp only;rw[hw]
  rw[e]
  obtain ⟨h1,h2⟩:=Ud hv
  have hlen:=hv.length
  rw[length_append] at hlen
  refine ⟨.cons (zis hw h1) h2,λR=>?_⟩
  rw[e,List.take_append_of_le_length (by omega),List.drop_append_of_le_length (by omega)]
  rfl
theorem Qq {fld:Str->Prop}{num:Int->Int->Prop}{st st1:List Str}{w:Wd}(h:Ord.Step fld num st w st1)(hs:Kinds st):Kinds st1:=by
 rcases VF h hs with ⟨x,st0,rfl,rfl,hx,rfl⟩ | ⟨a,b,st0,rfl,rfl,hx,rfl⟩ | ⟨want,x,ps,st0,rfl,rfl,n1,n2,hw,hl,rfl⟩
 ·exact λp hp=>hs p (mem_cons_of_mem _ hp)
 ·exact λp hp=>hs p (mem_cons_of_mem _ hp)
 ·intro p hp
  rcases mem_append.mp hp with hp | hp
  ·have key:∀ r∈Q5,∀ p∈r.2.2,p∈[S "order",S "case",S "mark",S "field",S "number"]:=by decide +kernel
   exact key _ (VM hw).1 p hp
  ·exact hs p (mem_cons_of_mem _ hp)
theorem zjj {fld:Str->Prop}{num:Int->Int->Prop}{E:En}(hf:∀ z,fld z->Ym z=none){st st1:List Str}{ws:List Wd}(h:Run fld num st ws st1):Kinds st->∀ {vs:List Tv},Tys fld num st1 vs->
  Tys fld num st (ev E ws vs)/\∀ R,ev E ws (vs++R)=ev E ws vs++R:=by
 induction h with
 | nil=>intro _ vs hv;exact ⟨hv,λR=>rfl⟩
 | cons a b ih=>
  intro hs vs hv
  obtain ⟨h1,h2⟩:=ih (Qq a hs) hv
  obtain ⟨h3,h4⟩:=zgP (E:=E) hf a hs h1
  exact ⟨h3,λR=>by show push E _ (ev E _ (vs++R))=_;rw[h2,h4];rfl⟩
theorem zgt:Kinds [S "order"]:=λx hx=>by rw[mem_singleton.mp hx];exact mem_cons_self
theorem ze0 (a:An):isA a.turn .like=isA a .like:=by cases a <;> rfl
noncomputable def hsA (a b:Int×Int):An:=if a.1*b.2<b.1*a.2 then .ahead else if a.1*b.2>b.1*a.2 then .behind else .like
theorem Vj (a b:Int×Int):hsA b a=(hsA a b).turn:=by
 unfold hsA
 generalize a.1*b.2=x
 generalize b.1*a.2=y
 by_cases h1:x<y
 ·have n1:¬ y<x:=by omega
  simp only[h1,n1,gt_iff_lt,if_true,if_false];rfl
 ·by_cases h2:y<x
  ·simp only[h1,h2,gt_iff_lt,if_true,if_false];rfl
  ·simp only[h1,h2,gt_iff_lt,if_false];rfl
noncomputable def zd8 (book:List Str) (f g:List (Int×Int)):En where
 look z:=hsA (f.getD (book.idxOf z) (0,1)) (g.getD (book.idxOf z) (0,1))
 one z a b:=hsA (f.getD (book.idxOf z) (0,1)) (a,b)
 two z a b:=hsA (g.getD (book.idxOf z) (0,1)) (a,b)
end Look
namespace L2
open PySem PySem.Spec PyProof.Rows MeetsSeq
theorem QV (t:Addr)(items:Array Value)(n:Nat)(dct:Option Addr)(sl:Array (Option Value))(x:Value)(e:Value->Bool)(he:∀ y,y∈items->EqGives y x (e y))(j:Nat)(hj:j<items.size)
  (hit:e items[j]=true) (hno:∀ m (hm:m<items.size),m<j->e items[m]=false):
  Meets (Builtin.«tuple.index» ⟨[.ref t,x],[]⟩) (λ_ R s=>s.heap.get? t=some { cls:=.type "tuple",dict:=dct,data:=.seq items n,slots:=sl }/\R (.ok (.ret (.int j s.toks))) { s with toks:=s.toks+1 }):=
 .of_wp λprog w A R s h=>by
  obtain ⟨hp,g,d,tk,os⟩:=s;obtain ⟨q1,h⟩:=h
  wp_walk using wpAny_loadPart' q1
  show wpAny (model prog w) A.in1 (forIn ([:min items.size items.size]:Std.Legacy.Range) ((none:Option Fin),()) _) _ _ _
  rw[Std.Legacy.Range.forIn_eq_forIn_range']
  have hz:[:min items.size items.size].size=items.size:=by simp[Std.Legacy.Range.size]
  rw[hz]
  refine wpAny_forIn_list _ (λrest b s' => s'=⟨hp,g,d,tk,os⟩/\b=(none,())/\∃ i,i<=j/\rest=List.range' i (items.size-i)) _ ?_ ?_ _ _ ⟨rfl,rfl,0,zero_le _,rfl⟩
  ·rintro i rest b s' ⟨rfl,rfl,k,hk,hr⟩
   have hlt:k<items.size:=by omega
   have hr' : i=k/\rest=List.range' (k+1) (items.size-(k+1)):=by
    rw[show items.size-k=(items.size-(k+1))+1 by omega,List.range'_succ] at hr
    injection hr with e1 e2
    exact ⟨e1,e2⟩
   obtain ⟨rfl,rfl⟩:=hr'
   have hi:items[i]?=some items[i]:=by simp[hlt]
   rw[hi]
   dsimp only
   refine wpAny_bind (he _ (Array.getElem_mem hlt) prog w _ _ _ _ ?_)
   by_cases hij:i=j
   ·subst hij
    rw[hit,if_pos rfl]
    wp_walk
    exact ⟨_,rfl,h⟩
   ·rw[hno i hlt (by omega)]
    exact wpAny_pure ⟨rfl,rfl,i+1,by omega,rfl⟩
  ·rintro b s' ⟨rfl,rfl,k,hk,hr⟩
   have:items.size-k=0:=by
    have:=congrArg List.length hr
    simpa using this.symm
   omega
noncomputable def zkn (z:Str):Value->Bool
 | .str a _=>a==z
 | _=>false
section
variable {X:Cx}
def zdb (K:PySem.W.Frag):V->List V->Hp->VK->Prop:=λx vs H Q=>∃ (p:Addr) (ws:List Str) (z:Str),x = .ref p/\vs=[.str z]/\SqT K H p (ws.map V.str)/\z∈ws/\Q (.int (ws.idxOf z:Nat)) H
theorem zaC {K:PySem.W.Frag}(eK:X.K=K):MtM X "tuple.index" (zdb K):=by
 subst eK
 intro pins s σ H x vs v us Q I rx rv h
 obtain ⟨p,ws,z,rfl,rfl,hp,hz,q⟩:=h
 cases rx
 obtain ⟨u,rfl,ru⟩:=vals1 rv
 obtain ⟨t,rfl⟩:=ru
 obtain ⟨its,r,pt,hl⟩:=I.tuple hp
 obtain ⟨⟨c,dct,dt,sl⟩,e1,e2,n,e3⟩:=pt
 replace e2:c = .type "tuple" := e2
 replace e3:dt = .seq its.toArray n:=e3
 subst e2 e3
 have hlen:its.length=ws.length:=by rw[← r.length,length_map]
 have el:∀ (i:Nat) (hi:i<its.toArray.size),∃ t',its.toArray[i]=Value.str (ws.getD i z) t' := λi hi=>by
  have hi' : i<its.length:=by simpa using hi
  obtain ⟨u,hu,ru⟩:=r.get (i:=i) (x:=V.str (ws.getD i z)) (by rw[getElem?_map,getD_eq_getElem?_getD,getElem?_eq_getElem (by omega)];rfl)
  obtain ⟨t',rfl⟩:=ru
  refine ⟨t',?_⟩
  have:its[i]=Value.str (ws.getD i z) t' := by
   rw[getElem?_eq_getElem hi'] at hu;exact Option.some.inj hu
  simpa using this
 have hjl:ws.idxOf z<its.length:=by rw[hlen];exact List.idxOf_lt_length_of_mem hz
 refine call_meets F.slot_tuple_index ⟨_,e1,rfl⟩ F.entry_tuple_index (F.args_tuple_index_2 _ _)
  (QV p its.toArray n dct sl (.str z t) (zkn z) (λy hy=>?_) (ws.idxOf z) (by simpa using hjl) ?_ λm hm hlt=>?_) ⟨e1,?_⟩
 ·obtain ⟨i,hi,rfl⟩:=Array.mem_iff_getElem.mp hy
  obtain ⟨t',e⟩:=el i hi
  rw[e]
  exact eqGives_str _ _ _ _
 ·obtain ⟨t',e⟩:=el _ (by simpa using hjl)
  rw[e]
  have:ws.getD (ws.idxOf z) z=z:=by
   rw[getD_eq_getElem?_getD,getElem?_eq_getElem (by omega)]
   exact List.getElem_idxOf (by omega)
  rw[this]
  show (z==z)=true
  exact beq_self_eq_true z
 ·obtain ⟨t',e⟩:=el m hm
  rw[e]
  show (ws.getD m z==z)=false
  have hm' : m<ws.length:=by have:m<its.length:=(by simpa using hm);omega
  have hne:(ws[m]==z)=false:=List.not_of_lt_findIdx (p:=(· == z)) (xs:=ws) hlt
  rw[getD_eq_getElem?_getD,getElem?_eq_getElem hm']
  exact hne
 ·exact ⟨.int _,H,I.tok _,⟨_,rfl⟩,q⟩
end
open PySem PySem.Spec PyProof.Rows
noncomputable def zao:List DictEntry->List (Str×Str)->Bool
 | [],[]=>true
 | e::es,r::rs=>(match e.key,e.val with
  | .str x _,.str v _=>x==r.1&&v==r.2
  | _,_=>false)&&zao es rs
 | _,_=>false
theorem zfw {e:DictEntry}{r:Str×Str}(h:(match e.key,e.val with
  | .str x _,.str v _=>x==r.1&&v==r.2
  | _,_=>false)=true):(∃ t,e.key = .str r.1 t)/\∃ t,e.val = .str r.2 t:=by
 split at h
 ·rename_i x t v u h1 h2
  rw[and_eq_true,beq_iff_eq,beq_iff_eq] at h
  obtain ⟨rfl,rfl⟩:=h
  exact ⟨⟨t,h1⟩,u,h2⟩
 ·cases h
theorem U3 (z:Str):∀ {es:List DictEntry}{rs:List (Str×Str)},zao es rs=true->
  (es.find? (·.key.isStr z)=none/\rs.find? (λr=>decide (r.1=z))=none)\/∃ e r,es.find? (·.key.isStr z)=some e/\rs.find? (λr=>decide (r.1=z))=some r/\∃ t,e.val = .str r.2 t
 | [],[],_=>.inl ⟨rfl,rfl⟩
 | [],_::_,h=>by cases h
 | _::_,[],h=>by cases h
 | e::es,r::rs,h=>by
  unfold zao at h
  rw[and_eq_true] at h
  obtain ⟨⟨t,hk⟩,hv⟩:=zfw h.1
  have q:e.key.isStr z=decide (r.1=z):=by rw[hk];exact zaq
  rw[find?_cons,find?_cons,q]
  by_cases hz:r.1=z
  ·rw[decide_eq_true hz]
   exact .inr ⟨e,r,rfl,rfl,hv⟩
  ·rw[decide_eq_false hz]
   exact U3 z h.2
theorem zbP:∀ {es:List DictEntry}{rs:List (Str×Str)},zao es rs=true->es.any (·.refKey)=false
 | [],[],_=>rfl
 | [],_::_,h=>by cases h
 | _::_,[],h=>by cases h
 | e::es,r::rs,h=>by
  unfold zao at h
  rw[and_eq_true] at h
  obtain ⟨⟨t,hk⟩,_⟩:=zfw h.1
  rw[any_cons,zbP h.2,Bool.or_false]
  unfold DictEntry.refKey
  rw[hk]
structure Txs (K:PySem.W.Frag)(P:Params)(mg:Str->Option Value)(x:Str)(rs:List (Str×Str)) where
 a:Addr
 g:Str->Option (V×Value)
 m:mg x=some (.ref a)
 D:zaU K P a g
 yes:∀ z v,rs.find? (λr=>decide (r.1=z))=some (z,v)->∃ u,g z=some (.str v,u)
theorem zfq {K:PySem.W.Frag}{P:Params}{mg:Str->Option Value}{x:Str}{a:Addr}{es:Array DictEntry}{n:Nat}{rs:List (Str×Str)}(hm:mg x=some (.ref a))(hl:K.lookup a=some ⟨.type "dict",none,.dict es n,#[]⟩)(hk:KeysLit P es.toList)(lo:(a==sysModules)=false)
  (h:zao es.toList rs=true):Nonempty (Txs K P mg x rs):=by
 refine ⟨⟨a,gOf es.toList,hm,⟨⟨es,n,hl,hk⟩,lo,λx=>?_,λx v u e=>?_⟩,λz v e=>?_⟩⟩
 ·unfold PySem.W.nsIn
  rw[hl]
  dsimp only
  unfold gOf
  rcases U3 x h with ⟨e1,_⟩ | ⟨e,r,e1,_,_⟩
  ·rw[e1,zbP h];rfl
  ·rw[e1];rfl
 ·unfold gOf at e
  rcases U3 x h with ⟨e1,_⟩ | ⟨e',r,e1,_,t,ht⟩
  ·rw[e1] at e;cases e
  ·rw[e1] at e
   rw[map_some] at e
   injection e with e
   injection e with e1 e2
   subst e1 e2
   rw[ht];exact ⟨t,rfl⟩
 ·rcases U3 z h with ⟨_,e2⟩ | ⟨e',r,e1,e2,t,ht⟩
  ·rw[e2] at e;cases e
  ·rw[e2] at e
   injection e with e;subst e
   refine ⟨e'.val,?_⟩
   unfold gOf
   rw[e1,map_some,ht];rfl
end L2
namespace Look
open PySem Ord Rdo
theorem J3:Ym (S "like")=some (S "like",S "order",[])/\Ym (S "turn")=some (S "turn",S "order",[S "order"])/\Ym (S "then")=some (S "then",S "order",[S "order",S "order"])/\Ym (S "pick")=some (S "pick",S "order",[S "case",S "order",S "order"])/\Ym (S "not")=some (S "not",S "case",[S "case"])/\
  Ym (S "up")=some (S "up",S "order",[S "field"])/\Ym (S "down")=some (S "down",S "order",[S "field"]):=by decide +kernel
theorem Wo {E:En}{x:Str}{r:Str×Str×List Str}(h:Ym x=some r)(st:List Tv):push E (.t x) st=zgn E (wix x) (st.take r.2.2.length)::st.drop r.2.2.length:=by unfold push;dsimp only;rw[h]
section
variable {E:En}{one other cs:List Wd}{a b:An}{c:Bool}
theorem zgI (R:List Tv):ev E [.t (S "like")] R = .an .like::R:=by
 show push E (.t (S "like")) R=_
 rw[Wo J3.1,JL.1];rfl
theorem zg1 (h:∀ R,ev E one R = .an a::R)(R:List Tv):ev E (.t (S "turn")::one) R = .an a.turn::R:=by
 show push E (.t (S "turn")) (ev E one R)=_
 rw[h,Wo J3.2.1,JL.2.2.2.2.1];rfl
theorem zgq (h:∀ R,ev E one R = .an a::R)(h' : ∀ R,ev E other R = .an b::R)(R:List Tv):ev E (.t (S "then")::(one++other)) R = .an (if a = .like then b else a)::R:=by
 show push E (.t (S "then")) (ev E (one++other) R)=_
 rw[zaG,h',h,Wo J3.2.2.1,JL.2.2.2.1];rfl
theorem zgQ (hc:∀ R,ev E cs R = .tr c::R)(h:∀ R,ev E one R = .an a::R)(h' : ∀ R,ev E other R = .an b::R)(R:List Tv):ev E (.t (S "pick")::(cs++(one++other))) R = .an (if c=true then a else b)::R:=by
 show push E (.t (S "pick")) (ev E (cs++(one++other)) R)=_
 rw[zaG,zaG,h',h,hc,Wo J3.2.2.2.1,JL.2.2.2.2.2.1];rfl
theorem zi1 (hc:∀ R,ev E cs R = .tr c::R)(R:List Tv):ev E (.t (S "not")::cs) R = .tr (!c)::R:=by
 show push E (.t (S "not")) (ev E cs R)=_
 rw[hc,Wo J3.2.2.2.2.1,JL.2.2.2.2.2.2.2.2.2.1];rfl
end
section
variable {fld:Str->Prop}{num:Int->Int->Prop}{a b cs:List Wd}
abbrev WN (fld:Str->Prop)(num:Int->Int->Prop)(ws:List Wd):Prop:=Run fld num [S "case"] ws []
abbrev zbH (fld:Str->Prop)(num:Int->Int->Prop)(ws:List Wd):Prop:=Run fld num [S "mark"] ws []
theorem zhy:Ql fld num [.t (S "like")]:=.cons (st1:=[]) (Ord.Step.word (ps:=[]) (st:=[]) (by decide +kernel) (by decide +kernel) (by decide +kernel)) .nil
theorem zki {x:Str}(hx:fld x):Ql fld num [.t (S "up"),.t x]:=.cons (st1:=[S "field"]) (Ord.Step.word (ps:=[S "field"]) (st:=[]) (by decide +kernel) (by decide +kernel) (by decide +kernel)) (.cons (Ord.Step.field hx) .nil)
theorem ziF {x:Str}(hx:fld x):Ql fld num [.t (S "down"),.t x]:=.cons (st1:=[S "field"]) (Ord.Step.word (ps:=[S "field"]) (st:=[]) (by decide +kernel) (by decide +kernel) (by decide +kernel)) (.cons (Ord.Step.field hx) .nil)
theorem zfR (hc:WN fld num cs)(ha:Ql fld num a)(hb:Ql fld num b):Ql fld num (.t (S "pick")::(cs++(a++b))):=
 .cons (st1:=[S "case",S "order",S "order"]) (Ord.Step.word (ps:=[S "case",S "order",S "order"]) (st:=[]) (by decide +kernel) (by decide +kernel) (by decide +kernel))
  (Run.app (Run.frame [S "order",S "order"] hc) (Run.app (Run.frame [S "order"] ha) hb))
theorem zjm (hc:WN fld num cs):WN fld num (.t (S "not")::cs):=.cons (st1:=[S "case"]) (Ord.Step.word (ps:=[S "case"]) (st:=[]) (by decide +kernel) (by decide +kernel) (by decide +kernel)) hc
theorem ziV {x:Str}(hx:fld x):WN fld num [.t (S "same"),.t x]:=.cons (st1:=[S "field"]) (Ord.Step.word (ps:=[S "field"]) (st:=[]) (by decide +kernel) (by decide +kernel) (by decide +kernel)) (.cons (Ord.Step.field hx) .nil)
theorem zhp (hm:zbH fld num cs):WN fld num (.t (S "both")::cs):=.cons (st1:=[S "mark"]) (Ord.Step.word (ps:=[S "mark"]) (st:=[]) (by decide +kernel) (by decide +kernel) (by decide +kernel)) hm
theorem zeq (hm:zbH fld num cs):WN fld num (.t (S "either")::cs):=.cons (st1:=[S "mark"]) (Ord.Step.word (ps:=[S "mark"]) (st:=[]) (by decide +kernel) (by decide +kernel) (by decide +kernel)) hm
theorem zjv (ha:WN fld num a)(hb:WN fld num b):WN fld num (.t (S "and")::(a++b)):=.cons (st1:=[S "case",S "case"]) (Ord.Step.word (ps:=[S "case",S "case"]) (st:=[]) (by decide +kernel) (by decide +kernel) (by decide +kernel)) (Run.app (Run.frame [S "case"] ha) hb)
theorem zkj (ha:WN fld num a)(hb:WN fld num b):WN fld num (.t (S "or")::(a++b)):=.cons (st1:=[S "case",S "case"]) (Ord.Step.word (ps:=[S "case",S "case"]) (st:=[]) (by decide +kernel) (by decide +kernel) (by decide +kernel)) (Run.app (Run.frame [S "case"] ha) hb)
theorem zjc {m x:Str}{p q:Int}(hm:m=S "under" \/ m=S "is")(hx:fld x)(hn:num p q):zbH fld num [.t m,.t x,.n p q]:=
 .cons (st1:=[S "field",S "number"]) (Ord.Step.word (ps:=[S "field",S "number"]) (st:=[]) (by decide +kernel) (by decide +kernel) (by rcases hm with rfl | rfl <;> decide +kernel)) (.cons (Ord.Step.field hx) (.cons (Ord.Step.number hn) .nil))
end
section
variable {E:En}
theorem zjg {x:Str}(hx:Ym x=none)(R:List Tv):ev E [.t (S "up"),.t x] R = .an (E.look x)::R:=by
 show push E (.t (S "up")) (push E (.t x) R)=_
 have e:push E (.t x) R = .wd (.t x)::R:=by unfold push;dsimp only;rw[hx]
 rw[e,Wo J3.2.2.2.2.2.1,JL.2.1];rfl
theorem zgT {x:Str}(hx:Ym x=none)(R:List Tv):ev E [.t (S "down"),.t x] R = .an (E.look x).turn::R:=by
 show push E (.t (S "down")) (push E (.t x) R)=_
 have e:push E (.t x) R = .wd (.t x)::R:=by unfold push;dsimp only;rw[hx]
 rw[e,Wo J3.2.2.2.2.2.2,JL.2.2.1];rfl
end
theorem zjf {a b:An}:a.t=b.t↔a=b:=by
 constructor
 ·intro h
  have k:∀ a b:An,a.t=b.t->a=b:=by intro a b;cases a <;> cases b <;> decide +kernel
  exact k a b h
 ·rintro rfl;rfl
abbrev Fs:=List (Int×Int)
end Look
namespace K46
open PySem L2 Frac Lw PySem.NumText Nm
noncomputable def top (i:Nat):Stmt:=PySem.Challenge.pw_ordertext_k46_led.main.body.getD i (.Pass ⟨0,0,0,0⟩)
abbrev VD:Stmt:=top 4
abbrev zbj:Stmt:=top 5
abbrev JT:Stmt:=top 6
abbrev Wy:Stmt:=top 7
abbrev V9:Stmt:=top 8
abbrev U0:Stmt:=top 9
abbrev XN:Stmt:=top 10
abbrev Ww:Stmt:=top 11
abbrev U7:Stmt:=top 12
abbrev Ws:Stmt:=top 13
abbrev Qy:Stmt:=top 15
abbrev Jj:Stmt:=top 16
abbrev YH:Stmt:=top 18
abbrev za3:Stmt:=top 20
abbrev Vk:Stmt:=top 21
abbrev QF:Stmt:=top 23
abbrev JZ:Stmt:=top 24
abbrev J4:Stmt:=top 25
abbrev Wh:Stmt:=top 26
abbrev Ja:Stmt:=top 27
abbrev Wi:Stmt:=top 28
abbrev J1:Stmt:=top 29
abbrev Jm:Stmt:=top 30
abbrev Jy:Stmt:=top 31
abbrev Qw:Stmt:=top 32
abbrev W5:Stmt:=top 33
abbrev Wn:Stmt:=top 34
abbrev Yp:Stmt:=top 35
abbrev Xv:Stmt:=top 36
abbrev JX:Stmt:=top 37
abbrev JK:Stmt:=top 38
abbrev QB:Stmt:=top 39
abbrev zbq:Stmt:=top 40
theorem QK:ZP ["order", "by_field", "by_mark", "told", "word"] ["order", "by_field", "by_mark"] (Zj VD):=⟨rfl,rfl,rfl,by decide +kernel,rfl,by decide +kernel,by decide +kernel⟩
theorem zbB:ZP ["told", "many", "parts"] ["told", "many"] (Zj zbj):=⟨rfl,rfl,rfl,by decide +kernel,rfl,by decide +kernel,by decide +kernel⟩
theorem zaF:ZP ["word", "parts", "by_field", "by_mark"] ["word", "parts", "by_field", "by_mark"] (Zj JT):=⟨rfl,rfl,rfl,by decide +kernel,rfl,by decide +kernel,by decide +kernel⟩
theorem Ub:ZP ["word", "parts"] ["word", "parts"] (Zj Wy):=⟨rfl,rfl,rfl,by decide +kernel,rfl,by decide +kernel,by decide +kernel⟩
theorem zcb:ZP ["part"] ["part"] (Zj V9):=⟨rfl,rfl,rfl,by decide +kernel,rfl,by decide +kernel,by decide +kernel⟩
theorem zcP:ZP ["word", "how"] ["word", "how"] (Zj U0):=⟨rfl,rfl,rfl,by decide +kernel,rfl,by decide +kernel,by decide +kernel⟩
theorem QH:ZP ["one", "other"] ["one", "other"] (Zj XN):=⟨rfl,rfl,rfl,by decide +kernel,rfl,by decide +kernel,by decide +kernel⟩
theorem Vr:ZP ["part"] ["part"] (Zj Ww):=⟨rfl,rfl,rfl,by decide +kernel,rfl,by decide +kernel,by decide +kernel⟩
theorem zcE:ZP ["case", "one", "other"] ["case", "one", "other"] (Zj U7):=⟨rfl,rfl,rfl,by decide +kernel,rfl,by decide +kernel,by decide +kernel⟩
theorem Qh:ZP ["truth", "word", "parts", "rest"] ["truth", "word", "parts"] (Zj Ws):=⟨rfl,rfl,rfl,by decide +kernel,rfl,by decide +kernel,by decide +kernel⟩
theorem JV:ZP ["one", "other", "left", "right"] ["one", "other"] (Zj Qy):=⟨rfl,rfl,rfl,by decide +kernel,rfl,by decide +kernel,by decide +kernel⟩
theorem Qc:ZP ["one", "other", "size"] ["one", "other"] (Zj Jj):=⟨rfl,rfl,rfl,by decide +kernel,rfl,by decide +kernel,by decide +kernel⟩
theorem V0:ZP ["order", "book", "first", "second", "by_field", "by_mark"] ["order", "book", "first", "second"] (Zj YH):=⟨rfl,rfl,rfl,by decide +kernel,rfl,by decide +kernel,by decide +kernel⟩
theorem ziC:ZP ["order", "book", "net", "row"] ["order", "book", "net", "row"] (Zj za3):=⟨rfl,rfl,rfl,by decide +kernel,rfl,by decide +kernel,by decide +kernel⟩
theorem Xp:ZP ["net", "row", "is_behind", "things", "exchanged", "place", "pair", "one", "other"] ["net", "row", "is_behind"] (Zj Vk):=⟨rfl,rfl,rfl,by decide +kernel,rfl,by decide +kernel,by decide +kernel⟩
theorem Jb:ZP ["cell", "k", "number"] ["cell", "k"] (Zj QF):=⟨rfl,rfl,rfl,by decide +kernel,rfl,by decide +kernel,by decide +kernel⟩
theorem zay:ZP ["script"] ["script"] (Zj JZ):=⟨rfl,rfl,rfl,by decide +kernel,rfl,by decide +kernel,by decide +kernel⟩
theorem Jw:ZP ["deck", "many", "cell", "found"] ["deck", "many"] (Zj J4):=⟨rfl,rfl,rfl,by decide +kernel,rfl,by decide +kernel,by decide +kernel⟩
theorem Y9:ZP ["over", "under", "one", "other"] ["over", "under"] (Zj Wh):=⟨rfl,rfl,rfl,by decide +kernel,rfl,by decide +kernel,by decide +kernel⟩
theorem Wx:ZP ["deck", "kind", "great"] ["deck"] (Zj Ja):=⟨rfl,rfl,rfl,by decide +kernel,rfl,by decide +kernel,by decide +kernel⟩
theorem YQ:ZP ["deck", "letters", "found", "k", "name", "words"] ["deck"] (Zj Wi):=⟨rfl,rfl,rfl,by decide +kernel,rfl,by decide +kernel,by decide +kernel⟩
theorem Wt:ZP ["deck", "fields", "deep", "kind", "leaf"] ["deck", "fields", "deep"] (Zj J1):=⟨rfl,rfl,rfl,by decide +kernel,rfl,by decide +kernel,by decide +kernel⟩
theorem Yo:ZP ["tree", "book", "word", "mark", "case", "found", "part"] ["tree", "book"] (Zj Jm):=⟨rfl,rfl,rfl,by decide +kernel,rfl,by decide +kernel,by decide +kernel⟩
theorem W8:ZP ["deck", "fields", "book", "tree"] ["deck", "fields", "book"] (Zj Jy):=⟨rfl,rfl,rfl,by decide +kernel,rfl,by decide +kernel,by decide +kernel⟩
theorem zbd:ZP ["one", "other"] ["one", "other"] (Zj Qw):=⟨rfl,rfl,rfl,by decide +kernel,rfl,by decide +kernel,by decide +kernel⟩
theorem Xe:ZP ["tree", "one", "other", "word", "side", "field", "marks"] ["tree", "one", "other"] (Zj W5):=⟨rfl,rfl,rfl,by decide +kernel,rfl,by decide +kernel,by decide +kernel⟩
theorem YT:ZP ["deck", "book", "order", "things", "field", "top", "mark", "some", "leaf"] ["deck", "book", "order", "things"] (Zj Wn):=⟨rfl,rfl,rfl,by decide +kernel,rfl,by decide +kernel,by decide +kernel⟩
theorem Xw:ZP ["deck", "fields", "many", "pool", "things", "k"] ["deck", "fields", "many"] (Zj Yp):=⟨rfl,rfl,rfl,by decide +kernel,rfl,by decide +kernel,by decide +kernel⟩
theorem Xm:ZP ["many", "net", "last"] ["many"] (Zj Xv):=⟨rfl,rfl,rfl,by decide +kernel,rfl,by decide +kernel,by decide +kernel⟩
theorem Jz:ZP ["deck", "many", "one", "other"] ["deck", "many"] (Zj JX):=⟨rfl,rfl,rfl,by decide +kernel,rfl,by decide +kernel,by decide +kernel⟩
theorem Yr:ZP ["deck", "many", "net", "kind", "k", "at", "way", "later"] ["deck", "many"] (Zj JK):=⟨rfl,rfl,rfl,by decide +kernel,rfl,by decide +kernel,by decide +kernel⟩
theorem Wc:ZP ["tree", "net", "row", "things", "one", "other", "held"] ["tree", "net", "row"] (Zj QB):=⟨rfl,rfl,rfl,by decide +kernel,rfl,by decide +kernel,by decide +kernel⟩
theorem Jr:ZP ["script", "deck", "turn", "book", "tree", "order", "row", "net", "due", "found"] ["script"] (Zj zbq):=⟨rfl,rfl,rfl,by decide +kernel,rfl,by decide +kernel,by decide +kernel⟩
noncomputable def zh5:Stmt->Nat
 | .FunctionDef _ _ _ _ _ _ _ _ _ pos=>pos.line
 | _=>0
abbrev Ys:Stmt:=(Z5 YH).getD 0 (.Pass ⟨0,0,0,0⟩)
abbrev Xu:Str:=(Str.ofString "looked" ++ ".<locals>.") ++ "by_field"
theorem JS:Y6 (Zj YH) (Zj Ys) ["word", "field"] ["place"] ["book", "first", "second"]:=⟨rfl,rfl,rfl,by decide +kernel,(by show ∀ p∈(_:List (Str×NameKind)),p.2=NameKind.free->List.lookup p.1 (Zj YH).names=some NameKind.cell;decide +kernel),by decide +kernel,by decide +kernel,by decide +kernel,by decide +kernel⟩
abbrev YM:Stmt:=(Z5 YH).getD 1 (.Pass ⟨0,0,0,0⟩)
abbrev X6:Str:=(Str.ofString "looked" ++ ".<locals>.") ++ "by_mark"
theorem QJ:Y6 (Zj YH) (Zj YM) ["word", "field", "number"] ["place"] ["book", "first", "second"]:=⟨rfl,rfl,rfl,by decide +kernel,(by show ∀ p∈(_:List (Str×NameKind)),p.2=NameKind.free->List.lookup p.1 (Zj YH).names=some NameKind.cell;decide +kernel),by decide +kernel,by decide +kernel,by decide +kernel,by decide +kernel⟩
abbrev YS:Nat->Nat->Option Str:=λl _=>if l=zh5 Ys then some Xu else some X6
abbrev JP:Str:=(Str.ofString "led" ++ ".<locals>.") ++ "<lambda>"
set_option genInjectivity false
structure Fn1 (K:PySem.W.Frag)(mg:Str->Option Value)(n:Str)(s:Stmt)(ps:List Str) where
 f:Addr
 fd:FuncData
 F:Fun K n n s f fd
 b:Binds K fd ps []
 m:mg n=some (.ref f)
abbrev Fn1.O {K:PySem.W.Frag}{mg:Str->Option Value}{n:Str}{s:Stmt}{ps:List Str}(T:Fn1 K mg n s ps)(P:Program)(w:World)(base:Heap)(k:Nat)(sp:Sp):Prop:=QS P w K mg base CX0 k T.f T.fd ps sp
structure Top (K:PySem.W.Frag)(mg:Str->Option Value) where
 WQ:Fn1 K mg "telling" VD ["order", "by_field", "by_mark"]
 UG:Fn1 K mg "taken" zbj ["told", "many"]
 YL:Fn1 K mg "word_told" JT ["word", "parts", "by_field", "by_mark"]
 Wz:Fn1 K mg "put_together" Wy ["word", "parts"]
 XD:Fn1 K mg "is_open" V9 ["part"]
 JH:Fn1 K mg "answer" U0 ["word", "how"]
 XM:Fn1 K mg "one_then_other" XN ["one", "other"]
 Y5:Fn1 K mg "turned_about" Ww ["part"]
 U4:Fn1 K mg "picked" U7 ["case", "one", "other"]
 Xg:Fn1 K mg "settled_by" Ws ["truth", "word", "parts"]
 QM:Fn1 K mg "compared" Qy ["one", "other"]
 Wl:Fn1 K mg "how_stands" Jj ["one", "other"]
 XX:Fn1 K mg "looked" YH ["order", "book", "first", "second"]
 zaz:Fn1 K mg "led" za3 ["order", "book", "net", "row"]
 Xy:Fn1 K mg "through" Vk ["net", "row", "is_behind"]
 JC:Fn1 K mg "_law_mix" QF ["cell", "k"]
 Jc:Fn1 K mg "_law_deck" JZ ["script"]
 Zw:Fn1 K mg "_law_next" J4 ["deck", "many"]
 YK:Fn1 K mg "_law_fraction" Wh ["over", "under"]
 Xi:Fn1 K mg "_law_number" Ja ["deck"]
 W4:Fn1 K mg "_law_book" Wi ["deck"]
 Yx:Fn1 K mg "_law_tree" J1 ["deck", "fields", "deep"]
 Yl:Fn1 K mg "_law_words" Jm ["tree", "book"]
 Wr:Fn1 K mg "_law_order" Jy ["deck", "fields", "book"]
 X7:Fn1 K mg "_law_far" Qw ["one", "other"]
 Yu:Fn1 K mg "_law_side" W5 ["tree", "one", "other"]
 Wm:Fn1 K mg "_law_cased" Wn ["deck", "book", "order", "things"]
 X3:Fn1 K mg "_law_things" Yp ["deck", "fields", "many"]
 Y4:Fn1 K mg "_law_bubbles" Xv ["many"]
 WT:Fn1 K mg "_law_pair" JX ["deck", "many"]
 WM:Fn1 K mg "_law_net" JK ["deck", "many"]
 WP:Fn1 K mg "_law_due" QB ["tree", "net", "row"]
 zbK:Addr
 Y8:Addr
 cd_looked:XX.fd.code = .ref zbK
 ch_looked:codeHdIn K zbK Y8=true
 zir:Addr
 Uk:Addr
 cd_led:zaz.fd.code = .ref zir
 ch_led:codeHdIn K zir Uk=true
 zcB:mg "len" = none
 JQ:mg "range" = none
 J8:mg "tuple" = none
 VL:mg "isinstance" = none
 zh9:mg "list" = none
 int_:mg "int" = none
 zcV:mg "reversed" = none
 zb5:mg "enumerate" = none
 bool_:mg "bool" = none
 zkm:mg "abs" = none
 zkD:mg "max" = none
 zkE:mg "sum" = none
 tt:kitOne K (.type "tuple") (.type "tuple")=some true
 st:kitOne K (.type "str") (.type "tuple")=some false
 bt:kitOne K (.type "bool") (.type "tuple")=some false
 ii:kitOne K (.type "int") (.type "int")=some true
 ib:kitOne K (.type "int") (.type "bool")=some false
 bb:kitOne K (.type "bool") (.type "bool")=some true
theorem peN {X:Cx}{x:Str}{st:Stmt}{ps:List Str}{k:Nat}{sp:Sp}{e:Expr}{es:List Expr}{t:TA}{p pos:Pos}(T:Fn1 X.K X.mg x st ps)(F:QS X.prog X.w X.K X.mg X.base CX0 k T.f T.fd ps sp)(hr:Wa k X.A)(ha:PA X (e::es) t)(hg:Gl X x:=by rfl)(hdb:(x==("__debug__" : Str))=false:=by decide)(he:starEach (e::es) X.env=(false,eval e X.env)::starEach es X.env:=by rfl)(hpl:(backTo pos (starEach es X.env)).any (·.1)=false:=by rfl):PE X (.Call (.Name x p) (e::es) [] pos) (Jx sp [] E0 t):=zcN F hr hg T.m T.F.kp T.b .nil zic ha hdb he hpl
end K46
namespace Big
open PySem PyProof.Rows
noncomputable section
end
end Big
namespace L2
open PySem PySem.Spec PyProof.Rows Lw
structure Tg where
 ok:Addr->List Addr->Hp->Hp->Prop
 st:∀ {p:Addr}{fp:List Addr}{G H G' H' : Hp},ok p fp G H->ZR G G' -> (∀ a∈p::fp,H' a=H a)->ok p fp G' H'
 live:∀ {p:Addr}{fp:List Addr}{G H:Hp},ok p fp G H->∀ a∈p::fp,∃ o,H a=some o
inductive PV where
 | un
 | dat (d:PyData)
 | own (ds:List PyData)
 | lnt (p:Addr) (ds:List PyData)
 | scr (ns:List Int)
 | val (x:V)
 | thg (T:Tg)
noncomputable def PV.rd:PV->Option (List PyData)
 | .own ds=>some ds
 | .lnt _ ds=>some ds
 | _=>none
noncomputable def PV.mut:PV->Bool
 | .un=>false
 | .dat _=>false
 | .scr _=>false
 | .val _=>false
 | _=>true
theorem PV.ziB {v:PV}{ds:List PyData}(h:v.rd=some ds):v.mut=true:=by cases v <;> first | rfl | cases h
def Sl (K:PySem.W.Frag)(G H:Hp)(o:Option (Option V)):PV->List Addr->Prop
 | .un,F=>F=[]
 | .dat d,F=>F=[]/\∃ x,o=some (some x)/\Dat K G x d
 | .own ds,F=>∃ p xs,F=[p]/\o=some (some (.ref p))/\H p=some (.lst xs)/\Yc K G xs ds
 | .lnt p ds,F=>∃ xs,F=[p]/\o=some (some (.ref p))/\H p=some (.lst xs)/\Yc K G xs ds
 | .scr ns,F=>F=[]/\∃ a,o=some (some (.ref a))/\SqL K G a (ns.map V.int)
 | .val x,F=>F=[]/\o=some (some x)
 | .thg T,F=>∃ p fp,F=p::fp/\o=some (some (.ref p))/\T.ok p fp G H
theorem Sl.rd {K:PySem.W.Frag}{G H:Hp}{o:Option (Option V)}{v:PV}{F:List Addr}{ds:List PyData}(s:Sl K G H o v F)(h:v.rd=some ds):∃ p xs,F=[p]/\o=some (some (.ref p))/\H p=some (.lst xs)/\Yc K G xs ds:=by
 cases v with
 | own es=>cases h;exact s
 | lnt p es=>cases h;exact ⟨p,s⟩
 | _=>cases h
structure Gw (E:Addr->Prop)(G0 H0 G H:Hp):Prop where
 gg:ZR G0 G
 gh:ZR G H
 kp:∀ b o,¬ E b->H0 b=some o->H b=some o
 al:∀ b,H b=none->H0 b=none
 fr:∀ b o,G b=some o->G0 b=some o\/H0 b=none
structure Rl (K:PySem.W.Frag)(B:Hp)(E:Addr->Prop)(G0 H0 G H:Hp)(σ:St)(ρ:List PV)(F:Nat->List Addr):Prop where
 g:Gw E G0 H0 G H
 bb:ZR B G
 ls:σ.length=ρ.length
 sl:∀ i v,ρ[i]?=some v->Sl K G H σ[i]? v (F i)
 fr:∀ i a,a∈F i->G a=none/\(∃ o,H a=some o)/\(E a\/H0 a=none)
 dj:∀ i j a,a∈F i->a∈F j->i=j
 ow:∀ i ds a,ρ[i]?=some (.own ds)->a∈F i->H0 a=none
structure Nw (G H H0:Hp)(F:Nat->List Addr)(Fv:List Addr):Prop where
 fr:∀ a∈Fv,G a=none/\(∃ o,H a=some o)/\H0 a=none
 dj:∀ a∈Fv,∀ j,a∉F j
section
variable {K:PySem.W.Frag}{B:Hp}{E:Addr->Prop}{G0 H0 G H G' H' : Hp}{σ:St}{ρ:List PV}{F:Nat->List Addr}
theorem Gw.refl (s:ZR G H):Gw E G H G H:=⟨ZR.refl _,s,λ_ _ _ h=>h,λ_ h=>h,λ_ _ h=>.inl h⟩
theorem Gw.grow (g:Gw E G0 H0 G H)(k:Yt G H G' H'):Gw E G0 H0 G' H' :=
 ⟨g.gg.trans k.gg,k.gh,λb o n h=>k.hh b o (g.kp b o n h),λb h=>g.al b (k.hh.free h),λb o h=>(k.fr b o h).elim (g.fr b o) λz=>.inr (g.al b z)⟩
theorem Gw.VB (g:Gw (λ_=>False) G0 H0 G H):Yt G0 H0 G H:=⟨g.gg,g.gh,λb o h=>g.kp b o (λz=>z) h,g.fr⟩
theorem Sl.grow {o:Option (Option V)}{v:PV}{L:List Addr}(s:Sl K G H o v L)(gg:ZR G G')(hh:∀ a∈L,H' a=H a):Sl K G' H' o v L:=by
 cases v with
 | un=>exact s
 | dat d=>obtain ⟨e,x,hx,hd⟩:=s;exact ⟨e,x,hx,hd.same gg⟩
 | own ds=>
  obtain ⟨p,xs,e,hx,hp,hd⟩:=s
  exact ⟨p,xs,e,hx,by rw[hh p (by rw[e];simp)];exact hp,hd.same gg⟩
 | lnt p ds=>
  obtain ⟨xs,e,hx,hp,hd⟩:=s
  exact ⟨xs,e,hx,by rw[hh p (by rw[e];simp)];exact hp,hd.same gg⟩
 | scr ns=>obtain ⟨e,a,hx,hq⟩:=s;exact ⟨e,a,hx,gg.seq hq⟩
 | val x=>exact s
 | thg T=>
  obtain ⟨p,fp,e,hx,ht⟩:=s
  exact ⟨p,fp,e,hx,T.st ht gg (by rw[← e];exact hh)⟩
theorem Rl.grow (r:Rl K B E G0 H0 G H σ ρ F)(k:Yt G H G' H'):Rl K B E G0 H0 G' H' σ ρ F:=by
 have hh:∀ i,∀ a∈F i,H' a=H a:=λi a ha=>by
  obtain ⟨_,⟨o,ho⟩,_⟩:=r.fr i a ha
  rw[ho];exact k.hh a o ho
 refine ⟨r.g.grow k,r.bb.trans k.gg,r.ls,λi v h=>(r.sl i v h).grow k.gg (hh i),λi a ha=>?_,r.dj,r.ow⟩
 obtain ⟨h1,⟨o,h2⟩,h3⟩:=r.fr i a ha
 exact ⟨k.out h2 h1,⟨o,k.hh a o h2⟩,h3⟩
theorem Rl.set {i:Nat}{v:V}{r:PV}{L:List Addr}(R:Rl K B E G0 H0 G H σ ρ F)(s:Sl K G H (some (some v)) r L)(n:Nw G H H0 F L):Rl K B E G0 H0 G H (σ.set i (some v)) (ρ.set i r) (λk=>if k=i then L else F k):=by
 refine ⟨R.g,R.bb,by rw[length_set,length_set,R.ls],λk u h=>?_,λk a ha=>?_,λk j a ha hb=>?_,λk ds a h ha=>?_⟩
 ·by_cases e:k=i
  ·subst e
   rw[if_pos rfl]
   have hk:k<ρ.length:=by
    have:=(List.getElem?_eq_some_iff.mp h).1
    rw[length_set] at this;exact this
   rw[getElem?_set_self hk] at h
   cases h
   rw[getElem?_set_self (by rw[R.ls];exact hk)]
   exact s
  ·rw[if_neg e]
   rw[getElem?_set_ne (Ne.symm e)] at h ⊢
   exact R.sl k u h
 ·by_cases e:k=i
  ·rw[if_pos e] at ha
   obtain ⟨h1,h2,h3⟩:=n.fr a ha
   exact ⟨h1,h2,.inr h3⟩
  ·rw[if_neg e] at ha;exact R.fr k a ha
 ·by_cases e:k=i
  ·by_cases e' : j=i
   ·rw[e,e']
   ·rw[if_pos e] at ha;rw[if_neg e'] at hb
    exact absurd hb (n.dj a ha j)
  ·by_cases e' : j=i
   ·rw[if_neg e] at ha;rw[if_pos e'] at hb
    exact absurd ha (n.dj a hb k)
   ·rw[if_neg e] at ha;rw[if_neg e'] at hb;exact R.dj k j a ha hb
 ·by_cases e:k=i
  ·rw[if_pos e] at ha;exact (n.fr a ha).2.2
  ·rw[if_neg e] at ha
   rw[getElem?_set_ne (Ne.symm e)] at h
   exact R.ow k ds a h ha
theorem Jh:Nw G H H0 F []:=⟨λ_ h=>(by cases h),λ_ h=>(by cases h)⟩
theorem Rl.zgB {i:Nat}{v:V}{d:PyData}(R:Rl K B E G0 H0 G H σ ρ F)(s:Dat K G v d):Rl K B E G0 H0 G H (σ.set i (some v)) (ρ.set i (.dat d)) (λk=>if k=i then [] else F k):=
 R.set ⟨rfl,v,rfl,s⟩ Jh
def Rx (K:PySem.W.Frag)(B:Hp)(G:Hp)(σ:St)(ρ:List PV):Prop:=ZR B G/\(∀ (i:Nat) (d:PyData),ρ[i]?=some (PV.dat d)->∃ x,σ[i]?=some (some x)/\Dat K G x d)/\(∀ (i:Nat) (v:PV) (ds:List PyData),ρ[i]?=some v->v.rd=some ds->∃ x,σ[i]?=some (some x)/\Dat K G x (.list ds))/\(∀ (i:Nat) (T:Tg),ρ[i]?=some (PV.thg T)->∃ p fp,σ[i]?=some (some (.ref p))/\T.ok p fp G G)/\(∀ (i:Nat) (ns:List Int),ρ[i]?=some (PV.scr ns)->∃ a,σ[i]?=some (some (.ref a))/\SqL K G a (ns.map V.int))/\∀ (i:Nat) (x:V),ρ[i]?=some (PV.val x)->σ[i]?=some (some x)
def Er (K:PySem.W.Frag)(B:Hp)(t:TE)(ρ:List PV)(d:PyData):Prop:=∀ G σ,Rx K B G σ ρ->Ev K t σ G d
def Et (K:PySem.W.Frag)(B:Hp)(t:TT)(ρ:List PV)(b:Bool):Prop:=∀ G σ,Rx K B G σ ρ->EvT t σ G b
def Ea (K:PySem.W.Frag)(B:Hp)(t:TA)(ρ:List PV)(ds:List PyData):Prop:=∀ G σ,Rx K B G σ ρ->EvA K t σ G ds
noncomputable def PV.msk:PV->PV
 | .dat d=>.dat d
 | .scr ns=>.scr ns
 | .val x=>.val x
 | _=>.un
abbrev msk (ρ:List PV):List PV:=ρ.map PV.msk
theorem Rl.rx (R:Rl K B E G0 H0 G H σ ρ F):Rx K B G σ (msk ρ):=by
 refine ⟨R.bb,?_,?_,?_,?_,?_⟩
 ·intro i d h
  rw[getElem?_map] at h
  cases e:ρ[i]? with
  | none=>rw[e] at h;cases h
  | some v=>
   rw[e] at h
   cases v with
   | dat d' =>
    cases h
    exact (R.sl i _ e).2
   | _=>cases h
 ·intro i u ds h hu
  rw[getElem?_map] at h
  cases e:ρ[i]? with
  | none=>rw[e] at h;cases h
  | some v=>
   rw[e] at h
   cases v <;> cases h <;> cases hu
 ·intro i T h
  rw[getElem?_map] at h
  cases e:ρ[i]? with
  | none=>rw[e] at h;cases h
  | some v=>rw[e] at h;cases v <;> cases h
 ·intro i ns h
  rw[getElem?_map] at h
  cases e:ρ[i]? with
  | none=>rw[e] at h;cases h
  | some v=>
   rw[e] at h
   cases v with
   | scr ms=>cases h;exact (R.sl i _ e).2
   | _=>cases h
 ·intro i x h
  rw[getElem?_map] at h
  cases e:ρ[i]? with
  | none=>rw[e] at h;cases h
  | some v=>
   rw[e] at h
   cases v with
   | val y=>cases h;exact (R.sl i _ e).2
   | _=>cases h
open Classical in
noncomputable def gPl (ρ:List PV) (F:Nat->List Addr) (G H:Hp):Hp:=λb=>if ∃ i v,ρ[i]?=some v/\v.mut=true/\b∈F i then H b else G b
theorem Rl.gpl (R:Rl K B E G0 H0 G H σ ρ F):ZR G (gPl ρ F G H)/\ZR (gPl ρ F G H) H/\Rx K B (gPl ρ F G H) σ ρ:=by
 have s1:ZR G (gPl ρ F G H):=λb o h=>by
  unfold gPl
  split
  ·exact R.g.gh b o h
  ·exact h
 refine ⟨s1,λb o h=>?_,R.bb.trans s1,λi d h=>?_,λi v ds h hv=>?_,λi T h=>?_,λi ns h=>?_,λi x h=>(R.sl i _ h).2⟩
 ·unfold gPl at h
  split at h
  ·exact h
  ·exact R.g.gh b o h
 ·obtain ⟨_,x,hx,hd⟩:=R.sl i _ h
  exact ⟨x,hx,hd.same s1⟩
 ·obtain ⟨p,xs,e,hx,hp,hd⟩:=(R.sl i _ h).rd hv
  refine ⟨_,hx,YX (xs:=xs) ?_ (hd.same s1)⟩
  unfold gPl
  rw[if_pos ⟨i,v,h,PV.ziB hv,by rw[e];simp⟩]
  exact hp
 ·obtain ⟨p,fp,e,hx,ht⟩:=R.sl i _ h
  refine ⟨p,fp,hx,T.st ht s1 λa ha=>?_⟩
  unfold gPl
  rw[if_pos ⟨i,_,h,rfl,by rw[e];exact ha⟩]
 ·obtain ⟨_,a,hx,hq⟩:=R.sl i _ h
  exact ⟨a,hx,s1.seq hq⟩
noncomputable def flat:PyData->Bool
 | .none | .bool _ | .int _ | .str _=>true
 | _=>false
theorem Dat.flat {v:V}{d:PyData}(h:Dat K G v d)(f:flat d=true)(G' : Hp):Dat K G' v d:=by
 cases d with
 | none=>rw[h.non];exact Ju
 | bool b=>rw[h.bl];exact Yb b
 | int i=>rw[h.int];exact Zx i
 | str x=>rw[h.str];exact YZ x
 | list _=>cases f
 | tuple _=>cases f
 | dict _=>cases f
def Ex (K:PySem.W.Frag)(B:Hp)(t:TE)(ρ:List PV)(d:PyData):Prop:=∀ E G0 H0 G H σ F,Rl K B E G0 H0 G H σ ρ F->∀ Q:VK,(∀ v G' H',Yt G H G' H' -> Dat K G' v d->Q v H')->t σ H Q
theorem zjA {t:TE}{d:PyData}(h:Er K B t (msk ρ) d):Ex K B t ρ d:=λ_ _ _ G H σ F R Q k=>h G σ R.rx G H (ZR.refl _) R.g.gh Q k
theorem zf0 {t:TE}{d:PyData}(h:Er K B t ρ d)(f:flat d=true):Ex K B t ρ d:=λ_ _ _ G H σ F R Q k=>by
 obtain ⟨s1,s2,x⟩:=R.gpl
 exact h _ σ x _ H (ZR.refl _) s2 Q λv G' H' g hv=>k v G H' (VN R.g.gh g.hh) (hv.flat f G)
theorem zbZ {i:Nat}{ti:TE}{u:PV}{ds:List PyData}{j:Int}{n:Nat}{d:PyData}(hi:ρ[i]?=some u)(hu:u.rd=some ds)(h:Er K B ti ρ (.int j))(hn:ixN ds.length j=some n)(hd:ds[n]?=some d):Ex K B (tOp (za2 K) (XQ i) ti) ρ d:=λ_ _ _ G H σ F R Q k=>by
 obtain ⟨s1,s2,x⟩:=R.gpl
 obtain ⟨p,xs,e,hx,hp,hds⟩:=(R.sl i _ hi).rd hu
 refine ⟨_,hx,h _ σ x _ H (ZR.refl _) s2 _ λv G' H' g hv=>?_⟩
 obtain ⟨y,hy,hyd⟩:=hds.get hd
 refine ⟨p,xs,j,y,rfl,hv.int,SqL.of (g.hh _ _ hp),?_,k y G H' (VN R.g.gh g.hh) hyd⟩
 unfold atI
 rw[hds.length,hn]
 exact hy
def Eg (K:PySem.W.Frag)(B:Hp)(t:TE)(ρ:List PV)(R:PV->List PV->Prop):Prop:=∀ E G0 H0 G H σ F,Rl K B E G0 H0 G H σ ρ F->∀ Q:VK,
 (∀ v r ρ' G' H' F' L,R r ρ' -> ZR G G' -> Rl K B E G0 H0 G' H' σ ρ' F' -> Sl K G' H' (some (some v)) r L->Nw G' H' H0 F' L->Q v H')->t σ H Q
theorem zcn {t:TE}{d:PyData}{R:PV->List PV->Prop}(h:Ex K B t ρ d)(k:R (.dat d) ρ):Eg K B t ρ R:=λE G0 H0 G H σ F r Q q=>h E G0 H0 G H σ F r Q λv G' H' g hv=>q v _ ρ G' H' F [] k g.gg (r.grow g) ⟨rfl,v,rfl,hv⟩ Jh
theorem ZK {t:TE}{d:PyData}{R:PV->List PV->Prop}(h:Er K B t (msk ρ) d)(k:R (.dat d) ρ):Eg K B t ρ R:=zcn (zjA h) k
theorem Js {t:TE}{d:PyData}{R:PV->List PV->Prop}(h:Er K B t ρ d)(f:flat d=true)(k:R (.dat d) ρ):Eg K B t ρ R:=zcn (zf0 h f) k
theorem Rl.zi6 {p:Addr}{xs:List V}{ds:List PyData}(R:Rl K B E G0 H0 G H σ ρ F)(hp:H p=none)(hd:Yc K G xs ds):Rl K B E G0 H0 G (upd H p (.lst xs)) σ ρ F/\Sl K G (upd H p (.lst xs)) (some (some (.ref p))) (.own ds) [p]/\Nw G (upd H p (.lst xs)) H0 F [p]:=by
 have gp:G p=none:=R.g.gh.free hp
 refine ⟨R.grow (VN R.g.gh (XR hp)),⟨p,xs,rfl,rfl,Zy,hd⟩,λa ha=>?_,λa ha j hj=>?_⟩
 ·rw[mem_singleton.mp ha]
  exact ⟨gp,⟨_,Zy⟩,R.g.al p hp⟩
 ·rw[mem_singleton.mp ha] at hj
  obtain ⟨_,⟨o,h⟩,_⟩:=R.fr j p hj
  rw[hp] at h;cases h
theorem za0 {t:TA}{ds:List PyData}{R:PV->List PV->Prop}(h:Ea K B t (msk ρ) ds)(hl:ds.length<=sizeLine)(k:R (.own ds) ρ):Eg K B (zgp t) ρ R:=λE G0 H0 G H σ F r Q q=>
 h G σ r.rx G H (ZR.refl _) r.g.gh _ λvs G' H' g hv=>⟨by rw[hv.length];exact hl,λp hp=>by
  obtain ⟨a,b,c⟩:=(r.grow g).zi6 hp hv
  exact q _ _ ρ G' _ F [p] k g.gg a b c⟩
theorem zdT {t:TA}{ds:List PyData}{R:PV->List PV->Prop}(h:Ea K B t (msk ρ) [.tuple ds]\/Ea K B t (msk ρ) [.list ds])(k:R (.own ds) ρ):Eg K B (tCB (λxs H Q=>∃ p ys,xs=[.ref p]/\(SqL K H p ys\/SqT K H p ys)/\∀ l,H l=none->Q (.ref l) (upd H l (.lst ys))) t) ρ R:=λE G0 H0 G H σ F r Q q=>by
 rcases h with h | h
 ·refine h G σ r.rx G H (ZR.refl _) r.g.gh _ λvs G' H' g hv=>?_
  obtain ⟨y,ys,rfl,hy,hn⟩:=hv.cons
  cases hn.nil
  obtain ⟨p,xs,rfl,hp,hx⟩:=hy.tup
  refine ⟨p,xs,rfl,.inr (g.gh.tup hp),λl hl=>?_⟩
  obtain ⟨a,b,c⟩:=(r.grow g).zi6 hl hx
  exact q _ _ ρ G' _ F [l] k g.gg a b c
 ·refine h G σ r.rx G H (ZR.refl _) r.g.gh _ λvs G' H' g hv=>?_
  obtain ⟨y,ys,rfl,hy,hn⟩:=hv.cons
  cases hn.nil
  obtain ⟨p,xs,rfl,hp,hx⟩:=hy.lst
  refine ⟨p,xs,rfl,.inl (SqL.of (g.gh _ _ hp)),λl hl=>?_⟩
  obtain ⟨a,b,c⟩:=(r.grow g).zi6 hl hx
  exact q _ _ ρ G' _ F [l] k g.gg a b c
structure Pn where
 nx:List PV->Prop
 rt:PV->List PV->Prop
 bk:List PV->Prop:=λ_=>False
 ct:List PV->Prop:=λ_=>False
structure Dn (K:PySem.W.Frag)(B:Hp)(E:Addr->Prop)(G0 H0 Gs:Hp)(R:Pn)(D:Ends):Prop where
 nx:∀ {G H σ ρ F},R.nx ρ->ZR Gs G->Rl K B E G0 H0 G H σ ρ F->D.nx σ H
 rt:∀ {v r G H σ ρ F L},R.rt r ρ->ZR Gs G->Rl K B E G0 H0 G H σ ρ F->Sl K G H (some (some v)) r L->Nw G H H0 F L->D.rt v H
 bk:∀ {G H σ ρ F},R.bk ρ->ZR Gs G->Rl K B E G0 H0 G H σ ρ F->D.bk σ H
 ct:∀ {G H σ ρ F},R.ct ρ->ZR Gs G->Rl K B E G0 H0 G H σ ρ F->D.ct σ H
theorem Dn.mono {Gs Gt:Hp}{R:Pn}{D:Ends}(d:Dn K B E G0 H0 Gs R D)(s:ZR Gs Gt):Dn K B E G0 H0 Gt R D:=⟨λx y=>d.nx x (s.trans y),λx y=>d.rt x (s.trans y),λx y=>d.bk x (s.trans y),λx y=>d.ct x (s.trans y)⟩
def Sv (K:PySem.W.Frag)(B:Hp)(t:TS)(ρ:List PV)(R:Pn):Prop:=∀ E G0 H0 G H σ F D,Rl K B E G0 H0 G H σ ρ F->Dn K B E G0 H0 G R D->t D σ H
theorem Zr {t u:TS}{R:Pn}(h:Sv K B t ρ { R with nx:=fun ρ' => Sv K B u ρ' R }):Sv K B (zgr t u) ρ R:=λE G0 H0 G H σ F D r d=>
 h E G0 H0 G H σ F { D with nx:=u D } r ⟨λhs s r' => hs E G0 H0 _ _ _ _ D r' (d.mono s),d.rt,d.bk,d.ct⟩
theorem ZW {R:Pn}(h:R.nx ρ):Sv K B zgs ρ R:=λE G0 H0 G H σ F D r d=>d.nx h (ZR.refl _) r
theorem zhQ {t:TS}{R R' : Pn}(h:Sv K B t ρ R)(n:∀ ρ,R.nx ρ->R'.nx ρ)(q:∀ r ρ,R.rt r ρ->R'.rt r ρ)(b:∀ ρ,R.bk ρ->R'.bk ρ)(c:∀ ρ,R.ct ρ->R'.ct ρ):Sv K B t ρ R' := λE G0 H0 G H σ F D r d=>
 h E G0 H0 G H σ F D r ⟨λx=>d.nx (n _ x),λx=>d.rt (q _ _ x),λx=>d.bk (b _ x),λx=>d.ct (c _ x)⟩
theorem ZJ {te:TE}{i:Nat}{R:Pn}(h:Eg K B te ρ λr ρ' => R.nx (ρ'.set i r)):Sv K B (zeu te (Va i)) ρ R:=λE G0 H0 G H σ F D r d=>
 h E G0 H0 G H σ F r _ λv w ρ' G' H' F' L hR s r' sl n=>d.nx hR s (r'.set sl n)
theorem W7 {c:TT}{t u:TS}{b:Bool}{R:Pn}(h:Et K B c ρ b)(k1:b=true->Sv K B t ρ R)(k2:b=false->Sv K B u ρ R):Sv K B (zeb c t u) ρ R:=λE G0 H0 G H σ F D r d=>by
 obtain ⟨s1,s2,x⟩:=r.gpl
 refine h _ σ x _ H (ZR.refl _) s2 _ λG' H' g=>?_
 have r' := r.grow (VN r.g.gh g.hh)
 cases b with
 | true=>rw[if_pos rfl];exact k1 rfl E G0 H0 _ _ σ F D r' d
 | false=>rw[if_neg Bool.false_ne_true];exact k2 rfl E G0 H0 _ _ σ F D r' d
theorem QW {c:TT}{t u:TS}{R:Pn}(h:Et K B c ρ true)(k1:Sv K B t ρ R):Sv K B (zeb c t u) ρ R:=W7 h (λ_=>k1) λz=>(by cases z)
theorem YJ {c:TT}{t u:TS}{R:Pn}(h:Et K B c ρ false)(k1:Sv K B u ρ R):Sv K B (zeb c t u) ρ R:=W7 h (λz=>by cases z) λ_=>k1
theorem Z6 {te:TE}{R:Pn}(h:Eg K B te ρ R.rt):Sv K B (zhk te) ρ R:=λE G0 H0 G H σ F D r d=>
 h E G0 H0 G H σ F r _ λv w ρ' G' H' F' L hR s r' sl n=>d.rt hR s r' sl n
open Classical in
end
section
variable {K:PySem.W.Frag}{B:Hp}{E:Addr->Prop}{G0 H0 G H G' H' : Hp}{σ:St}{ρ:List PV}{F:Nat->List Addr}{ta tb te:TE}{a b d:PyData}{ds es:List PyData}
theorem Rx.mono (r:Rx K B G σ ρ)(s:ZR G G'):Rx K B G' σ ρ:=
 ⟨r.1.trans s,λi d h=>let ⟨x,hx,hd⟩:=r.2.1 i d h;⟨x,hx,hd.same s⟩,λi v d h hv=>let ⟨x,hx,hd⟩:=r.2.2.1 i v d h hv;⟨x,hx,hd.same s⟩,λi T h=>let ⟨p,fp,hx,ht⟩:=r.2.2.2.1 i T h;⟨p,fp,hx,T.st ht s λa ha=>by
  obtain ⟨o,ho⟩:=T.live ht a ha
  rw[ho,s a o ho]⟩,λi ns h=>let ⟨a,hx,hq⟩:=r.2.2.2.2.1 i ns h;⟨a,hx,s.seq hq⟩,r.2.2.2.2.2⟩
theorem Ze {i:Nat}(h:ρ[i]?=some (.dat d)):Er K B (XQ i) ρ d:=λG σ r=>let ⟨x,hx,hd⟩:=r.2.1 i d h;Zh hx hd
theorem Xx {i:Nat}{u:PV}(h:ρ[i]?=some u)(hu:u.rd=some ds):Er K B (XQ i) ρ (.list ds):=λG σ r=>let ⟨x,hx,hd⟩:=r.2.2.1 i u ds h hu;Zh hx hd
theorem Zn {i:Int}:Er K B (tC (.int i)) ρ (.int i):=λ_ _ _=>YD
theorem Yd {x:Str}:Er K B (tC (.str x)) ρ (.str x):=λ_ _ _=>Zu
theorem zjG {x:Bool}:Er K B (tC (.bl x)) ρ (.bool x):=λ_ _ _=>zf8
theorem Y0 {g:Int->Int->V}{i j:Int}(ha:Er K B ta ρ (.int i))(hb:Er K B tb ρ (.int j))(hg:∀ G,Dat K G (g i j) d):Er K B (tOp (rI0 g) ta tb) ρ d:=λG σ r=>Vc (ha G σ r) (hb G σ r) (hg G)
theorem Wv {C:Int->Int->Prop}{g:Int->Int->V}{i j:Int}(ha:Er K B ta ρ (.int i))(hb:Er K B tb ρ (.int j))(hc:C i j)(hg:∀ G,Dat K G (g i j) d):Er K B (tOp (rI C g) ta tb) ρ d:=λG σ r=>zdD (ha G σ r) (hb G σ r) hc (hg G)
theorem XH {i:Int}{n:Nat}(ha:Er K B ta ρ (.tuple ds))(hb:Er K B tb ρ (.int i))(hn:ixN ds.length i=some n)(hd:ds[n]?=some d):Er K B (tOp (zd5 K) ta tb) ρ d:=λG σ r=>JR (ha G σ r) (hb G σ r) hn hd
theorem Z2 {i:Int}{n:Nat}(ha:Er K B ta ρ (.list ds))(hb:Er K B tb ρ (.int i))(hn:ixN ds.length i=some n)(hd:ds[n]?=some d):Er K B (tOp (za2 K) ta tb) ρ d:=λG σ r=>YF (ha G σ r) (hb G σ r) hn hd
theorem zh6 {g:Bool->Bool}{n:Nat}(ha:Er K B ta ρ a)(hb:Er K B tb ρ b)(pa:Pl n a)(pb:Pl n b)(hn:n<=64):Er K B (tOp (zf1 K g) ta tb) ρ (.bool (g (PySem.Spec.same a b))):=λG σ r=>zfB (ha G σ r) (hb G σ r) pa pb hn
theorem zju {i j:Int}(ha:Er K B ta ρ (.int i))(hb:Er K B tb ρ (.int j)):Er K B (tOp rNe ta tb) ρ (.bool (!decide (i=j))):=λG σ r=>zjs (ha G σ r) (hb G σ r)
theorem zbS {i j:Int}(ha:Er K B ta ρ (.int i))(hb:Er K B tb ρ (.int j)):Er K B (tOp rEq ta tb) ρ (.bool (decide (i=j))):=λG σ r=>zc1 (ha G σ r) (hb G σ r)
theorem Zq:Ea K B Q4 ρ []:=λ_ _ _=>ZZ
theorem Zc {t:TA}(ha:Er K B ta ρ a)(hb:Ea K B t ρ ds):Ea K B (Yh ta t) ρ (a::ds):=λG σ r=>Zv (ha G σ r) (hb G σ r)
theorem X8 {t:TA}(h:Ea K B t ρ ds)(hl:ds.length<=sizeLine):Er K B (zg3 t) ρ (.tuple ds):=λG σ r=>zfC (h G σ r) hl
theorem Xl {t:TA}(h:Ea K B t ρ ds)(hl:ds.length<=sizeLine):Er K B (zgp t) ρ (.list ds):=λG σ r=>ze9 (h G σ r) hl
theorem UW {t:TA}(h:Ea K B t ρ [.list ds]):Er K B (tCB (λxs H Q=>∃ p ys,xs=[.ref p]/\(SqL K H p ys\/SqT K H p ys)/\Q (.int ys.length) H) t) ρ (.int ds.length):=λG σ r=>zgx (h G σ r)
theorem zbg {t:TA}(h:Ea K B t ρ [.tuple ds]):Er K B (tCB (λxs H Q=>∃ p ys,xs=[.ref p]/\(SqL K H p ys\/SqT K H p ys)/\Q (.int ys.length) H) t) ρ (.int ds.length):=λG σ r=>zc6 (h G σ r)
theorem Jv {t:TA}(h:Ea K B t ρ [.list ds]):Er K B (tCB (λxs H Q=>∃ p ys,xs=[.ref p]/\((SqL K H p ys/\∀ l,H l=none->Q (.ref l) (upd H l (.tup ys)))\/(SqT K H p ys/\Q (.ref p) H))) t) ρ (.tuple ds):=λG σ r=>V1 (h G σ r)
theorem Ye {t:TE}{c:Bool}(h:Er K B t ρ (.bool c)):Et K B (Qs t) ρ c:=λG σ r=>Xa (h G σ r)
theorem zjT {t:TE}{c:Bool}(h:Er K B t ρ (.bool c)):Et K B (tB t) ρ c:=λG σ r=>za5 (h G σ r)
theorem zib {t:TT}{c:Bool}(h:Et K B t ρ c):Et K B (zjn t) ρ (!c):=λG σ r=>zgb (h G σ r)
theorem zhM {t u:TT}{c e:Bool}(h:Et K B t ρ c)(h' : c=false->Et K B u ρ e):Et K B (tOr t u) ρ (c||e):=λG σ r=>zh7 (h G σ r) λz=>h' z G σ r
theorem zij {t u:TT}{c e:Bool}(h:Et K B t ρ c)(h' : c=true->Et K B u ρ e):Et K B (zje t u) ρ (c&&e):=λG σ r=>zgd (h G σ r) λz=>h' z G σ r
theorem zd7 {t:TT}{c e:Bool}(h:Et K B t ρ c)(q:c=e):Et K B t ρ e:=q ▸ h
theorem zbi:Et K B ze2 ρ true:=λ_ _ _=>zbw
theorem Q6 {t:TE}{e:PyData}(h:Er K B t ρ d)(q:d=e):Er K B t ρ e:=q ▸ h
theorem Yv {R:List PyData->PyData->Prop}{X:XK}{t:TA}(h:Ea K B t ρ ds)(hR:R ds d):Er K B (Jx (spP K R) [] X t) ρ d:=λG σ r=>Yi (h G σ r) hR
theorem zhg {n:String}{c:Bool}(ha:Er K B ta ρ d)(e:kitOne K (.type (tyN d)) (.type n)=some c):Er K B (tCB (zjr K) (Yh ta (Yh (tC (.ty n)) Q4))) ρ (.bool c):=λG σ r=>zdC (ha G σ r) e
structure Wd (K:PySem.W.Frag)(J:It)(G:Hp)(ds:List PyData):Prop where
 go:∀ i H',ZR G H' -> i<ds.length->J.go i H'
 stop:∀ i H',ZR G H' -> ds.length<=i->J.stop i H'
 yld:∀ i H1 x H2 G1 d,ZR G G1->ZR G1 H1->ds[i]?=some d->J.yld i H1 x H2->∃ G2,Yt G1 H1 G2 H2/\Dat K G2 x d
def Ei (K:PySem.W.Frag)(B:Hp)(wi:TI)(ρ:List PV)(ds:List PyData):Prop:=∀ G H σ,Rx K B G σ ρ->ZR G H->∀ R:It->Hp->Prop,(∀ J G' H',Yt G H G' H' -> Wd K J G' ds->R J H')->wi σ H R
theorem zbQ {lo:Int}{n:Nat}:Wd K (Itr lo n) G ((List.range n).map λ(i:Nat)=>PyData.int (lo+i)):=by
 refine ⟨λi H' _ h=>by rw[length_map,length_range] at h;exact h,λi H' _ h=>by rw[length_map,length_range] at h;exact h,λi H1 x H2 G1 d s1 s2 hd y=>?_⟩
 obtain ⟨rfl,rfl⟩:=y
 refine ⟨G1,Yt.refl s2,?_⟩
 rw[getElem?_map] at hd
 by_cases h:i<n
 ·rw[List.getElem?_range h] at hd
  cases hd;exact Zx _
 ·rw[List.getElem?_eq_none (by rw[length_range];omega)] at hd;cases hd
theorem zhC {p:Addr}{xs:List V}(h:G p=some (.lst xs))(hd:Yc K G xs ds):Wd K (Itl K p) G ds:=by
 refine ⟨λi H' s hi=>⟨xs,_,SqL.of (s _ _ h),getElem?_eq_getElem (by rw[hd.length];exact hi)⟩,λi H' s hi=>⟨xs,SqL.of (s _ _ h),by rw[hd.length];exact hi⟩,λi H1 x H2 G1 d s1 s2 he y=>?_⟩
 obtain ⟨rfl,y⟩:=y
 obtain ⟨x',hx',hdx⟩:=hd.get he
 have:=y xs (SqL.of (s2 _ _ (s1 _ _ h)))
 rw[hx'] at this;cases this
 exact ⟨G1,Yt.refl s2,hdx.same s1⟩
theorem ziy {p:Addr}{xs:List V}(h:SqT K G p xs)(hd:Yc K G xs ds):Wd K (Itt K p) G ds:=by
 refine ⟨λi H' s hi=>⟨xs,_,s.tup h,getElem?_eq_getElem (by rw[hd.length];exact hi)⟩,λi H' s hi=>⟨xs,s.tup h,by rw[hd.length];exact hi⟩,λi H1 x H2 G1 d s1 s2 he y=>?_⟩
 obtain ⟨rfl,y⟩:=y
 obtain ⟨x',hx',hdx⟩:=hd.get he
 have:=y xs (s2.tup (s1.tup h))
 rw[hx'] at this;cases this
 exact ⟨G1,Yt.refl s2,hdx.same s1⟩
theorem zdE (h:Er K B te ρ (.list ds)):Ei K B (zgk K te) ρ ds:=λG H σ r s R k=>h G σ r G H (ZR.refl _) s _ λv G' H' g hv=>by
 obtain ⟨p,xs,rfl,hp,hx⟩:=hv.lst
 exact ⟨p,rfl,⟨xs,SqL.of (g.gh _ _ hp)⟩,k _ G' H' g (zhC hp hx)⟩
theorem zdB (h:Er K B te ρ (.tuple ds)):Ei K B (zjI K te) ρ ds:=λG H σ r s R k=>h G σ r G H (ZR.refl _) s _ λv G' H' g hv=>by
 obtain ⟨p,xs,rfl,hp,hx⟩:=hv.tup
 exact ⟨p,rfl,⟨xs,g.gh.tup hp⟩,k _ G' H' g (ziy hp hx)⟩
theorem zhc {t:TA}{j:Int}(h:Ea K B t ρ [.int j])(hj:-(2 ^ 62)<=j/\j<2 ^ 62):Ei K B (zeK t) ρ ((List.range j.toNat).map λ(i:Nat)=>PyData.int (0+i)):=λG H σ r s R k=>h G σ r G H (ZR.refl _) s _ λvs G' H' g hv=>by
 obtain ⟨y,ys,rfl,hy,r⟩:=hv.cons
 rw[r.nil,hy.int]
 exact ⟨j,rfl,hj.1,hj.2,k _ G' H' g zbQ⟩
noncomputable def za7 (ds:List PyData):List PyData:=(List.range ds.length).map λ(i:Nat)=>PyData.tuple [.int i,ds.getD i .none]
theorem zdQ {i:Nat}{d:PyData}(h:(za7 ds)[i]?=some d):∃ e,ds[i]?=some e/\d = .tuple [.int i,e]:=by
 unfold za7 at h
 rw[getElem?_map] at h
 by_cases hi:i<ds.length
 ·rw[List.getElem?_range hi] at h
  cases h
  exact ⟨ds[i],getElem?_eq_getElem hi,by show PyData.tuple [.int i,ds.getD i .none]=_;rw[getD_eq_getElem?_getD,getElem?_eq_getElem hi];rfl⟩
 ·rw[List.getElem?_eq_none (by rw[length_range];omega)] at h;cases h
theorem zar:(za7 ds).length=ds.length:=by unfold za7;rw[length_map,length_range]
theorem zhH {t:TA}(h:Ea K B t ρ [.tuple ds]):Ei K B (zj4 K t) ρ (za7 ds):=λG H σ r s R k=>h G σ r G H (ZR.refl _) s _ λvs G' H' g hv=>by
 obtain ⟨y,ys,rfl,hy,r⟩:=hv.cons
 cases r.nil
 obtain ⟨p,xs,rfl,hp,hx⟩:=hy.tup
 refine ⟨p,rfl,⟨xs,g.gh.tup hp⟩,k _ G' H' g ⟨λi H' s hi=>?_,λi H' s hi=>?_,λi H1 x H2 G1 d s1 s2 he y=>?_⟩⟩
 ·rw[zar,← hx.length] at hi
  exact ⟨xs,_,s.tup hp,getElem?_eq_getElem hi⟩
 ·rw[zar,← hx.length] at hi
  exact ⟨xs,s.tup hp,hi⟩
 ·obtain ⟨e,he',rfl⟩:=zdQ he
  obtain ⟨q,z,hq,rfl,rfl,hz⟩:=y
  obtain ⟨x',hx',hdx⟩:=hx.get he'
  have:=hz xs (s2.tup (s1.tup hp))
  rw[hx'] at this;cases this
  have g:=Yw (o:=.tup [.int (i:Nat),z]) s2 hq
  exact ⟨_,g,Xr (SqT.of Zy) (Z1 (Zx _) (Z1 ((hdx.same s1).same g.gg) Z7))⟩
noncomputable def zca (ρ:List PV) (js:List Nat):List PV:=js.map λj=>(ρ[j]?).getD .un
theorem zhl {x:V}{js:List Nat}(r:Rx K B G σ ρ)(hd:Dat K G x d):Rx K B G (some x::Wu σ js) (.dat d::zca ρ js):=by
 refine ⟨r.1,λi e h=>?_,λi u e h hu=>?_,λi T h=>?_,λi ns h=>?_,λi y h=>?_⟩
 ·cases i with
  | zero=>cases h;exact ⟨x,rfl,hd⟩
  | succ i=>
   rw[getElem?_cons_succ] at h ⊢
   unfold zca at h
   unfold Wu
   rw[getElem?_map] at h ⊢
   cases q:js[i]? with
   | none=>rw[q] at h;cases h
   | some j=>
    rw[q] at h
    have h:(ρ[j]?).getD .un = .dat e:=Option.some.inj h
    cases z:ρ[j]? with
    | none=>rw[z] at h;cases h
    | some u=>
     rw[z] at h
     have h:u = .dat e:=h
     subst h
     obtain ⟨y,hy,hyd⟩:=r.2.1 j e z
     exact ⟨y,by show some (σ[j]?).join=_;rw[hy];rfl,hyd⟩
 ·cases i with
  | zero=>cases h;cases hu
  | succ i=>
   rw[getElem?_cons_succ] at h ⊢
   unfold zca at h
   unfold Wu
   rw[getElem?_map] at h ⊢
   cases q:js[i]? with
   | none=>rw[q] at h;cases h
   | some j=>
    rw[q] at h
    have h:(ρ[j]?).getD .un=u:=Option.some.inj h
    cases z:ρ[j]? with
    | none=>rw[z] at h;subst h;cases hu
    | some u' =>
     rw[z] at h
     have h:u'=u:=h
     subst h
     obtain ⟨y,hy,hyd⟩:=r.2.2.1 j u' e z hu
     exact ⟨y,by show some (σ[j]?).join=_;rw[hy];rfl,hyd⟩
 ·cases i with
  | zero=>cases h
  | succ i=>
   rw[getElem?_cons_succ] at h ⊢
   unfold zca at h
   unfold Wu
   rw[getElem?_map] at h ⊢
   cases q:js[i]? with
   | none=>rw[q] at h;cases h
   | some j=>
    rw[q] at h
    have h:(ρ[j]?).getD .un = .thg T:=Option.some.inj h
    cases z:ρ[j]? with
    | none=>rw[z] at h;cases h
    | some u' =>
     rw[z] at h
     have h:u' = .thg T:=h
     subst h
     obtain ⟨p,fp,hy,hyd⟩:=r.2.2.2.1 j T z
     exact ⟨p,fp,by show some (σ[j]?).join=_;rw[hy];rfl,hyd⟩
 ·cases i with
  | zero=>cases h
  | succ i=>
   rw[getElem?_cons_succ] at h ⊢
   unfold zca at h
   unfold Wu
   rw[getElem?_map] at h ⊢
   cases q:js[i]? with
   | none=>rw[q] at h;cases h
   | some j=>
    rw[q] at h
    have h:(ρ[j]?).getD .un = .scr ns:=Option.some.inj h
    cases z:ρ[j]? with
    | none=>rw[z] at h;cases h
    | some u' =>
     rw[z] at h
     have h:u' = .scr ns:=h
     subst h
     obtain ⟨p,hy,hyd⟩:=r.2.2.2.2.1 j ns z
     exact ⟨p,by show some (σ[j]?).join=_;rw[hy];rfl,hyd⟩
 ·cases i with
  | zero=>cases h
  | succ i=>
   rw[getElem?_cons_succ] at h ⊢
   unfold zca at h
   unfold Wu
   rw[getElem?_map] at h ⊢
   cases q:js[i]? with
   | none=>rw[q] at h;cases h
   | some j=>
    rw[q] at h
    have h:(ρ[j]?).getD .un = .val y:=Option.some.inj h
    cases z:ρ[j]? with
    | none=>rw[z] at h;cases h
    | some u' =>
     rw[z] at h
     have h:u' = .val y:=h
     subst h
     have hy:=r.2.2.2.2.2 j y z
     show some (σ[j]?).join=_
     rw[hy];rfl
def Lcx (K:PySem.W.Frag)(B:Hp)(tt:TT)(te:TE)(ρ:List PV)(o:Option PyData):Prop:=(∃ d,o=some d/\Et K B tt ρ true/\Er K B te ρ d)\/(o=none/\Et K B tt ρ false)
theorem lx1 {tt:TT}(ht:Et K B tt ρ true)(he:Er K B te ρ d):Lcx K B tt te ρ (some d):=.inl ⟨d,rfl,ht,he⟩
theorem lxB {tt:TT}{c:Bool}(ht:Et K B tt ρ c)(he:c=true->Er K B te ρ d):Lcx K B tt te ρ (if c then some d else none):=by
 cases c with
 | true=>exact .inl ⟨d,rfl,ht,he rfl⟩
 | false=>exact .inr ⟨rfl,ht⟩
theorem zhr {α:Type}{wi:TI}{js:List Nat}{tt:TT}(as:List α)(enc:α->PyData)(f:α->Option PyData)(h:Ei K B wi ρ (as.map enc))(hn:as.length<sizeLine)(hc:∀ a∈as,Lcx K B tt te (.dat (enc a)::zca ρ js) (f a))
  (r:Rx K B G σ ρ) (s:ZR G H) {Q:VK}(k:∀ p xs G' H',Yt G H G' H' -> H' p=none->Yc K G' xs (as.filterMap f)->Q (.ref p) (upd H' p (.lst xs))):tLC wi js tt te σ H Q:=by
 refine h G H σ r s _ λJ G2 H2 g2 W=>?_
 have fl:∀ i (hi:i<as.length),((as.take (i+1)).filterMap f)=(as.take i).filterMap f++(f as[i]).toList:=λi hi=>by
  rw[take_succ,List.filterMap_append,getElem?_eq_getElem hi]
  show _++List.filterMap f [as[i]]=_
  rw[filterMap_cons]
  cases f as[i] <;> rfl
 refine ⟨λi m ys H' => m=as.length-i/\i<=as.length/\ys.length<=i/\∃ G',Yt G2 H2 G' H' /\ Yc K G' ys ((as.take i).filterMap f),⟨as.length,by omega,by omega,by simp,G2,Yt.refl g2.gh,by simpa using Z7⟩,?_⟩
 rintro i m ys H' ⟨rfl,hi,hl,G',g',hys⟩
 refine ⟨by omega,?_⟩
 have sgh:ZR G2 H' := g'.gg.trans g'.gh
 by_cases hin:i=as.length
 ·subst hin
  refine .inl ⟨W.stop _ H' sgh (by rw[length_map];exact Nat.le_refl _),λp hp=>?_⟩
  rw[take_length] at hys
  exact k p ys G' H' (g2.trans g') hp hys
 ·have hi' : i<as.length:=by omega
  refine .inr ⟨W.go i H' sgh (by rw[length_map];exact hi'),λx H'' hy=>?_⟩
  obtain ⟨G3,g3,hx⟩:=W.yld i H' x H'' G' (enc as[i]) g'.gg g'.gh (by rw[getElem?_map,getElem?_eq_getElem hi'];rfl) hy
  have rx:=zhl (js:=js) ((r.mono (g2.gg.trans g'.gg)).mono g3.gg) hx
  rcases hc as[i] (List.getElem_mem hi') with ⟨d,hf,ht,he⟩ | ⟨hf,ht⟩
  ·refine ht _ _ rx G3 H'' (ZR.refl _) g3.gh _ λG4 H4 g4=>?_
   rw[if_pos rfl]
   refine he _ _ (rx.mono g4.gg) G4 H4 (ZR.refl _) g4.gh _ λv G5 H5 g5 hv=>⟨as.length-(i+1),by omega,rfl,by omega,by rw[length_append];show ys.length+1<=i+1;omega,G5,((g'.trans g3).trans g4).trans g5,?_⟩
   rw[fl i hi',hf]
   exact XJ (hys.same ((g3.gg.trans g4.gg).trans g5.gg)) hv
  ·refine ht _ _ rx G3 H'' (ZR.refl _) g3.gh _ λG4 H4 g4=>?_
   rw[if_neg Bool.false_ne_true]
   refine ⟨as.length-(i+1),by omega,rfl,by omega,by omega,G4,(g'.trans g3).trans g4,?_⟩
   rw[fl i hi',hf]
   show Yc K G4 ys (_++[])
   rw[append_nil]
   exact hys.same (g3.gg.trans g4.gg)
theorem zeU {α:Type}{wi:TI}{js:List Nat}{tt:TT}(as:List α)(enc:α->PyData)(f:α->Option PyData)(h:Ei K B wi ρ (as.map enc))(hn:as.length<sizeLine)(hc:∀ a∈as,Lcx K B tt te (.dat (enc a)::zca ρ js) (f a)):Er K B (tLC wi js tt te) ρ (.list (as.filterMap f)):=
 λG σ r G1 H s1 s2 Q k=>zhr as enc f h hn hc (r.mono s1) s2 λp xs G' H' g hp hd=>by
  have g3:=Yw (o:=.lst xs) g.gh hp
  exact k _ _ _ (g.trans g3) (YX Zy (hd.same g3.gg))
def Gt (K:PySem.W.Frag)(B:Hp)(g:TG)(d:PyData)(ρ:List PV)(P:List PV->Prop):Prop:=∀ E G0 H0 G H σ F x (Q:St->Hp->Prop),Rl K B E G0 H0 G H σ ρ F->Dat K G x d->(∀ σ' ρ' G' H' F',P ρ' -> ZR G G' -> Rl K B E G0 H0 G' H' σ' ρ' F' -> Q σ' H')->g x σ H Q
theorem QC {i:Nat}{P:List PV->Prop}(h:P (ρ.set i (.dat d))):Gt K B (Va i) d ρ P:=λE G0 H0 G H σ F x Q r hd k=>k _ _ G H _ h (ZR.refl _) (r.zgB hd)
theorem zfm {i j:Nat}{P:List PV->Prop}(h:P ((ρ.set i (.dat a)).set j (.dat b))):Gt K B (zjV K 2 (zdH (Va i) (zdH (Va j) zjx))) (.tuple [a,b]) ρ P:=λE G0 H0 G H σ F x Q r hd k=>by
 obtain ⟨p,xs,rfl,hp,hx⟩:=hd.tup
 obtain ⟨y,ys,rfl,hy,hx⟩:=hx.cons
 obtain ⟨z,zs,rfl,hz,hx⟩:=hx.cons
 cases hx.nil
 exact ⟨p,_,rfl,r.g.gh.tup hp,rfl,y,_,rfl,z,_,rfl,rfl,k _ _ G H _ h (ZR.refl _) ((r.zgB hy).zgB hz)⟩
theorem VH {α:Type}{wi:TI}{g:TG}{tb:TS}{R:Pn}(as:List α)(enc:α->PyData)(h:Ei K B wi (msk ρ) (as.map enc))(Iv:Nat->List PV->Prop)(h0:Iv 0 ρ)
  (hs:∀ (i:Nat) (hi:i<as.length) ρ',Iv i ρ' -> Gt K B g (enc as[i]) ρ' fun ρ2=>Sv K B tb ρ2 { nx:=Iv (i+1),ct:=Iv (i+1),bk:=R.nx,rt:=R.rt }) (hd:∀ ρ',Iv as.length ρ' -> R.nx ρ'):Sv K B (zjH wi g tb) ρ R:=λE G0 H0 G H σ F D r dn=>by
 refine h G H σ r.rx r.g.gh _ λJ G1 H1 g1 W=>?_
 refine ⟨λi m σ' H' => m=as.length-i/\i<=as.length/\∃ ρ' G' F',Iv i ρ' /\ Rl K B E G0 H0 G' H' σ' ρ' F' /\ ZR G1 G',⟨as.length,by omega,by omega,ρ,G1,F,h0,r.grow g1,ZR.refl _⟩,?_⟩
 rintro i m σ' H' ⟨rfl,hi,ρ',G',F',hI,r',s'⟩
 by_cases hin:i=as.length
 ·subst hin
  exact .inl ⟨W.stop _ H' (s'.trans r'.g.gh) (by rw[length_map];exact Nat.le_refl _),dn.nx (hd ρ' hI) (g1.gg.trans s') r'⟩
 ·have hi' : i<as.length:=by omega
  refine .inr ⟨W.go i H' (s'.trans r'.g.gh) (by rw[length_map];exact hi'),fun σ2 H2=>∃ ρ2 G2 F2,Iv (i+1) ρ2/\Rl K B E G0 H0 G2 H2 σ2 ρ2 F2/\ZR G1 G2,fun σ2 H2 ⟨ρ2,G2,F2,q⟩=>⟨as.length-(i+1),by omega,rfl,by omega,ρ2,G2,F2,q⟩,λx H'' hy=>?_⟩
  obtain ⟨G3,g3,hx⟩:=W.yld i H' x H'' G' (enc as[i]) s' r'.g.gh (by rw[getElem?_map,getElem?_eq_getElem hi'];rfl) hy
  have r3:=r'.grow g3
  have s3:ZR G1 G3:=s'.trans g3.gg
  refine hs i hi' ρ' hI E G0 H0 G3 H'' σ' F' x _ r3 hx fun σ4 ρ4 G4 H4 F4 hP s4 r4=>?_
  have s14:=s3.trans s4
  refine hP E G0 H0 G4 H4 σ4 F4 _ r4 ⟨λhI2 s5 r5=>⟨_,_,_,hI2,r5,s14.trans s5⟩,λhR s5 r5 sl n=>dn.rt hR (g1.gg.trans (s14.trans s5)) r5 sl n,λhR s5 r5=>dn.nx hR (g1.gg.trans (s14.trans s5)) r5,λhI2 s5 r5=>⟨_,_,_,hI2,r5,s14.trans s5⟩⟩
theorem zet {c:TT}{tb:TS}{R:Pn}(Iv:Nat->List PV->Prop)(m0:Nat)(h0:Iv m0 ρ)
  (hs:∀ m ρ',Iv m ρ' -> ∃ b,Et K B c ρ' b/\(b=true->Sv K B tb ρ' { nx:=fun ρ2=>∃ m',m'<m/\Iv m' ρ2,ct:=fun ρ2=>∃ m',m'<m/\Iv m' ρ2,bk:=R.nx,rt:=R.rt })/\(b=false->R.nx ρ')):Sv K B (zdm c tb) ρ R:=λE G0 H0 G H σ F D r dn=>by
 refine ⟨λm σ' H' => ∃ ρ' G' F',Iv m ρ' /\ Rl K B E G0 H0 G' H' σ' ρ' F' /\ ZR G G',⟨m0,ρ,G,F,h0,r,ZR.refl _⟩,?_⟩
 rintro m σ' H' ⟨ρ',G',F',hI,r',s'⟩
 obtain ⟨b,hb,ht,hf⟩:=hs m ρ' hI
 obtain ⟨s1,s2,x⟩:=r'.gpl
 refine hb _ σ' x _ H' (ZR.refl _) s2 _ λG2 H2 g=>?_
 have r2:=r'.grow (VN r'.g.gh g.hh)
 cases b with
 | false=>
  rw[if_neg Bool.false_ne_true]
  exact dn.nx (hf rfl) s' r2
 | true=>
  rw[if_pos rfl]
  refine ⟨fun σ3 H3=>∃ m',m'<m/\∃ ρ3 G3 F3,Iv m' ρ3/\Rl K B E G0 H0 G3 H3 σ3 ρ3 F3/\ZR G G3,fun σ3 H3 q=>q,?_⟩
  refine ht rfl E G0 H0 G' H2 σ' F' _ r2 ⟨λ⟨m',hm,hI2⟩ s5 r5=>⟨m',hm,_,_,_,hI2,r5,s'.trans s5⟩,λhR s5 r5 sl n=>dn.rt hR (s'.trans s5) r5 sl n,λhR s5 r5=>dn.nx hR (s'.trans s5) r5,λ⟨m',hm,hI2⟩ s5 r5=>⟨m',hm,_,_,_,hI2,r5,s'.trans s5⟩⟩
noncomputable def PV.put:PV->List PyData->PV
 | .own _,ds=>.own ds
 | .lnt p _,ds=>.lnt p ds
 | v,_=>v
theorem Rl.put {i:Nat}{u:PV}{p:Addr}{xs:List V}(R:Rl K B E G0 H0 G H σ ρ F)(hi:ρ[i]?=some u)(hu:u.rd=some ds)(hx:σ[i]?=some (some (.ref p)))(hd:Yc K G xs es):Rl K B E G0 H0 G (upd H p (.lst xs)) σ (ρ.set i (u.put es)) F:=by
 obtain ⟨p',xs',e,hx',hp,_⟩:=(R.sl i _ hi).rd hu
 rw[hx] at hx'
 cases hx'
 have hpi:p∈F i:=by rw[e];simp
 obtain ⟨gp,_,hE⟩:=R.fr i p hpi
 have hlt:i<ρ.length:=(List.getElem?_eq_some_iff.mp hi).1
 refine ⟨⟨R.g.gg,JB R.g.gh gp,λb o n h=>?_,λb h=>?_,R.g.fr⟩,R.bb,by rw[length_set];exact R.ls,λj v h=>?_,λj a ha=>?_,R.dj,λj ds' a h ha=>?_⟩
 ·have:b≠p:=λz=>by
   subst z
   rcases hE with hE | hE
   ·exact n hE
   ·rw[hE] at h;cases h
  rw[ZC this];exact R.g.kp b o n h
 ·by_cases z:b=p
  ·subst z;rw[Zy] at h;cases h
  ·rw[ZC z] at h;exact R.g.al b h
 ·by_cases z:j=i
  ·subst z
   rw[getElem?_set_self hlt] at h
   cases h
   cases u with
   | own es' => exact ⟨p,xs,e,hx,Zy,hd⟩
   | lnt q es' =>
    obtain ⟨_,e2,hx2,_⟩:=R.sl j _ hi
    rw[hx] at hx2;cases hx2
    exact ⟨xs,e,hx,Zy,hd⟩
   | _=>cases hu
  ·rw[getElem?_set_ne (Ne.symm z)] at h
   refine (R.sl j v h).grow (ZR.refl _) λa ha=>ZC λq=>?_
   subst q
   exact z (R.dj j i a ha hpi)
 ·obtain ⟨h1,⟨o,h2⟩,h3⟩:=R.fr j a ha
  refine ⟨h1,?_,h3⟩
  by_cases z:a=p
  ·subst z;exact ⟨_,Zy⟩
  ·exact ⟨o,by rw[ZC z];exact h2⟩
 ·by_cases z:j=i
  ·subst z
   rw[getElem?_set_self hlt] at h
   cases u with
   | own es' => exact R.ow j es' a hi ha
   | lnt q es' => cases h
   | _=>cases hu
  ·rw[getElem?_set_ne (Ne.symm z)] at h
   exact R.ow j ds' a h ha
theorem zaI {i:Nat}{R:Pn}(h:Eg K B te ρ λr ρ' => ∃ (d:PyData)(u:PV)(ds:List PyData),r = .dat d/\ρ'[i]?=some u/\u.rd=some ds/\ds.length<sizeLine/\R.nx (ρ'.set i (u.put (ds++[d])))){u0:PV}{ds0:List PyData}(hi:ρ[i]?=some u0)(hu:u0.rd=some ds0):Sv K B (zht (tBM K "list" zdu (XQ i) (Yh te Q4))) ρ R:=λE G0 H0 G H σ F D r dn=>by
 obtain ⟨p,xs,e,hx,hp,hd⟩:=(r.sl i _ hi).rd hu
 refine ⟨_,hx,.inl ⟨rfl,xs,SqL.of hp⟩,?_⟩
 refine h E G0 H0 G H σ F r _ λv w ρ' G' H' F' L hR s r' sl n=>?_
 obtain ⟨d,u,ds,rfl,hi',hu',hl,hR⟩:=hR
 obtain ⟨p',xs',e',hx',hp',hd'⟩:=(r'.sl i _ hi').rd hu'
 rw[hx] at hx';cases hx'
 obtain ⟨_,x,hxv,hxd⟩:=sl
 cases hxv
 refine ⟨p,xs',v,rfl,rfl,hp',by rw[hd'.length];exact hl,?_⟩
 exact dn.nx hR s (r'.put hi' hu' hx (XJ hd' hxd))
theorem Jl {i:Nat}{ti:TE}{R:Pn}(h:Eg K B te ρ λr ρ' => ∃ (d:PyData)(u:PV)(ds:List PyData)(j:Int)(n:Nat),r = .dat d/\ρ'[i]?=some u/\u.rd=some ds/\Er K B ti ρ' (.int j)/\ixN ds.length j=some n/\R.nx (ρ'.set i (u.put (ds.set n d)))):Sv K B (zeu te (zi5 (XQ i) ti zeL)) ρ R:=λE G0 H0 G H σ F D r dn=>by
 refine h E G0 H0 G H σ F r _ λv w ρ' G' H' F' L hR s r' sl n=>?_
 obtain ⟨d,u,ds,j,n,rfl,hi',hu',he,hn,hR⟩:=hR
 obtain ⟨p',xs',e',hx',hp',hd'⟩:=(r'.sl i _ hi').rd hu'
 obtain ⟨_,x,hxv,hxd⟩:=sl
 cases hxv
 obtain ⟨s1,s2,x⟩:=r'.gpl
 refine ⟨_,hx',he _ σ x _ H' (ZR.refl _) s2 _ λiv G2 H2 g2 hiv=>?_⟩
 have r2:=r'.grow (VN r'.g.gh g2.hh)
 refine ⟨p',xs',j,n,rfl,hiv.int,g2.hh _ _ hp',by rw[hd'.length];exact hn,?_⟩
 exact dn.nx hR s (r2.put hi' hu' hx' (zbG n hd' hxd))
noncomputable def YG (N:List Str) (vs:List PV):List PV:=vs++List.replicate (N.length-vs.length) .un
theorem zcT {vs:List V}{N:List Str}(sb:ZR B G)(s:ZR G H)(hv:Yc K G vs ds):Rl K B (λ_=>False) G H G H (start N vs) (YG N (ds.map .dat)) (λ_=>[]):=by
 refine ⟨Gw.refl s,sb,?_,λi v h=>?_,λ_ _ h=>(by cases h),λ_ _ _ h _=>(by cases h),λ_ _ _ _ h=>(by cases h)⟩
 ·unfold start YG
  rw[length_append,length_append,length_map,length_map,length_replicate,length_replicate,hv.length]
 ·unfold YG at h
  unfold start
  by_cases hi:i<ds.length
  ·rw[getElem?_append_left (by rw[length_map];exact hi),getElem?_map,getElem?_eq_getElem hi] at h
   cases h
   obtain ⟨x,hx,hxd⟩:=hv.get (getElem?_eq_getElem hi)
   exact ⟨rfl,x,by rw[getElem?_append_left (by rw[length_map,hv.length];exact hi),getElem?_map,hx];rfl,hxd⟩
  ·rw[getElem?_append_right (by rw[length_map];omega)] at h
   have:=List.mem_of_getElem? h
   rw[(mem_replicate.mp this).2]
   rfl
variable {P:Program}{w:World}{mg:Str->Option Value}{base:Heap}
def zg4 (K:PySem.W.Frag)(B:Hp)(R:List PyData->PyData->Prop):Sp:=λvs H Q _=>∃ (G:Hp) (ds:List PyData) (d:PyData),ZR B G/\ZR G H/\Yc K G vs ds/\R ds d/\∀ v G' H',Yt G H G' H' -> Dat K G' v d->Q v H'
theorem zd9 {R:List PyData->PyData->Prop}{X:XK}{t:TA}(h:Ea K B t ρ ds)(hR:R ds d):Er K B (Jx (zg4 K B R) [] X t) ρ d:=λG σ r G1 H s1 s2 Q k=>by
 refine h G σ r G1 H s1 s2 _ λvs G2 H2 g hv=>?_
 rw[append_nil]
 exact ⟨G2,ds,d,(r.1.trans s1).trans g.gg,g.gh,hv,hR,λv G' H' g' hv=>k v G' H' (g.trans g') hv⟩
theorem Fun.zku {x qual:Str}{st:Stmt}{f:Addr}{fd:FuncData}{N ps:List Str}{k:Nat}{R:List PyData->PyData->Prop}(Fn:Fun K x qual st f fd)(S:ZP N ps (Zj st))(len:∀ ds d,R ds d->ds.length=ps.length)
  (hb:∀ (cdv:Value) (A:Around) (outer:List Env) (s:Shared) (H:Hp) (E:XK),Wa k (A.deeper (envOfC qual (Zj st) s.heap.objs.size f cdv))->∀ ds d,R ds d->
   ∃ t,PSs (Uw CX0 P w K mg base N qual (Zj st) f cdv A outer s H E).nox (Z5 st) t/\Sv K B t (YG N (ds.map .dat)) { nx:=λ_=>d = .none,rt:=λr _=>r = .dat d }):QS P w K mg base CX0 (k+1) f fd ps (zg4 K B R):=by
 refine Fn.ok S (λvs H Q E h=>?_) λcdv A outer s H vs Q E hr h=>?_
 ·obtain ⟨G,ds,d,_,_,hv,hR,_⟩:=h
  rw[hv.length];exact len ds d hR
 ·obtain ⟨G,ds,d,sb,sg,hv,hR,kk⟩:=h
  obtain ⟨t,ht,hs⟩:=hb cdv A outer s H E hr ds d hR
  refine ⟨t,ht,hs _ _ _ _ _ _ _ _ (zcT sb sg hv) ⟨λe _ r=>?_,λe _ r sl n=>?_,λe=>e.elim,λe=>e.elim⟩⟩
  ·have e:d = .none:=e
   subst e
   exact kk _ _ _ r.g.VB Ju
  ·subst e
   obtain ⟨_,y,hy,hd⟩:=sl
   cases hy
   exact kk _ _ _ r.g.VB hd
abbrev B0:Hp:=λ_=>none
theorem b0:ZR B0 G:=λ_ _ h=>by cases h
theorem Fun.okP {x qual:Str}{st:Stmt}{f:Addr}{fd:FuncData}{N ps:List Str}{k:Nat}{R:List PyData->PyData->Prop}(Fn:Fun K x qual st f fd)(S:ZP N ps (Zj st))(len:∀ ds d,R ds d->ds.length=ps.length)
  (hb:∀ (cdv:Value) (A:Around) (outer:List Env) (s:Shared) (H:Hp) (E:XK),Wa k (A.deeper (envOfC qual (Zj st) s.heap.objs.size f cdv))->∀ ds d,R ds d->
   ∃ t,PSs (Uw CX0 P w K mg base N qual (Zj st) f cdv A outer s H E).nox (Z5 st) t/\Sv K B0 t (YG N (ds.map .dat)) { nx:=λ_=>d = .none,rt:=λr _=>r = .dat d }):QS P w K mg base CX0 (k+1) f fd ps (spP K R):=
 (Fn.zku S len hb).imp λvs H Q E ⟨G,ds,d,sg,hv,hR,kk⟩=>⟨G,ds,d,b0,sg,hv,hR,kk⟩
def spL (K:PySem.W.Frag)(Pre:List PyData->List PyData->Prop)(R:List PyData->List PyData->PyData->List PyData->Prop):Sp:=λvs H Q _=>∃ (p:Addr) (us:List V) (G:Hp) (xs:List V) (es ds:List PyData),vs = .ref p::us/\ZR G H/\G p=none/\H p=some (.lst xs)/\Yc K G xs es/\Yc K G us ds/\Pre es ds/\
 ∀ v x es' xs' G' H',R es ds x es' -> Gw (· = p) G H G' H' -> G' p=none->H' p=some (.lst xs')->Yc K G' xs' es' -> Dat K G' v x->Q v H'
theorem zf4 {p:Addr}{us xs:List V}{N:List Str}(sb:ZR B G)(s:ZR G H)(gp:G p=none)(hp:H p=some (.lst xs))(hx:Yc K G xs es)(hv:Yc K G us ds):Rl K B (· = p) G H G H (start N (.ref p::us)) (YG N (.lnt p es::ds.map .dat)) (λk=>if k=0 then [p] else []):=by
 refine ⟨Gw.refl s,sb,?_,λi v h=>?_,λi a ha=>?_,λi j a ha hb=>?_,λi ds' a h ha=>?_⟩
 ·unfold start YG
  rw[length_append,length_append,length_map,length_cons,length_cons,length_map,length_replicate,length_replicate,hv.length]
 ·cases i with
  | zero=>
   have h:some (PV.lnt p es)=some v:=h
   cases h
   exact ⟨xs,rfl,rfl,hp,hx⟩
  | succ i=>
   rw[if_neg (by omega)]
   have h:(ds.map PV.dat++List.replicate (N.length-(ds.map PV.dat).length.succ) PV.un)[i]?=some v:=h
   show Sl K G H ((us.map some++List.replicate (N.length-us.length.succ) none)[i]?) v []
   by_cases hi:i<ds.length
   ·rw[getElem?_append_left (by rw[length_map];exact hi),getElem?_map,getElem?_eq_getElem hi] at h
    cases h
    obtain ⟨x,hx,hxd⟩:=hv.get (getElem?_eq_getElem hi)
    exact ⟨rfl,x,by rw[getElem?_append_left (by rw[length_map,hv.length];exact hi),getElem?_map,hx];rfl,hxd⟩
   ·rw[getElem?_append_right (by rw[length_map];omega)] at h
    have:=List.mem_of_getElem? h
    rw[(mem_replicate.mp this).2]
    rfl
 ·split at ha
  ·rw[mem_singleton.mp ha];exact ⟨gp,⟨_,hp⟩,.inl rfl⟩
  ·cases ha
 ·split at ha
  ·split at hb
   ·omega
   ·cases hb
  ·cases ha
 ·split at ha
  ·rename_i z
   subst z
   have h:some (PV.lnt p es)=some (.own ds'):=h
   cases h
  ·cases ha
theorem Fun.okL {x qual:Str}{st:Stmt}{f:Addr}{fd:FuncData}{N ps:List Str}{k:Nat}{Pre:List PyData->List PyData->Prop}{R:List PyData->List PyData->PyData->List PyData->Prop}(Fn:Fun K x qual st f fd)(S:ZP N ps (Zj st))(len:∀ es ds,Pre es ds->ds.length+1=ps.length)
  (hb:∀ (cdv:Value) (A:Around) (outer:List Env) (s:Shared) (H:Hp) (E:XK),Wa k (A.deeper (envOfC qual (Zj st) s.heap.objs.size f cdv))->∀ p es ds,Pre es ds->
   ∃ t,PSs (Uw CX0 P w K mg base N qual (Zj st) f cdv A outer s H E).nox (Z5 st) t/\Sv K B0 t (YG N (.lnt p es::ds.map .dat)) { nx:=fun ρ' => ∃ es',R es ds .none es' /\ ρ'[0]?=some (.lnt p es'),rt:=λr ρ' => ∃ d es',r = .dat d/\R es ds d es' /\ ρ'[0]?=some (.lnt p es') }):QS P w K mg base CX0 (k+1) f fd ps (spL K Pre R):=by
 refine Fn.ok S (λvs H Q E h=>?_) λcdv A outer s H vs Q E hr h=>?_
 ·obtain ⟨p,us,G,xs,es,ds,rfl,_,_,_,_,hv,hP,_⟩:=h
  rw[length_cons,hv.length];exact len es ds hP
 ·obtain ⟨p,us,G,xs,es,ds,rfl,sg,gp,hp,hx,hv,hP,kk⟩:=h
  obtain ⟨t,ht,hs⟩:=hb cdv A outer s H E hr p es ds hP
  refine ⟨t,ht,hs _ _ _ _ _ _ _ _ (zf4 b0 sg gp hp hx hv) ⟨λe _ r=>?_,λe _ r sl n=>?_,λe=>e.elim,λe=>e.elim⟩⟩
  ·obtain ⟨es',hR,h0⟩:=e
   obtain ⟨xs',e,hx',hp',hd'⟩:=r.sl 0 _ h0
   exact kk _ _ es' xs' _ _ hR r.g (r.fr 0 p (by rw[e];simp)).1 hp' hd' Ju
  ·obtain ⟨d,es',rfl,hR,h0⟩:=e
   obtain ⟨xs',e,hx',hp',hd'⟩:=r.sl 0 _ h0
   obtain ⟨_,y,hy,hd⟩:=sl
   cases hy
   exact kk _ _ es' xs' _ _ hR r.g (r.fr 0 p (by rw[e];simp)).1 hp' hd' hd
def EgA (K:PySem.W.Frag)(B:Hp)(t:TA)(ρ:List PV)(R:List PyData->List PV->Prop):Prop:=∀ E G0 H0 G H σ F,Rl K B E G0 H0 G H σ ρ F->∀ Q:List V->Hp->Prop,
 (∀ vs ds ρ' G' H' F',R ds ρ' -> ZR G G' -> Rl K B E G0 H0 G' H' σ ρ' F' -> Yc K G' vs ds->Q vs H')->t σ H Q
theorem Z9 {t:TA}{R:List PyData->List PV->Prop}(h:Ea K B t (msk ρ) ds)(k:R ds ρ):EgA K B t ρ R:=λE G0 H0 G H σ F r Q q=>h G σ r.rx G H (ZR.refl _) r.g.gh Q λvs G' H' g hv=>q vs ds ρ G' H' F k g.gg (r.grow g) hv
theorem Z4 {t:TA}{R:List PyData->List PV->Prop}(h:Eg K B te ρ λr ρ1=>∃ d,r = .dat d/\EgA K B t ρ1 λds ρ2=>R (d::ds) ρ2):EgA K B (Yh te t) ρ R:=λE G0 H0 G H σ F r Q q=>
 h E G0 H0 G H σ F r _ λv w ρ1 G1 H1 F1 L hw s1 r1 sl n=>by
  obtain ⟨d,rfl,h2⟩:=hw
  obtain ⟨_,y,hy,hd⟩:=sl
  cases hy
  exact h2 E G0 H0 G1 H1 σ F1 r1 _ λvs ds ρ2 G2 H2 F2 hR s2 r2 hv=>q _ _ ρ2 G2 H2 F2 hR (s1.trans s2) r2 (Z1 (hd.same s2) hv)
theorem Wg {Pre:List PyData->List PyData->Prop}{Rf:List PyData->List PyData->PyData->List PyData->Prop}{X:XK}{i:Nat}{t:TA}{R:PV->List PV->Prop}{u0:PV}{es0:List PyData}(hi:ρ[i]?=some u0)(hu:u0.rd=some es0)
  (h:EgA K B t ρ λds ρ1=>∃ u es,ρ1[i]?=some u/\u.rd=some es/\Pre es ds/\∀ x es',Rf es ds x es' -> R (.dat x) (ρ1.set i (u.put es'))):Eg K B (Jx (spL K Pre Rf) [] X (Yh (XQ i) t)) ρ R:=λE G0 H0 G H σ F r Q q=>by
 obtain ⟨p,xs,e,hx,hp,hd⟩:=(r.sl i _ hi).rd hu
 refine ⟨_,hx,h E G0 H0 G H σ F r _ λvs ds ρ1 G1 H1 F1 hh s1 r1 hv=>?_⟩
 obtain ⟨u,es,hi1,hu1,hP,hk⟩:=hh
 obtain ⟨p',xs1,e1,hx1,hp1,hd1⟩:=(r1.sl i _ hi1).rd hu1
 rw[hx] at hx1;cases hx1
 have hpi:p∈F1 i:=by rw[e1];simp
 obtain ⟨gp,_,hE⟩:=r1.fr i p hpi
 show spL K Pre Rf ((.ref p::vs)++[]) H1 Q X
 rw[append_nil]
 refine ⟨p,vs,G1,xs1,es,ds,rfl,r1.g.gh,gp,hp1,hd1,hv,hP,λv x es' xs' G2 H2 hR gw gp2 hp2 hd2 hx2=>?_⟩
 have hlt:i<ρ1.length:=(List.getElem?_eq_some_iff.mp hi1).1
 have r2:Rl K B E G0 H0 G2 H2 σ (ρ1.set i (u.put es')) F1:=by
  refine ⟨⟨r1.g.gg.trans gw.gg,gw.gh,λb o n h=>?_,λb h=>r1.g.al b (gw.al b h),λb o h=>?_⟩,r1.bb.trans gw.gg,by rw[length_set];exact r1.ls,λj v h=>?_,λj a ha=>?_,r1.dj,λj ds' a h ha=>?_⟩
  ·have:b≠p:=λz=>by
    subst z
    rcases hE with hE | hE
    ·exact n hE
    ·rw[hE] at h;cases h
   exact gw.kp b o this (r1.g.kp b o n h)
  ·rcases gw.fr b o h with h | h
   ·exact r1.g.fr b o h
   ·exact .inr (r1.g.al b h)
  ·by_cases z:j=i
   ·subst z
    rw[getElem?_set_self hlt] at h
    cases h
    cases u with
    | own es2=>exact ⟨p,xs',e1,hx,hp2,hd2⟩
    | lnt q es2=>
     obtain ⟨_,e2,hx2,_⟩:=r1.sl j _ hi1
     rw[hx] at hx2;cases hx2
     exact ⟨xs',e1,hx,hp2,hd2⟩
    | _=>cases hu1
   ·rw[getElem?_set_ne (Ne.symm z)] at h
    refine (r1.sl j v h).grow gw.gg λa ha=>?_
    obtain ⟨_,⟨o,ho⟩,_⟩:=r1.fr j a ha
    rw[ho]
    exact gw.kp a o (λq=>by subst q;exact z (r1.dj j i a ha hpi)) ho
  ·obtain ⟨h1,⟨o,h2⟩,h3⟩:=r1.fr j a ha
   by_cases z:a=p
   ·subst z;exact ⟨gp2,⟨_,hp2⟩,h3⟩
   ·refine ⟨?_,⟨o,gw.kp a o z h2⟩,h3⟩
    cases hg:G2 a with
    | none=>rfl
    | some o' =>
     rcases gw.fr a o' hg with h | h
     ·rw[h1] at h;cases h
     ·rw[h2] at h;cases h
  ·by_cases z:j=i
   ·subst z
    rw[getElem?_set_self hlt] at h
    cases u with
    | own es2=>exact r1.ow j es2 a hi1 ha
    | lnt q es2=>cases h
    | _=>cases hu1
   ·rw[getElem?_set_ne (Ne.symm z)] at h
    exact r1.ow j ds' a h ha
 exact q v _ _ G2 H2 F1 [] (hk x es' hR) (s1.trans gw.gg) r2 ⟨rfl,v,rfl,hx2⟩ Jh
theorem Xo {r:R2}{R:PV->List PV->Prop}(h:Eg K B ta ρ λx ρ1=>∃ a,x = .dat a/\Eg K B tb ρ1 λy ρ2=>∃ b c,y = .dat b/\(∀ G σ va vb,Dat K G va a->Dat K G vb b->Ev K (tOp r (tC va) (tC vb)) σ G c)/\R (.dat c) ρ2):Eg K B (tOp r ta tb) ρ R:=λE G0 H0 G H σ F r Q q=>
 h E G0 H0 G H σ F r _ λv w ρ1 G1 H1 F1 L hw s1 r1 sl n=>by
  obtain ⟨a,rfl,h2⟩:=hw
  obtain ⟨_,y,hy,hd⟩:=sl
  cases hy
  refine h2 E G0 H0 G1 H1 σ F1 r1 _ λv2 w2 ρ2 G2 H2 F2 L2 hw2 s2 r2 sl2 n2=>?_
  obtain ⟨b,c,rfl,hop,hR⟩:=hw2
  obtain ⟨_,y2,hy2,hd2⟩:=sl2
  cases hy2
  exact hop G2 σ v v2 (hd.same s2) hd2 G2 H2 (ZR.refl _) r2.g.gh Q λv3 G3 H3 g3 hv3=>q v3 _ ρ2 G3 H3 F2 [] hR ((s1.trans s2).trans g3.gg) (r2.grow g3) ⟨rfl,v3,rfl,hv3⟩ Jh
end
open PySem PySem.Spec PyProof.Rows
def zgA (K:PySem.W.Frag):R2:=λx y H Q=>∃ a b xs ys,x = .ref a/\y = .ref b/\SqT K H a xs/\SqT K H b ys/\xs.length+ys.length<=sizeLine/\(xs=[]->Q (.ref b) H)/\(xs≠[]->ys=[]->Q (.ref a) H)/\(xs≠[]->ys≠[]->∀ p,H p=none->Q (.ref p) (upd H p (.tup (xs++ys))))
theorem Wk {X:Cx}{K:PySem.W.Frag}(e:X.K=K):OpR X (binaryOp .Add) (zgA K):=by
 subst e
 intro pins s σ H x y v u Q I rx ry h
 obtain ⟨a,b,xs,ys,ex,ey,ha,hb,hz,q0,q1,q2⟩:=h
 by_cases hx:xs=[]
 ·subst ex ey
  cases rx
  cases ry
  obtain ⟨its,r1,p1,_⟩:=I.tuple ha
  obtain ⟨its2,r2,p2,_⟩:=I.tuple hb
  have e0:its=[]:=r1.Uz.mpr hx
  obtain ⟨⟨cls,dd,data,sl⟩,ho,hc,n,hd⟩:=id p1
  obtain ⟨⟨cls2,dd2,data2,sl2⟩,ho2,hc2,n2,hd2⟩:=id p2
  simp only at hc hd hc2 hd2
  subst hc hd hc2 hd2
  exact concat_meets ⟨_,ho,rfl⟩ ⟨_,ho2,rfl⟩ noFill_tuple_add seq_tuple_add F.slot_tuple_add F.entry_tuple_add (F.args_tuple_add_2 _ _) (tuple_addW0 a b its.toArray its2.toArray n n2 dd dd2 sl sl2 (by simp[e0])) ⟨ho,ho2,.ref b,H,I,rfl,q0 hx⟩
 ·exact zgO pins s σ H x y v u Q I rx ry ⟨a,b,xs,ys,ex,ey,ha,hb,hx,hz,q1 hx,q2 hx⟩
theorem UT {K:PySem.W.Frag}{σ:St}{G:Hp}{ta tb:TE}{ds es:List PyData}(ha:Ev K ta σ G (.tuple ds))(hb:Ev K tb σ G (.tuple es))(hz:ds.length+es.length<=sizeLine):Ev K (tOp (zgA K) ta tb) σ G (.tuple (ds++es)):=
 Jk ha hb λG1 H x y Q s1 s2 hx hy k=>by
  obtain ⟨p,us,rfl,hp,hus⟩:=hx.tup
  obtain ⟨q,vs,rfl,hq,hvs⟩:=hy.tup
  have l1:=hus.length
  have l2:=hvs.length
  refine ⟨p,q,us,vs,rfl,rfl,s2.tup hp,s2.tup hq,by omega,λz=>?_,λz z2=>?_,λz z2 l hl=>?_⟩
  ·subst z
   have:ds=[]:=by cases ds with | nil=>rfl | cons=>simp at l1
   subst this
   exact k _ G1 H (Yt.refl s2) (Xr hq hvs)
  ·subst z2
   have:es=[]:=by cases es with | nil=>rfl | cons=>simp at l2
   subst this
   rw[append_nil] at k
   exact k _ G1 H (Yt.refl s2) (Xr hp hus)
  ·have g:=Yw (o:=.tup (us++vs)) s2 hl
   exact k _ _ _ g (Xr (SqT.of Zy) ((We hus hvs).same g.gg))
section
variable {K:PySem.W.Frag}{B:Hp}{E:Addr->Prop}{G0 H0 G H G' H' : Hp}{σ:St}{ρ:List PV}{F:Nat->List Addr}{ta tb te:TE}{a b d:PyData}{ds es:List PyData}
theorem zh2 {r:List V->Hp->VK->Prop}{t:TA}(h:Ea K B t ρ ds)(hr:∀ G1 H xs (Q:VK),ZR G1 H->Yc K G1 xs ds->(∀ v G' H',Yt G1 H G' H' -> Dat K G' v d->Q v H')->r xs H Q):Er K B (tCB r t) ρ d:=λG σ r' => zcx (h G σ r') λG1 H xs Q _ s2 hx k=>hr G1 H xs Q s2 hx k
theorem zhY {i:Int}(h:Er K B te ρ (.int i)):Er K B (tUn (rU λi=>.int (-i)) te) ρ (.int (-i)):=λG σ r G1 H s1 s2 Q k=>h G σ r G1 H s1 s2 _ λv G2 H2 g hv=>⟨i,hv.int,k _ G2 H2 g (Zx _)⟩
def Eo (K:PySem.W.Frag)(B:Hp)(t:TO)(ρ:List PV)(o:Option Int):Prop:=∀ G σ,Rx K B G σ ρ->∀ H (Q:Option Int->Hp->Prop),Q o H->t σ H Q
theorem J5:Eo K B V3 ρ none:=λ_ _ _ _ _ q=>q
theorem zaM {i:Int}:Eo K B (zcu (tC (.int i))) ρ (some i):=λ_ _ _ _ _ q=>⟨i,rfl,q⟩
theorem zhZ {i:Nat}{j:Int}(h:ρ[i]?=some (.dat (.int j))):Eo K B (zcu (XQ i)) ρ (some j):=λG σ r H Q q=>by
 obtain ⟨x,hx,hd⟩:=r.2.1 i _ h
 exact ⟨x,hx,j,hd.int,q⟩
abbrev slD (ds:List PyData)(lo hi:Option Int):List PyData:=(ds.drop (HT.sIx ds.length 0 lo)).take (HT.sIx ds.length ds.length hi-HT.sIx ds.length 0 lo)
theorem zhO {tl th:TO}{lo hi:Option Int}(h:Er K B te ρ (.tuple ds))(hl:Eo K B tl ρ lo)(hh:Eo K B th ρ hi):Er K B (tSl (zen K) te tl th) ρ (.tuple (slD ds lo hi)):=λG σ r=>zil (h G σ r) (hl G σ r) (hh G σ r)
theorem zbV {tl th:TO}{lo hi:Option Int}(h:Er K B te ρ (.list ds))(hl:Eo K B tl ρ lo)(hh:Eo K B th ρ hi):Er K B (tSl (zg7 K) te tl th) ρ (.list (slD ds lo hi)):=λG σ r=>zfi (h G σ r) (hl G σ r) (hh G σ r)
theorem Vm (ha:Er K B ta ρ (.tuple ds))(hb:Er K B tb ρ (.tuple es))(hz:ds.length+es.length<=sizeLine):Er K B (tOp (zgA K) ta tb) ρ (.tuple (ds++es)):=λG σ r=>UT (ha G σ r) (hb G σ r) hz
theorem VJ {ta tb:TE}(ha:Ev K ta σ G (.list ds))(hb:Ev K tb σ G (.list es))(hz:ds.length+es.length<=sizeLine):Ev K (tOp zjy ta tb) σ G (.list (ds++es)):=Jk ha hb λG1 H x y Q s1 s2 hx hy k=>by
 obtain ⟨p,xs,rfl,hp,hxs⟩:=hx.lst
 obtain ⟨q,ys,rfl,hq,hys⟩:=hy.lst
 refine ⟨p,q,xs,ys,rfl,rfl,s2 _ _ hp,s2 _ _ hq,by rw[hxs.length,hys.length];exact hz,λl hl=>?_⟩
 have g:=Yw (o:=.lst (xs++ys)) s2 hl
 exact k _ _ _ g (YX Zy ((We hxs hys).same g.gg))
theorem WD (ha:Er K B ta ρ (.list ds))(hb:Er K B tb ρ (.list es))(hz:ds.length+es.length<=sizeLine):Er K B (tOp zjy ta tb) ρ (.list (ds++es)):=λG σ r=>VJ (ha G σ r) (hb G σ r) hz
def EgT (K:PySem.W.Frag)(B:Hp)(t:TT)(ρ:List PV)(R:Bool->List PV->Prop):Prop:=∀ E G0 H0 G H σ F,Rl K B E G0 H0 G H σ ρ F->∀ Q:Bool->Hp->Prop,
 (∀ b ρ' G' H' F',R b ρ' -> ZR G G' -> Rl K B E G0 H0 G' H' σ ρ' F' -> Q b H')->t σ H Q
theorem zeM {R:Bool->List PV->Prop}(h:Eg K B te ρ λr ρ' => ∃ c,r = .dat (.bool c)/\R c ρ'):EgT K B (Qs te) ρ R:=λE G0 H0 G H σ F r Q q=>
 h E G0 H0 G H σ F r _ λv w ρ1 G1 H1 F1 L hw s1 r1 sl n=>by
  obtain ⟨c,rfl,hR⟩:=hw
  obtain ⟨_,y,hy,hd⟩:=sl
  cases hy
  exact ⟨c,hd.bl,q c ρ1 G1 H1 F1 hR s1 r1⟩
theorem zhw {c:TT}{t u:TS}{R:Pn}(h:EgT K B c ρ λb ρ' => if b=true then Sv K B t ρ' R else Sv K B u ρ' R):Sv K B (zeb c t u) ρ R:=λE G0 H0 G H σ F D r d=>
 h E G0 H0 G H σ F r _ λc ρ1 G1 H1 F1 hR s1 r1=>by
  cases c with
  | true=>rw[if_pos rfl] at hR ⊢;exact hR E G0 H0 _ _ σ F1 D r1 (d.mono s1)
  | false=>rw[if_neg Bool.false_ne_true] at hR ⊢;exact hR E G0 H0 _ _ σ F1 D r1 (d.mono s1)
theorem Jt {t:TS}{R:Pn}(i:Nat)(hi:ρ[i]?=some (.own ds))(h:Sv K B t (ρ.set i (.dat (.list ds))) R):Sv K B t ρ R:=λE G0 H0 G H σ F D r dn=>by
 obtain ⟨p,xs,e,hx,hp,hd⟩:=r.sl i _ hi
 have hpi:p∈F i:=by rw[e];simp
 obtain ⟨gp,_,_⟩:=r.fr i p hpi
 have h0:=r.ow i ds p hi hpi
 have hlt:i<ρ.length:=(List.getElem?_eq_some_iff.mp hi).1
 have s1:ZR G (upd G p (.lst xs)):=XR gp
 refine h E G0 H0 (upd G p (.lst xs)) H σ (λk=>if k=i then [] else F k) D ⟨⟨r.g.gg.trans s1,λb o eb=>?_,r.g.kp,r.g.al,λb o eb=>?_⟩,r.bb.trans s1,by rw[length_set];exact r.ls,λj v hj=>?_,λj a ha=>?_,λj k a ha hb=>?_,λj ds' a hj ha=>?_⟩ (dn.mono s1)
 ·by_cases z:b=p
  ·subst z;rw[Zy] at eb;rw[hp,eb]
  ·rw[ZC z] at eb;exact r.g.gh b o eb
 ·by_cases z:b=p
  ·subst z;exact .inr h0
  ·rw[ZC z] at eb;exact r.g.fr b o eb
 ·by_cases z:j=i
  ·subst z
   rw[getElem?_set_self hlt] at hj
   cases hj
   rw[if_pos rfl]
   exact ⟨rfl,_,hx,YX Zy (hd.same s1)⟩
  ·rw[getElem?_set_ne (Ne.symm z)] at hj
   rw[if_neg z]
   exact (r.sl j v hj).grow s1 λ_ _=>rfl
 ·by_cases z:j=i
  ·rw[if_pos z] at ha;cases ha
  ·rw[if_neg z] at ha
   obtain ⟨h1,h2,h3⟩:=r.fr j a ha
   refine ⟨?_,h2,h3⟩
   rw[ZC λq=>by subst q;exact z (r.dj j i a ha hpi)];exact h1
 ·by_cases z:j=i
  ·rw[if_pos z] at ha;cases ha
  ·by_cases z' : k=i
   ·rw[if_pos z'] at hb;cases hb
   ·rw[if_neg z] at ha;rw[if_neg z'] at hb;exact r.dj j k a ha hb
 ·by_cases z:j=i
  ·rw[if_pos z] at ha;cases ha
  ·rw[if_neg z] at ha
   rw[getElem?_set_ne (Ne.symm z)] at hj
   exact r.ow j ds' a hj ha
variable {P:Program}{w:World}
theorem zeE {xs:List V}{lo hi:Option Int}(h:Yc K G xs ds):Yc K G (zcA xs lo hi) (slD ds lo hi):=by
 unfold zcA slD
 rw[h.length]
 exact Jp _ (Jo _ h)
theorem zbD {i:Nat}{ns:List Int}{tl th:TO}{lo hi:Option Int}(h:ρ[i]?=some (.scr ns))(hl:Eo K B tl ρ lo)(hh:Eo K B th ρ hi):Er K B (tSl (zg7 K) (XQ i) tl th) ρ (.list (slD (ns.map .int) lo hi)):=λG σ r G1 H s1 s2 Q k=>by
 obtain ⟨a,hx,hq⟩:=r.2.2.2.2.1 i ns h
 refine ⟨_,hx,hl G σ r _ _ (hh G σ r _ _ ⟨a,_,rfl,(s1.trans s2).seq hq,λp hp=>?_⟩)⟩
 have g:=Yw (o:=.lst (zcA (ns.map V.int) lo hi)) s2 hp
 exact k _ _ _ g (YX Zy (zeE (zan ns)))
theorem zgD {α:Type}(f:α->PyData)(l:List α)(lo hi:Option Int):∃ m:List α,slD (l.map f) lo hi=m.map f/\m.length<=l.length/\∀ x∈m,x∈l:=
 ⟨(l.drop (HT.sIx (l.map f).length 0 lo)).take (HT.sIx (l.map f).length (l.map f).length hi-HT.sIx (l.map f).length 0 lo),by unfold slD;rw[map_take,map_drop],by rw[length_take,length_drop];omega,λx hx=>List.mem_of_mem_drop (mem_of_mem_take hx)⟩
theorem zbX (k:Nat)(ds:List PyData):slD ds (some (k:Int)) none=ds.drop k:=by
 unfold slD
 rw[HT.zcX,HT.zbt]
 by_cases h:k<=ds.length
 ·rw[Nat.min_eq_left h,take_of_length_le (by rw[length_drop];omega)]
 ·rw[Nat.min_eq_right (by omega),List.drop_eq_nil_of_le (Nat.le_refl _),List.drop_eq_nil_of_le (by omega),List.take_nil]
theorem Vh (k:Nat)(ds:List PyData):slD ds none (some (k:Int))=ds.take k:=by
 unfold slD
 rw[HT.zcX,HT.zbt,drop_zero,Nat.sub_zero]
 by_cases h:k<=ds.length
 ·rw[Nat.min_eq_left h]
 ·rw[Nat.min_eq_right (by omega),take_of_length_le (Nat.le_refl _),take_of_length_le (by omega)]
variable {P:Program}{w:World}{mg:Str->Option Value}{base:Heap}
theorem ziS {p:Addr}{N:List Str}{ns:List Int}(sb:ZR B H)(hq:SqL K H p (ns.map V.int)):Rl K B (λ_=>False) H H H H (start N [.ref p]) (YG N [.scr ns]) (λ_=>[]):=by
 refine ⟨Gw.refl (ZR.refl _),sb,?_,λi v h=>?_,λ_ _ h=>(by cases h),λ_ _ _ h _=>(by cases h),λ_ _ _ _ h=>(by cases h)⟩
 ·unfold start YG
  rw[length_append,length_append,length_map,length_replicate,length_replicate];rfl
 ·unfold YG at h
  unfold start
  cases i with
  | zero=>
   have h:some (PV.scr ns)=some v:=h
   cases h
   exact ⟨rfl,p,rfl,hq⟩
  | succ i=>
   rw[getElem?_append_right (by show 1<=i+1;omega)] at h
   have:=List.mem_of_getElem? h
   rw[(mem_replicate.mp this).2]
   rfl
noncomputable def zeF (tabs:zfj):Hp:=λb=>(tabs.find? λp=>decide (p.1=b)).map λp=>HO.tbl p.2
theorem zfQ {tabs:zfj}(h:zaN H tabs):ZR (zeF tabs) H:=λb o e=>by
 unfold zeF at e
 cases q:tabs.find? λp=>decide (p.1=b) with
 | none=>rw[q] at e;cases e
 | some p=>
  rw[q] at e
  have e:HO.tbl p.2=o:=Option.some.inj e
  have:=List.find?_some q
  have z:p.1=b:=of_decide_eq_true this
  subst z
  rw[← e]
  exact h p (List.mem_of_find?_eq_some q)
theorem Fun.zhD {x qual:Str}{st:Stmt}{f:Addr}{fd:FuncData}{N:List Str}{k:Nat}{tabs:zfj}(Fn:Fun K x qual st f fd)(S:ZP N ["script"] (Zj st))
  (hb:∀ (cdv:Value) (A:Around) (outer:List Env) (s:Shared) (H:Hp) (E:XK),Wa k (A.deeper (envOfC qual (Zj st) s.heap.objs.size f cdv))->∀ ns:List Int,ns.length<=63->
   ∃ t,PSs (Uw CX0 P w K mg base N qual (Zj st) f cdv A outer s H E).nox (Z5 st) t/\Sv K (zeF tabs) t (YG N [.scr ns]) { nx:=λ_=>False,rt:=λr _=>r = .dat (.bool true) }):QS P w K mg base CX0 (k+1) f fd ["script"] (zav K tabs):=by
 refine Fn.ok S (λvs H Q E h=>?_) λcdv A outer s H vs Q E hr h=>?_
 ·obtain ⟨a,ns,rfl,_⟩:=h
  rfl
 ·obtain ⟨a,ns,rfl,hq,hl,hT,kk⟩:=h
  obtain ⟨t,ht,hs⟩:=hb cdv A outer s H E hr ns hl
  refine ⟨t,ht,hs _ _ _ _ _ _ _ _ (ziS (zfQ hT) hq) ⟨λe _ r=>e.elim,λe _ r sl n=>?_,λe=>e.elim,λe=>e.elim⟩⟩
  subst e
  obtain ⟨_,y,hy,hd⟩:=sl
  cases hy
  rw[hd.bl]
  exact kk _
end
section
variable {X:Cx}
variable {K:PySem.W.Frag}{B:Hp}{ρ:List PV}{ta te:TE}{ds:List PyData}
theorem zfc {t:TA}{R:PV->List PV->Prop}(h:EgA K B t ρ λds ρ' => ds.length<=sizeLine/\R (.dat (.tuple ds)) ρ'):Eg K B (zg3 t) ρ R:=λE G0 H0 G H σ F r Q q=>
 h E G0 H0 G H σ F r _ λvs ds ρ1 G1 H1 F1 hR s1 r1 hv=>⟨by rw[hv.length];exact hR.1,λp hp=>by
  have g:=Yw (o:=.tup vs) r1.g.gh hp
  exact q _ _ ρ1 _ _ F1 [] hR.2 (s1.trans g.gg) (r1.grow g) ⟨rfl,_,rfl,Xr (SqT.of Zy) (hv.same g.gg)⟩ Jh⟩
theorem Vv {t:TA}{n:Nat}(h:Ea K B t ρ [.int (n:Nat)])(hj:n<2 ^ 60):Ei K B (zeK t) ρ ((List.range n).map λ(i:Nat)=>PyData.int (i:Nat)):=by
 have:=zhc h ⟨by omega,by omega⟩
 rw[toNat_natCast] at this
 have e:(List.range n).map (λ(i:Nat)=>PyData.int (0+i))=(List.range n).map λ(i:Nat)=>PyData.int (i:Nat):=List.map_congr_left λi _=>by congr 1;omega
 rwa [e] at this
def zik (K:PySem.W.Frag):List V->Hp->VK->Prop:=λxs H Q=>∃ (p:Addr) (ns:List Int),xs=[.ref p]/\SqL K H p (ns.map V.int)/\ns≠[]/\∀ M,M∈ns->(∀ a∈ns,a<=M)->Q (.int M) H
theorem zgh {xs:Array (Int×Tok)}{ns:List Int}(e1:ns=xs.toList.map (·.1))(hsz:0<xs.size):numAt xs (argBest (λi j=>decide (numAt xs i>numAt xs j)) (xs.size-1))∈ns/\∀ a∈ns,a<=numAt xs (argBest (λi j=>decide (numAt xs i>numAt xs j)) (xs.size-1)):=by
 obtain ⟨h1,h2⟩:=argBest_gt (numAt xs) (xs.size-1)
 constructor
 ·rw[e1,numAt_eq];exact getD_mem (by rw[length_map,length_toList];omega)
 ·intro a ha
  rw[e1] at ha
  obtain ⟨j,hj,rfl⟩:=mem_getD ha
  rw[length_map,length_toList] at hj
  rw[← numAt_eq];exact h2 j (by omega)
theorem zgU {K:PySem.W.Frag}{pins:List (Addr×Obj)}{σ:St}{H:Hp}{s:Shared}{p:Addr}{ns:List Int}(e:X.K=K)(I:Inv X pins σ H s)(hq:SqL K H p (ns.map V.int)):∃ xs:Array (Int×Tok),s.heap.IsList p (intItems xs)/\ns=xs.toList.map (·.1):=by
 subst e
 obtain ⟨its,rv,pl,hz⟩:=I.list hq
 have hi:IntsAre its ns:=intsAre_of rv
 obtain ⟨xs,hx⟩:=hi.allInts.items
 exact ⟨xs,hx ▸ pl.isList,by rw[← nums_intItems,← hx];exact (show numsOf its.toArray.toList=ns from hi.numsOf).symm⟩
theorem zda {K:PySem.W.Frag}(e:X.K=K)(hc:X.calm=true):QQ X (.builtin "max") (zik K):=by
 intro pins s σ H xs us Q I r h
 obtain ⟨p,ns,rfl,hq,hne,q⟩:=h
 obtain ⟨u,rfl,rx⟩:=vals1 r
 cases rx
 obtain ⟨xs,hl,e1⟩:=zgU e I hq
 have hsz:0<xs.size:=Nat.pos_of_ne_zero λz=>hne (by rw[e1,List.map_eq_nil_iff];exact List.eq_nil_of_length_eq_zero (by rw[length_toList];exact z))
 refine max_intList (I.ok.hd hc) hl hsz λv h' tk hv hk=>?_
 obtain ⟨t,rfl⟩:=intItems_at hv
 obtain ⟨b1,b2⟩:=zgh e1 hsz
 exact ⟨.int _,H,I.kept hk,⟨t,rfl⟩,q _ b1 b2⟩
end
section
variable {K:PySem.W.Frag}{B:Hp}{ρ:List PV}
theorem zgM {t:TA}{ns:List Int}{M:Int}(h:Ea K B t ρ [.list (ns.map .int)])(hM:M∈ns)(hle:∀ a∈ns,a<=M):Er K B (tCB (zik K) t) ρ (.int M):=zh2 h λG1 H xs Q s1 hx k=>by
 obtain ⟨y,ys,rfl,hy,hn⟩:=hx.cons
 cases hn.nil
 obtain ⟨p,zs,rfl,hp,hz⟩:=hy.lst
 have e:=hz.ints
 subst e
 refine ⟨p,ns,rfl,SqL.of (s1 _ _ hp),List.ne_nil_of_mem hM,λM' h1 h2=>?_⟩
 rw[Int.le_antisymm (hle _ h1) (h2 _ hM)]
 exact k _ G1 H (Yt.refl s1) (Zx _)
end
structure TF (K:PySem.W.Frag)(S:Type) where
 pv:S->Addr->List Addr->PV
 I:S->Addr->List Addr->Hp->Hp->Prop
 sl:∀ {s:S}{p:Addr}{fp:List Addr}{G H:Hp}{o:Option (Option V)}{F:List Addr},Sl K G H o (pv s p fp) F↔(F=p::fp/\o=some (some (.ref p))/\I s p fp G H)
 no:∀ s p fp ds,pv s p fp≠.own ds
noncomputable def noT:Tg where
 ok:=λ_ _ _ _=>False
 st:=λh _ _=>h.elim
 live:=λh=>h.elim
noncomputable def zjE (es:List PyData) (p:Addr):List Addr->PV
 | []=>.lnt p es
 | _=>.thg noT
noncomputable def zkx (K:PySem.W.Frag):TF K (List PyData) where
 pv:=zjE
 I:=λes p fp G H=>fp=[]/\∃ xs,H p=some (.lst xs)/\Yc K G xs es
 sl:=λ{s p fp G H o F}=>by
  cases fp with
  | nil=>
   constructor
   ·rintro ⟨xs,h1,h2,h3,h4⟩;exact ⟨h1,h2,rfl,xs,h3,h4⟩
   ·rintro ⟨h1,h2,_,xs,h3,h4⟩;exact ⟨xs,h1,h2,h3,h4⟩
  | cons a fp=>
   constructor
   ·rintro ⟨_,_,_,_,h⟩;exact h.elim
   ·rintro ⟨_,_,h,_⟩;cases h
 no:=λs p fp ds=>by cases fp <;> exact nofun
noncomputable def zks {K:PySem.W.Frag}{S:Type}(I:S->Addr->List Addr->Hp->Hp->Prop) (st:∀ {s:S}{p:Addr}{fp:List Addr}{G H G' H' : Hp},I s p fp G H->ZR G G' -> (∀ a∈p::fp,H' a=H a)->I s p fp G' H') (lv:∀ {s:S}{p:Addr}{fp:List Addr}{G H:Hp},I s p fp G H->∀ a∈p::fp,∃ o,H a=some o):TF K S where
 pv:=λs p fp=>.thg { ok:=λp' fp' G H=>p'=p/\fp'=fp/\I s p fp G H,st:=λ{p' fp' G H G' H'} ⟨h1,h2,h3⟩ sg k=>⟨h1,h2,st h3 sg λa ha=>k a (by rw[h1,h2];exact ha)⟩,live:=λ{p' fp' G H} ⟨h1,h2,h3⟩ a ha=>lv h3 a (by rw[h1,h2] at ha;exact ha) }
 I:=I
 sl:=λ{s p fp G H o F}=>by
  constructor
  ·rintro ⟨p',fp',h1,h2,rfl,rfl,h3⟩;exact ⟨h1,h2,h3⟩
  ·rintro ⟨h1,h2,h3⟩;exact ⟨p,fp,h1,h2,rfl,rfl,h3⟩
 no:=λ_ _ _ _=>nofun
section
variable {K:PySem.W.Frag}{B:Hp}{E:Addr->Prop}{G0 H0 G H G1 H1 G2 H2:Hp}{σ:St}{ρ:List PV}{F:Nat->List Addr}{ta tb te:TE}{a b d:PyData}{ds es:List PyData}{S:Type}{D:TF K S}{s s' : S}{p:Addr}{fp:List Addr}
theorem zhI {i0:Nat}(sb:ZR B G)(gh:ZR G H)(hl:σ.length=ρ.length)(h0:ρ[i0]?=some (D.pv s p fp))(hσ:σ[i0]?=some (some (.ref p)))(hI:D.I s p fp G H)(gn:∀ a∈p::fp,G a=none)(lv:∀ a∈p::fp,∃ o,H a=some o)
  (hx:∀ i v,i≠i0->ρ[i]?=some v->Sl K G H σ[i]? v []/\∀ ds,v≠.own ds):Rl K B (· ∈ p::fp) G H G H σ ρ (λk=>if k=i0 then p::fp else []):=by
 refine ⟨Gw.refl gh,sb,hl,λi v h=>?_,λi a ha=>?_,λi j a ha hb=>?_,λi ds' a h ha=>?_⟩
 ·by_cases z:i=i0
  ·subst z
   rw[h0] at h
   cases h
   rw[if_pos rfl]
   exact D.sl.mpr ⟨rfl,hσ,hI⟩
  ·rw[if_neg z];exact (hx i v z h).1
 ·split at ha
  ·exact ⟨gn a ha,lv a ha,.inl ha⟩
  ·cases ha
 ·split at ha
  ·split at hb
   ·omega
   ·cases hb
  ·cases ha
 ·split at ha
  ·rename_i z
   subst z
   rw[h0] at h
   exact absurd (Option.some.inj h) (D.no _ _ _ _)
  ·cases ha
theorem Rl.zhf {i:Nat}(r1:Rl K B E G0 H0 G1 H1 σ ρ F)(hi:ρ[i]?=some (D.pv s p fp))(gw:Gw (· ∈ p::fp) G1 H1 G2 H2)(gn:∀ a∈p::fp,G2 a=none)(lv:∀ a∈p::fp,∃ o,H2 a=some o)(hI:D.I s' p fp G2 H2):Rl K B E G0 H0 G2 H2 σ (ρ.set i (D.pv s' p fp)) F:=by
 obtain ⟨e1,hx,_⟩:=D.sl.mp (r1.sl i _ hi)
 have hlt:i<ρ.length:=(List.getElem?_eq_some_iff.mp hi).1
 refine ⟨⟨r1.g.gg.trans gw.gg,gw.gh,λb o n h=>?_,λb h=>r1.g.al b (gw.al b h),λb o h=>?_⟩,r1.bb.trans gw.gg,by rw[length_set];exact r1.ls,λj v h=>?_,λj a ha=>?_,r1.dj,λj ds' a h ha=>?_⟩
 ·refine gw.kp b o (λz=>?_) (r1.g.kp b o n h)
  rcases (r1.fr i b (by rw[e1];exact z)).2.2 with hE | hE
  ·exact n hE
  ·rw[hE] at h;cases h
 ·rcases gw.fr b o h with h | h
  ·exact r1.g.fr b o h
  ·exact .inr (r1.g.al b h)
 ·by_cases z:j=i
  ·subst z
   rw[getElem?_set_self hlt] at h
   cases h
   exact D.sl.mpr ⟨e1,hx,hI⟩
  ·rw[getElem?_set_ne (Ne.symm z)] at h
   refine (r1.sl j v h).grow gw.gg λa ha=>?_
   obtain ⟨_,⟨o,ho⟩,_⟩:=r1.fr j a ha
   rw[ho]
   exact gw.kp a o (λq=>z (r1.dj j i a ha (by rw[e1];exact q))) ho
 ·obtain ⟨h1,⟨o,h2⟩,h3⟩:=r1.fr j a ha
  by_cases z:a∈p::fp
  ·exact ⟨gn a z,lv a z,h3⟩
  ·refine ⟨?_,⟨o,gw.kp a o z h2⟩,h3⟩
   cases hg:G2 a with
   | none=>rfl
   | some o' =>
    rcases gw.fr a o' hg with h | h
    ·rw[h1] at h;cases h
    ·rw[h2] at h;cases h
 ·by_cases z:j=i
  ·subst z
   rw[getElem?_set_self hlt] at h
   exact absurd (Option.some.inj h) (D.no _ _ _ _)
  ·rw[getElem?_set_ne (Ne.symm z)] at h
   exact r1.ow j ds' a h ha
def spT (D:TF K S)(Pre:S->List PyData->Prop)(R:S->List PyData->PyData->S->Prop):Sp:=λvs H Q _=>∃ (p:Addr) (fp:List Addr) (us:List V) (G:Hp) (s:S) (ds:List PyData),vs = .ref p::us/\ZR G H/\(∀ a∈p::fp,G a=none)/\(∀ a∈p::fp,∃ o,H a=some o)/\D.I s p fp G H/\Yc K G us ds/\Pre s ds/\
 ∀ v x s' G' H',R s ds x s' -> Gw (· ∈ p::fp) G H G' H' -> (∀ a∈p::fp,G' a=none)->(∀ a∈p::fp,∃ o,H' a=some o)->D.I s' p fp G' H' -> Dat K G' v x->Q v H'
theorem ze6 {us:List V}{N:List Str}(sb:ZR B G)(gh:ZR G H)(hI:D.I s p fp G H)(gn:∀ a∈p::fp,G a=none)(lv:∀ a∈p::fp,∃ o,H a=some o)(hv:Yc K G us ds):Rl K B (· ∈ p::fp) G H G H (start N (.ref p::us)) (YG N (D.pv s p fp::ds.map .dat)) (λk=>if k=0 then p::fp else []):=by
 refine zhI sb gh ?_ rfl rfl hI gn lv λi v hi0 h=>?_
 ·unfold start YG
  rw[length_append,length_append,length_map,length_cons,length_cons,length_map,length_replicate,length_replicate,hv.length]
 ·cases i with
  | zero=>exact absurd rfl hi0
  | succ i=>
   have h:(ds.map PV.dat++List.replicate (N.length-(ds.map PV.dat).length.succ) PV.un)[i]?=some v:=h
   show Sl K G H ((us.map some++List.replicate (N.length-us.length.succ) none)[i]?) v []/\_
   by_cases hi:i<ds.length
   ·rw[getElem?_append_left (by rw[length_map];exact hi),getElem?_map,getElem?_eq_getElem hi] at h
    cases h
    obtain ⟨x,hx,hxd⟩:=hv.get (getElem?_eq_getElem hi)
    exact ⟨⟨rfl,x,by rw[getElem?_append_left (by rw[length_map,hv.length];exact hi),getElem?_map,hx];rfl,hxd⟩,λ_=>nofun⟩
   ·rw[getElem?_append_right (by rw[length_map];omega)] at h
    have:=List.mem_of_getElem? h
    rw[(mem_replicate.mp this).2]
    exact ⟨rfl,λ_=>nofun⟩
variable {P:Program}{w:World}{mg:Str->Option Value}{base:Heap}
theorem Fun.okT {x qual:Str}{st:Stmt}{f:Addr}{fd:FuncData}{N ps:List Str}{k:Nat}{Pre:S->List PyData->Prop}{R:S->List PyData->PyData->S->Prop}(Fn:Fun K x qual st f fd)(S' : ZP N ps (Zj st))(len:∀ s ds,Pre s ds->ds.length+1=ps.length)
  (hb:∀ (cdv:Value) (A:Around) (outer:List Env) (s:Shared) (H:Hp) (E:XK),Wa k (A.deeper (envOfC qual (Zj st) s.heap.objs.size f cdv))->∀ p fp t0 ds,Pre t0 ds->
   ∃ t,PSs (Uw CX0 P w K mg base N qual (Zj st) f cdv A outer s H E).nox (Z5 st) t/\Sv K B0 t (YG N (D.pv t0 p fp::ds.map .dat)) { nx:=fun ρ' => ∃ t1,R t0 ds .none t1/\ρ'[0]?=some (D.pv t1 p fp),rt:=λr ρ' => ∃ d t1,r = .dat d/\R t0 ds d t1/\ρ'[0]?=some (D.pv t1 p fp) }):QS P w K mg base CX0 (k+1) f fd ps (spT D Pre R):=by
 refine Fn.ok S' (λvs H Q E h=>?_) λcdv A outer s H vs Q E hr h=>?_
 ·obtain ⟨p,fp,us,G,t0,ds,rfl,_,_,_,_,hv,hP,_⟩:=h
  rw[length_cons,hv.length];exact len t0 ds hP
 ·obtain ⟨p,fp,us,G,t0,ds,rfl,sg,gn,lv,hI,hv,hP,kk⟩:=h
  obtain ⟨t,ht,hs⟩:=hb cdv A outer s H E hr p fp t0 ds hP
  refine ⟨t,ht,hs _ _ _ _ _ _ _ _ (ze6 b0 sg hI gn lv hv) ⟨λe _ r=>?_,λe _ r sl n=>?_,λe=>e.elim,λe=>e.elim⟩⟩
  ·obtain ⟨t1,hR,h0⟩:=e
   obtain ⟨e1,_,hI'⟩:=D.sl.mp (r.sl 0 _ h0)
   exact kk _ _ t1 _ _ hR r.g (λa ha=>(r.fr 0 a (by rw[e1];exact ha)).1) (λa ha=>(r.fr 0 a (by rw[e1];exact ha)).2.1) hI' Ju
  ·obtain ⟨d,t1,rfl,hR,h0⟩:=e
   obtain ⟨e1,_,hI'⟩:=D.sl.mp (r.sl 0 _ h0)
   obtain ⟨_,y,hy,hd⟩:=sl
   cases hy
   exact kk _ _ t1 _ _ hR r.g (λa ha=>(r.fr 0 a (by rw[e1];exact ha)).1) (λa ha=>(r.fr 0 a (by rw[e1];exact ha)).2.1) hI' hd
theorem YW {Pre:S->List PyData->Prop}{Rf:S->List PyData->PyData->S->Prop}{X:XK}{i:Nat}{t:TA}{R:PV->List PV->Prop}(hi:ρ[i]?=some (D.pv s p fp))
  (h:EgA K B t ρ λds ρ1=>∃ s1,ρ1[i]?=some (D.pv s1 p fp)/\Pre s1 ds/\∀ x s2,Rf s1 ds x s2->R (.dat x) (ρ1.set i (D.pv s2 p fp))):Eg K B (Jx (spT D Pre Rf) [] X (Yh (XQ i) t)) ρ R:=λE G0 H0 G H σ F r Q q=>by
 obtain ⟨_,hx,_⟩:=D.sl.mp (r.sl i _ hi)
 refine ⟨_,hx,h E G0 H0 G H σ F r _ λvs ds ρ1 G1 H1 F1 hh s1 r1 hv=>?_⟩
 obtain ⟨t1,hi1,hP,hk⟩:=hh
 obtain ⟨e1,_,hI⟩:=D.sl.mp (r1.sl i _ hi1)
 rw[append_nil]
 refine ⟨p,fp,vs,G1,t1,ds,rfl,r1.g.gh,λa ha=>(r1.fr i a (by rw[e1];exact ha)).1,λa ha=>(r1.fr i a (by rw[e1];exact ha)).2.1,hI,hv,hP,λv x t2 G2 H2 hR gw gn lv hI2 hd=>?_⟩
 exact q v _ _ G2 H2 F1 [] (hk x t2 hR) (s1.trans gw.gg) (r1.zhf hi1 gw gn lv hI2) ⟨rfl,v,rfl,hd⟩ Jh
theorem Vw {t:TA}{R:PV->List PV->Prop}(h:EgA K B t ρ λds ρ' => ds.length<=sizeLine/\R (.dat (.list ds)) ρ'):Eg K B (zgp t) ρ R:=λE G0 H0 G H σ F r Q q=>
 h E G0 H0 G H σ F r _ λvs ds ρ1 G1 H1 F1 hR s1 r1 hv=>⟨by rw[hv.length];exact hR.1,λp hp=>by
  have g:=Yw (o:=.lst vs) r1.g.gh hp
  exact q _ _ ρ1 _ _ F1 [] hR.2 (s1.trans g.gg) (r1.grow g) ⟨rfl,_,rfl,YX Zy (hv.same g.gg)⟩ Jh⟩
theorem zfh {r:List V->Hp->VK->Prop}{R:PV->List PV->Prop}(h:Eg K B te ρ λx ρ1=>∃ a c,x = .dat a/\(∀ G σ va,Dat K G va a->Ev K (tCB r (Yh (tC va) Q4)) σ G c)/\R (.dat c) ρ1):Eg K B (tCB r (Yh te Q4)) ρ R:=λE G0 H0 G H σ F r Q q=>
 h E G0 H0 G H σ F r _ λv w ρ1 G1 H1 F1 L hw s1 r1 sl n=>by
  obtain ⟨a,c,rfl,hop,hR⟩:=hw
  obtain ⟨_,y,hy,hd⟩:=sl
  cases hy
  exact hop G1 σ v hd G1 H1 (ZR.refl _) r1.g.gh Q λv3 G3 H3 g3 hv3=>q v3 _ ρ1 G3 H3 F1 [] hR (s1.trans g3.gg) (r1.grow g3) ⟨rfl,v3,rfl,hv3⟩ Jh
def EgI (K:PySem.W.Frag)(B:Hp)(wi:TI)(ρ:List PV)(R:List PyData->List PV->Prop):Prop:=∀ E G0 H0 G H σ F,Rl K B E G0 H0 G H σ ρ F->∀ Q:It->Hp->Prop,
 (∀ J ds ρ' G' H' F',R ds ρ' -> ZR G G' -> Rl K B E G0 H0 G' H' σ ρ' F' -> Wd K J G' ds->Q J H')->wi σ H Q
theorem zfF {wi:TI}{R:List PyData->List PV->Prop}(h:Ei K B wi (msk ρ) ds)(k:R ds ρ):EgI K B wi ρ R:=λE G0 H0 G H σ F r Q q=>h G H σ r.rx r.g.gh Q λJ G' H' g W=>q J ds ρ G' H' F k g.gg (r.grow g) W
theorem zag {t:TA}{R:List PyData->List PV->Prop}(h:EgA K B t ρ λds ρ' => ∃ n:Nat,ds=[.int (n:Nat)]/\n<2 ^ 60/\R ((List.range n).map λ(i:Nat)=>PyData.int (i:Nat)) ρ'):EgI K B (zeK t) ρ R:=λE G0 H0 G H σ F r Q q=>
 h E G0 H0 G H σ F r _ λvs ds ρ1 G1 H1 F1 hR s1 r1 hv=>by
  obtain ⟨n,rfl,hn,hR⟩:=hR
  obtain ⟨y,ys,rfl,hy,hr⟩:=hv.cons
  rw[hr.nil,hy.int]
  have e:(List.range n).map (λ(i:Nat)=>PyData.int (0+i))=(List.range n).map λ(i:Nat)=>PyData.int (i:Nat):=List.map_congr_left λi _=>by congr 1;omega
  refine ⟨n,rfl,by omega,by omega,q _ _ ρ1 G1 H1 F1 hR s1 r1 ?_⟩
  rw[toNat_natCast,← e]
  exact zbQ
theorem zfV {wi:TI}{g:TG}{tb:TS}{R:Pn}(h:EgI K B wi ρ λds ρ1=>∃ Iv:Nat->List PV->Prop,Iv 0 ρ1/\
   (∀ (i:Nat) (hi:i<ds.length) ρ',Iv i ρ' -> Gt K B g ds[i] ρ' fun ρ2=>Sv K B tb ρ2 { nx:=Iv (i+1),ct:=Iv (i+1),bk:=R.nx,rt:=R.rt })/\∀ ρ',Iv ds.length ρ' -> R.nx ρ'):Sv K B (zjH wi g tb) ρ R:=λE G0 H0 G H σ F D r dn=>by
 refine h E G0 H0 G H σ F r _ λJ ds ρ1 G1 H1 F1 hI s1 r1 W=>?_
 obtain ⟨Iv,h0,hs,hd⟩:=hI
 refine ⟨λi m σ' H' => m=ds.length-i/\i<=ds.length/\∃ ρ' G' F',Iv i ρ' /\ Rl K B E G0 H0 G' H' σ' ρ' F' /\ ZR G1 G',⟨ds.length,by omega,by omega,ρ1,G1,F1,h0,r1,ZR.refl _⟩,?_⟩
 rintro i m σ' H' ⟨rfl,hi,ρ',G',F',hI,r',s'⟩
 by_cases hin:i=ds.length
 ·subst hin
  exact .inl ⟨W.stop _ H' (s'.trans r'.g.gh) (Nat.le_refl _),dn.nx (hd ρ' hI) (s1.trans s') r'⟩
 ·have hi' : i<ds.length:=by omega
  refine .inr ⟨W.go i H' (s'.trans r'.g.gh) hi',fun σ2 H2=>∃ ρ2 G2 F2,Iv (i+1) ρ2/\Rl K B E G0 H0 G2 H2 σ2 ρ2 F2/\ZR G1 G2,fun σ2 H2 ⟨ρ2,G2,F2,q⟩=>⟨ds.length-(i+1),by omega,rfl,by omega,ρ2,G2,F2,q⟩,λx H'' hy=>?_⟩
  obtain ⟨G3,g3,hx⟩:=W.yld i H' x H'' G' ds[i] s' r'.g.gh (getElem?_eq_getElem hi') hy
  have r3:=r'.grow g3
  have s3:ZR G1 G3:=s'.trans g3.gg
  refine hs i hi' ρ' hI E G0 H0 G3 H'' σ' F' x _ r3 hx fun σ4 ρ4 G4 H4 F4 hP s4 r4=>?_
  have s14:=s3.trans s4
  refine hP E G0 H0 G4 H4 σ4 F4 _ r4 ⟨λhI2 s5 r5=>⟨_,_,_,hI2,r5,s14.trans s5⟩,λhR s5 r5 sl n=>dn.rt hR (s1.trans (s14.trans s5)) r5 sl n,λhR s5 r5=>dn.nx hR (s1.trans (s14.trans s5)) r5,λhI2 s5 r5=>⟨_,_,_,hI2,r5,s14.trans s5⟩⟩
theorem zaH {wi:TI}{js:List Nat}{R:PV->List PV->Prop}{i kp:Nat}(hj:js[kp]?=some i)
  (h:EgI K B wi ρ λas ρ1=>∃ (s0:S) (Iv:Nat->List PyData->S->Prop),ρ1[i]?=some (D.pv s0 p fp)/\as.length<sizeLine/\Iv 0 [] s0/\
   (∀ (n:Nat) (hn:n<as.length) out s,Iv n out s->out.length=n->Eg K B te (.dat as[n]::(zca (msk ρ1) js).set kp (D.pv s p fp)) λr ρ' => ∃ d s',r = .dat d/\ρ'[kp+1]?=some (D.pv s' p fp)/\Iv (n+1) (out++[d]) s')/\
   ∀ out s,Iv as.length out s->out.length=as.length->R (.own out) (ρ1.set i (D.pv s p fp))):Eg K B (tLC wi js ze2 te) ρ R:=λE G0 H0 G H σ F r Q q=>by
 refine h E G0 H0 G H σ F r _ λJ as ρ1 G1 H1 F1 hI s1 r1 W=>?_
 obtain ⟨s0,Iv,hi0,hn,h0,hs,hd⟩:=hI
 have hlt:i<ρ1.length:=(List.getElem?_eq_some_iff.mp hi0).1
 have hs0:ρ1.set i (D.pv s0 p fp)=ρ1:=by
  refine List.ext_getElem? λj=>?_
  by_cases z:i=j
  ·subst z;rw[getElem?_set_self hlt,hi0]
  ·rw[getElem?_set_ne z]
 refine ⟨λk m ys H' => m=as.length-k/\k<=as.length/\ys.length=k/\∃ G' out s,Iv k out s/\Rl K B E G0 H0 G' H' σ (ρ1.set i (D.pv s p fp)) F1/\ZR G1 G' /\ Yc K G' ys out,⟨as.length,by omega,by omega,rfl,G1,[],s0,h0,by rw[hs0];exact r1,ZR.refl _,Z7⟩,?_⟩
 rintro k m ys H' ⟨rfl,hk,hl,G',out,s,hIv,r',s',hys⟩
 have hol:out.length=k:=by rw[← hys.length];exact hl
 refine ⟨by omega,?_⟩
 by_cases hin:k=as.length
 ·subst hin
  refine .inl ⟨W.stop _ H' (s'.trans r'.g.gh) (Nat.le_refl _),λl hpl=>?_⟩
  obtain ⟨a,b,c⟩:=r'.zi6 hpl hys
  exact q _ _ _ G' _ F1 [l] (hd out s hIv hol) (s1.trans s') a b c
 ·have hk' : k<as.length:=by omega
  refine .inr ⟨W.go k H' (s'.trans r'.g.gh) hk',λx H'' hy=>?_⟩
  obtain ⟨G3,g3,hx⟩:=W.yld k H' x H'' G' as[k] s' r'.g.gh (getElem?_eq_getElem hk') hy
  have r3:=r'.grow g3
  have hi3:(ρ1.set i (D.pv s p fp))[i]?=some (D.pv s p fp):=getElem?_set_self hlt
  obtain ⟨e1,hσ,hI3⟩:=D.sl.mp (r3.sl i _ hi3)
  have hkl:kp<js.length:=(List.getElem?_eq_some_iff.mp hj).1
  have inn:Rl K B (· ∈ p::fp) G3 H'' G3 H'' (some x::Wu σ js) (.dat as[k]::(zca (msk ρ1) js).set kp (D.pv s p fp)) (λj=>if j=kp+1 then p::fp else []):=by
   refine zhI r3.bb r3.g.gh ?_ ?_ ?_ hI3 (λa ha=>(r3.fr i a (by rw[e1];exact ha)).1) (λa ha=>(r3.fr i a (by rw[e1];exact ha)).2.1) λj v hjn hv=>?_
   ·unfold Wu zca
    rw[length_cons,length_cons,length_set,length_map,length_map]
   ·rw[getElem?_cons_succ]
    exact getElem?_set_self (by unfold zca;rw[length_map];exact hkl)
   ·rw[getElem?_cons_succ]
    unfold Wu
    rw[getElem?_map,hj]
    show some (σ[i]?).join=_
    rw[hσ];rfl
   ·cases j with
    | zero=>
     cases hv
     exact ⟨⟨rfl,x,rfl,hx⟩,λ_=>nofun⟩
    | succ j=>
     rw[getElem?_cons_succ] at hv ⊢
     rw[getElem?_set_ne (by omega)] at hv
     unfold zca at hv
     unfold Wu
     rw[getElem?_map] at hv ⊢
     obtain ⟨l,hl',rfl⟩:=map_eq_some_iff.mp hv
     rw[hl']
     show Sl K G3 H'' (some (σ[l]?).join) _ []/\_
     rw[getElem?_map]
     cases hρ:ρ1[l]? with
     | none=>exact ⟨rfl,λ_=>nofun⟩
     | some v=>
      show Sl K G3 H'' (some (σ[l]?).join) v.msk []/\_
      cases v with
      | dat d=>
       have nl:i≠l:=λz=>by
        subst z
        rw[hi0] at hρ
        obtain ⟨e9,_,_⟩:=D.sl.mp (r1.sl i _ hi0)
        have h9:=r1.sl i (.dat d) (by rw[hi0,Option.some.inj hρ])
        rw[e9] at h9
        exact absurd h9.1 (by simp)
       obtain ⟨_,y,hy',hd'⟩:=r3.sl l (.dat d) (by rw[getElem?_set_ne nl];exact hρ)
       refine ⟨⟨rfl,y,?_,hd'⟩,λ_=>nofun⟩
       rw[hy'];rfl
      | scr ns=>
       have nl:i≠l:=λz=>by
        subst z
        rw[hi0] at hρ
        obtain ⟨e9,_,_⟩:=D.sl.mp (r1.sl i _ hi0)
        have h9:=r1.sl i (.scr ns) (by rw[hi0,Option.some.inj hρ])
        rw[e9] at h9
        exact absurd h9.1 (by simp)
       obtain ⟨_,y,hy',hd'⟩:=r3.sl l (.scr ns) (by rw[getElem?_set_ne nl];exact hρ)
       refine ⟨⟨rfl,y,?_,hd'⟩,λ_=>nofun⟩
       rw[hy'];rfl
      | val z0=>
       have nl:i≠l:=λz=>by
        subst z
        rw[hi0] at hρ
        obtain ⟨e9,_,_⟩:=D.sl.mp (r1.sl i _ hi0)
        have h9:=r1.sl i (.val z0) (by rw[hi0,Option.some.inj hρ])
        rw[e9] at h9
        exact absurd h9.1 (by simp)
       obtain ⟨_,hy'⟩:=r3.sl l (.val z0) (by rw[getElem?_set_ne nl];exact hρ)
       refine ⟨⟨rfl,?_⟩,λ_=>nofun⟩
       rw[hy'];rfl
      | _=>exact ⟨rfl,λ_=>nofun⟩
  show te (some x::Wu σ js) H'' _
  refine hs k hk' out s hIv hol _ _ _ _ _ _ _ inn _ λv rr ρ' G4 H4 F4 L hr s4 r4 sl n=>?_
  obtain ⟨d,s'',rfl,hρ',hIv'⟩:=hr
  obtain ⟨e4,_,hI4⟩:=D.sl.mp (r4.sl _ _ hρ')
  obtain ⟨_,y,hy',hd'⟩:=sl
  cases hy'
  have back:=r3.zhf hi3 r4.g (λa ha=>(r4.fr _ a (by rw[e4];exact ha)).1) (λa ha=>(r4.fr _ a (by rw[e4];exact ha)).2.1) hI4
  rw[List.set_set] at back
  exact ⟨as.length-(k+1),by omega,rfl,by omega,by rw[length_append];show _+1=_;omega,G4,out++[d],s'',hIv',back,(s'.trans g3.gg).trans s4,XJ (hys.same (g3.gg.trans s4)) hd'⟩
end
def RDw (n:Nat)(ds:List PyData)(x:PyData)(n' : Nat):Prop:=∃ m r:Int,ds=[.int m]/\x = .int r/\0<=r/\r<m/\n'=n+1
theorem zhn {K:PySem.W.Frag}{B:Hp}{ρ:List PV}{i j:Nat}{t:TA}{a b:PyData}{R:Pn}(h:Ea K B t (msk ρ) [a,b])(k:R.nx ((ρ.set i (.dat a)).set j (.dat b))):Sv K B (zjW i j t) ρ R:=λE G0 H0 G H σ F D r dn=>h G σ r.rx G H (ZR.refl _) r.g.gh _ λvs G1 H1 g hv=>by
 obtain ⟨x,xs,rfl,hx,hv⟩:=hv.cons
 obtain ⟨y,ys,rfl,hy,hv⟩:=hv.cons
 cases hv.nil
 have r1:=r.grow g
 exact ⟨x,y,rfl,dn.nx k g.gg ((r1.zgB hx).zgB hy)⟩
theorem zfr {K:PySem.W.Frag}{B:Hp}{ρ:List PV}{i j r:Int}(h:zi4 i j)(e:i ^ j.toNat=r):Er K B (tOp (rI zi4 λi j=>.int (i ^ j.toNat)) (tC (.int i)) (tC (.int j))) ρ (.int r):=Wv Zn Zn h λ_=>e ▸ Zx _
theorem zbb {K:PySem.W.Frag}{B:Hp}{ρ:List PV}{t:TA}{b:Bool}(h:Ea K B t ρ [.bool b]):Er K B (tCB (λxs H Q=>(∃ i,xs=[.int i]/\Q (.int i) H)\/∃ k,xs=[.bl k]/\Q (.int (if k then 1 else 0)) H) t) ρ (.int (if b then 1 else 0)):=λG σ r=>zgy (h G σ r)
theorem U5 {K:PySem.W.Frag}{B:Hp}{ρ:List PV}{t u:TS}{R:Pn}(N:List PV->Prop)(h:Sv K B t ρ { R with nx:=N })(k:∀ ρ',N ρ' -> Sv K B u ρ' R):Sv K B (zgr t u) ρ R:=Zr (zhQ h (fun ρ hn=>k ρ hn) (λ_ _ h=>h) (λ_ h=>h) (λ_ h=>h))
theorem zcU {K:PySem.W.Frag}{B:Hp}{ρ:List PV}{te:TE}{R:PV->List PV->Prop}(h:Eg K B te ρ λr ρ' => ∃ ds,r = .own ds/\R (.dat (.list ds)) ρ'):Eg K B te ρ R:=λE G0 H0 G H σ F r Q q=>
 h E G0 H0 G H σ F r Q λv x ρ1 G1 H1 F1 L hx s1 r1 sl n=>by
  obtain ⟨ds,rfl,hR⟩:=hx
  obtain ⟨p,xs,rfl,hv,hp,hd⟩:=sl
  have hv:v = .ref p:=by injection hv with hv;injection hv
  subst hv
  obtain ⟨gp,_,h0⟩:=n.fr p (by simp)
  have nj:∀ j,p∉F1 j:=n.dj p (by simp)
  have sm:ZR G1 (upd G1 p (.lst xs)):=XR gp
  have gh:ZR (upd G1 p (.lst xs)) H1:=λb o e=>by
   by_cases z:b=p
   ·subst z;rw[Zy] at e;rw[hp,e]
   ·rw[ZC z] at e;exact r1.g.gh b o e
  refine q _ _ ρ1 (upd G1 p (.lst xs)) H1 F1 [] hR (s1.trans sm) ⟨⟨r1.g.gg.trans sm,gh,r1.g.kp,r1.g.al,λb o e=>?_⟩,r1.bb.trans sm,r1.ls,λi v e=>(r1.sl i v e).grow sm λa ha=>rfl,λi a ha=>?_,r1.dj,r1.ow⟩ ⟨rfl,_,rfl,YX Zy (hd.same sm)⟩ Jh
  ·by_cases z:b=p
   ·subst z;exact .inr h0
   ·rw[ZC z] at e;exact r1.g.fr b o e
  ·obtain ⟨e1,e2⟩:=r1.fr i a ha
   refine ⟨?_,e2⟩
   rw[ZC λz=>nj i (by rw[← z];exact ha)];exact e1
section
variable {X:Cx}{pos:Pos}
def zj2 (K:PySem.W.Frag)(n:Nat)(t:TGs):TG:=λv σ H Q=>∃ a xs,v = .ref a/\SqL K H a xs/\xs.length=n/\t xs σ H Q
theorem ziW {es:List Expr}{k:Nat}{t:TGs}{n:Nat}(hc:X.calm=true)(h:PGs X es t)
  (hn:(assignEach es X.env).length=n:=by rfl) (hst:(assignEach es X.env).findIdx? (·.1)=none:=by rfl):PG X (.Tuple es k pos) (zj2 X.K n t):=by
 intro pins s σ H v u Q I r hw
 obtain ⟨a,xs,e1,hq,hl,hw⟩:=hw
 subst e1
 cases r
 obtain ⟨its,rv,ht,hz⟩:=I.list hq
 rw[assign_Tuple]
 refine wpAny_bind (wpAny_standAt ?_)
 unfold unpack
 rw[show (assignEach es X.env).length=its.toArray.size by simp[hn,← hl,rv.length],hst]
 refine wpAny_bind (wpAny_holding (PySem.W.kun_itemsOf (I.ok.hd hc) ht.isList λh' hx=>?_))
 have I1:Inv X pins σ H { s with heap:=h' }:=I.kept (t' := s.toks) λb o e=>hx b o (ne_of_lt (lt_size e)) e
 exact h pins _ σ H xs _ Q I1 (by simpa using rv) hw
end
section
variable {K:PySem.W.Frag}{B:Hp}{ρ:List PV}{a b c:PyData}
theorem zf6 {i j:Nat}{P:List PV->Prop}(h:P ((ρ.set i (.dat a)).set j (.dat b))):Gt K B (zj2 K 2 (zdH (Va i) (zdH (Va j) zjx))) (.list [a,b]) ρ P:=λE G0 H0 G H σ F x Q r hd k=>by
 obtain ⟨p,xs,rfl,hp,hx⟩:=hd.lst
 obtain ⟨y,ys,rfl,hy,hx⟩:=hx.cons
 obtain ⟨z,zs,rfl,hz,hx⟩:=hx.cons
 cases hx.nil
 exact ⟨p,_,rfl,SqL.of (r.g.gh _ _ hp),rfl,y,_,rfl,z,_,rfl,rfl,k _ _ G H _ h (ZR.refl _) ((r.zgB hy).zgB hz)⟩
end
noncomputable def zke (sc fr:Scope):List (Str×NameKind):=sc.names.map λ(n,k)=>if (k==NameKind.free&&fr.kind == .function&&(fr.names.lookup n)==some .cell)=true then (n,NameKind.cell) else (n,k)
end L2
namespace Look
open PySem Ord Rdo
abbrev vl (book:List Str)(z:Str)(f:Fs):Int×Int:=f.getD (book.idxOf z) (0,1)
theorem Vn:Ym (S "same")=some (S "same",S "case",[S "field"])/\Ym (S "both")=some (S "both",S "case",[S "mark"])/\Ym (S "either")=some (S "either",S "case",[S "mark"])/\Ym (S "and")=some (S "and",S "case",[S "case",S "case"])/\Ym (S "or")=some (S "or",S "case",[S "case",S "case"])/\
  Ym (S "under")=some (S "under",S "mark",[S "field",S "number"])/\Ym (S "is")=some (S "is",S "mark",[S "field",S "number"]):=by decide +kernel
section
variable {E:En}{cs ds:List Wd}{b c:Bool}
theorem zeO {x:Str}(hx:Ym x=none)(R:List Tv):ev E [.t (S "same"),.t x] R = .tr (isA (E.look x) .like)::R:=by
 show push E (.t (S "same")) (push E (.t x) R)=_
 have e:push E (.t x) R = .wd (.t x)::R:=by unfold push;dsimp only;rw[hx]
 rw[e,Wo Vn.1,JL.2.2.2.2.2.2.1];rfl
theorem ze5 {x:Str}(hx:Ym x=none)(p q:Int)(R:List Tv):ev E [.t (S "under"),.t x,.n p q] R = .mk (isA (E.one x p q) .ahead) (isA (E.two x p q) .ahead)::R:=by
 show push E (.t (S "under")) (push E (.t x) (push E (.n p q) R))=_
 have e:∀ R,push E (.t x) R = .wd (.t x)::R:=λR=>by unfold push;dsimp only;rw[hx]
 have e2:push E (.n p q) R = .wd (.n p q)::R:=rfl
 rw[e2,e,Wo Vn.2.2.2.2.2.1,JL.2.2.2.2.2.2.2.2.2.2.2.2.1];rfl
theorem zi8 {x:Str}(hx:Ym x=none)(p q:Int)(R:List Tv):ev E [.t (S "is"),.t x,.n p q] R = .mk (isA (E.one x p q) .like) (isA (E.two x p q) .like)::R:=by
 show push E (.t (S "is")) (push E (.t x) (push E (.n p q) R))=_
 have e:∀ R,push E (.t x) R = .wd (.t x)::R:=λR=>by unfold push;dsimp only;rw[hx]
 have e2:push E (.n p q) R = .wd (.n p q)::R:=rfl
 rw[e2,e,Wo Vn.2.2.2.2.2.2,JL.2.2.2.2.2.2.2.2.2.2.2.2.2];rfl
theorem zfM (h:∀ R,ev E cs R = .mk b c::R)(R:List Tv):ev E (.t (S "both")::cs) R = .tr (b&&c)::R:=by
 show push E (.t (S "both")) (ev E cs R)=_
 rw[h,Wo Vn.2.1,JL.2.2.2.2.2.2.2.1];rfl
theorem zc0 (h:∀ R,ev E cs R = .mk b c::R)(R:List Tv):ev E (.t (S "either")::cs) R = .tr (b||c)::R:=by
 show push E (.t (S "either")) (ev E cs R)=_
 rw[h,Wo Vn.2.2.1,JL.2.2.2.2.2.2.2.2.1];rfl
theorem zfN (h:∀ R,ev E cs R = .tr b::R)(h' : ∀ R,ev E ds R = .tr c::R)(R:List Tv):ev E (.t (S "and")::(cs++ds)) R = .tr (b&&c)::R:=by
 show push E (.t (S "and")) (ev E (cs++ds) R)=_
 rw[zaG,h',h,Wo Vn.2.2.2.1,JL.2.2.2.2.2.2.2.2.2.2.1];rfl
theorem zio (h:∀ R,ev E cs R = .tr b::R)(h' : ∀ R,ev E ds R = .tr c::R)(R:List Tv):ev E (.t (S "or")::(cs++ds)) R = .tr (b||c)::R:=by
 show push E (.t (S "or")) (ev E (cs++ds) R)=_
 rw[zaG,h',h,Wo Vn.2.2.2.2.1,JL.2.2.2.2.2.2.2.2.2.2.2.1];rfl
end
end Look
namespace L2
open PySem PySem.Spec PyProof.Rows Lw
section
variable {K:PySem.W.Frag}{B:Hp}{ρ:List PV}{te ta tb tx:TE}{E:Addr->Prop}{G0 H0 G H:Hp}{σ:St}{F:Nat->List Addr}
theorem zgZ {X:Cx}(e:X.K=K):OpR X (compareOp .In) (rIn K false):=by subst e;exact zaQ
theorem ze4 {X:Cx}(e:X.K=K):OpR X (compareOp .NotIn) (rIn K true):=by subst e;exact zax
theorem zgY {g:TG}{R:Pn}(h:Eg K B te ρ λr ρ' => ∃ d,r = .dat d/\Gt K B g d ρ' R.nx):Sv K B (zeu te g) ρ R:=λE G0 H0 G H σ F D r d=>
 h E G0 H0 G H σ F r _ λv w ρ' G' H' F' L hR s r' sl n=>by
  obtain ⟨dd,rfl,hg⟩:=hR
  obtain ⟨_,x,hx,hd⟩:=sl
  cases hx
  exact hg E G0 H0 G' H' σ F' v _ r' hd fun σ' ρ2 G2 H2 F2 hP s2 r2=>d.nx hP (s.trans s2) r2
def SvE (E:Addr->Prop)(K:PySem.W.Frag)(B:Hp)(t:TS)(ρ:List PV)(R:Pn):Prop:=∀ G0 H0 G H σ F D,Rl K B E G0 H0 G H σ ρ F->Dn K B E G0 H0 G R D->t D σ H
theorem svE {t:TS}{R:Pn}(h:Sv K B t ρ R):SvE E K B t ρ R:=λG0 H0 G H σ F D=>h _ G0 H0 G H σ F D
abbrev Sv0 (K:PySem.W.Frag)(B:Hp)(t:TS)(ρ:List PV)(R:Pn):Prop:=SvE (λ_=>False) K B t ρ R
theorem sv0 {t:TS}{R:Pn}(h:Sv K B t ρ R):Sv0 K B t ρ R:=svE h
theorem Fun.ziz {P:Program}{w:World}{mg:Str->Option Value}{base:Heap}{x qual:Str}{st:Stmt}{f:Addr}{fd:FuncData}{N ps:List Str}{k:Nat}{R:List PyData->PyData->Prop}(Fn:Fun K x qual st f fd)(S:ZP N ps (Zj st))(len:∀ ds d,R ds d->ds.length=ps.length)
  (hb:∀ (cdv:Value) (A:Around) (outer:List Env) (s:Shared) (H:Hp) (E:XK),cdv=fd.code->Wa k (A.deeper (envOfC qual (Zj st) s.heap.objs.size f cdv))->∀ ds d,R ds d->
   ∃ t,PSs (Uw CX0 P w K mg base N qual (Zj st) f cdv A outer s H E).nox (Z5 st) t/\Sv0 K B t (YG N (ds.map .dat)) { nx:=λ_=>d = .none,rt:=λr _=>r = .dat d }):QS P w K mg base CX0 (k+1) f fd ps (zg4 K B R):=by
 refine Fn.okC S (λvs H Q E h=>?_) λcdv A outer s H vs Q E hcd hr h=>?_
 ·obtain ⟨G,ds,d,_,_,hv,hR,_⟩:=h
  rw[hv.length];exact len ds d hR
 ·obtain ⟨G,ds,d,sb,sg,hv,hR,kk⟩:=h
  obtain ⟨t,ht,hs⟩:=hb cdv A outer s H E hcd hr ds d hR
  refine ⟨t,ht,hs _ _ _ _ _ _ _ (zcT sb sg hv) ⟨λe _ r=>?_,λe _ r sl n=>?_,λe=>e.elim,λe=>e.elim⟩⟩
  ·have e:d = .none:=e
   subst e
   exact kk _ _ _ r.g.VB Ju
  ·subst e
   obtain ⟨_,y,hy,hd⟩:=sl
   cases hy
   exact kk _ _ _ r.g.VB hd
end
section
variable {X:Cx}
def zgj (K:PySem.W.Frag)(neg:Bool):R2:=λx y H Q=>∃ (G:Hp) (d:PyData) (ds:List PyData) (p:Addr) (xs:List V),ZR G H/\Dat K G x d/\y = .ref p/\SqT K G p xs/\Yc K G xs ds/\Pl 60 d/\(∀ e∈ds,Pl 60 e)/\
 Q (.bl (if neg=true then !ds.any (λe=>PySem.Spec.same e d) else ds.any λe=>PySem.Spec.same e d)) H
theorem zgH {K:PySem.W.Frag}(eK:X.K=K)(hu:X.A.units+64<cLine):OpR X (compareOp .In) (zgj K false):=by
 subst eK
 intro pins s σ H x y v u Q I rx ry h
 obtain ⟨G,d,ds,p,xs,e,hd,rfl,hp,hx,pd,pds,q⟩:=h
 cases ry
 obtain ⟨its,r,pl,hz⟩:=I.tuple (e.tup hp)
 obtain ⟨as,rd⟩:=Dat.reads I e hd rx
 obtain ⟨h1,h2⟩:=zak I e hu rd pd hx r pds
 refine SeqAt.in_tupleAt (JW s d) pl (λw hw=>h1 w (by simpa using hw)) ⟨.bl _,H,I,rfl,?_⟩
 rw[show its.toArray.any (JW s d)=its.any (JW s d) by simp,h2];exact q
end
section
variable {K:PySem.W.Frag}{B:Hp}{ρ:List PV}{te ta tb tx:TE}
theorem zgG {neg:Bool}{d:PyData}{ds:List PyData}(ha:Er K B ta ρ d)(hb:Er K B tb ρ (.tuple ds))(pd:Pl 60 d)(pds:∀ e∈ds,Pl 60 e):Er K B (tOp (zgj K neg) ta tb) ρ (.bool (if neg=true then !ds.any (λe=>PySem.Spec.same e d) else ds.any λe=>PySem.Spec.same e d)):=λG σ r=>
 Jk (ha G σ r) (hb G σ r) λG1 H u v Q s1 s2 hu hv k=>by
  obtain ⟨p,xs,rfl,hp,hxs⟩:=hv.tup
  exact ⟨G1,d,ds,p,xs,s2,hu,rfl,hp,hxs,pd,pds,k _ G1 H (Yt.refl s2) (Yb _)⟩
end
open PySem PySem.Spec PyProof.Rows Lw Big
section
variable {K:PySem.W.Frag}{B:Hp}{ρ:List PV}{ta tb tc td te:TE}
theorem ziL {t:TA}{ns:List Int}(h:Ea K B t ρ [.list (ns.map .int)]):Er K B (tCB (λxs H Q=>∃ (p:Addr) (ns:List Int),xs=[.ref p]/\SqL K H p (ns.map V.int)/\Q (.int ns.sum) H) t) ρ (.int ns.sum):=λG σ r=>zcx (h G σ r) λG1 H xs Q s1 s2 hx k=>by
 obtain ⟨v,vs,rfl,hv,hx⟩:=hx.cons
 rw[hx.nil]
 obtain ⟨p,ys,rfl,hp,hys⟩:=hv.lst
 rw[Yc.ints hys] at hp
 exact ⟨p,ns,rfl,SqL.of (s2 _ _ hp),k _ _ _ (Yt.refl s2) (Zx _)⟩
end
section
variable {K:PySem.W.Frag}{B:Hp}{ρ:List PV}{G H:Hp}
def zbR (K:PySem.W.Frag)(R:List Int->List PyData->Prop):Sp:=λvs H Q _=>∃ (G:Hp) (a:Addr) (ns:List Int) (es:List PyData),vs=[.ref a]/\ZR G H/\SqL K G a (ns.map V.int)/\R ns es/\∀ p xs G' H',Yt G H G' H' -> G' p=none->H p=none->H' p=some (.lst xs)->Yc K G' xs es->Q (.ref p) H'
theorem zgE {p:Addr}{N:List Str}{ns:List Int}(sb:ZR B G)(s:ZR G H)(hq:SqL K G p (ns.map V.int)):Rl K B (λ_=>False) G H G H (start N [.ref p]) (YG N [.scr ns]) (λ_=>[]):=by
 refine ⟨Gw.refl s,sb,?_,λi v h=>?_,λ_ _ h=>(by cases h),λ_ _ _ h _=>(by cases h),λ_ _ _ _ h=>(by cases h)⟩
 ·unfold start YG
  rw[length_append,length_append,length_map,length_replicate,length_replicate];rfl
 ·unfold YG at h
  unfold start
  cases i with
  | zero=>
   have h:some (PV.scr ns)=some v:=h
   cases h
   exact ⟨rfl,p,rfl,hq⟩
  | succ i=>
   rw[getElem?_append_right (by show 1<=i+1;omega)] at h
   have:=List.mem_of_getElem? h
   rw[(mem_replicate.mp this).2]
   rfl
theorem Fun.zjp {P:Program}{w:World}{mg:Str->Option Value}{base:Heap}{x qual:Str}{st:Stmt}{f:Addr}{fd:FuncData}{N:List Str}{k:Nat}{R:List Int->List PyData->Prop}(Fn:Fun K x qual st f fd)(S:ZP N ["script"] (Zj st))
  (hb:∀ (cdv:Value) (A:Around) (outer:List Env) (s:Shared) (H:Hp) (E:XK),Wa k (A.deeper (envOfC qual (Zj st) s.heap.objs.size f cdv))->∀ ns es,R ns es->
   ∃ t,PSs (Uw CX0 P w K mg base N qual (Zj st) f cdv A outer s H E).nox (Z5 st) t/\Sv K B0 t (YG N [.scr ns]) { nx:=λ_=>False,rt:=λr _=>r = .own es }):QS P w K mg base CX0 (k+1) f fd ["script"] (zbR K R):=by
 refine Fn.ok S (λvs H Q E h=>?_) λcdv A outer s H vs Q E hr h=>?_
 ·obtain ⟨G,a,ns,es,rfl,_⟩:=h
  rfl
 ·obtain ⟨G,a,ns,es,rfl,sg,hq,hR,kk⟩:=h
  obtain ⟨t,ht,hs⟩:=hb cdv A outer s H E hr ns es hR
  refine ⟨t,ht,hs _ _ _ _ _ _ _ _ (zgE b0 sg hq) ⟨λe _ r=>e.elim,λe _ r sl n=>?_,λe=>e.elim,λe=>e.elim⟩⟩
  subst e
  obtain ⟨p,xs,rfl,hy,hp,hd⟩:=sl
  cases hy
  obtain ⟨h1,_,h3⟩:=n.fr p (by simp)
  exact kk p xs _ _ r.g.VB h1 h3 hp hd
theorem zfL {Rf:List Int->List PyData->Prop}{X:XK}{i:Nat}{ns:List Int}{es:List PyData}{R:PV->List PV->Prop}(hi:ρ[i]?=some (.scr ns))(hR:Rf ns es)(k:R (.own es) ρ):Eg K B (Jx (zbR K Rf) [] X (Yh (XQ i) Q4)) ρ R:=λE G0 H0 G H σ F r Q q=>by
 obtain ⟨_,a,hx,hq⟩:=r.sl i _ hi
 refine ⟨_,hx,G,a,ns,es,rfl,r.g.gh,hq,hR,λp xs G2 H2 g2 gp hp hp2 hd=>?_⟩
 have r2:=r.grow g2
 refine q _ _ ρ G2 H2 F [p] k g2.gg r2 ⟨p,xs,rfl,rfl,hp2,hd⟩ ⟨λa ha=>?_,λa ha j hj=>?_⟩
 ·rw[mem_singleton.mp ha]
  exact ⟨gp,⟨_,hp2⟩,r.g.al p hp⟩
 ·rw[mem_singleton.mp ha] at hj
  obtain ⟨_,⟨o,h⟩,_⟩:=r.fr j p hj
  rw[hp] at h;cases h
end
def zfZ (ta:TA):TI:=fun σ H R=>ta σ H λvs H1=>∃ i j:Int,vs=[.int i,.int j,.int (-1)]/\(-(2 ^ 40)<i/\i<2 ^ 40/\-(2 ^ 40)<j/\j<2 ^ 40)/\R (zjo i (-1) (i-j).toNat) H1
section
variable {X:Cx}{tg:Expr}
theorem zdp {a b c:Expr}{ta:TA}{p pos:Pos}(hg:Gl X "range")(hm:X.mg "range" = none)(ha:PA X [a,b,c] ta)(hs:starEach [a,b,c] X.env=[(false,eval a X.env),(false,eval b X.env),(false,eval c X.env)]:=by rfl)(hs2:starEach [b,c] X.env=[(false,eval b X.env),(false,eval c X.env)]:=by rfl):
  PI X tg (.Call (.Name "range" p) [a,b,c] [] pos) (zfZ ta):=by
 intro pins s σ H R I h
 refine Call_ (Vx I hg hm boot_range (PyProof.Rows.callWith_type1 (thn (ha pos pins s σ H _ I h) λus s1 ⟨vs,H1,I1,r1,q1⟩=>?_) (by rw[hs,hs2]) (by rw[hs2];rfl)))
 obtain ⟨i,j,e,⟨q1,q2,q3,q4⟩,q⟩:=q1
 subst e
 cases r1 with
 | cons r rr=>
  cases rr with
  | cons r' rr=>
   cases rr with
   | cons r'' rr=>
    cases rr
    obtain ⟨t,rfl⟩:=r
    obtain ⟨t',rfl⟩:=r'
    obtain ⟨t'',rfl⟩:=r''
    have hrs:Builtin.Range.rangeSize i j (-1)=((i-j).toNat:Nat):=by
     unfold Builtin.Range.rangeSize
     rw[if_neg (by omega)]
     split
     ·rw[show (-(-1):Int)=1 from rfl,Int.ediv_one];omega
     ·omega
    have hsm:Builtin.Range.small i j (-1)=true:=by
     unfold Builtin.Range.small
     rw[hrs]
     simp only[Builtin.Range.rangeFitsLong,and_eq_true,Bool.or_eq_true,decide_eq_true_eq,beq_iff_eq,gt_iff_lt]
     first | omega | (split <;> omega) | (simp;omega)
    refine call_range_3 (by omega) ?_ (.inl (PyProof.noPylong_small (by omega)))
    have I2:Inv X pins σ H1 { s1 with heap:=s1.heap.push { cls:=.type "range",data:=.fields #[.int i t,.int j t',.int (-1) t''] },toks:=s1.toks }:=I1.kept λb o e=>get?_push_of_some _ e
    refine wpAny_pyIter_range (IsRange.new ..) hsm ?_
    refine ⟨_,[_],_,_,H1,rfl,I2.kept (t' := s1.toks) λb o e=>get?_push_of_some _ e,zbr _ i (-1) (i-j).toNat,?_,λb hb=>?_,q⟩
    ·have e1:i+((0:Nat):Int)*(-1)=i:=by simp
     have e2:(((i-j).toNat:Nat):Int)-((0:Nat):Int)=Builtin.Range.rangeSize i j (-1):=by rw[hrs];omega
     show IsRangeIter _ _ (i+((0:Nat):Int)*(-1)) ((((i-j).toNat:Nat):Int)-((0:Nat):Int)) (-1)
     rw[e1,e2]
     exact get?_push_size _ rfl
    ·have e:=mem_singleton.mp hb
     subst e
     exact I2.zg5 (Nat.le_refl _) (I2.hok.fresh (Nat.le_refl _))
end
section
variable {K:PySem.W.Frag}{B:Hp}{ρ:List PV}{G:Hp}
theorem zc2 {lo:Int}{n:Nat}:Wd K (zjo lo (-1) n) G ((List.range n).map λ(i:Nat)=>PyData.int (lo-i)):=by
 refine ⟨λi H' _ h=>by rw[length_map,length_range] at h;exact h,λi H' _ h=>by rw[length_map,length_range] at h;exact h,λi H1 x H2 G1 d s1 s2 hd y=>?_⟩
 obtain ⟨rfl,rfl⟩:=y
 refine ⟨G1,Yt.refl s2,?_⟩
 rw[getElem?_map] at hd
 by_cases h:i<n
 ·rw[List.getElem?_range h] at hd
  cases hd
  rw[show lo+(i:Int)*(-1)=lo-i by omega]
  exact Zx _
 ·rw[List.getElem?_eq_none (by rw[length_range];omega)] at hd;cases hd
theorem zgc {t:TA}{lo j:Int}(h:Ea K B t ρ [.int lo,.int j,.int (-1)])(hj:-(2 ^ 40)<lo/\lo<2 ^ 40/\-(2 ^ 40)<j/\j<2 ^ 40):Ei K B (zfZ t) ρ ((List.range (lo-j).toNat).map λ(i:Nat)=>PyData.int (lo-i)):=λG H σ r s R k=>h G σ r G H (ZR.refl _) s _ λvs G' H' g hv=>by
 obtain ⟨a,as,rfl,ha,hv⟩:=hv.cons
 obtain ⟨b,bs,rfl,hb,hv⟩:=hv.cons
 obtain ⟨c,cs,rfl,hc,hv⟩:=hv.cons
 rw[hv.nil,ha.int,hb.int,hc.int]
 exact ⟨lo,j,rfl,hj,k _ G' H' g zc2⟩
end
section
variable {K:PySem.W.Frag}{B:Hp}{ρ:List PV}{G H:Hp}{ta tb te:TE}{a b d:PyData}{ds:List PyData}
theorem zf9 {us:List V}{N:List Str}{x:V}(sb:ZR B G)(s:ZR G H)(hv:Yc K G us ds):Rl K B (λ_=>False) G H G H (start N (us++[x])) (YG N (ds.map .dat++[.val x])) (λ_=>[]):=by
 refine ⟨Gw.refl s,sb,?_,λi v h=>?_,λ_ _ h=>(by cases h),λ_ _ _ h _=>(by cases h),λ_ _ _ _ h=>(by cases h)⟩
 ·unfold start YG
  simp only[length_append,length_map,length_replicate,hv.length,length_cons,List.length_nil]
 ·unfold YG at h
  unfold start
  rw[map_append,append_assoc]
  rw[append_assoc] at h
  by_cases hi:i<ds.length
  ·rw[getElem?_append_left (by rw[length_map];exact hi),getElem?_map,getElem?_eq_getElem hi] at h
   cases h
   obtain ⟨y,hx,hxd⟩:=hv.get (getElem?_eq_getElem hi)
   exact ⟨rfl,y,by rw[getElem?_append_left (by rw[length_map,hv.length];exact hi),getElem?_map,hx];rfl,hxd⟩
  ·rw[getElem?_append_right (by rw[length_map];omega),length_map] at h
   by_cases hi2:i=ds.length
   ·subst hi2
    rw[Nat.sub_self] at h
    have h:some (PV.val x)=some v:=h
    cases h
    refine ⟨rfl,?_⟩
    rw[getElem?_append_right (by rw[length_map,hv.length];exact Nat.le_refl _),length_map,hv.length,Nat.sub_self];rfl
   ·rw[getElem?_append_right (by show 1<=_;omega)] at h
    have:=List.mem_of_getElem? h
    rw[(mem_replicate.mp this).2]
    rfl
end
section
variable {K:PySem.W.Frag}{B:Hp}{ρ:List PV}{G H:Hp}{ta tb te td:TE}{a b d:PyData}{ds:List PyData}
theorem zhu {R:PV->List PV->Prop}(h:Er K B te (msk ρ) (.list ds))(hd:Eg K B td ρ λy ρ2=>∃ j:Int,y = .dat (.int j)/\R (.dat (.list (slD ds none (some j)))) ρ2):Eg K B (tSl (zg7 K) te V3 (zcu td)) ρ R:=λE G0 H0 G H σ F r Q q=>
 h G σ r.rx G H (ZR.refl _) r.g.gh _ λv G1 H1 g hv=>hd E G0 H0 G1 H1 σ F (r.grow g) _ λv2 w2 ρ2 G2 H2 F2 L2 hw2 s2 r2 sl2 n2=>by
  obtain ⟨j,rfl,hR⟩:=hw2
  obtain ⟨_,y2,hy2,hd2⟩:=sl2
  cases hy2
  rw[hd2.int]
  refine ⟨j,rfl,?_⟩
  have:=zfi (K:=K) (σ:=σ) (G:=G2) (te:=tC v) (tl:=V3) (th:=zcu (tC (.int j))) (Y7 (hv.same s2)) (λH Q q=>q) (λH Q q=>⟨j,rfl,q⟩) G2 H2 (ZR.refl _) r2.g.gh Q λv3 G3 H3 g3 hv3=>q v3 _ ρ2 G3 H3 F2 [] hR ((g.gg.trans s2).trans g3.gg) (r2.grow g3) ⟨rfl,v3,rfl,hv3⟩ Jh
  obtain ⟨j',e',this⟩:=this
  cases e'
  exact this
theorem zam {xs:List V}(h:Yc K G xs ds):∀ n:Nat,Yc K G (List.replicate n xs).flatten (List.replicate n ds).flatten
 | 0=>Z7
 | n+1=>by
  rw[replicate_succ,replicate_succ,flatten_cons,flatten_cons]
  exact We h (zam h n)
theorem zdJ {σ:St}{n:Nat}(ha:Ev K ta σ G (.list ds))(hb:Ev K tb σ G (.int (n:Nat)))(hn:n<2 ^ 63)(hz:ds.length*n<=sizeLine):Ev K (tOp zjY ta tb) σ G (.list (List.replicate n ds).flatten):=Jk ha hb λG1 H x y Q s1 s2 hx hy k=>by
 obtain ⟨p,xs,rfl,hp,hxs⟩:=hx.lst
 rw[hy.int]
 refine ⟨p,n,xs,rfl,rfl,s2 _ _ hp,by omega,by omega,by rw[toNat_natCast,hxs.length];exact hz,λq hq=>?_⟩
 rw[toNat_natCast]
 have g:=Yw (o:=.lst (List.replicate n xs).flatten) s2 hq
 exact k _ _ _ g (YX Zy ((zam hxs n).same g.gg))
end
open PySem PySem.Spec PyProof.Rows
section
variable {K:PySem.W.Frag}{X:Cx}
theorem Ut (e:X.K=K):QQ X (.type "list") (λxs H Q=>∃ p ys,xs=[.ref p]/\(SqL K H p ys\/SqT K H p ys)/\∀ l,H l=none->Q (.ref l) (upd H l (.lst ys))):=by subst e;exact zal
end
end L2
namespace Net
open PySem L2 Big
abbrev dP (p:Nat×Nat):PyData:=.tuple [.int (p.1:Nat),.int (p.2:Nat)]
end Net
namespace K46
open PySem L2 Frac Lw PySem.NumText Nm
open Big Net
def zkb (cell k:Int):Int:=((cell % 2147483629+1000003*k*k+7919*k) % 2147483629*((cell % 2147483629+1000003*k*k+7919*k) % 2147483629) % 2147483587)*((cell % 2147483629+1000003*k*k+7919*k) % 2147483629*((cell % 2147483629+1000003*k*k+7919*k) % 2147483629) % 2147483587+40961) % 2147483563 / 4
def zj1:List PyData->PyData->Prop:=λas d=>∃ cell k:Int,as=[.int cell,.int k]/\0<=k/\k<=10 ^ 7/\d = .int (zkb cell k)
def zhv:List Int->List PyData->Prop:=λns es=>∃ cs:List Int,slD (ns.map PyData.int) none (some 63)=cs.map PyData.int/\es=[.list (cs.map PyData.int),.int 0,.int 0,.int 0,.int cs.sum]
def Dk (n:Nat)(es:List PyData):Prop:=∃ (cs:List Int) (a:Nat) (b:Int) (c:Nat) (s:Int),es=[.list (cs.map PyData.int),.int (a:Nat),.int b,.int (c:Nat),.int s]/\cs.length<=63/\a<=63/\c<=n
theorem Dk.mono {n m:Nat}{es:List PyData}(h:Dk n es)(k:n<=m):Dk m es:=by
 obtain ⟨cs,a,b,c,s,e,h1,h2,h3⟩:=h
 exact ⟨cs,a,b,c,s,e,h1,h2,by omega⟩
def zj6:List PyData->List PyData->Prop:=λes ds=>∃ (n:Nat) (m:Int),Dk n es/\n<=10 ^ 6/\ds=[.int m]/\1<=m/\m<=10 ^ 12
def RNx:List PyData->List PyData->PyData->List PyData->Prop:=λes ds x es' => ∃ m r:Int,ds=[.int m]/\x = .int r/\0<=r/\r<m/\∀ n,Dk n es->Dk (n+1) es'
variable {P:Program}{w:World}{K:PySem.W.Frag}{mg:Str->Option Value}{base:Heap}
theorem ziK (T:Top K mg):T.JC.O P w base 1 (spP K zj1):=by
 refine T.JC.F.okP Jb (by rintro _ _ ⟨c,k,rfl,_⟩;rfl) λcdv A outer s H E hr ds d hR=>?_
 obtain ⟨cell,k,rfl,k0,k1,rfl⟩:=hR
 refine ⟨_,(Zf (ZQ (i:=2) Jb.nd rfl (Or.inl rfl) (ZX Xz (ZX QZ (pv 0) Zi) (ZX Wf (ZX Wf Zi (pv 1)) (pv 1))))
   (Zf (ZQ (i:=2) Jb.nd rfl (Or.inl rfl) (ZX QZ (ZX Xz (pv 2) (ZX Wf Zi (pv 1))) Zi))
   (Zf (ZQ (i:=2) Jb.nd rfl (Or.inl rfl) (ZX QZ (ZX Wf (pv 2) (pv 2)) Zi))
   (Zo (ZD (ZX Qn (ZX QZ (ZX Wf (pv 2) (ZX Xz (pv 2) Zi)) Zi) Zi)))))) ,?_⟩
 refine Zr (ZJ (ZK (Y0 (Wv (Ze rfl) Zn (by decide) λ_=>Zx _) (Wv (Wv Zn (Ze rfl) (mw (by decide) (by omega)) λ_=>Zx _) (Ze rfl) (mw (by omega) (by omega)) λ_=>Zx _) λ_=>Zx _) ?_))
 refine Zr (ZJ (ZK (Wv (Y0 (Ze rfl) (Wv Zn (Ze rfl) (mw (by decide) (by omega)) λ_=>Zx _) λ_=>Zx _) Zn (by decide) λ_=>Zx _) ?_))
 unfold zkb
 generalize hx:(cell % 2147483629+1000003*k*k+7919*k) % 2147483629=x
 have b1:0<=x/\x<2147483629:=by rw[← hx];exact ⟨Int.emod_nonneg _ (by decide),Int.emod_lt_of_pos _ (by decide)⟩
 refine Zr (ZJ (ZK (Wv (Wv (Ze rfl) (Ze rfl) (mw (by omega) (by omega)) λ_=>Zx _) Zn (by decide) λ_=>Zx _) ?_))
 generalize hy:x*x % 2147483587=y
 have b2:0<=y/\y<2147483587:=by rw[← hy];exact ⟨Int.emod_nonneg _ (by decide),Int.emod_lt_of_pos _ (by decide)⟩
 exact Z6 (ZK (Wv (Wv (Wv (Ze rfl) (Y0 (Ze rfl) Zn λ_=>Zx _) (mw (by omega) (by omega)) λ_=>Zx _) Zn (by decide) λ_=>Zx _) Zn ⟨by decide,w0 (by decide)⟩ λ_=>Zx _) rfl)
theorem zgF (T:Top K mg):T.Jc.O P w base 1 (zbR K zhv):=by
 refine T.Jc.F.zjp zay λcdv A outer s H E hr ns es hR=>?_
 obtain ⟨cs,hcs,rfl⟩:=hR
 refine ⟨_,(Zo (ZD (Yg (Za (X4 (W9 (K:=K) rfl) (pv 0) WY (W3 Zi)) (Za Zi (Za Zi (Za Zi (Za (Yq (zeN rfl) (by rfl) T.zkE zkl (Za (X4 (W9 (K:=K) rfl) (pv 0) WY (W3 Zi)) Zg Zk)) Zg Z8) Zb) Zb) Zb) Zk)))) ,?_⟩
 exact Z6 (za0 (Zc (Q6 (zbD rfl J5 zaM) (by rw[hcs])) (Zc Zn (Zc Zn (Zc Zn (Zc (ziL (Zc (Q6 (zbD rfl J5 zaM) (by rw[hcs])) Zq)) Zq))))) (by show 5<=sizeLine;decide) rfl)
theorem za9 (T:Top K mg):T.Zw.O P w base 2 (spL K zj6 RNx):=by
 have G__law_mix:=@ziK P w K mg base T
 refine T.Zw.F.okL Jw (by rintro _ _ ⟨n,m,_,_,rfl,_⟩;rfl) λcdv A outer s H E hr p es ds hP=>?_
 obtain ⟨n,m,⟨cs,a,b,c,sm,rfl,hcl,ha,hc⟩,hn,rfl,hm1,hm2⟩:=hP
 have m0:0<m:=by omega
 have fin:∀ (x:Int) (a' : Nat) (b' : Int) (c' : Nat),a' <= 63->c' <= c+1->∀ n,Dk n [.list (cs.map PyData.int),.int (a:Nat),.int b,.int (c:Nat),.int sm]->Dk (n+1) [.list (cs.map PyData.int),.int (a' : Nat),.int b',.int (c' : Nat),.int sm]:=λx a' b' c' h1 h2 n hD=>by
  obtain ⟨cs2,a2,b2,c2,s2,e,h3,h4,h5⟩:=hD
  simp only[List.cons.injEq,PyData.int.injEq,and_true] at e
  exact ⟨cs,a',b',c',sm,rfl,hcl,h1,by omega⟩
 have em:∀ x:Int,0<=x % m/\x % m<m:=λx=>⟨Int.emod_nonneg _ (by omega),Int.emod_lt_of_pos _ m0⟩
 refine ⟨_,(Zf (Yk ((pw_and (ZF Xc (ZG (Zt (K:=K) rfl) (pv 0) Zi (λ_ _=>rfl)) Zi (ZV _)) (pw_and1 (ZF Vb (ZG (Zt (K:=K) rfl) (pv 0) Zi (λ_ _=>rfl)) (Yq (YB (K:=K) rfl) (by rfl) T.zcB PySem.boot_len (Za (ZG (Zt (K:=K) rfl) (pv 0) Zi (λ_ _=>rfl)) Zg Zk)) (ZV _))))).pt (Zf (ZQ (i:=2) Jw.nd rfl (Or.inl rfl) (ZG (Zt (K:=K) rfl) (ZG (Zt (K:=K) rfl) (pv 0) Zi (λ_ _=>rfl)) (ZG (Zt (K:=K) rfl) (pv 0) Zi (λ_ _=>rfl)) (λ_ _=>rfl)))
   (Zf (Qo (ZX Xz (ZG (Zt (K:=K) rfl) (pv 0) Zi (λ_ _=>rfl)) Zi) (Q8 (pv 0) Zi set_list))
   (Zf (Yk (ZF Vb (pv 2) (ZX zaL Zi Zi) (ZV _)) (Zo (ZD (ZX QZ (peN T.JC G__law_mix hr (Za (pv 2) (Za (ZG (Zt (K:=K) rfl) (pv 0) Zi (λ_ _=>rfl)) Zg Zk) Zd)) (pv 1)))) ZL)
   (Zo (Qo (pv 2) (Q8 (pv 0) Zi set_list)))))) ZL)
   (Zf (Yk (ZF za8 (ZG (Zt (K:=K) rfl) (pv 0) Zi (λ_ _=>rfl)) Zi (ZV _)) (Zf (ZQ (i:=3) Jw.nd rfl (Or.inl rfl) (ZX QZ (ZG (Zt (K:=K) rfl) (pv 0) Zi (λ_ _=>rfl)) (pv 1)))
   (Zf (Qo (ZX Qn (ZG (Zt (K:=K) rfl) (pv 0) Zi (λ_ _=>rfl)) (pv 1)) (Q8 (pv 0) Zi set_list))
   (Zo (ZD (pv 3))))) ZL)
   (Zf (Qo (ZX Xz (ZG (Zt (K:=K) rfl) (pv 0) Zi (λ_ _=>rfl)) Zi) (Q8 (pv 0) Zi set_list))
   (Zo (ZD (ZX QZ (peN T.JC G__law_mix hr (Za (ZG (Zt (K:=K) rfl) (pv 0) Zi (λ_ _=>rfl)) (Za (ZG (Zt (K:=K) rfl) (pv 0) Zi (λ_ _=>rfl)) Zg Zk) Zk)) (pv 1))))))) ,?_⟩
 have tail:∀ (a' : Nat) (b' : Int) (v2 v3:PV),a' <= 63->Sv K B0 (zgr (zeb (Qs (tOp (rI0 λi j=>.bl (decide (j<i))) (tOp (za2 K) (XQ 0) (tC (.int 2))) (tC (.int 0)))) (zgr (zeu (tOp (rI (λ_ j=>0<j) λi j=>.int (i % j)) (tOp (za2 K) (XQ 0) (tC (.int 2))) (XQ 1)) (Va 3)) (zgr (zeu (tOp (rI zhd λi j=>.int (i / j)) (tOp (za2 K) (XQ 0) (tC (.int 2))) (XQ 1)) (zi5 (XQ 0) (tC (.int 2)) zeL)) (zhk (XQ 3)))) zgs) (zgr (zeu (tOp (rI0 λi j=>.int (i+j)) (tOp (za2 K) (XQ 0) (tC (.int 3))) (tC (.int 1))) (zi5 (XQ 0) (tC (.int 3)) zeL)) (zhk (tOp (rI (λ_ j=>0<j) λi j=>.int (i % j)) (Jx (spP K zj1) [] E (Yh (tOp (za2 K) (XQ 0) (tC (.int 4))) (Yh (tOp (za2 K) (XQ 0) (tC (.int 3))) Q4))) (XQ 1))))) [.lnt p [.list (cs.map PyData.int),.int (a' : Nat),.int b',.int (c:Nat),.int sm],.dat (.int m),v2,v3] { nx:=fun ρ' => ∃ es',RNx [.list (cs.map PyData.int),.int (a:Nat),.int b,.int (c:Nat),.int sm] [.int m] .none es' /\ ρ'[0]?=some (.lnt p es'),rt:=λr ρ' => ∃ d es',r = .dat d/\RNx [.list (cs.map PyData.int),.int (a:Nat),.int b,.int (c:Nat),.int sm] [.int m] d es' /\ ρ'[0]?=some (.lnt p es') }:=λa' b' v2 v3 ha' => by
  refine Zr (W7 (Ye (Y0 (Z2 (n:=2) (Xx rfl rfl) Zn rfl rfl) Zn λ_=>Yb _)) (λh=>?_) λh=>ZW ?_)
  ·refine Zr (ZJ (Js (Wv (Z2 (n:=2) (Xx rfl rfl) Zn rfl rfl) (Ze rfl) m0 λ_=>Zx _) rfl ?_))
   refine Zr (Jl (i:=0) (Js (Wv (Z2 (n:=2) (Xx rfl rfl) Zn rfl rfl) (Ze rfl) ⟨m0,w0 (by omega)⟩ λ_=>Zx _) rfl ⟨_,_,_,2,2,rfl,rfl,rfl,Zn,rfl,?_⟩))
   exact Z6 (ZK (Ze rfl) ⟨_,_,rfl,⟨m,_,rfl,rfl,(em _).1,(em _).2,fin 0 a' _ c ha' (by omega)⟩,rfl⟩)
  ·refine Zr (Jl (i:=0) (Js (Y0 (Z2 (n:=3) (Xx rfl rfl) Zn rfl rfl) Zn λ_=>Zx _) rfl ⟨_,_,_,3,3,rfl,rfl,rfl,Zn,rfl,?_⟩))
   exact Z6 (Js (Wv (Yv (Zc (Z2 (n:=4) (Xx rfl rfl) Zn rfl rfl) (Zc (Z2 (n:=3) (Xx rfl rfl) Zn rfl rfl) Zq)) ⟨_,_,rfl,by omega,by omega,rfl⟩) (Ze rfl) m0 λ_=>Zx _) rfl ⟨_,_,rfl,⟨m,_,rfl,rfl,(em _).1,(em _).2,fin 0 a' _ (c+1) ha' (by omega)⟩,rfl⟩)
 refine Zr (W7 (zij (Ye (zbS (Z2 (n:=2) (Xx rfl rfl) Zn rfl rfl) Zn)) λ_=>Ye (Y0 (Z2 (n:=1) (Xx rfl rfl) Zn rfl rfl) (UW (Zc (Z2 (n:=0) (Xx rfl rfl) Zn rfl rfl) Zq)) λ_=>Yb _)) (λh=>?_) λh=>ZW (tail a b _ _ ha))
 have hal:a<cs.length:=by
  rw[and_eq_true,decide_eq_true_eq,decide_eq_true_eq,length_map] at h
  omega
 refine Zr (ZJ (Js (Z2 (n:=a) (d:=.int (cs.getD a 0)) (Z2 (n:=0) (Xx rfl rfl) Zn rfl rfl) (Z2 (n:=1) (Xx rfl rfl) Zn rfl rfl) (by rw[length_map];exact Xb hal) (by rw[getElem?_map,getD_eq_getElem?_getD,getElem?_eq_getElem hal];rfl)) rfl ?_))
 refine Zr (Jl (i:=0) (Js (Y0 (Z2 (n:=1) (Xx rfl rfl) Zn rfl rfl) Zn λ_=>Zx _) rfl ⟨_,_,_,1,1,rfl,rfl,rfl,Zn,rfl,?_⟩))
 refine Zr (W7 (Ye (Y0 (Ze rfl) (zfr (r:=1000000000000000000) ⟨by decide,by decide,by decide⟩ (by decide)) λ_=>Yb _)) (λh2=>?_) λh2=>ZW ?_)
 ·exact Z6 (Js (Wv (Yv (Zc (Ze rfl) (Zc (Z2 (n:=1) (Xx rfl rfl) Zn rfl rfl) Zq)) ⟨_,_,rfl,by omega,by omega,rfl⟩) (Ze rfl) m0 λ_=>Zx _) rfl ⟨_,_,rfl,⟨m,_,rfl,rfl,(em _).1,(em _).2,fin 0 (a+1) _ c (by omega) (by omega)⟩,rfl⟩)
 ·refine Jl (i:=0) (ZK (Ze rfl) ⟨_,_,_,2,2,rfl,rfl,rfl,Zn,rfl,?_⟩)
  exact tail (a+1) _ _ _ (by omega)
open Ord
abbrev dF (p:Int×Int):PyData:=.tuple [.int p.1,.int p.2]
theorem Qf {σ:St}{G:Hp}{ta tb:TE}{x y:Str}(ha:Ev K ta σ G (.str x))(hb:Ev K tb σ G (.str y)):Ev K (tOp rEq ta tb) σ G (.bool (decide (x=y))):=
 Jk ha hb λG1 H u v Q s1 s2 hx hy k=>by
  rw[hx.str,hy.str]
  refine ⟨rfl,?_⟩
  have e:decide (V.str x=V.str y)=decide (x=y):=by
   by_cases h:x=y
   ·rw[decide_eq_true h,decide_eq_true (by rw[h])]
   ·rw[decide_eq_false h,decide_eq_false λz=>h (by injection z)]
  rw[e]
  exact k _ G1 H (Yt.refl s2) (Yb _)
open Ord Look
def Sz (p:Int×Int):Prop:=p.1.natAbs<10 ^ 40/\p.2.natAbs<10 ^ 40
def zjZ:List PyData->PyData->Prop:=λas d=>∃ p q:Int×Int,as=[dF p,dF q]/\Sz p/\Sz q/\d = .int (cmp p q)
def zjL:List PyData->PyData->Prop:=λas d=>∃ p q:Int×Int,as=[dF p,dF q]/\Sz p/\Sz q/\d = .str (hsA p q).how
def zbo:List PyData->PyData->Prop:=λas d=>((∃ x,as=[.str x])\/∃ b,as=[.bool b])/\d = .bool false
def zg2:List PyData->PyData->Prop:=λas d=>∃ a:An,(as=[.str (S "look"),.str a.how]/\d = .str a.t)\/∃ x,x≠S "look" /\ as=[.str x,.str a.how]/\d = .bool (decide (a.how=x))
def zeC:List PyData->PyData->Prop:=λas d=>∃ a:An,as=[.str a.t]/\d = .str a.turn.t
def ziO:List PyData->PyData->Prop:=λas d=>∃ a b:An,as=[.str a.t,.str b.t]/\d = .str (if a = .like then b else a).t
def zhq:List PyData->PyData->Prop:=λas d=>∃ (c:Bool) (a b:An),as=[.bool c,.str a.t,.str b.t]/\d = .str (if c=true then a else b).t
def zg8:List PyData->PyData->Prop:=λas d=>∃ (t:Bool) (x:Str) (b c:Bool),as=[.bool t,.str x,.list [.bool b,.bool c]]/\d = .bool (if t=true then b||c else b&&c)
abbrev Q7:List (Str×Str):=[(S "less",S "ahead"),(S "same",S "like"),(S "more",S "behind")]
abbrev Qm:List (Str×Str):=[(S "ahead",S "behind"),(S "like",S "like"),(S "behind",S "ahead")]
theorem zeS (a:An):Q7.find? (λr=>decide (r.1=a.how))=some (a.how,a.t):=by cases a <;> decide +kernel
theorem zem (a:An):Qm.find? (λr=>decide (r.1=a.t))=some (a.t,a.turn.t):=by cases a <;> decide +kernel
theorem zfd (a:An):decide (a.t=S "like")=decide (a = .like):=by cases a <;> decide +kernel
theorem zfI {σ:St}{G:Hp}{tb:TE}{x z v:Str}{rs:List (Str×Str)}(W:Txs K w.params mg x rs)(hb:Ev K tb σ G (.str z))(h:rs.find? (λr=>decide (r.1=z))=some (z,v)):
  Ev K (tOp (λx y H Q=>∃ z a g v u,x = .ref a/\y = .str z/\zaU K w.params a g/\g z=some (v,u)/\Q v H) (tC (.ref W.a)) tb) σ G (.str v):=
 λG1 H s1 s2 Q k=>hb G1 H s1 s2 _ λu G2 H2 g2 hu=>by
  obtain ⟨u',hu'⟩:=W.yes z v h
  rw[hu.str]
  exact ⟨z,W.a,W.g,.str v,u',rfl,rfl,W.D,hu',k _ G2 H2 g2 (YZ _)⟩
theorem za6 (T:Top K mg):T.QM.O P w base 1 (spP K zjZ):=by
 refine T.QM.F.ok JV (λvs H Q E h=>?_) (λcdv A outer s H vs Q E hr h=>?_)
 ·obtain ⟨G,as,d,sg,hv,⟨p,q,rfl,_⟩,_⟩:=h
  rw[hv.length];rfl
 ·obtain ⟨G,as,d,sg,hv,⟨p,q,rfl,hp,hq,rfl⟩,k⟩:=h
  obtain ⟨v1,r1,rfl,h1,hv⟩:=hv.cons
  obtain ⟨v2,r2,rfl,h2,hv⟩:=hv.cons
  cases hv.nil
  have zz:∀ {x:Int},x.natAbs<10 ^ 40->x.natAbs<10 ^ 100:=λh=>Nat.lt_of_lt_of_le h (by decide)
  refine ⟨_,(Zf (ZQ (i:=2) JV.nd rfl (Or.inl rfl) (ZX Wf (ZG (Z3 (K:=K) rfl) (pv 0) Zi (λ_ _=>rfl)) (ZG (Z3 (K:=K) rfl) (pv 1) Zi (λ_ _=>rfl))))
   (Zf (ZQ (i:=3) JV.nd rfl (Or.inl rfl) (ZX Wf (ZG (Z3 (K:=K) rfl) (pv 1) Zi (λ_ _=>rfl)) (ZG (Z3 (K:=K) rfl) (pv 0) Zi (λ_ _=>rfl))))
   (Zf (Yk (ZF Vb (pv 2) (pv 3) (ZV _)) (Zo (ZD (zhb zfn Zi))) ZL)
   (Zf (Yk (ZF za8 (pv 2) (pv 3) (ZV _)) (Zo (ZD Zi)) ZL)
   (Zo (ZD Zi)))))) ,?_⟩
  refine zaP (K:=K) (zdD (JR (Zh rfl h1) YD rfl rfl) (JR (Zh rfl h2) YD rfl rfl) (mw (zz hp.1) (zz hq.2)) (Zx _)) sg λv3 G1 H1 g1 h3=>?_
  refine zaP (K:=K) (zdD (JR (Zh rfl (h2.same g1.gg)) YD rfl rfl) (JR (Zh rfl (h1.same g1.gg)) YD rfl rfl) (mw (zz hq.1) (zz hp.2)) (Zx _)) g1.gh λv4 G2 H2 g2 h4=>?_
  have g12:=g1.trans g2
  refine zbe (Xa (K:=K) (Vc (Zh rfl (h3.same g2.gg)) (Zh rfl h4) (Yb _))) g2.gh (λe G3 H3 g3=>?_) (λe G3 H3 g3=>?_)
  ·have e' := of_decide_eq_true e
   have:cmp p q = -1:=by unfold cmp;rw[if_pos e']
   exact ⟨1,rfl,k (.int (-1)) G3 H3 (g12.trans g3) (by rw[this];exact Zx _)⟩
  ·have e' := of_decide_eq_false e
   refine zbe (Xa (K:=K) (Vc (Zh rfl ((h3.same g2.gg).same g3.gg)) (Zh rfl (h4.same g3.gg)) (Yb _))) g3.gh (λf G4 H4 g4=>?_) (λf G4 H4 g4=>?_)
   ·have f' := of_decide_eq_true f
    have:cmp p q=1:=by unfold cmp;rw[if_neg e',if_pos f']
    exact k (.int 1) G4 H4 ((g12.trans g3).trans g4) (by rw[this];exact Zx _)
   ·have f' := of_decide_eq_false f
    have:cmp p q=0:=by unfold cmp;rw[if_neg e',if_neg f']
    exact k (.int 0) G4 H4 ((g12.trans g3).trans g4) (by rw[this];exact Zx _)
theorem zfb (T:Top K mg):T.Wl.O P w base 2 (spP K zjL):=by
 have G_compared:=@za6 P w K mg base T
 refine T.Wl.F.ok Qc (λvs H Q E h=>?_) (λcdv A outer s H vs Q E hr h=>?_)
 ·obtain ⟨G,as,d,sg,hv,⟨p,q,rfl,_⟩,_⟩:=h
  rw[hv.length];rfl
 ·obtain ⟨G,as,d,sg,hv,⟨p,q,rfl,hp,hq,rfl⟩,k⟩:=h
  obtain ⟨v1,r1,rfl,h1,hv⟩:=hv.cons
  obtain ⟨v2,r2,rfl,h2,hv⟩:=hv.cons
  cases hv.nil
  refine ⟨_,(Zf (ZQ (i:=2) Qc.nd rfl (Or.inl rfl) (peN T.QM G_compared hr (Za (pv 0) (Za (pv 1) Zg Zd) Zd)))
   (Zf (Yk (ZF Xc (pv 2) Zi (ZV _)) (Zo (ZD Zz)) ZL)
   (Zo (ZD (WR (ZF Vb (pv 2) Zi (ZV _)) Zz Zz))))) ,?_⟩
  refine zaP (K:=K) (Yi (E:=E0) (R:=zjZ) (d:=.int (cmp p q)) (Zv (Zh rfl h1) (Zv (Zh rfl h2) ZZ)) ⟨p,q,rfl,hp,hq,rfl⟩) sg λv3 G1 H1 g1 h3=>?_
  refine zbe (Xa (K:=K) (zc1 (Zh rfl h3) YD)) g1.gh (λe G2 H2 g2=>?_) (λe G2 H2 g2=>?_)
  ·refine Yj (K:=K) (G:=G2) (d:=.str (hsA p q).how) (zb1 Zu ?_) g2.gh λv G3 H3 g3 hv=>k v G3 H3 ((g1.trans g2).trans g3) hv
   have e' := of_decide_eq_true e
   unfold cmp at e'
   unfold hsA
   split at e'
   ·cases e'
   ·split at e'
    ·cases e'
    ·rename_i n1 n2;rw[if_neg n1,if_neg n2];rfl
  ·refine Yj (K:=K) (G:=G2) (d:=.str (hsA p q).how) (V2 (Xa (K:=K) (Vc (Zh rfl (h3.same g2.gg)) YD (Yb _))) (λf=>zb1 Zu ?_) (λf=>zb1 Zu ?_)) g2.gh λv G3 H3 g3 hv=>k v G3 H3 ((g1.trans g2).trans g3) hv
   ·have f' := of_decide_eq_true f
    unfold cmp at f'
    unfold hsA
    split at f'
    ·rename_i n1;rw[if_pos n1];rfl
    ·split at f'
     ·cases f'
     ·cases f'
   ·have f' := of_decide_eq_false f
    have e' := of_decide_eq_false e
    unfold cmp at f' e'
    unfold hsA
    split at f'
    ·exact absurd (by decide) f'
    ·rename_i n1
     rw[if_neg n1] at e' ⊢
     split at f'
     ·rename_i n2;rw[if_pos n2];rfl
     ·rename_i n2;rw[if_neg n2] at e';exact absurd rfl e'
theorem Vs (T:Top K mg):T.XD.O P w base 1 (spP K zbo):=by
 refine T.XD.F.ok zcb (λvs H Q E h=>?_) (λcdv A outer s H vs Q E hr h=>?_)
 ·obtain ⟨G,as,d,sg,hv,⟨h1,_⟩,_⟩:=h
  rw[hv.length]
  rcases h1 with ⟨x,rfl⟩ | ⟨b,rfl⟩ <;> rfl
 ·obtain ⟨G,as,d,sg,hv,⟨h0,rfl⟩,k⟩:=h
  refine ⟨_,(Zo (ZD (Yq (zbT (K:=K) rfl) (by rfl) T.VL zjX (Za (pv 0) (Za (zd1 (v:=.ty "tuple") (by rfl) T.J8 zeW rfl) Zg))))) ,?_⟩
  rcases h0 with ⟨x,rfl⟩ | ⟨b,rfl⟩
  ·obtain ⟨v1,r1,rfl,h1,hv⟩:=hv.cons
   cases hv.nil
   exact Yj (K:=K) (zdC (Zh rfl h1) T.st) sg k
  ·obtain ⟨v1,r1,rfl,h1,hv⟩:=hv.cons
   cases hv.nil
   exact Yj (K:=K) (zdC (Zh rfl h1) T.bt) sg k
theorem zaj (T:Top K mg)(W1:Txs K w.params mg "AHEAD" Q7):T.JH.O P w base 1 (spP K zg2):=by
 refine T.JH.F.ok zcP (λvs H Q E h=>?_) (λcdv A outer s H vs Q E hr h=>?_)
 ·obtain ⟨G,as,d,sg,hv,⟨a,h1⟩,_⟩:=h
  rw[hv.length]
  rcases h1 with ⟨rfl,_⟩ | ⟨x,_,rfl,_⟩ <;> rfl
 ·obtain ⟨G,as,d,sg,hv,⟨a,h0⟩,k⟩:=h
  refine ⟨_,(Zo (ZD (WR (ZF Xc (pv 0) Zz (ZV _)) (ZG UV (zac (v:=.ref W1.a) (by rfl) W1.m rfl) (pv 1) (λ_ _=>rfl)) (J2 Xc (pv 1) (pv 0) (ZV _))))) ,?_⟩
  rcases h0 with ⟨rfl,rfl⟩ | ⟨x,hx,rfl,rfl⟩
  ·obtain ⟨v1,r1,rfl,h1,hv⟩:=hv.cons
   obtain ⟨v2,r2,rfl,h2,hv⟩:=hv.cons
   cases hv.nil
   exact Yj (K:=K) (V2 (Xa (K:=K) (Qf (Zh rfl h1) Zu)) (λ_=>zfI W1 (Zh rfl h2) (zeS a)) (λz=>absurd (of_decide_eq_false z) (λn=>n rfl))) sg k
  ·obtain ⟨v1,r1,rfl,h1,hv⟩:=hv.cons
   obtain ⟨v2,r2,rfl,h2,hv⟩:=hv.cons
   cases hv.nil
   exact Yj (K:=K) (V2 (Xa (K:=K) (Qf (Zh rfl h1) Zu)) (λz=>absurd (of_decide_eq_true z) hx) (λ_=>Qf (Zh rfl h2) (Zh rfl h1))) sg k
theorem zaW (T:Top K mg)(W2:Txs K w.params mg "OTHER_WAY" Qm):T.Y5.O P w base 2 (spP K zeC):=by
 have G_is_open:=@Vs P w K mg base T
 refine T.Y5.F.ok Vr (λvs H Q E h=>?_) (λcdv A outer s H vs Q E hr h=>?_)
 ·obtain ⟨G,as,d,sg,hv,⟨a,rfl,_⟩,_⟩:=h
  rw[hv.length];rfl
 ·obtain ⟨G,as,d,sg,hv,⟨a,rfl,rfl⟩,k⟩:=h
  obtain ⟨v1,r1,rfl,h1,hv⟩:=hv.cons
  cases hv.nil
  refine ⟨_,(Zo (ZD (WR (Q9 (peN T.XD G_is_open hr (Za (pv 0) Zg Zd))) (Yz (Za Zz (Za (pv 0) Zg Zd) Zb)) (ZG UV (zac (v:=.ref W2.a) (by rfl) W2.m rfl) (pv 0) (λ_ _=>rfl))))) ,?_⟩
  exact Yj (K:=K) (V2 (za5 (K:=K) (Yi (E:=E0) (R:=zbo) (d:=.bool false) (Zv (Zh rfl h1) ZZ) ⟨.inl ⟨_,rfl⟩,rfl⟩)) (λz=>nomatch z) (λ_=>zfI W2 (Zh rfl h1) (zem a))) sg k
theorem zgK (T:Top K mg):T.XM.O P w base 2 (spP K ziO):=by
 have G_is_open:=@Vs P w K mg base T
 refine T.XM.F.ok QH (λvs H Q E h=>?_) (λcdv A outer s H vs Q E hr h=>?_)
 ·obtain ⟨G,as,d,sg,hv,⟨a,b,rfl,_⟩,_⟩:=h
  rw[hv.length];rfl
 ·obtain ⟨G,as,d,sg,hv,⟨a,b,rfl,rfl⟩,k⟩:=h
  obtain ⟨v1,r1,rfl,h1,hv⟩:=hv.cons
  obtain ⟨v2,r2,rfl,h2,hv⟩:=hv.cons
  cases hv.nil
  refine ⟨_,(Zf (Yk (Q9 (peN T.XD G_is_open hr (Za (pv 0) Zg Zd))) (Zo (ZD (Yz (Za Zz (Za (pv 0) (Za (pv 1) Zg Zd) Zd) Zb)))) ZL)
   (Zo (ZD (WR (ZF Xc (pv 0) Zz (ZV _)) (pv 1) (pv 0))))) ,?_⟩
  refine ZS (za5 (K:=K) (Yi (E:=E0) (R:=zbo) (d:=.bool false) (Zv (Zh rfl h1) ZZ) ⟨.inl ⟨_,rfl⟩,rfl⟩)) sg λG1 H1 g1=>?_
  refine Yj (K:=K) (G:=G1) (V2 (Xa (K:=K) (Qf (Zh rfl (h1.same g1.gg)) Zu)) (λz=>?_) (λz=>?_)) g1.gh λv G' H' g hv=>k v G' H' (g1.trans g) hv
  ·rw[zfd] at z
   rw[if_pos (of_decide_eq_true z)]
   exact Zh rfl (h2.same g1.gg)
  ·rw[zfd] at z
   rw[if_neg (of_decide_eq_false z)]
   exact Zh rfl (h1.same g1.gg)
theorem zdS (T:Top K mg):T.U4.O P w base 2 (spP K zhq):=by
 have G_is_open:=@Vs P w K mg base T
 refine T.U4.F.ok zcE (λvs H Q E h=>?_) (λcdv A outer s H vs Q E hr h=>?_)
 ·obtain ⟨G,as,d,sg,hv,⟨c,a,b,rfl,_⟩,_⟩:=h
  rw[hv.length];rfl
 ·obtain ⟨G,as,d,sg,hv,⟨c,a,b,rfl,rfl⟩,k⟩:=h
  obtain ⟨v1,r1,rfl,h1,hv⟩:=hv.cons
  obtain ⟨v2,r2,rfl,h2,hv⟩:=hv.cons
  obtain ⟨v3,r3,rfl,h3,hv⟩:=hv.cons
  cases hv.nil
  refine ⟨_,(Zf (Yk (Q9 (peN T.XD G_is_open hr (Za (pv 0) Zg Zd))) (Zo (ZD (Yz (Za Zz (Za (pv 0) (Za (pv 1) (Za (pv 2) Zg Zd) Zd) Zd) Zb)))) ZL)
   (Zo (ZD (WR (Q9 (pv 0)) (pv 1) (pv 2))))) ,?_⟩
  refine ZS (za5 (K:=K) (Yi (E:=E0) (R:=zbo) (d:=.bool false) (Zv (Zh rfl h1) ZZ) ⟨.inr ⟨_,rfl⟩,rfl⟩)) sg λG1 H1 g1=>?_
  refine Yj (K:=K) (G:=G1) (V2 (za5 (K:=K) (Zh rfl (h1.same g1.gg))) (λz=>?_) (λz=>?_)) g1.gh λv G' H' g hv=>k v G' H' (g1.trans g) hv
  ·subst z;exact Zh rfl (h2.same g1.gg)
  ·subst z;exact Zh rfl (h3.same g1.gg)
end K46
namespace L2
open PySem PySem.Spec PyProof.Rows Lw
structure zii (P:Program)(w:World)(K:PySem.W.Frag)(mg:Str->Option Value)(base:Heap)(kk n:Nat)(s:Shared)(H:Hp)(f:Addr)(q:Str)(params:Arguments)(body:Expr)(fr sc:Scope)(cl:List (Str×Addr))(ps cap:List Str)(vals:St)(te:TE):Prop where
 S:Xh fr sc ps cap
 hcap:∀ y,sc.names.lookup y=some .free->∃ c,cl.lookup y=some c
 L:Ug H f q params body sc cl
 C:CellsAre s H cl cap vals
 hvl:vals.length=cap.length
 hn:ps.length=n
 hbind:∀ (us:List Value),us.length=ps.length->∀ (pm ctv:Value) (c' : Addr),bindArgs (kla_fn "<lambda>" q params body sc cl pm (.ref c') ctv) ⟨us,[]⟩=pure (ps.zip us)
 hbody:∀ A outer s H f c',Wa kk (A.deeper (PySem.W.envX q sc s.heap.objs.size f (.ref c') cl))->PE (zco P w K mg base (ps++cap) q sc f c' cl A outer s H) body te
def zdw (K:PySem.W.Frag)(G:Hp)(te:TE)(vals:St)(Rg:List PyData->PyData->Prop):Prop:=∀ ds d,Rg ds d->∀ us G',ZR G G' -> Yc K G' us ds->Ev K te (us.map some++vals) G' d
def ziQ (P:Program)(w:World)(K:PySem.W.Frag)(mg:Str->Option Value)(base:Heap)(kk n:Nat)(R:(List PyData->PyData->Prop)->List PyData->PyData->Prop):SpS:=λs vs H Q=>∃ (G:Hp) (us:List V) (ds:List PyData) (d:PyData) (Rg:List PyData->PyData->Prop) (f:Addr) (q:Str) (params:Arguments) (body:Expr) (fr sc:Scope) (cl:List (Str×Addr)) (ps cap:List Str) (vals:St) (te:TE),
 vs=us++[.ref f]/\ZR G H/\Yc K G us ds/\R Rg ds d/\zii P w K mg base kk n s H f q params body fr sc cl ps cap vals te/\zdw K G te vals Rg/\∀ v G' H',Yt G H G' H' -> Dat K G' v d->Q v H'
def tLV (K:PySem.W.Frag)(R:(List PyData->PyData->Prop)->List PyData->PyData->Prop)(q:Str)(params:Arguments)(body:Expr)(sc:Scope)(cl:List (Str×Addr))(js:List Nat)(te:TE)(t:TA):TE:=fun σ H Q=>t σ H λvs H2=>∃ (us:List V) (f:Addr) (G:Hp) (ds:List PyData) (d:PyData) (Rg:List PyData->PyData->Prop),
 vs=us++[.ref f]/\Ug H2 f q params body sc cl/\ZR G H2/\Yc K G us ds/\R Rg ds d/\zdw K G te (Wu σ js) Rg/\∀ v G' H',Yt G H2 G' H' -> Dat K G' v d->Q v H'
section
variable {X:Cx}{k kk n:Nat}{x:Str}{f:Addr}{fd:FuncData}{q:Str}{params:Arguments}{body e e1:Expr}{lpos:Pos}{sc:Scope}{ps lps cap:List Str}{t:TA}{te:TE}{p pos:Pos}{R:(List PyData->PyData->Prop)->List PyData->PyData->Prop}
theorem zdY (F:V5 X.prog X.w X.K X.mg X.base k f fd ps (ziQ X.prog X.w X.K X.mg X.base kk n R))(hr:Wa k X.A)(hg:Gl X x)(hm:X.mg x=some (.ref f))(hk:keepIn X.K (.ref f)=true)(hb:Binds X.K fd ps [])
  {js:List Nat}(S:Xh X.env.scope sc lps cap) (hn:lps.length=n) (hjs:js.map (λj=>X.N[j]?)=cap.map some)
  (hbind:∀ (us:List Value),us.length=lps.length->∀ (pm ctv:Value) (c' : Addr) (cl:List (Str×Addr)),bindArgs (kla_fn "<lambda>" q params body sc cl pm (.ref c') ctv) ⟨us,[]⟩=pure (lps.zip us))
  (hbody:∀ A outer s H f c' cl,Wa kk (A.deeper (PySem.W.envX q sc s.heap.objs.size f (.ref c') cl))->PE (zco X.prog X.w X.K X.mg X.base (lps++cap) q sc f c' cl A outer s H) body te)
  (ha:PA X [e,e1,.Lambda params body sc lpos] t) (hdb:(x==("__debug__" : Str))=false:=by decide)
  (he:starEach [e,e1,.Lambda params body sc lpos] X.env=(false,eval e X.env)::starEach [e1,.Lambda params body sc lpos] X.env:=by rfl) (hpl:(backTo pos (starEach [e1,.Lambda params body sc lpos] X.env)).any (·.1)=false:=by rfl):
  PE X (.Call (.Name x p) [e,e1,.Lambda params body sc lpos] [] pos) (tLV X.K R q params body sc (Ji X.env sc.names []) js te t):=by
 intro pins s σ H Q I h
 refine wpAny_Call_Name_kw (Vq I hg hm ?_ hdb)
 have lenJ:js.length=cap.length:=by have:=congrArg List.length hjs;simpa using this
 refine callWith_K (h₀:=X.base) I.ok.mod.kin hk (thn (ha pos pins s σ H _ I h) λvs s2 ⟨us,H2,I2,r,us0,f',G,ds,d,Rg,e1,L,sg,hd,hR,hev,hQ⟩=>⟨I2.kIn,?_⟩) he hpl
 have hsp:ziQ X.prog X.w X.K X.mg X.base kk n R s2 us H2 Q:=⟨G,us0,ds,d,Rg,f',q,params,body,X.env.scope,sc,Ji X.env sc.names [],lps,cap,Wu σ js,te,e1,sg,hd,hR,⟨S,λz hz=>by
   obtain ⟨c',hc'⟩:=isSome_iff_exists.mp (W0 (env:=X.env) (acc:=[]) (PySem.mem_of_lookup hz))
   exact ⟨c',hc'⟩,L,I2.zeR S hjs,by unfold Wu;rw[length_map,lenJ],hn,λus hl pm ctv c' => hbind us hl pm ctv c' _,λA outer s H f c' hr' => hbody A outer s H f c' _ hr'⟩,hev,hQ⟩
 have hl:vs.length=ps.length:=by rw[← r.length];exact F.len _ _ _ _ hsp
 have hb' := hb s2 vs I2.kIn (by rw[append_nil];exact hl)
 rw[append_nil] at hb'
 refine wpAny_call (codeAny_mono (F.run X.A X.stack s2 H2 ⟨vs,[]⟩ vs _ Q hr I2.env0 hb' r hsp) λr s' hq' => ?_)
 cases r with
 | error e=>exact False.elim hq'
 | ok fl=>
  cases fl with
  | ret u=>exact I2.after hq'
  | next=>exact False.elim hq'
  | brk=>exact False.elim hq'
  | cont=>exact False.elim hq'
end
section
variable {K:PySem.W.Frag}{B:Hp}{ρ:List PV}{G H:Hp}{ta tb te:TE}{a b d:PyData}{ds:List PyData}
theorem zeV {t:TA}{i n:Nat}{f:Addr}{vals:St}{Rg:List PyData->PyData->Prop}(hi:ρ[i]?=some (.val (.ref f)))(hg:zdw K B te vals Rg)(h:Ea K B t ρ ds)(hR:Rg ds d)(hn:ds.length=n):Er K B (zfa i f te vals n t) ρ d:=λG σ r G1 H s1 s2 Q k=>
 ⟨r.2.2.2.2.2 i _ hi,h G σ r G1 H s1 s2 _ λvs G2 H2 g2 hv=>⟨by rw[hv.length];exact hn,hg ds d hR vs G2 (r.1.trans (s1.trans g2.gg)) hv G2 H2 (ZR.refl _) g2.gh Q λv G' H' g' hd=>k v G' H' (g2.trans g') hd⟩⟩
theorem zbz {Rf:List PyData->PyData->Prop}{X:XK}{t:TA}{R:PV->List PV->Prop}(h:EgA K B t ρ λds ρ' => ∃ d,Rf ds d/\R (.dat d) ρ'):Eg K B (Jx (spP K Rf) [] X t) ρ R:=λE G0 H0 G H σ F r Q q=>
 h E G0 H0 G H σ F r _ λvs ds ρ1 G1 H1 F1 hR s1 r1 hv=>by
  obtain ⟨d,hd,hk⟩:=hR
  refine ⟨G1,ds,d,r1.g.gh,?_,hd,λv G' H' g hv' => q _ _ ρ1 _ _ F1 [] hk (s1.trans g.gg) (r1.grow g) ⟨rfl,_,rfl,hv'⟩ Jh⟩
  rw[append_nil];exact hv
theorem zjF {R:(List PyData->PyData->Prop)->List PyData->PyData->Prop}{P:Addr}{cr:Nat->Nat->Option Str}{q:Str}{params:Arguments}{body:Expr}{sc:Scope}{cl:List (Str×Addr)}{js:List Nat}{Rg:List PyData->PyData->Prop}(hP:B P=some (.tbl cr))(ha:Er K B ta ρ a)(hb:Er K B tb ρ b)(hR:R Rg [a,b] d)
  (hev:∀ G σ,Rx K B G σ ρ->zdw K G te (Wu σ js) Rg):Er K B (tLV K R q params body sc cl js te (Yh ta (Yh tb (Yh (zjP P cr q params body sc cl) Q4)))) ρ d:=λG σ r G1 H s1 s2 Q k=>
 ha G σ r G1 H s1 s2 _ λva G2 H2 g2 hva=>hb G σ r G2 H2 (s1.trans g2.gg) g2.gh _ λvb G3 H3 g3 hvb=>
  have g23:=g2.trans g3
  ⟨g3.gh _ _ (g23.gg _ _ (s1 _ _ (r.1 _ _ hP))),λf H4 hf sm L=>⟨[va,vb],f,G3,[a,b],d,Rg,rfl,L,g3.gh.trans sm,Z1 (hva.same g3.gg) (Z1 hvb Z7),hR,hev G3 σ (r.mono (s1.trans g23.gg)),λv G' H' g hd=>k v G' H' (g23.trans ((VN g3.gh sm).trans g)) hd⟩⟩
theorem Fun.zkz {P:Program}{w:World}{mg:Str->Option Value}{base:Heap}{x qual:Str}{st:Stmt}{f:Addr}{fd:FuncData}{N ps:List Str}{k kk n:Nat}{R:(List PyData->PyData->Prop)->List PyData->PyData->Prop}(Fn:Fun K x qual st f fd)(S:ZP N ps (Zj st))(len:∀ Rg ds d,R Rg ds d->ds.length+1=ps.length)
  (hb:∀ (cdv:Value) (A:Around) (outer:List Env) (s:Shared) (H:Hp),Wa k (A.deeper (envOfC qual (Zj st) s.heap.objs.size f cdv))->∀ (G:Hp) (Rg:List PyData->PyData->Prop) (ds:List PyData) (d:PyData) (g:Addr) (q:Str) (params:Arguments) (body:Expr) (fr sc:Scope) (cl:List (Str×Addr)) (lps cap:List Str) (vals:St) (te:TE),R Rg ds d->zii P w K mg base kk n s H g q params body fr sc cl lps cap vals te->zdw K G te vals Rg->
   ∃ t,PSs (Uw CX0 P w K mg base N qual (Zj st) f cdv A outer s H E0).nox (Z5 st) t/\Sv K G t (YG N (ds.map .dat++[.val (.ref g)])) { nx:=λ_=>d = .none,rt:=λr _=>r = .dat d }):V5 P w K mg base (k+1) f fd ps (ziQ P w K mg base kk n R):=by
 refine Fn.okS S (λs vs H Q h=>?_) λcdv A outer s H vs Q hr h=>?_
 ·obtain ⟨G,us,ds,d,Rg,f,q,params,body,fr,sc,cl,lps,cap,vals,te,rfl,_,hv,hR,_⟩:=h
  rw[length_append,hv.length];exact len Rg ds d hR
 ·obtain ⟨G,us,ds,d,Rg,g,q,params,body,fr,sc,cl,lps,cap,vals,te,rfl,sg,hv,hR,L,hev,kk'⟩:=h
  obtain ⟨t,ht,hs⟩:=hb cdv A outer s H hr G Rg ds d g q params body fr sc cl lps cap vals te hR L hev
  refine ⟨t,ht,hs _ _ _ _ _ _ _ _ (zf9 (ZR.refl G) sg hv) ⟨λe _ r=>?_,λe _ r sl n=>?_,λe=>e.elim,λe=>e.elim⟩⟩
  ·have e:d = .none:=e
   subst e
   exact kk' _ _ _ r.g.VB Ju
  ·subst e
   obtain ⟨_,y,hy,hd⟩:=sl
   cases hy
   exact kk' _ _ _ r.g.VB hd
end
end L2
namespace K46
open PySem L2 Frac Lw PySem.NumText Nm
open Ord Look Rdo Big Net
noncomputable def lst (a:Int) (b:Nat):Int×Int:=(a / (Nat.gcd a.natAbs b:Nat),(b:Int) / (Nat.gcd a.natAbs b:Nat))
def J7 (p:Int×Int):Prop:=Sz p/\1<=p.2/\Nat.gcd p.1.natAbs p.2.natAbs=1
theorem zft {a:Int}{b:Nat}(hb:1<=b)(ha:a.natAbs<10 ^ 40)(hb2:b<10 ^ 40):J7 (lst a b):=by
 have hg:0<Nat.gcd a.natAbs b:=Nat.gcd_pos_of_pos_right _ hb
 have hd:Nat.gcd a.natAbs b ∣ b:=Nat.gcd_dvd_right _ _
 have hda:Nat.gcd a.natAbs b ∣ a.natAbs:=Nat.gcd_dvd_left _ _
 unfold lst J7 Sz
 generalize eg:Nat.gcd a.natAbs b=g at hg hd hda
 obtain ⟨k,rfl⟩:=hd
 obtain ⟨j,hj⟩:(g:Int) ∣ a:=Int.ofNat_dvd_left.mpr hda
 subst hj
 have hk:1<=k:=Nat.one_le_iff_ne_zero.mpr λz=>by subst z;simp at hb
 have e1:(g:Int)*j / (g:Nat)=j:=Int.mul_ediv_cancel_left _ (by omega)
 have e2:((g*k:Nat):Int) / (g:Nat)=k:=by rw[Int.natCast_mul];exact Int.mul_ediv_cancel_left _ (by omega)
 dsimp only
 rw[e1,e2]
 rw[natAbs_mul,Int.natAbs_natCast] at ha
 have h1:j.natAbs<=g*j.natAbs:=Nat.le_mul_of_pos_left _ hg
 have h2:k<=g*k:=Nat.le_mul_of_pos_left _ hg
 refine ⟨⟨by omega,by rw[Int.natAbs_natCast];omega⟩,by omega,?_⟩
 rw[natAbs_mul,Int.natAbs_natCast,Nat.gcd_mul_left] at eg
 rw[Int.natAbs_natCast]
 exact Nat.eq_of_mul_eq_mul_left hg (by rw[Nat.mul_one];exact eg)
def RLs:List PyData->PyData->Prop:=λas d=>∃ (a:Int) (b:Nat),as=[.int a,.int (b:Nat)]/\1<=b/\a.natAbs<10 ^ 40/\b<10 ^ 40/\d=dF (lst a b)
def LkI (K:PySem.W.Frag)(n:Nat)(p:Addr)(fp:List Addr)(G H:Hp):Prop:=fp=[]/\∃ xs es,H p=some (.lst xs)/\Yc K G xs es/\Dk n es
def lkT (K:PySem.W.Frag):TF K Nat:=zks (λn p fp G H=>LkI K n p fp G H) (λ{n p fp G H G' H'} ⟨e,xs,es,h1,h2,h3⟩ s k=>⟨e,xs,es,by rw[k p mem_cons_self];exact h1,h2.same s,h3⟩) (λ{n p fp G H} ⟨e,xs,es,h1,h2,h3⟩ a ha=>by
 subst e
 rw[mem_singleton.mp ha];exact ⟨_,h1⟩)
def zgL (n:Nat)(ds:List PyData):Prop:=∃ m:Int,ds=[.int m]/\n<=10 ^ 6/\1<=m/\m<=10 ^ 12
inductive RNm (n:Nat) (ds:List PyData) (x:PyData) (n' : Nat):Prop
 | mk (q:Int×Int) (_:x=dF q) (_:J7 q) (_:q.1.natAbs<10 ^ 30) (_:n' <= n+6):RNm n ds x n'
theorem zcK {a:Int}{b N:Nat}(h:a.natAbs<N):(lst a b).1.natAbs<N:=lt_of_le_of_lt (Int.natAbs_ediv_le_natAbs _ _) h
def zi3 (n:Nat)(ds:List PyData):Prop:=ds=[]/\n<=10 ^ 5
variable {P:Program}{w:World}{K:PySem.W.Frag}{mg:Str->Option Value}{base:Heap}
theorem zhW {k:Nat}{f:Addr}{fd:FuncData}{ps:List Str}{Pre:List PyData->List PyData->Prop}{R:List PyData->List PyData->PyData->List PyData->Prop}{Pre' : Nat->List PyData->Prop}{R' : Nat->List PyData->PyData->Nat->Prop}(F:QS P w K mg base CX0 k f fd ps (spL K Pre R))
  (hP:∀ n es ds,Dk n es->Pre' n ds->Pre es ds) (hR:∀ n es ds x es',Dk n es->Pre' n ds->R es ds x es' -> ∃ n',Dk n' es' /\ R' n ds x n'):QS P w K mg base CX0 k f fd ps (spT (lkT K) Pre' R'):=
 F.imp λvs H Q E ⟨p,fp,us,G,n,ds,e,sg,gn,lv,⟨e2,xs,es,h1,h2,h3⟩,hv,hp,kk⟩=>by
  subst e2
  refine ⟨p,us,G,xs,es,ds,e,sg,gn p mem_cons_self,h1,h2,hv,hP n es ds h3 hp,λv x es' xs' G' H' hr gw gp hp' hd hx=>?_⟩
  obtain ⟨n',d',r'⟩:=hR n es ds x es' h3 hp hr
  have eE:(λb=>b=p)=(λb=>b∈[p]):=funext λb=>propext mem_singleton.symm
  rw[eE] at gw
  exact kk v x n' G' H' r' gw (λa ha=>by rw[mem_singleton.mp ha];exact gp) (λa ha=>by rw[mem_singleton.mp ha];exact ⟨_,hp'⟩) ⟨rfl,xs',es',hp',hd,d'⟩ hx
theorem zcd (T:Top K mg):T.Zw.O P w base 2 (spT (lkT K) zgL RDw):=
 zhW (za9 T) (λn es ds h ⟨m,e,h1,h2,h3⟩=>⟨n,m,h,h1,e,h2,h3⟩) λn es ds x es' h _ ⟨m,r,e,e2,r0,r1,s⟩=>⟨n+1,s n h,m,r,e,e2,r0,r1,rfl⟩
theorem Wj {B:Hp}{ρ:List PV}{X:XK}{i c:Nat}{p:Addr}{fp:List Addr}{te:TE}{m:Int}{R:PV->List PV->Prop}(hi:ρ[i]?=some ((lkT K).pv c p fp))(hm:Er K B te (msk ρ) (.int m))(hc:c<=10 ^ 6)(h1:1<=m)(h2:m<=10 ^ 12)(k:∀ r:Nat,(r:Int)<m->R (.dat (.int (r:Nat))) (ρ.set i ((lkT K).pv (c+1) p fp))):Eg K B (Jx (spT (lkT K) zgL RDw) [] X (Yh (XQ i) (Yh te Q4))) ρ R:=
 YW hi (Z9 (Zc hm Zq) ⟨c,hi,⟨m,rfl,hc,h1,h2⟩,λx s2 hx=>by
  obtain ⟨m',r,e,rfl,r0,r1,rfl⟩:=hx
  cases e
  obtain ⟨r,rfl⟩:=eq_ofNat_of_zero_le r0
  exact k r r1⟩)
theorem ziE {B:Hp}{ρ:List PV}{t:TA}{i:Int}(h:Ea K B t ρ [.int i]):Er K B (tCB (λxs H Q=>∃ i,xs=[.int i]/\Q (.int (if i<0 then -i else i)) H) t) ρ (.int i.natAbs):=zh2 h λG1 H xs Q s hx k=>by
 obtain ⟨y,ys,rfl,hy,hn⟩:=hx.cons
 cases hn.nil
 rw[hy.int]
 refine ⟨i,rfl,k _ G1 H (Yt.refl s) ?_⟩
 rw[show (if i<0 then -i else i)=(i.natAbs:Int) by split <;> omega]
 exact Zx _
theorem zgV (T:Top K mg):T.YK.O P w base 1 (spP K RLs):=by
 refine T.YK.F.okP Y9 (by rintro _ _ ⟨a,b,rfl,_⟩;rfl) λcdv A outer s H E hr ds d hR=>?_
 obtain ⟨a,b,rfl,hb,ha,hb2,rfl⟩:=hR
 refine ⟨_,(Zf (ZQ (i:=2) Y9.nd rfl (Or.inl rfl) (Yq ze1 (by rfl) T.zkm zkB (Za (pv 0) Zg Zd)))
   (Zf (ZQ (i:=3) Y9.nd rfl (Or.inl rfl) (pv 1))
   (Zf (zb0 PassesOwn.never (ZF za8 (pv 3) Zi (ZV _)) (Zo (zhF (i:=2) (j:=3) rfl Y9.nd rfl rfl (by decide) rfl rfl (Za (pv 3) (Za (ZX QZ (pv 2) (pv 3)) Zg Z0) Zd) (by rfl))))
   (Zo (ZD (Yz (Za (ZX Qn (pv 0) (pv 2)) (Za (ZX Qn (pv 1) (pv 2)) Zg Z0) Z0))))))) ,?_⟩
 refine Zr (ZJ (ZK (ziE (Zc (Ze rfl) Zq)) ?_))
 refine Zr (ZJ (ZK (Ze rfl) ?_))
 refine Zr (zet (λm ρ=>∃ x:Nat,0<Nat.gcd x m/\Nat.gcd x m=Nat.gcd a.natAbs b/\ρ=[.dat (.int a),.dat (.int (b:Nat)),.dat (.int (x:Nat)),.dat (.int (m:Nat))]) b ⟨a.natAbs,Nat.gcd_pos_of_pos_right _ hb,rfl,rfl⟩ ?_)
 rintro m _ ⟨x,hx0,hx,rfl⟩
 refine ⟨decide ((0:Int)<(m:Nat)),Ye (Y0 (Ze rfl) Zn λ_=>Yb _),λh=>?_,λh=>?_⟩
 ·have hm:=of_decide_eq_true h
  have hm' : 0<m:=by omega
  refine zhn (Zc (Ze rfl) (Zc (Wv (Ze rfl) (Ze rfl) hm λ_=>Zx _) Zq)) ⟨x % m,Nat.mod_lt _ hm',m,?_,?_,?_⟩
  ·rw[gcd_comm,← Nat.gcd_rec,gcd_comm];exact hx0
  ·rw[gcd_comm,← Nat.gcd_rec,gcd_comm];exact hx
  ·rfl
 ·have hm:=of_decide_eq_false h
  have hm' : m=0:=by omega
  subst hm'
  rw[Nat.gcd_zero_right] at hx0 hx
  have hb1:b≠0:=by omega
  have hg:x<10 ^ 40:=by
   have:=Nat.le_of_dvd hb (Nat.gcd_dvd_right a.natAbs b)
   omega
  refine Z6 (ZK (Q6 (X8 (Zc (Wv (Ze rfl) (Ze rfl) ⟨by omega,w0 (by omega)⟩ λ_=>Zx _) (Zc (Wv (Ze rfl) (Ze rfl) ⟨by omega,w0 (by omega)⟩ λ_=>Zx _) Zq)) (by show 2<=sizeLine;decide)) ?_) rfl)
  unfold dF lst
  rw[hx]
theorem zfk (T:Top K mg):T.Xi.O P w base 3 (spT (lkT K) zi3 RNm):=by
 have G__law_next:=@zcd P w K mg base T
 have G__law_fraction:T.YK.O P w base 2 (spP K RLs):=(zgV T).mono (by decide)
 refine T.Xi.F.okT Wx (by rintro _ _ ⟨rfl,_⟩;rfl) λcdv A outer s H E hr p fp n ds hP=>?_
 obtain ⟨rfl,hn⟩:=hP
 have p40:(10:Nat) ^ 25<10 ^ 40:=pow_lt_pow_right (by decide) (by decide)
 have p9:∀ {ρ:List PV},Er K B0 (tOp (rI zi4 λi j=>.int (i ^ j.toNat)) (tC (.int 10)) (tC (.int 9))) ρ (.int 1000000000):=zfr (r:=1000000000) ⟨by decide,by decide,by decide⟩ (by decide)
 refine ⟨_,(Zf (ZQ (i:=1) Wx.nd rfl (Or.inl rfl) (peN T.Zw G__law_next hr (Za (pv 0) (Za Zi Zg Zb) Zd)))
   (Zf (Yk (ZF Vb (pv 1) Zi (ZV _)) (Zo (ZD (Yz (Za (ZX JN (peN T.Zw G__law_next hr (Za (pv 0) (Za Zi Zg Zb) Zd)) Zi) (Za Zi Zg Zb) Z0)))) ZL)
   (Zf (Yk (ZF Vb (pv 1) Zi (ZV _)) (Zo (ZD (peN T.YK G__law_fraction hr (Za (ZX JN (peN T.Zw G__law_next hr (Za (pv 0) (Za Zi Zg Zb) Zd)) Zi) (Za (ZX Xz Zi (peN T.Zw G__law_next hr (Za (pv 0) (Za Zi Zg Zb) Zd))) Zg Z0) Z0)))) ZL)
   (Zf (ZQ (i:=2) Wx.nd rfl (Or.inl rfl) (ZX Xz (ZX Wf (peN T.Zw G__law_next hr (Za (pv 0) (Za (ZX zaL Zi Zi) Zg Z0) Zd)) (ZX zaL Zi Zi)) (peN T.Zw G__law_next hr (Za (pv 0) (Za (ZX zaL Zi Zi) Zg Z0) Zd))))
   (Zo (ZD (peN T.YK G__law_fraction hr (Za (ZX Wf (pv 2) (ZG (Zt (K:=K) rfl) (Yg (Za Zi (Za (zhb zfn Zi) (Za Zi Zg Zb) zb6) Zb)) (peN T.Zw G__law_next hr (Za (pv 0) (Za Zi Zg Zb) Zd)) (λ_ _=>rfl))) (Za (ZX Xz Zi (peN T.Zw G__law_next hr (Za (pv 0) (Za (ZX zaL Zi Zi) Zg Z0) Zd))) Zg Z0) Z0)))))))) ,?_⟩
 refine Zr (ZJ (Wj (c:=n) rfl Zn (by omega) (by decide) (by decide) λkd hkd=>?_))
 show Sv K B0 _ [(lkT K).pv (n+1) p fp,.dat (.int (kd:Nat)),.un] _
 refine Zr (W7 (Ye (Y0 (Ze rfl) Zn λ_=>Yb _)) (λh=>?_) λh=>ZW ?_)
 ·refine Z6 (zfc (Z4 (Xo (Wj (c:=n+1) rfl Zn (by omega) (by decide) (by decide) λr hr=>⟨_,rfl,ZK Zn ⟨_,.int ((r:Int)-2),rfl,λG σ va vb ha hb=>Vc (Y7 ha) (Y7 hb) (Zx _),_,rfl,Z9 (Zc Zn Zq) ⟨by show 2<=sizeLine;decide,_,n+2,rfl,⟨((r:Int)-2,1),rfl,⟨⟨?_,?_⟩,Int.le_refl 1,Nat.gcd_one_right _⟩,by show ((r:Int)-2).natAbs<_;omega,by omega⟩,rfl⟩⟩⟩))))
  ·exact Nat.lt_of_lt_of_le (show ((r:Int)-2).natAbs<10 by omega) (le_of_lt (pow_lt_pow_right (a:=10) (m:=1) (n:=40) (by decide) (by decide)))
  ·exact Nat.lt_of_lt_of_le (show (1:Int).natAbs<10 by decide) (le_of_lt (pow_lt_pow_right (a:=10) (m:=1) (n:=40) (by decide) (by decide)))
 refine Zr (W7 (Ye (Y0 (Ze rfl) Zn λ_=>Yb _)) (λh=>?_) λh=>ZW ?_)
 ·refine Z6 (zbz (Z4 (Xo (Wj (c:=n+1) rfl Zn (by omega) (by decide) (by decide) λr hr=>⟨_,rfl,ZK Zn ⟨_,.int ((r:Int)-6),rfl,λG σ va vb ha hb=>Vc (Y7 ha) (Y7 hb) (Zx _),_,rfl,Z4 (Xo (ZK Zn ⟨_,rfl,Wj (c:=n+2) rfl Zn (by omega) (by decide) (by decide) λu hu=>⟨_,.int ((2+u:Nat):Int),rfl,λG σ va vb ha hb=>zb1 (Vc (Y7 ha) (Y7 hb) (Zx _)) (by congr 1),_,rfl,Z9 Zq ⟨_,⟨(r:Int)-6,2+u,rfl,by omega,by omega,by omega,rfl⟩,_,n+3,rfl,⟨lst ((r:Int)-6) (2+u),rfl,zft (by omega) (by omega) (by omega),zcK (by omega),by omega⟩,rfl⟩⟩⟩))⟩⟩))))
 refine Zr (ZJ (Xo (Xo (Wj (c:=n+1) rfl p9 (by omega) (by decide) (by decide) λa ha=>⟨_,rfl,ZK p9 ⟨_,.int ((a:Int)*1000000000),rfl,λG σ va vb h1 h2=>zdD (Y7 h1) (Y7 h2) (mw (by omega) (by decide)) (Zx _),_,rfl,Wj (c:=n+2) rfl p9 (by omega) (by decide) (by decide) λb hb=>⟨_,.int ((a:Int)*1000000000+b),rfl,λG σ va vb h1 h2=>Vc (Y7 h1) (Y7 h2) (Zx _),?_⟩⟩⟩))))
 show Sv K B0 _ [(lkT K).pv (n+3) p fp,.dat (.int (kd:Nat)),.dat (.int ((a:Int)*1000000000+b))] _
 have hgr:0<=(a:Int)*1000000000+b/\(a:Int)*1000000000+b<10 ^ 19:=by omega
 generalize (a:Int)*1000000000+b=gr at hgr
 refine Z6 (zbz (Z4 (Xo (ZK (Ze rfl) ⟨_,rfl,Xo (ZK (Xl (Zc Zn (Zc (zhY Zn) (Zc Zn Zq))) (by show 3<=sizeLine;decide)) ⟨_,rfl,Wj (c:=n+3) rfl Zn (by omega) (by decide) (by decide) λr hr=>?_⟩)⟩))))
 obtain ⟨x,hx1,hx2,hx3⟩:∃ x:Int,ixN ([PyData.int 1,.int (-1),.int 99]).length (r:Nat)=some r/\([PyData.int 1,.int (-1),.int 99])[r]?=some (.int x)/\x.natAbs<=99:=by
  match r,hr with
  | 0,_=>exact ⟨1,rfl,rfl,by decide⟩
  | 1,_=>exact ⟨-1,rfl,rfl,by decide⟩
  | 2,_=>exact ⟨99,rfl,rfl,by decide⟩
 have hgx:(gr*x).natAbs<10 ^ 40:=by
  rw[natAbs_mul]
  exact lt_of_le_of_lt (Nat.mul_le_mul (show gr.natAbs<=10 ^ 19 by omega) hx3) (lt_trans (show 10 ^ 19*99<10 ^ 25 by decide) p40)
 have hgx30:(gr*x).natAbs<10 ^ 30:=by
  rw[natAbs_mul]
  exact lt_of_le_of_lt (Nat.mul_le_mul (show gr.natAbs<=10 ^ 19 by omega) hx3) (by decide)
 refine ⟨_,.int x,rfl,λG σ va vb ha hb=>YF (Y7 ha) (Y7 hb) hx1 hx2,_,.int (gr*x),rfl,λG σ va vb ha hb=>zdD (Y7 ha) (Y7 hb) (mw (lt_trans (show gr.natAbs<10 ^ 20 by omega) (pow_lt_pow_right (by decide) (by decide))) (by omega)) (Zx _),_,rfl,Z4 (Xo (ZK Zn ⟨_,rfl,Wj (c:=n+4) rfl p9 (by omega) (by decide) (by decide) λu hu=>⟨_,.int ((1+u:Nat):Int),rfl,λG σ va vb ha hb=>zb1 (Vc (Y7 ha) (Y7 hb) (Zx _)) (by congr 1),_,rfl,Z9 Zq ⟨_,⟨gr*x,1+u,rfl,by omega,hgx,by omega,rfl⟩,_,n+5,rfl,⟨lst (gr*x) (1+u),rfl,zft (by omega) hgx (by omega),zcK hgx30,by omega⟩,rfl⟩⟩⟩))⟩
end K46
namespace Look
open PySem Ord Rdo
inductive Ce where
 | same (z:Str)
 | mk (ei:Bool) (is:Bool) (z:Str) (p:Int×Int)
 | no (c:Ce)
 | an (c e:Ce)
 | or (c e:Ce)
inductive Oe where
 | like
 | lf (dn:Bool) (z:Str)
 | turn (a:Oe)
 | thn (a b:Oe)
 | pick (c:Ce) (a b:Oe)
noncomputable def wB (ei:Bool):Str:=if ei then S "either" else S "both"
noncomputable def wI (is:Bool):Str:=if is then S "is" else S "under"
noncomputable def wL (dn:Bool):Str:=if dn then S "down" else S "up"
noncomputable def Ce.w:Ce->List Wd
 | .same z=>[.t (S "same"),.t z]
 | .mk ei is z p=>[.t (wB ei),.t (wI is),.t z,.n p.1 p.2]
 | .no c=>.t (S "not")::c.w
 | .an c e=>.t (S "and")::(c.w++e.w)
 | .or c e=>.t (S "or")::(c.w++e.w)
noncomputable def Oe.w:Oe->List Wd
 | .like=>[.t (S "like")]
 | .lf dn z=>[.t (wL dn),.t z]
 | .turn a=>.t (S "turn")::a.w
 | .thn a b=>.t (S "then")::(a.w++b.w)
 | .pick c a b=>.t (S "pick")::(c.w++(a.w++b.w))
def Ce.ok (fld:Str->Prop)(num:Int->Int->Prop):Ce->Prop
 | .same z=>fld z
 | .mk _ _ z p=>fld z/\num p.1 p.2
 | .no c=>c.ok fld num
 | .an c e=>c.ok fld num/\e.ok fld num
 | .or c e=>c.ok fld num/\e.ok fld num
def Oe.ok (fld:Str->Prop)(num:Int->Int->Prop):Oe->Prop
 | .like=>True
 | .lf _ z=>fld z
 | .turn a=>a.ok fld num
 | .thn a b=>a.ok fld num/\b.ok fld num
 | .pick c a b=>c.ok fld num/\a.ok fld num/\b.ok fld num
theorem Ce.Ur {fld:Str->Prop}{num:Int->Int->Prop}:∀ {c:Ce},c.ok fld num->WN fld num c.w
 | .same _,h=>ziV h
 | .mk ei is z p,h=>by
  have hm:zbH fld num [.t (wI is),.t z,.n p.1 p.2]:=zjc (by cases is <;> simp[wI]) h.1 h.2
  cases ei
  ·exact zhp hm
  ·exact zeq hm
 | .no c,h=>zjm (Ce.Ur (c:=c) h)
 | .an c e,h=>zjv (Ce.Ur h.1) (Ce.Ur h.2)
 | .or c e,h=>zkj (Ce.Ur h.1) (Ce.Ur h.2)
theorem Oe.zcl {fld:Str->Prop}{num:Int->Int->Prop}:∀ {o:Oe},o.ok fld num->Ql fld num o.w
 | .like,_=>zhy
 | .lf dn z,h=>by
  cases dn
  ·exact zki h
  ·exact ziF h
 | .turn a,h=>zh3 (Oe.zcl (o:=a) h)
 | .thn a b,h=>ziR (Oe.zcl h.1) (Oe.zcl h.2)
 | .pick c a b,h=>zfR (Ce.Ur h.1) (Oe.zcl h.2.1) (Oe.zcl h.2.2)
noncomputable def mkB (is:Bool) (a p:Int×Int):Bool:=isA (hsA a p) (if is then .like else .ahead)
noncomputable def Ce.tr (book:List Str) (f g:Fs):Ce->Bool
 | .same z=>isA (hsA (vl book z f) (vl book z g)) .like
 | .mk ei is z p=>if ei then mkB is (vl book z f) p||mkB is (vl book z g) p else mkB is (vl book z f) p&&mkB is (vl book z g) p
 | .no c=>!c.tr book f g
 | .an c e=>c.tr book f g&&e.tr book f g
 | .or c e=>c.tr book f g||e.tr book f g
noncomputable def Oe.an (book:List Str) (f g:Fs):Oe->An
 | .like=>.like
 | .lf dn z=>if dn then (hsA (vl book z f) (vl book z g)).turn else hsA (vl book z f) (vl book z g)
 | .turn a=>(a.an book f g).turn
 | .thn a b=>if a.an book f g = .like then b.an book f g else a.an book f g
 | .pick c a b=>if c.tr book f g=true then a.an book f g else b.an book f g
theorem Ce.ev {book:List Str}{num:Int->Int->Prop}(hb:∀ z∈book,Ym z=none)(f g:Fs):∀ {c:Ce},c.ok (· ∈ book) num->∀ R,Look.ev (zd8 book f g) c.w R = .tr (c.tr book f g)::R
 | .same z,h=>λR=>zeO (hb z h) R
 | .mk ei is z p,h=>by
  have hm:∀ R,Look.ev (zd8 book f g) [.t (wI is),.t z,.n p.1 p.2] R = .mk (mkB is (vl book z f) p) (mkB is (vl book z g) p)::R:=λR=>by
   cases is
   ·exact ze5 (hb z h.1) p.1 p.2 R
   ·exact zi8 (hb z h.1) p.1 p.2 R
  cases ei
  ·exact zfM hm
  ·exact zc0 hm
 | .no c,h=>zi1 (Ce.ev hb f g (c:=c) h)
 | .an c e,h=>zfN (Ce.ev hb f g h.1) (Ce.ev hb f g h.2)
 | .or c e,h=>zio (Ce.ev hb f g h.1) (Ce.ev hb f g h.2)
theorem Oe.ev {book:List Str}{num:Int->Int->Prop}(hb:∀ z∈book,Ym z=none)(f g:Fs):∀ {o:Oe},o.ok (· ∈ book) num->∀ R,Look.ev (zd8 book f g) o.w R = .an (o.an book f g)::R
 | .like,_=>zgI
 | .lf dn z,h=>by
  cases dn
  ·exact zjg (hb z h)
  ·exact zgT (hb z h)
 | .turn a,h=>zg1 (Oe.ev hb f g (o:=a) h)
 | .thn a b,h=>zgq (Oe.ev hb f g h.1) (Oe.ev hb f g h.2)
 | .pick c a b,h=>zgQ (Ce.ev hb f g h.1) (Oe.ev hb f g h.2.1) (Oe.ev hb f g h.2.2)
theorem Ce.sym (book:List Str)(f g:Fs):∀ c:Ce,c.tr book g f=c.tr book f g
 | .same z=>by
  show isA (hsA (vl book z g) (vl book z f)) .like=_
  rw[Vj (vl book z f) (vl book z g),ze0];rfl
 | .mk ei is z p=>by
  cases ei
  ·exact Bool.and_comm ..
  ·exact Bool.or_comm ..
 | .no c=>congrArg (!·) (Ce.sym book f g c)
 | .an c e=>by show (_&&_)=(_&&_);rw[Ce.sym book f g c,Ce.sym book f g e]
 | .or c e=>by show (_||_)=(_||_);rw[Ce.sym book f g c,Ce.sym book f g e]
theorem zaT {a:An}:a.turn = .like↔a = .like:=by cases a <;> simp[An.turn]
theorem Oe.sym (book:List Str)(f g:Fs):∀ o:Oe,o.an book g f=(o.an book f g).turn
 | .like=>rfl
 | .lf dn z=>by
  cases dn
  ·exact Vj (vl book z f) (vl book z g)
  ·show (hsA (vl book z g) (vl book z f)).turn=_
   rw[Vj (vl book z f) (vl book z g)];rfl
 | .turn a=>by show (a.an book g f).turn=_;rw[Oe.sym book f g a];rfl
 | .thn a b=>by
  show (if a.an book g f = .like then b.an book g f else a.an book g f)=(if a.an book f g = .like then b.an book f g else a.an book f g).turn
  rw[Oe.sym book f g a,Oe.sym book f g b]
  by_cases h:a.an book f g = .like
  ·rw[if_pos h,if_pos (zaT.mpr h)]
  ·rw[if_neg h,if_neg λz=>h (zaT.mp z)]
 | .pick c a b=>by
  show (if c.tr book g f=true then a.an book g f else b.an book g f)=(if c.tr book f g=true then a.an book f g else b.an book f g).turn
  rw[Oe.sym book f g a,Oe.sym book f g b,Ce.sym book f g c]
  split <;> rfl
inductive Tr where
 | like
 | fld (dn:Bool) (i:Nat)
 | thn (a b:Tr)
 | turn (a:Tr)
 | part (p:Int×Int) (a:Tr) (dn:Bool) (i:Nat)
def Tr.ok (m:Nat)(num:Int×Int->Prop):Tr->Prop
 | .like=>True
 | .fld _ i=>i<m
 | .thn a b=>a.ok m num/\b.ok m num
 | .turn a=>a.ok m num
 | .part p a _ i=>num p/\a.ok m num/\i<m
abbrev WF (bk:List Str)(i:Nat):Str:=bk.getD i (S "")
def Tr.o (bk:List Str):Tr->Oe
 | .like=>.like
 | .fld dn i=>.lf dn (WF bk i)
 | .thn a b=>.thn (a.o bk) (b.o bk)
 | .turn a=>.turn (a.o bk)
 | .part p a dn i=>.pick (.or (.mk false false (WF bk i) p) (.no (.mk true false (WF bk i) p))) (a.o bk) (.lf dn (WF bk i))
def Uj (a b:Int×Int):Int:=a.1*b.2-b.1*a.2
abbrev XF (f:Fs)(i:Nat):Int×Int:=f.getD i (0,1)
def Tr.sd:Tr->Fs->Fs->Int
 | .like,_,_=>0
 | .fld dn i,f,g=>if dn then Uj (XF g i) (XF f i) else Uj (XF f i) (XF g i)
 | .thn a b,f,g=>if a.sd f g≠0 then a.sd f g else b.sd f g
 | .turn a,f,g=>a.sd g f
 | .part p a dn i,f,g=>if decide (Uj (XF f i) p<0)=decide (Uj (XF g i) p<0) then a.sd f g else (if dn then Uj (XF g i) (XF f i) else Uj (XF f i) (XF g i))
def sgA (x:Int):An:=if x<0 then .ahead else if x>0 then .behind else .like
theorem zdG (a b:Int×Int):hsA a b=sgA (Uj a b):=by
 unfold hsA sgA Uj
 generalize a.1*b.2=x
 generalize b.1*a.2=y
 have e1:(x<y)=(x-y<0):=by apply propext;omega
 have e2:(x>y)=(x-y>0):=by apply propext;omega
 simp only[e1,e2]
theorem zeg {x:Int}:isA (sgA x) .ahead=decide (x<0):=by
 unfold sgA isA
 by_cases h1:x<0
 ·rw[if_pos h1,decide_eq_true h1];rfl
 ·rw[if_neg h1,decide_eq_false h1]
  split <;> rfl
theorem zdi {x:Int}:isA (sgA x) .behind=decide (0<x):=by
 unfold sgA isA
 by_cases h1:x<0
 ·rw[if_pos h1,decide_eq_false (show ¬ 0<x by omega)];rfl
 ·rw[if_neg h1]
  by_cases h2:x>0
  ·rw[if_pos h2,decide_eq_true (show 0<x from h2)];rfl
  ·rw[if_neg h2,decide_eq_false (show ¬ 0<x by omega)];rfl
theorem zcQ {x:Int}:sgA x = .like↔x=0:=by
 unfold sgA
 constructor
 ·intro h
  by_cases h1:x<0
  ·rw[if_pos h1] at h;cases h
  ·rw[if_neg h1] at h
   by_cases h2:x>0
   ·rw[if_pos h2] at h;cases h
   ·omega
 ·intro h;subst h;rfl
theorem zdX {bk:List Str}{f:Fs}(nd:bk.Nodup)(hl:f.length=bk.length){i:Nat}(hi:i<bk.length):vl bk (WF bk i) f=XF f i:=by
 have e:WF bk i=bk[i]:=by rw[WF,getD_eq_getElem?_getD,getElem?_eq_getElem hi];rfl
 rw[e]
 have hx:bk.idxOf bk[i]=i:=by
  have:=List.Nodup.idxOf_getElem nd i hi
  exact this
 unfold vl
 rw[hx]
theorem Tr.zfo {bk:List Str}(nd:bk.Nodup){dn:Bool}{i:Nat}{f g:Fs}(h:i<bk.length)(hf:f.length=bk.length)(hg:g.length=bk.length):(Oe.lf dn (WF bk i)).an bk f g=sgA ((Tr.fld dn i).sd f g):=by
 show (if dn=true then (hsA (vl bk (WF bk i) f) (vl bk (WF bk i) g)).turn else hsA (vl bk (WF bk i) f) (vl bk (WF bk i) g))=sgA (if dn=true then _ else _)
 rw[zdX nd hf h,zdX nd hg h]
 cases dn
 ·exact zdG _ _
 ·rw[if_pos rfl,if_pos rfl,← Vj (XF f i) (XF g i)]
  exact zdG _ _
theorem Tr.zdt {bk:List Str}{num:Int×Int->Prop}(nd:bk.Nodup):∀ {t:Tr}{f g:Fs},t.ok bk.length num->f.length=bk.length->g.length=bk.length->(t.o bk).an bk f g=sgA (t.sd f g)
 | .like,f,g,_,_,_=>rfl
 | .fld dn i,f,g,h,hf,hg=>Tr.zfo nd h hf hg
 | .thn a b,f,g,h,hf,hg=>by
  have e1:=Tr.zdt nd (t:=a) h.1 hf hg
  have e2:=Tr.zdt nd (t:=b) h.2 hf hg
  show (if (a.o bk).an bk f g = .like then (b.o bk).an bk f g else (a.o bk).an bk f g)=sgA (if a.sd f g≠0 then a.sd f g else b.sd f g)
  rw[e1,e2]
  by_cases hz:a.sd f g=0
  ·rw[if_pos (zcQ.mpr hz),if_neg (by rw[hz];decide)]
  ·rw[if_neg (λq=>hz (zcQ.mp q)),if_pos hz]
 | .turn a,f,g,h,hf,hg=>by
  show ((a.o bk).an bk f g).turn=sgA (a.sd g f)
  rw[← Oe.sym bk f g (a.o bk)]
  exact Tr.zdt nd (t:=a) h hg hf
 | .part p a dn i,f,g,h,hf,hg=>by
  have e1:=Tr.zdt nd (t:=a) h.2.1 hf hg
  show (if ((mkB false (vl bk (WF bk i) f) p&&mkB false (vl bk (WF bk i) g) p) || !(mkB false (vl bk (WF bk i) f) p||mkB false (vl bk (WF bk i) g) p))=true then (a.o bk).an bk f g else (Oe.lf dn (WF bk i)).an bk f g)=sgA (if decide (Uj (XF f i) p<0)=decide (Uj (XF g i) p<0) then a.sd f g else (Tr.fld dn i).sd f g)
  rw[e1]
  have e2:=Tr.zfo (dn:=dn) nd h.2.2 hf hg
  rw[e2,zdX nd hf h.2.2,zdX nd hg h.2.2]
  have hm:∀ a:Int×Int,mkB false a p=decide (Uj a p<0):=λa=>by
   show isA (hsA a p) .ahead=_
   rw[zdG,zeg]
  rw[hm,hm]
  generalize decide (Uj (XF f i) p<0)=x
  generalize decide (Uj (XF g i) p<0)=y
  cases x <;> cases y <;> rfl
def csN (z:Str)(p:Int×Int):Nat->Ce
 | 0=>.mk false false z p
 | 1=>.no (.mk true true z p)
 | 2=>.an (.mk true false z p) (.no (.mk false true z p))
 | _=>.or (.same z) (.no (.same z))
theorem ziA {bk:List Str}{z:Str}{p:Int×Int}{f g:Fs}(h1:hsA (vl bk z f) p = .ahead)(h2:hsA (vl bk z g) p = .ahead):∀ k,(csN z p k).tr bk f g=true
 | 0=>by show (mkB false _ p&&mkB false _ p)=true;unfold mkB;rw[h1,h2];rfl
 | 1=>by show (!(mkB true _ p||mkB true _ p))=true;unfold mkB;rw[h1,h2];rfl
 | 2=>by show ((mkB false _ p||mkB false _ p) && !(mkB true _ p&&mkB true _ p))=true;unfold mkB;rw[h1,h2];rfl
 | _+3=>by show ((Ce.same z).tr bk f g || !((Ce.same z).tr bk f g))=true;cases (Ce.same z).tr bk f g <;> rfl
def J6 {α:Type}(z:α)(b:α->α->Bool)(l:List α)(p:Nat×Nat):List α:=if b (l.getD p.1 z) (l.getD p.2 z) then (l.set p.1 (l.getD p.2 z)).set p.2 (l.getD p.1 z) else l
def VG {α:Type}(z:α)(b:α->α->Bool)(net:List (Nat×Nat))(l:List α):List α:=net.foldl (J6 z b) l
theorem Ua {α:Type}{z:α}{b:α->α->Bool}{l:List α}{p:Nat×Nat}:(J6 z b l p).length=l.length:=by
 unfold J6;split
 ·rw[length_set,length_set]
 ·rfl
theorem UJ {α:Type}{z:α}{b:α->α->Bool}:∀ {net:List (Nat×Nat)}{l:List α},(VG z b net l).length=l.length
 | [],l=>rfl
 | p::net,l=>by show (VG z b net (J6 z b l p)).length=_;rw[UJ,Ua]
theorem zaZ {α:Type}{z:α}{b:α->α->Bool}{net:List (Nat×Nat)}{l:List α}{k:Nat}(hk:k<net.length):VG z b (net.take (k+1)) l=J6 z b (VG z b (net.take k) l) (net.getD k (0,0)):=by
 unfold VG
 rw[take_succ,getElem?_eq_getElem hk,List.foldl_append,getD_eq_getElem?_getD,getElem?_eq_getElem hk];rfl
theorem VP {α:Type}{z:α}{b:α->α->Bool}{l:List α}{p:Nat×Nat}(h1:p.1<l.length)(h2:p.2<l.length):∀ x∈J6 z b l p,x∈l:=by
 intro x hx
 unfold J6 at hx
 have g1:l.getD p.1 z∈l:=by rw[getD_eq_getElem?_getD,getElem?_eq_getElem h1];exact List.getElem_mem h1
 have g2:l.getD p.2 z∈l:=by rw[getD_eq_getElem?_getD,getElem?_eq_getElem h2];exact List.getElem_mem h2
 split at hx
 ·rcases List.mem_or_eq_of_mem_set hx with h | h
  ·rcases List.mem_or_eq_of_mem_set h with h | h
   ·exact h
   ·rw[h];exact g2
  ·rw[h];exact g1
 ·exact hx
theorem zaa {α:Type}{z:α}{b:α->α->Bool}:∀ {net:List (Nat×Nat)}{l:List α},(∀ p∈net,p.1<l.length/\p.2<l.length)->∀ x∈VG z b net l,x∈l
 | [],l,_,x,hx=>hx
 | p::net,l,h,x,hx=>by
  have hp:=h p mem_cons_self
  exact VP hp.1 hp.2 x (zaa (net:=net) (l:=J6 z b l p) (λq hq=>by rw[Ua];exact h q (mem_cons_of_mem _ hq)) x hx)
theorem Uq {α:Type}{z:α}{b c:α->α->Bool}:∀ {net:List (Nat×Nat)}{l:List α},(∀ p∈net,p.1<l.length/\p.2<l.length)->(∀ x∈l,∀ y∈l,b x y=c x y)->VG z b net l=VG z c net l
 | [],l,_,_=>rfl
 | p::net,l,h,hb=>by
  have hp:=h p mem_cons_self
  have g1:l.getD p.1 z∈l:=by rw[getD_eq_getElem?_getD,getElem?_eq_getElem hp.1];exact List.getElem_mem hp.1
  have g2:l.getD p.2 z∈l:=by rw[getD_eq_getElem?_getD,getElem?_eq_getElem hp.2];exact List.getElem_mem hp.2
  have e:J6 z b l p=J6 z c l p:=by unfold J6;rw[hb _ g1 _ g2]
  show VG z b net (J6 z b l p)=VG z c net (J6 z c l p)
  rw[← e]
  exact Uq (λq hq=>by rw[Ua];exact h q (mem_cons_of_mem _ hq)) λx hx y hy=>hb x (VP hp.1 hp.2 x hx) y (VP hp.1 hp.2 y hy)
end Look
namespace L2
open PySem PySem.Spec PyProof.Rows Lw
section
variable {K:PySem.W.Frag}{B:Hp}{ρ:List PV}{ta tb te to:TE}{t:TA}{x y:Str}{ds:List PyData}{d:PyData}
theorem Vg (ha:Er K B ta ρ (.str x))(hb:Er K B tb ρ (.str y)):Er K B (tOp rEq ta tb) ρ (.bool (decide (x=y))):=λG σ r=>Jk (ha G σ r) (hb G σ r) λG1 H u v Q s1 s2 hu hv k=>by
 rw[hu.str,hv.str]
 refine ⟨rfl,?_⟩
 have:=k (.bl (decide (x=y))) G1 H (Yt.refl s2) (Yb _)
 rw[show decide (V.str x=V.str y)=decide (x=y) from decide_eq_decide.mpr ⟨λe=>by injection e,λe=>by rw[e]⟩]
 exact this
theorem zhJ {r:V->List V->Hp->VK->Prop}(ho:Er K B to ρ (.str x))(ha:Ea K B t ρ ds)(hr:∀ G1 H vs (Q:VK),ZR G1 H->Yc K G1 vs ds->(∀ v G' H',Yt G1 H G' H' -> Dat K G' v d->Q v H')->r (.str x) vs H Q):Er K B (tBM K "str" r to t) ρ d:=λG σ rr G1 H s1 s2 Q k=>
 ho G σ rr G1 H s1 s2 _ λv G2 H2 g2 hv=>by
  rw[hv.str]
  exact ⟨rfl,ha G σ rr G2 H2 (s1.trans g2.gg) g2.gh _ λvs G3 H3 g3 hvs=>hr G3 H3 vs Q g3.gh hvs λv G' H' g' hd=>k v G' H' ((g2.trans g3).trans g') hd⟩
theorem zaO {G:Hp}:∀ (ys:List Str),Yc K G (ys.map V.str) (ys.map PyData.str)
 | []=>Z7
 | y::ys=>Z1 (YZ y) (zaO ys)
theorem zad {G:Hp}:∀ {vs:List V}{ys:List Str},Yc K G vs (ys.map PyData.str)->vs=ys.map V.str
 | _,[],h=>h.nil
 | _,y::ys,h=>by
  obtain ⟨v,r,rfl,hv,hr⟩:=Yc.cons (d:=.str y) (ds:=ys.map PyData.str) h
  rw[hv.str,zad hr];rfl
theorem zeJ {c:Nat}(ho:Er K B to ρ (.str x))(ha:Ea K B t ρ [.str ⟨#[c]⟩])(hz:x.length+2<=sizeLine):Er K B (tBM K "str" zff to t) ρ (.list ((Txt.split x ⟨#[c]⟩).map .str)):=zhJ ho ha λG1 H vs Q s hv k=>by
 obtain ⟨y,r,rfl,hy,hr⟩:=hv.cons
 cases hr.nil
 refine ⟨x,c,rfl,by rw[hy.str],hz,λl hl=>?_⟩
 have g:=Yw (o:=.lst ((Txt.split x ⟨#[c]⟩).map V.str)) s hl
 exact k _ _ _ g (YX Zy (zaO _))
theorem zgw {te:TE}{R:PV->List PV->Prop}(h:Eg K B te ρ λr ρ' => ∃ zs:List Str,r = .dat (.list (zs.map .str))/\(zs.map (·.length)).sum+zs.length*x.length<=16777216/\R (.dat (.str (Txt.join x zs))) ρ'):
  Eg K B (tBM K "str" (λx vs H Q=>∃ (a:Str) (p:Addr) (ys:List Str),x = .str a/\vs=[.ref p]/\SqL K H p (ys.map V.str)/\(ys.map (·.length)).sum+ys.length*a.length<=16777216/\Q (.str (Txt.join a ys)) H) (tC (.str x)) (Yh te Q4)) ρ R:=λE G0 H0 G H σ F r Q q=>
 ⟨rfl,h E G0 H0 G H σ F r _ λv rr ρ' G' H' F' L hR s r' sl n=>by
  obtain ⟨zs,rfl,hz,k⟩:=hR
  obtain ⟨_,y,hy,hd⟩:=sl
  cases hy
  obtain ⟨p,xs,rfl,hp,hx⟩:=hd.lst
  rw[zad hx] at hp
  exact ⟨x,p,zs,rfl,rfl,SqL.of (r'.g.gh _ _ hp),hz,q _ _ ρ' G' H' F' [] k s r' ⟨rfl,_,rfl,YZ _⟩ Jh⟩⟩
theorem zfy {xs:List V}{v:V}{a:PyData}{neg:Bool}(ha:Er K B ta ρ a)(hb:Er K B tb ρ (.list ds))(hv:∀ G u,Dat K G u a->u=v)(hx:∀ G us,Yc K G us ds->us=xs)(f1:Ul v=true)(f2:xs.all Ul=true):Er K B (tOp (rIn K neg) ta tb) ρ (.bool (if neg then !inV v xs else inV v xs)):=λG σ r=>Jk (ha G σ r) (hb G σ r) λG1 H u w Q s1 s2 hu hw k=>by
 obtain ⟨p,ys,rfl,hp,hy⟩:=hw.lst
 have e1:=hv _ _ hu
 have e2:=hx _ _ hy
 subst e1 e2
 exact ⟨p,_,rfl,.inl (SqL.of (s2 _ _ hp)),f1,f2,k _ G1 H (Yt.refl s2) (Yb _)⟩
end
end L2
namespace K46
open PySem L2 Frac Lw PySem.NumText Nm
open Ord Look Rdo Big Net
abbrev dBk (bk:List Str):PyData:=.tuple (bk.map .str)
abbrev dTh (f:List (Int×Int)):PyData:=.tuple (f.map dF)
abbrev dOr (o:Oe):PyData:=.tuple (o.w.map Wd.d)
theorem zcH {a b:List Str}(h:dBk a=dBk b):a=b:=by
 injection h with h
 exact (List.map_inj_right λx y e=>by injection e).mp h
def trD:Tr->PyData
 | .like=>.list [.str (S "like")]
 | .fld dn i=>.list [.str (wL dn),.int (i:Nat)]
 | .thn a b=>.list [.str (S "then"),trD a,trD b]
 | .turn a=>.list [.str (S "turn"),trD a]
 | .part p a dn i=>.list [.str (S "parted"),dF p,trD a,.list [.str (wL dn),.int (i:Nat)]]
def Tdp:Tr->Nat
 | .like=>0
 | .fld _ _=>0
 | .thn a b=>max (Tdp a) (Tdp b)+1
 | .turn a=>Tdp a+1
 | .part _ a _ _=>Tdp a+1
def zcz:Nat->Nat | 0=>2 | N+1=>13+2*zcz N
theorem Qj {a b:Nat}(h:a<=b):zcz a<=zcz b:=by
 induction h with
 | refl=>exact Nat.le_refl _
 | step _ ih=>rw[zcz];omega
theorem zc9 (bk:List Str):∀ t:Tr,(t.o bk).w.length<=zcz (Tdp t)
 | .like=>by show 1<=2;decide
 | .fld _ _=>by show 2<=2;decide
 | .thn a b=>by
  have h1:=zc9 bk a
  have h2:=zc9 bk b
  have h3:=Qj (Nat.le_max_left (Tdp a) (Tdp b))
  have h4:=Qj (Nat.le_max_right (Tdp a) (Tdp b))
  show (Wd.t (S "then")::((a.o bk).w++(b.o bk).w)).length<=zcz (max (Tdp a) (Tdp b)+1)
  rw[length_cons,length_append,zcz];omega
 | .turn a=>by
  have h1:=zc9 bk a
  show (Wd.t (S "turn")::(a.o bk).w).length<=zcz (Tdp a+1)
  rw[length_cons,zcz];omega
 | .part p a dn i=>by
  have h1:=zc9 bk a
  show (Wd.t (S "pick")::(_++((a.o bk).w++[_,_]))).length<=zcz (Tdp a+1)
  rw[length_cons,length_append,length_append,zcz]
  show 10+(_+2)+1<=_
  omega
inductive TvS (bk:List Str) (N:Nat):PyData->List Wd->Prop
 | like:TvS bk N (.list [.str (S "like")]) [.t (S "like")]
 | fld (dn:Bool) (i:Nat) (h:i<bk.length):TvS bk N (.list [.str (wL dn),.int (i:Nat)]) [.t (wL dn),.t (WF bk i)]
 | part (p:Int×Int) (a:Tr) (dn:Bool) (i:Nat) (h1:a.ok bk.length J7) (h2:Tdp a<N) (h3:i<bk.length):TvS bk N (.list [.str (S "parted"),dF p,trD a,trD (.fld dn i)]) (.t (S "pick")::([.t (S "or"),.t (S "both"),.t (S "under"),.t (WF bk i),.n p.1 p.2,.t (S "not"),.t (S "either"),.t (S "under"),.t (WF bk i),.n p.1 p.2]++((a.o bk).w++((Tr.fld dn i).o bk).w)))
 | many (wd:Str) (ts:List Tr) (h:wd=S "then" \/ wd=S "turn") (h1:∀ u∈ts,u.ok bk.length J7/\Tdp u<N) (h2:ts.length<=2):TvS bk N (.list (.str wd::ts.map trD)) (.t wd::ts.flatMap λu=>(u.o bk).w)
theorem zi7 {bk:List Str}{N:Nat}:∀ {t:Tr},t.ok bk.length J7->Tdp t<N+1->TvS bk N (trD t) (t.o bk).w
 | .like,_,_=>.like
 | .fld dn i,h,_=>.fld dn i h
 | .thn a b,h,hd=>by
  have hd:max (Tdp a) (Tdp b)+1<N+1:=hd
  have:=TvS.many (bk:=bk) (N:=N) (S "then") [a,b] (.inl rfl) (λu hu=>by
   rcases mem_cons.mp hu with rfl | hu
   ·exact ⟨h.1,by omega⟩
   ·rw[mem_singleton.mp hu];exact ⟨h.2,by omega⟩) (Nat.le_refl 2)
  simp only[List.flatMap_cons,List.flatMap_nil,append_nil] at this
  exact this
 | .turn a,h,hd=>by
  have hd:Tdp a+1<N+1:=hd
  have:=TvS.many (bk:=bk) (N:=N) (S "turn") [a] (.inr rfl) (λu hu=>by rw[mem_singleton.mp hu];exact ⟨h,by omega⟩) (le_succ 1)
  simp only[List.flatMap_cons,List.flatMap_nil,append_nil] at this
  exact this
 | .part p a dn i,h,hd=>TvS.part p a dn i h.2.1 (Nat.lt_of_succ_lt_succ hd) h.2.2
def cT:Nat->Nat | 0=>0 | N+1=>14+2*cT N
def zin (N n:Nat)(ds:List PyData):Prop:=∃ m dp:Nat,ds=[.int (m:Nat),.int (dp:Nat)]/\dp<N/\1<=m/\m<=4/\n+cT N<=10 ^ 5
inductive RTr (N n:Nat) (ds:List PyData) (x:PyData) (n' : Nat):Prop
 | mk (t:Tr) (_:x=trD t) (_:∀ m dp:Nat,ds=[.int (m:Nat),.int (dp:Nat)]->t.ok m J7) (_:Tdp t<N) (_:n' <= n+cT N):RTr N n ds x n'
def RWs (N:Nat):List PyData->PyData->Prop:=λas d=>∃ (t:Tr) (bk:List Str),as=[trD t,dBk bk]/\t.ok bk.length J7/\Tdp t<N/\N<=4/\d = .list ((t.o bk).w.map Wd.d)
def BkD (bk:List Str):Prop:=1<=bk.length/\bk.length<=4/\bk.Nodup/\∀ z∈bk,Ym z=none
def zhj (n:Nat)(ds:List PyData):Prop:=∃ bk:List Str,ds=[.int (bk.length:Nat),dBk bk]/\BkD bk/\n<=10 ^ 4
inductive ROd (n:Nat) (ds:List PyData) (x:PyData) (n' : Nat):Prop
 | mk (bk:List Str) (t:Tr) (_:ds=[.int (bk.length:Nat),dBk bk]) (_:x = .list [trD t,dOr (t.o bk)]) (_:t.ok bk.length J7) (_:Tdp t<3) (_:(t.o bk).w.length<=24) (_:n' <= n+98):ROd n ds x n'
variable {P:Program}{w:World}{K:PySem.W.Frag}{mg:Str->Option Value}{base:Heap}
theorem ziN {B:Hp}{ρ:List PV}{X:XK}{i c:Nat}{p:Addr}{fp:List Addr}{R:PV->List PV->Prop}(hi:ρ[i]?=some ((lkT K).pv c p fp))(hc:c<=10 ^ 6)(k:∀ dn:Bool,R (.dat (.str (wL dn))) (ρ.set i ((lkT K).pv (c+1) p fp))):
  Eg K B (tOp (za2 K) (zgp (Yh (tC (.str (S "up"))) (Yh (tC (.str (S "down"))) Q4))) (Jx (spT (lkT K) zgL RDw) [] X (Yh (XQ i) (Yh (tC (.int 2)) Q4)))) ρ R:=
 Xo (ZK (Xl (Zc Yd (Zc Yd Zq)) (by show 2<=sizeLine;decide)) ⟨_,rfl,Wj hi Zn hc (by decide) (by decide) λr hr=>by
  match r,hr with
  | 0,_=>exact ⟨_,.str (wL false),rfl,λG σ va vb ha hb=>YF (n:=0) (Y7 ha) (Y7 hb) rfl rfl,k false⟩
  | 1,_=>exact ⟨_,.str (wL true),rfl,λG σ va vb ha hb=>YF (n:=1) (Y7 ha) (Y7 hb) rfl rfl,k true⟩⟩)
theorem zdo (T:Top K mg):∀ N:Nat,T.Yx.O P w base (N+4) (spT (lkT K) (zin N) (RTr N))
 | 0=>T.Yx.F.okT Wt (by rintro _ _ ⟨_,_,rfl,_⟩;rfl) λcdv A outer s H E hr p fp n ds hP=>by
  obtain ⟨m,dp,_,h,_⟩:=hP
  exact absurd h (Nat.not_lt_zero _)
 | N+1=>by
  have G__law_tree:T.Yx.O P w base (N+4) (spT (lkT K) (zin N) (RTr N)):=zdo T N
  have G__law_next:T.Zw.O P w base (N+4) (spT (lkT K) zgL RDw):=(zcd T).mono (by omega)
  have G__law_number:T.Xi.O P w base (N+4) (spT (lkT K) zi3 RNm):=(zfk T).mono (by omega)
  refine T.Yx.F.okT Wt (by rintro _ _ ⟨_,_,rfl,_⟩;rfl) λcdv A outer s H E hr p fp n ds hP=>?_
  obtain ⟨m,dp,rfl,hdp,m1,m4,hn⟩:=hP
  rw[cT] at hn
  have eT:cT (N+1)=14+2*cT N:=rfl
  refine ⟨_,(Zf (ZQ (i:=3) Wt.nd rfl (Or.inl rfl) (peN T.Zw G__law_next hr (Za (pv 0) (Za Zi Zg Zb) Zd)))
   (Zf (ZQ (i:=4) Wt.nd rfl (Or.inl rfl) (Yg (Za (ZG (Zt (K:=K) rfl) (Yg (Za Zz (Za Zz Zg Zb) Zb)) (peN T.Zw G__law_next hr (Za (pv 0) (Za Zi Zg Zb) Zd)) (λ_ _=>rfl)) (Za (peN T.Zw G__law_next hr (Za (pv 0) (Za (pv 1) Zg Zd) Zd)) Zg Z8) Zk)))
   (Zf (Yk ((pw_or (ZF Xc (pv 2) Zi (ZV _)) (pw_or1 (ZF Vb (pv 3) Zi (ZV _))))).pt (Zo (ZD (ZG (Zt (K:=K) rfl) (Yg (Za (pv 4) (Za (pv 4) (Za (pv 4) (Za (pv 4) (Za (Yg (Za Zz Zg Zb)) Zg zbn) Zd) Zd) Zd) Zd)) (peN T.Zw G__law_next hr (Za (pv 0) (Za Zi Zg Zb) Zd)) (λ_ _=>rfl)))) ZL)
   (Zf (Yk (ZF Vb (pv 3) Zi (ZV _)) (Zo (ZD (Yg (Za Zz (Za (peN T.Yx G__law_tree hr (Za (pv 0) (Za (pv 1) (Za (ZX JN (pv 2) Zi) Zg Z0) Zd) Zd)) (Za (peN T.Yx G__law_tree hr (Za (pv 0) (Za (pv 1) (Za (ZX JN (pv 2) Zi) Zg Z0) Zd) Zd)) Zg Z8) Z8) Zb)))) ZL)
   (Zf (Yk (ZF Xc (pv 3) Zi (ZV _)) (Zo (ZD (Yg (Za Zz (Za (peN T.Yx G__law_tree hr (Za (pv 0) (Za (pv 1) (Za (ZX JN (pv 2) Zi) Zg Z0) Zd) Zd)) Zg Z8) Zb)))) ZL)
   (Zo (ZD (Yg (Za Zz (Za (peN T.Xi G__law_number hr (Za (pv 0) Zg Zd)) (Za (peN T.Yx G__law_tree hr (Za (pv 0) (Za (pv 1) (Za Zi Zg Zb) Zd) Zd)) (Za (pv 4) Zg Zd) Z8) Z8) Zb))))))))) ,?_⟩
  refine Zr (ZJ (Wj (c:=n) rfl Zn (by omega) (by decide) (by decide) λkd hkd=>?_))
  refine Zr (ZJ (Vw (Z4 (ziN (i:=0) (c:=n+1) rfl (by omega) λdn=>⟨_,rfl,Z4 (Wj (c:=n+2) rfl (Ze rfl) (by omega) (by omega) (by omega) λi hi=>⟨_,rfl,Z9 Zq ⟨by show 2<=sizeLine;decide,?_⟩⟩)⟩))))
  show Sv K B0 _ [(lkT K).pv (n+3) p fp,.dat (.int (m:Nat)),.dat (.int (dp:Nat)),.dat (.int (kd:Nat)),.dat (trD (.fld dn i))] _
  have lfO:∀ m' dp' : Nat,[PyData.int (m:Nat),.int (dp:Nat)]=[.int (m' : Nat),.int (dp' : Nat)]->m'=m:=λm' dp' e=>by
   injection e with e
   injection e with e
   omega
  refine Zr (W7 (zhM (Ye (zbS (Ze rfl) Zn)) λ_=>Ye (Y0 (Ze rfl) Zn λ_=>Yb _)) (λh=>?_) λh=>ZW ?_)
  ·refine Z6 (Xo (ZK (Xl (Zc (Ze rfl) (Zc (Ze rfl) (Zc (Ze rfl) (Zc (Ze rfl) (Zc (Xl (Zc Yd Zq) (by show 1<=sizeLine;decide)) Zq))))) (by show 5<=sizeLine;decide)) ⟨_,rfl,Wj (c:=n+3) rfl Zn (by omega) (by decide) (by decide) λr hr=>?_⟩))
   obtain ⟨t,hx1,hx2,ht,hd⟩:∃ t:Tr,ixN ([trD (.fld dn i),trD (.fld dn i),trD (.fld dn i),trD (.fld dn i),trD .like]).length (r:Nat)=some r/\([trD (.fld dn i),trD (.fld dn i),trD (.fld dn i),trD (.fld dn i),trD .like])[r]?=some (trD t)/\t.ok m J7/\Tdp t=0:=by
    have hi' : i<m:=by omega
    match r,hr with
    | 0,_=>exact ⟨.fld dn i,rfl,rfl,hi',rfl⟩
    | 1,_=>exact ⟨.fld dn i,rfl,rfl,hi',rfl⟩
    | 2,_=>exact ⟨.fld dn i,rfl,rfl,hi',rfl⟩
    | 3,_=>exact ⟨.fld dn i,rfl,rfl,hi',rfl⟩
    | 4,_=>exact ⟨.like,rfl,rfl,trivial,rfl⟩
   exact ⟨_,trD t,rfl,λG σ va vb ha hb=>YF (Y7 ha) (Y7 hb) hx1 hx2,_,n+4,rfl,⟨t,rfl,λm' dp' e=>by rw[lfO m' dp' e];exact ht,by omega,by omega⟩,rfl⟩
  rw[Bool.or_eq_false_iff] at h
  have hdp0:1<=dp:=by have:=of_decide_eq_false h.1;omega
  obtain ⟨dq,rfl⟩:∃ dq,dp=dq+1:=⟨dp-1,by omega⟩
  have dm:∀ {ρ:List PV},ρ[2]?=some (.dat (.int ((dq+1:Nat):Int)))->Er K B0 (tOp (rI0 λa b=>.int (a-b)) (XQ 2) (tC (.int 1))) ρ (.int (dq:Nat)):=λh=>Q6 (Y0 (Ze h) Zn λ_=>Zx _) (by congr 1;omega)
  refine Zr (W7 (Ye (Y0 (Ze rfl) Zn λ_=>Yb _)) (λh=>?_) λh=>ZW ?_)
  ·refine Z6 (Vw (Z4 (ZK Yd ⟨_,rfl,Z4 (YW (s:=n+3) rfl (Z9 (Zc (Ze rfl) (Zc (dm rfl) Zq)) ⟨n+3,rfl,⟨m,dq,rfl,by omega,m1,m4,by omega⟩,λx n1 hx=>?_⟩))⟩)))
   obtain ⟨a,rfl,ha,had,hn1⟩:=hx
   refine ⟨_,rfl,Z4 (YW (s:=n1) rfl (Z9 (Zc (Ze rfl) (Zc (dm rfl) Zq)) ⟨n1,rfl,⟨m,dq,rfl,by omega,m1,m4,by omega⟩,λx n2 hx=>?_⟩))⟩
   obtain ⟨b,rfl,hb,hbd,hn2⟩:=hx
   exact ⟨_,rfl,Z9 Zq ⟨by show 3<=sizeLine;decide,_,n2,rfl,⟨.thn a b,rfl,λm' dp' e=>by rw[lfO m' dp' e];exact ⟨ha _ _ rfl,hb _ _ rfl⟩,by show max (Tdp a) (Tdp b)+1<N+1;omega,by omega⟩,rfl⟩⟩
  refine Zr (W7 (Ye (zbS (Ze rfl) Zn)) (λh=>?_) λh=>ZW ?_)
  ·refine Z6 (Vw (Z4 (ZK Yd ⟨_,rfl,Z4 (YW (s:=n+3) rfl (Z9 (Zc (Ze rfl) (Zc (dm rfl) Zq)) ⟨n+3,rfl,⟨m,dq,rfl,by omega,m1,m4,by omega⟩,λx n1 hx=>?_⟩))⟩)))
   obtain ⟨a,rfl,ha,had,hn1⟩:=hx
   exact ⟨_,rfl,Z9 Zq ⟨by show 2<=sizeLine;decide,_,n1,rfl,⟨.turn a,rfl,λm' dp' e=>by rw[lfO m' dp' e];exact ha _ _ rfl,by show Tdp a+1<N+1;omega,by omega⟩,rfl⟩⟩
  ·refine Z6 (Vw (Z4 (ZK Yd ⟨_,rfl,Z4 (YW (s:=n+3) rfl (Z9 Zq ⟨n+3,rfl,⟨rfl,by omega⟩,λx n1 hx=>?_⟩))⟩)))
   obtain ⟨q,rfl,hq,_,hn1⟩:=hx
   refine ⟨_,rfl,Z4 (YW (s:=n1) rfl (Z9 (Zc (Ze rfl) (Zc Zn Zq)) ⟨n1,rfl,⟨m,0,rfl,by omega,m1,m4,by omega⟩,λx n2 hx=>?_⟩))⟩
   obtain ⟨a,rfl,ha,had,hn2⟩:=hx
   exact ⟨_,rfl,Z9 (Zc (Ze rfl) Zq) ⟨by show 4<=sizeLine;decide,_,n2,rfl,⟨.part q a dn i,rfl,λm' dp' e=>by rw[lfO m' dp' e];exact ⟨hq,ha _ _ rfl,by omega⟩,by show Tdp a+1<N+1;omega,by omega⟩,rfl⟩⟩
theorem zbI (T:Top K mg):∀ N:Nat,T.Yl.O P w base (N+1) (spP K (RWs N))
 | 0=>T.Yl.F.okP Yo (by rintro _ _ ⟨_,_,rfl,_⟩;rfl) λcdv A outer s H E hr ds d hR=>by
  obtain ⟨_,_,_,_,h,_⟩:=hR
  exact absurd h (Nat.not_lt_zero _)
 | N+1=>by
  have G__law_words:T.Yl.O P w base (N+1) (spP K (RWs N)):=zbI T N
  refine T.Yl.F.okP Yo (by rintro _ _ ⟨_,_,rfl,_⟩;rfl) λcdv A outer s H E hr ds d hR=>?_
  obtain ⟨t,bk,rfl,hok,hdp,hN,rfl⟩:=hR
  have hu:=hr.units
  have zl:(2000:Nat)<sizeLine:=by decide
  have hv:=zi7 hok hdp
  have hl3:zcz N<=107:=Qj (show N<=3 by omega)
  have ul:∀ {u:Tr},Tdp u<N->(u.o bk).w.length<=107:=λ{u} h=>le_trans (zc9 bk u) (le_trans (Qj (le_of_lt h)) hl3)
  refine ⟨_,(Zf (ZQ (i:=2) Yo.nd rfl (Or.inl rfl) (ZG (Zt (K:=K) rfl) (pv 0) Zi (λ_ _=>rfl)))
   (Zf (Yk (ZF Xc (pv 2) Zz (ZV _)) (Zo (ZD (Yg (Za (pv 2) Zg Zd)))) ZL)
   (Zf (Yk (ZF (zgH (K:=K) rfl hu) (pv 2) (Yz (Za Zz (Za Zz Zg Zb) Zb)) (by rfl)) (Zo (ZD (Yg (Za (pv 2) (Za (ZG (Z3 (K:=K) rfl) (pv 1) (ZG (Zt (K:=K) rfl) (pv 0) Zi (λ_ _=>rfl)) (λ_ _=>rfl)) Zg Zk) Zd)))) ZL)
   (Zf (Yk (ZF Xc (pv 2) Zz (ZV _)) (Zf (ZQ (i:=3) Yo.nd rfl (Or.inl rfl) (Yg (Za Zz (Za (ZG (Z3 (K:=K) rfl) (pv 1) (ZG (Zt (K:=K) rfl) (ZG (Zt (K:=K) rfl) (pv 0) Zi (λ_ _=>rfl)) Zi (λ_ _=>rfl)) (λ_ _=>rfl)) (Za (ZG (Zt (K:=K) rfl) (pv 0) Zi (λ_ _=>rfl)) Zg Zk) Zk) Zb)))
   (Zf (ZQ (i:=4) Yo.nd rfl (Or.inl rfl) (ZX Wq (ZX Wq (ZX Wq (Yg (Za Zz (Za Zz Zg Zb) Zb)) (pv 3)) (Yg (Za Zz (Za Zz Zg Zb) Zb))) (pv 3)))
   (Zo (ZD (ZX Wq (ZX Wq (ZX Wq (Yg (Za Zz Zg Zb)) (pv 4)) (peN T.Yl G__law_words hr (Za (ZG (Zt (K:=K) rfl) (pv 0) Zi (λ_ _=>rfl)) (Za (pv 1) Zg Zd) Zk))) (peN T.Yl G__law_words hr (Za (ZG (Zt (K:=K) rfl) (pv 0) Zi (λ_ _=>rfl)) (Za (pv 1) Zg Zd) Zk))))))) ZL)
   (Zf (ZQ (i:=5) Yo.nd rfl (Or.inl rfl) (Yg (Za (pv 2) Zg Zd)))
   (Zf (Qd PassesOwn.never rfl (zab (X4 (W9 (K:=K) rfl) (pv 0) (W3 Zi) WY)) (Xn (i:=6) Yo.nd rfl (Or.inl rfl)) (Zo (ZQ (i:=5) Yo.nd rfl (Or.inl rfl) (ZX Wq (pv 5) (peN T.Yl G__law_words hr (Za (pv 6) (Za (pv 1) Zg Zd) Zd))))))
   (Zo (ZD (pv 5))))))))) ,?_⟩
  generalize (t.o bk).w=ws at hv
  generalize trD t=x at hv
  clear hok hdp
  have bkAt:∀ {i:Nat},i<bk.length->ixN (bk.map PyData.str).length ((i:Nat):Int)=some i/\(bk.map PyData.str)[i]?=some (.str (WF bk i)):=λ{i} hi=>⟨by rw[length_map];exact Xb hi,by rw[getElem?_map,getElem?_eq_getElem hi,WF,getD_eq_getElem?_getD,getElem?_eq_getElem hi];rfl⟩
  have neq:∀ {ρ:List PV}{a b:Str}{i:Nat},ρ[i]?=some (.dat (.str a))->decide (a=b)=false->Et K B0 (Qs (tOp rEq (XQ i) (tC (.str b)))) ρ false:=λh e=>zd7 (Ye (Vg (Ze h) Yd)) e
  have yeq:∀ {ρ:List PV}{a b:Str}{i:Nat},ρ[i]?=some (.dat (.str a))->decide (a=b)=true->Et K B0 (Qs (tOp rEq (XQ i) (tC (.str b)))) ρ true:=λh e=>zd7 (Ye (Vg (Ze h) Yd)) e
  have inq:∀ {ρ:List PV}{a:Str}{b:Bool},(∀ c∈a.cps.toList,c<128)->ρ[2]?=some (.dat (.str a))->([PyData.str (S "up"),.str (S "down")].any λe=>PySem.Spec.same e (.str a))=b->Et K B0 (Qs (tOp (zgj K false) (XQ 2) (zg3 (Yh (tC (.str (S "up"))) (Yh (tC (.str (S "down"))) Q4))))) ρ b:=λhp h e=>zd7 (Ye (zgG (neg:=false) (Ze h) (X8 (Zc Yd (Zc Yd Zq)) (by show 2<=sizeLine;decide)) (zcS hp) (λe he=>by
   rcases mem_cons.mp he with rfl | he
   ·exact zcS (by decide +kernel)
   ·rw[mem_singleton.mp he];exact zcS (by decide +kernel)))) e
  cases hv with
  | like=>
   refine Zr (ZJ (ZK (Z2 (n:=0) (Ze rfl) Zn rfl rfl) ?_))
   exact Zr (QW (yeq rfl (by decide)) (Z6 (ZK (Xl (Zc (Ze rfl) Zq) (by show 1<=sizeLine;decide)) rfl)))
  | fld dn i hi=>
   refine Zr (ZJ (ZK (Z2 (n:=0) (Ze rfl) Zn rfl rfl) ?_))
   refine Zr (YJ (neq rfl (by cases dn <;> decide)) (ZW ?_))
   exact Zr (QW (inq (by cases dn <;> decide +kernel) rfl (by cases dn <;> rfl)) (Z6 (ZK (Xl (Zc (Ze rfl) (Zc (XH (Ze rfl) (Z2 (n:=1) (Ze rfl) Zn rfl rfl) (bkAt hi).1 (bkAt hi).2) Zq)) (by show 2<=sizeLine;decide)) rfl)))
  | part p a dn i h1 h2 h3=>
   have hal:=ul h2
   have hfl:=ul (u:=.fld dn i) (lt_of_le_of_lt (zero_le _) h2)
   refine Zr (ZJ (ZK (Z2 (n:=0) (Ze rfl) Zn rfl rfl) ?_))
   refine Zr (YJ (neq rfl (by decide)) (ZW ?_))
   refine Zr (YJ (inq (by decide +kernel) rfl rfl) (ZW ?_))
   refine Zr (QW (yeq rfl (by decide)) ?_)
   refine Zr (ZJ (ZK (Xl (Zc Yd (Zc (XH (Ze rfl) (Z2 (n:=1) (Z2 (n:=3) (Ze rfl) Zn rfl rfl) Zn rfl rfl) (bkAt h3).1 (bkAt h3).2) (Zc (Z2 (n:=1) (Ze rfl) Zn rfl rfl) Zq))) (by show 3<=sizeLine;decide)) ?_))
   have l2:∀ {a b:Str}{ρ:List PV},Er K B0 (zgp (Yh (tC (.str a)) (Yh (tC (.str b)) Q4))) ρ (.list [.str a,.str b]):=Xl (Zc Yd (Zc Yd Zq)) (by show 2<=sizeLine;decide)
   refine Zr (ZJ (ZK (WD (WD (WD l2 (Ze rfl) (by show 5<=sizeLine;decide)) l2 (by show 7<=sizeLine;decide)) (Ze rfl) (by show 10<=sizeLine;decide)) ?_))
   refine Z6 (ZK (Q6 (WD (WD (WD (Xl (Zc Yd Zq) (by show 1<=sizeLine;decide)) (Ze rfl) (by show 11<=sizeLine;decide)) (Yv (Zc (Z2 (n:=2) (Ze rfl) Zn rfl rfl) (Zc (Ze rfl) Zq)) ⟨a,bk,rfl,h1,h2,by omega,rfl⟩) (by rw[length_map];show 11+_<=_;omega)) (Yv (Zc (Z2 (n:=3) (Ze rfl) Zn rfl rfl) (Zc (Ze rfl) Zq)) ⟨.fld dn i,bk,rfl,h3,lt_of_le_of_lt (zero_le _) h2,by omega,rfl⟩) (by rw[length_map,length_append,length_map];show 11+_+_<=_;omega)) ?_) rfl)
   rw[map_cons,map_append,map_append]
   show PyData.list (_++_++_)=PyData.list _
   rw[append_assoc];rfl
  | many wd ts hw h1 h2=>
   refine Zr (ZJ (ZK (Z2 (n:=0) (Ze rfl) Zn (show ixN _ ((0:Nat):Int)=some 0 from Xb (Nat.succ_pos _)) rfl) ?_))
   refine Zr (YJ (neq rfl (by rcases hw with rfl | rfl <;> decide)) (ZW ?_))
   refine Zr (YJ (inq (by rcases hw with rfl | rfl <;> decide +kernel) rfl (by rcases hw with rfl | rfl <;> rfl)) (ZW ?_))
   refine Zr (YJ (neq rfl (by rcases hw with rfl | rfl <;> decide)) (ZW ?_))
   refine Zr (ZJ (ZK (Xl (Zc (Ze rfl) Zq) (by show 1<=sizeLine;decide)) ?_))
   have fl:∀ k,((ts.take k).flatMap λu=>(u.o bk).w).length<=107*k:=by
    intro k
    induction k with
    | zero=>simp
    | succ k ih=>
     by_cases hk:k<ts.length
     ·rw[take_succ,getElem?_eq_getElem hk,List.flatMap_append,length_append]
      have:=ul (h1 ts[k] (List.getElem_mem hk)).2
      have e:([ts[k]].flatMap λu=>(u.o bk).w)=(ts[k].o bk).w:=by simp
      show _+([ts[k]].flatMap λu=>(u.o bk).w).length<=_
      rw[e];omega
     ·rw[take_of_length_le (by omega)]
      rw[take_of_length_le (by omega)] at ih
      omega
   refine Zr (VH ts trD (zdE (Q6 (zbV (Ze rfl) zaM J5) (show _=PyData.list (ts.map trD) by rw[show (1:Int)=((1:Nat):Int) from rfl,zbX];rfl))) (λk ρ=>∃ v:PV,ρ=[.dat (.list (.str wd::ts.map trD)),.dat (dBk bk),.dat (.str wd),.un,.un,.dat (.list ((Wd.t wd::(ts.take k).flatMap λu=>(u.o bk).w).map Wd.d)),v]) ⟨_,rfl⟩ ?_ ?_)
   ·rintro k hk _ ⟨v,rfl⟩
    have hu1:=h1 ts[k] (List.getElem_mem hk)
    have hul:=ul hu1.2
    have hfk:=fl k
    refine QC (ZJ (ZK (Q6 (WD (Ze rfl) (Yv (Zc (Ze rfl) (Zc (Ze rfl) Zq)) ⟨ts[k],bk,rfl,hu1.1,hu1.2,by omega,rfl⟩) (by rw[length_map,length_map,length_cons];omega)) ?_) ⟨_,rfl⟩))
    rw[take_succ,getElem?_eq_getElem hk,List.flatMap_append,← map_append]
    have e:([ts[k]].flatMap λu=>(u.o bk).w)=(ts[k].o bk).w:=by simp
    show _=PyData.list (List.map Wd.d (Wd.t wd::(_++([ts[k]].flatMap λu=>(u.o bk).w))))
    rw[e];rfl
   ·rintro _ ⟨v,rfl⟩
    rw[take_length]
    exact Z6 (ZK (Ze rfl) rfl)
theorem zea (T:Top K mg):T.Wr.O P w base 8 (spT (lkT K) zhj ROd):=by
 have G__law_tree:=@zdo P w K mg base T 3
 have G__law_words:T.Yl.O P w base 7 (spP K (RWs 4)):=(zbI T 4).mono (by decide)
 refine T.Wr.F.okT W8 (by rintro _ _ ⟨_,rfl,_⟩;rfl) λcdv A outer s H E hr p fp n ds hP=>?_
 obtain ⟨bk,rfl,⟨hb1,hb4,hbd,hbw⟩,hn⟩:=hP
 have e3:cT 3=98:=rfl
 refine ⟨_,(Zf (ZQ (i:=3) W8.nd rfl (Or.inl rfl) (peN T.Yx G__law_tree hr (Za (pv 0) (Za (pv 1) (Za Zi Zg Zb) Zd) Zd)))
   (Zf (Yk (ZF za8 (Yq (YB (K:=K) rfl) (by rfl) T.zcB PySem.boot_len (Za (peN T.Yl G__law_words hr (Za (pv 3) (Za (pv 2) Zg Zd) Zd)) Zg Z8)) Zi (ZV _)) (Zo (ZQ (i:=3) W8.nd rfl (Or.inl rfl) (Yg (Za Zz (Za (Yg (Za Zz (Za Zi Zg Zb) Zb)) (Za (Yg (Za Zz (Za (ZX JN (pv 1) Zi) Zg Z0) Zb)) Zg zbn) zbn) Zb)))) ZL)
   (Zo (ZD (Yg (Za (pv 3) (Za (YC (Xd (K:=K) rfl) (by rfl) T.J8 zeW (Za (peN T.Yl G__law_words hr (Za (pv 3) (Za (pv 2) Zg Zd) Zd)) Zg Z8)) Zg Z8) Zd)))))) ,?_⟩
 refine Zr (ZJ (YW (s:=n) rfl (Z9 (Zc (Ze rfl) (Zc Zn Zq)) ⟨n,rfl,⟨bk.length,2,rfl,by decide,hb1,hb4,by omega⟩,λx n1 hx=>?_⟩)))
 obtain ⟨t,rfl,ht,htd,hn1⟩:=hx
 have ht:=ht _ _ rfl
 refine U5 (fun ρ=>∃ t:Tr,t.ok bk.length J7/\Tdp t<3/\(t.o bk).w.length<=24/\ρ=[(lkT K).pv n1 p fp,.dat (.int (bk.length:Nat)),.dat (dBk bk),.dat (trD t)]) ?_ ?_
 ·refine W7 (Ye (Y0 (UW (Zc (Yv (Zc (Ze rfl) (Zc (Ze rfl) Zq)) ⟨t,bk,rfl,ht,by omega,by decide,rfl⟩) Zq)) Zn λ_=>Yb _)) (λh=>?_) λh=>?_
  ·refine ZJ (ZK (Xl (Zc Yd (Zc (Xl (Zc Yd (Zc Zn Zq)) (by show 2<=sizeLine;decide)) (Zc (Xl (Zc Yd (Zc (Q6 (Y0 (Ze rfl) Zn λ_=>Zx _) (show _=PyData.int ((bk.length-1:Nat):Int) by congr 1;omega)) Zq)) (by show 2<=sizeLine;decide)) Zq))) (by show 3<=sizeLine;decide)) ⟨.thn (.fld true 0) (.fld false (bk.length-1)),⟨by show 0<bk.length;omega,by show bk.length-1<bk.length;omega⟩,by show max 0 0+1<3;decide,?_,rfl⟩)
   show 5<=24
   decide
  ·refine ZW ⟨t,ht,htd,?_,rfl⟩
   have h:=of_decide_eq_false h
   rw[length_map] at h
   omega
 rintro _ ⟨t,ht,htd,hl,rfl⟩
 exact Z6 (ZK (Xl (Zc (Ze rfl) (Zc (Jv (Zc (Yv (Zc (Ze rfl) (Zc (Ze rfl) Zq)) ⟨t,bk,rfl,ht,by omega,by decide,rfl⟩) Zq)) Zq)) (by show 2<=sizeLine;decide)) ⟨_,n1,rfl,⟨bk,t,rfl,rfl,ht,htd,hl,by omega⟩,rfl⟩)
abbrev w14:List Str:=[S "like",S "up",S "down",S "then",S "turn",S "pick",S "same",S "both",S "either",S "not",S "and",S "or",S "under",S "is"]
abbrev wsT:Str:=S "like up down then turn pick same both either not and or under is"
abbrev ltT:Str:=S "qwertyuiopasdfghjklzxcvbnm"
abbrev v4:List Str:=[S "va",S "vb",S "vc",S "vd"]
theorem zgN:Txt.split wsT ⟨#[32]⟩=w14:=by decide +kernel
theorem zgu:∀ r∈Q5,r.1∈w14:=by decide +kernel
theorem zdL {z:Str}(h:z∉w14):Ym z=none:=by
 cases e:Ym z with
 | none=>rfl
 | some r=>
  obtain ⟨h1,h2⟩:=VM e
  exact absurd (h2 ▸ zgu r h1) h
theorem zji:∀ z∈v4,z∉w14:=by decide +kernel
theorem zfe {α:Type}[DecidableEq α]:∀ {ks found:List α},ks.Nodup->(∀ k∈ks,k∈found)->ks.length<=found.length
 | [],_,_,_=>zero_le _
 | k::ks,found,nd,h=>by
  have hk:=h k mem_cons_self
  have nd' := nodup_cons.mp nd
  have:=zfe (found:=found.erase k) nd'.2 (λx hx=>(List.mem_erase_of_ne (λe=>nd'.1 (by rw[← e];exact hx))).mpr (h x (mem_cons_of_mem _ hx)))
  rw[List.length_erase_of_mem hk] at this
  have:=List.length_pos_of_mem hk
  rw[length_cons];omega
theorem zfY {fs:List Str}(h:fs.length<=3):∃ z l,v4.filterMap (λz=>if (!decide (z∈fs))=true then some (PyData.str z) else none) = .str z::l/\z∈v4/\z∉fs:=by
 have hx:∃ z∈v4,z∉fs:=by
  apply Classical.byContradiction
  intro hn
  have:=zfe (ks:=v4) (found:=fs) (by decide +kernel) λk hk=>Classical.byContradiction λhk2=>hn ⟨k,hk,hk2⟩
  have:4<=fs.length:=this
  omega
 generalize v4=l at hx
 induction l with
 | nil=>obtain ⟨z,hz,_⟩:=hx;cases hz
 | cons a l ih=>
  rw[filterMap_cons]
  by_cases ha:a∈fs
  ·rw[decide_eq_true ha]
   obtain ⟨z,hz,hzf⟩:=hx
   rcases mem_cons.mp hz with rfl | hz
   ·exact absurd ha hzf
   ·obtain ⟨z',l',e,h1,h2⟩:=ih ⟨z,hz,hzf⟩
    exact ⟨z',l',e,mem_cons_of_mem _ h1,h2⟩
  ·rw[decide_eq_false ha]
   exact ⟨a,_,rfl,mem_cons_self,ha⟩
inductive RBk (n:Nat) (ds:List PyData) (x:PyData) (n' : Nat):Prop
 | mk (bk:List Str) (_:x=dBk bk) (_:BkD bk) (_:n' <= n+37):RBk n ds x n'
theorem zga (T:Top K mg):T.W4.O P w base 3 (spT (lkT K) zi3 RBk):=by
 have G__law_next:=@zcd P w K mg base T
 refine T.W4.F.okT YQ (by rintro _ _ ⟨rfl,_⟩;rfl) λcdv A outer s H E hr p fp n ds hP=>?_
 obtain ⟨rfl,hn⟩:=hP
 have zl:(2000:Nat)<sizeLine:=by decide
 refine ⟨_,(Zf (ZQ (i:=1) YQ.nd rfl (Or.inr rfl) Zz)
   (Zf (ZQ (i:=2) YQ.nd rfl (Or.inr rfl) (Yg Zg))
   (Zf (Qd PassesOwn.never rfl (Xj (by rfl) T.JQ (Za (ZX Xz Zi (peN T.Zw G__law_next hr (Za (pv 0) (Za Zi Zg Zb) Zd))) Zg Z0)) (Xn (i:=3) YQ.nd rfl (Or.inl rfl)) (Zf (ZQ (i:=4) YQ.nd rfl (Or.inl rfl) (Ui PySem.F.plainAttrs_str PySem.F.slot_str_join PySem.F.type_str_join (zgz (K:=K) rfl) Zz (Za (zbh (x:= "j") (cap:=["letters", "deck"]) (js:=[1,0]) ⟨rfl,by decide +kernel,by decide +kernel,rfl,(by show ∀ p∈(_:List (Str×NameKind)),p.2=NameKind.free->List.lookup p.1 (Zj Wi).names=some NameKind.cell;decide +kernel),by decide +kernel,by decide +kernel,by decide +kernel⟩ rfl rfl (λ_ _ h=>h) (Xj (by rfl) T.JQ (Za (ZX Xz Zi (peN T.Zw G__law_next hr (Za (pv 0) (Za Zi Zg Zb) Zd))) Zg Z0)) (λ_ _ _ _=>⟨WW,(ZG zhB (pv 1) (peN T.Zw G__law_next hr (Za (pv 2) (Za Zi Zg Zb) Zd)) (λ_ _=>rfl))⟩)) Zg Vp)))
   (Zf (ZQ (i:=5) YQ.nd rfl (Or.inl rfl) Zz)
   (Zf (Yk (ZF (zgZ (K:=K) rfl) (pv 4) (ZX Wq (pv 2) (Ui PySem.F.plainAttrs_str PySem.F.slot_str_split PySem.F.type_str_split zer (pv 5) (Za Zz Zg Zb))) (by rfl)) (Zo (ZQ (i:=4) YQ.nd rfl (Or.inl rfl) (ZG (Zt (K:=K) rfl) (zbh (x:= "one") (cap:=["found"]) (js:=[2]) ⟨rfl,by decide +kernel,by decide +kernel,rfl,(by show ∀ p∈(_:List (Str×NameKind)),p.2=NameKind.free->List.lookup p.1 (Zj Wi).names=some NameKind.cell;decide +kernel),by decide +kernel,by decide +kernel,by decide +kernel⟩ rfl rfl (λ_ _ h=>h) (zab (Yg (Za Zz (Za Zz (Za Zz (Za Zz Zg Zb) Zb) Zb) Zb))) (λ_ _ _ _=>⟨(zcZ (ZF (ze4 (K:=K) rfl) (pv 0) (pv 1) (by rfl))),(pv 0)⟩)) Zi (λ_ _=>rfl)))) ZL)
   (Zo (Jq (Ui plainAttrs_list PySem.F.slot_list_append PySem.F.type_list_append XC (pv 2) (Za (pv 4) Zg Zd))))))))
   (Zo (ZD (YC (Xd (K:=K) rfl) (by rfl) T.J8 zeW (Za (pv 2) Zg Zd))))))) ,?_⟩
 refine Zr (ZJ (ZK Yd ?_))
 refine Zr (ZJ (za0 Zq (zero_le _) ?_))
 refine Zr (zfV (zag (Z4 (Xo (ZK Zn ⟨_,rfl,Wj (c:=n) rfl Zn (by omega) (by decide) (by decide) λr hr=>⟨_,.int ((1+r:Nat):Int),rfl,λG σ va vb ha hb=>zb1 (Vc (Y7 ha) (Y7 hb) (Zx _)) (by congr 1),_,rfl,Z9 Zq ⟨1+r,rfl,by omega,?_⟩⟩⟩)))))
 refine ⟨λi ρ=>∃ (c:Nat) (fs:List Str) (v3 v4 v5:PV),c<=n+1+9*i/\fs.length=i/\fs.Nodup/\(∀ z∈fs,Ym z=none)/\ρ=[(lkT K).pv c p fp,.dat (.str ltT),.own (fs.map PyData.str),v3,v4,v5],⟨n+1,[],_,_,_,by omega,rfl,List.nodup_nil,λ_ h=>(by cases h),rfl⟩,?_,?_⟩
 ·rintro i hi _ ⟨c,fs,v3,v4',v5,hc,hfl,hfd,hfw,rfl⟩
  rw[length_map,length_range] at hi
  have ei:((List.range (1+r)).map λ(i:Nat)=>PyData.int (i:Nat))[i]'(by rw[length_map,length_range];exact hi)=PyData.int (i:Nat):=by simp
  rw[ei]
  refine QC (Zr (ZJ (zgw (zcU (zaH (D:=lkT K) (p:=p) (fp:=fp) (i:=0) (kp:=1) rfl (zag (Z4 (Xo (ZK Zn ⟨_,rfl,Wj (c:=c) rfl Zn (by omega) (by decide) (by decide) λm hm=>⟨_,.int ((1+m:Nat):Int),rfl,λG σ va vb ha hb=>zb1 (Vc (Y7 ha) (Y7 hb) (Zx _)) (by congr 1),_,rfl,Z9 Zq ⟨1+m,rfl,by omega,c+1,λk out c' => c'=c+1+k/\∃ cs:List Nat,out=cs.map (λc=>PyData.str ⟨#[c]⟩),rfl,by rw[length_map,length_range];omega,⟨rfl,[],rfl⟩,?_,?_⟩⟩⟩)))))))))
  ·rintro k hk out _ ⟨rfl,cs,rfl⟩ _
   rw[length_map,length_range] at hk
   refine Xo (ZK (Ze rfl) ⟨_,rfl,Wj (i:=2) (c:=c+1+k) rfl Zn (by omega) (by decide) (by decide) λq hq=>?_⟩)
   have h26:(26:Nat)=ltT.cps.toList.length:=by decide +kernel
   have hq' : q<ltT.cps.toList.length:=by omega
   exact ⟨_,.str ⟨#[ltT.cps.toList[q]]⟩,rfl,λG σ va vb ha hb=>Jk (Y7 ha) (Y7 hb) λG1 H u v Q s1 s2 hu hv k=>⟨ltT,(q:Nat),_,hu.str,hv.int,by decide,zfS (getElem?_eq_getElem hq'),k _ G1 H (Yt.refl s2) (YZ _)⟩,_,c+1+k+1,rfl,rfl,by omega,cs++[ltT.cps.toList[q]],by rw[map_append];rfl⟩
  ·rintro out _ ⟨rfl,cs,rfl⟩ hol
   rw[length_map,length_map,length_range] at hol
   rw[length_map,length_range]
   have hsum:∀ l:List Nat,((l.map λc=>(⟨#[c]⟩:Str)).map (·.length)).sum=l.length:=λl=>by
    induction l with
    | nil=>rfl
    | cons a l ih=>rw[map_cons,map_cons,List.sum_cons,ih,length_cons];show 1+_=_;omega
   refine ⟨_,rfl,cs.map λc=>(⟨#[c]⟩:Str),by rw[map_map];rfl,by rw[hsum,length_map];show _+_*0<=_;omega,?_⟩
   generalize Txt.join (S "") (cs.map λc=>(⟨#[c]⟩:Str))=nm
   refine Zr (ZJ (ZK Yd ?_))
   show Sv K B0 _ [(lkT K).pv (c+1+(1+m)) p fp,.dat (.str ltT),.own (fs.map PyData.str),.dat (.int (i:Nat)),.dat (.str nm),.dat (.str wsT)] _
   refine U5 (fun ρ=>∃ z:Str,z∉fs/\Ym z=none/\ρ=[(lkT K).pv (c+1+(1+m)) p fp,.dat (.str ltT),.own (fs.map PyData.str),.dat (.int (i:Nat)),.dat (.str z),.dat (.str wsT)]) ?_ ?_
   ·refine W7 (zd7 (Ye (zfy (neg:=false) (v:=.str nm) (xs:=(fs++w14).map V.str) (Ze rfl) (Q6 (WD (Xx rfl rfl) (Q6 (zeJ (Ze rfl) (Zc Yd Zq) (by decide)) (show _=PyData.list (w14.map .str) from congrArg (λl=>PyData.list (l.map .str)) zgN)) (by rw[length_map,length_map];show fs.length+14<=_;omega)) (show _=PyData.list ((fs++w14).map .str) by rw[map_append])) (λG u h=>h.str) (λG us h=>zad h) rfl (by rw[List.all_map];exact List.all_eq_true.mpr λ_ _=>rfl))) (show _=decide (nm∈fs++w14) by rw[← zbY];rfl)) (λh=>?_) λh=>?_
    ·obtain ⟨z,l,e,hz,hzf⟩:=zfY (fs:=fs) (by omega)
     refine ZJ (Js (Z2 (n:=0) (d:=.str z) (Q6 (zeU (js:=[2]) v4 PyData.str (λz=>if (!decide (z∈fs))=true then some (PyData.str z) else none) (zdE (Xl (Zc Yd (Zc Yd (Zc Yd (Zc Yd Zq)))) (by show 4<=sizeLine;decide))) (by show 4<sizeLine;decide) λy hy=>lxB (zd7 (Ye (zfy (neg:=true) (v:=.str y) (xs:=fs.map V.str) (Ze rfl) (Xx rfl rfl) (λG u h=>h.str) (λG us h=>zad h) rfl (by rw[List.all_map];exact List.all_eq_true.mpr λ_ _=>rfl))) (show _ = !decide (y∈fs) by rw[← zbY];rfl)) λ_=>Ze rfl) (congrArg PyData.list e)) Zn (show ixN _ ((0:Nat):Int)=some 0 from Xb (Nat.succ_pos _)) rfl) rfl ⟨z,hzf,zdL (zji z hz),rfl⟩)
    ·have h:=of_decide_eq_false h
     exact ZW ⟨nm,λz=>h (List.mem_append_left _ z),zdL λz=>h (mem_append_right _ z),rfl⟩
   ·rintro _ ⟨z,hz,hw,rfl⟩
    refine zaI (i:=2) (ZK (Ze rfl) ⟨_,_,fs.map PyData.str,rfl,rfl,rfl,by rw[length_map];omega,c+1+(1+m),fs++[z],.dat (.int (i:Nat)),.dat (.str z),.dat (.str wsT),by omega,by rw[length_append,hfl];rfl,?_,λy hy=>?_,by rw[map_append];rfl⟩) rfl rfl
    ·rw[nodup_append]
     exact ⟨hfd,nodup_cons.mpr ⟨λh=>(by cases h),List.nodup_nil⟩,λa ha b hb e=>hz (by rw[← mem_singleton.mp hb,← e];exact ha)⟩
    ·rcases mem_append.mp hy with h | h
     ·exact hfw y h
     ·rw[mem_singleton.mp h];exact hw
 ·rintro _ ⟨c,fs,v3,v4',v5,hc,hfl,hfd,hfw,rfl⟩
  rw[length_map,length_range] at hc hfl
  refine Jt 2 rfl ?_
  exact Z6 (ZK (Jv (Zc (Ze rfl) Zq)) ⟨_,c,rfl,⟨fs,rfl,⟨by omega,by omega,hfd,hfw⟩,by omega⟩,rfl⟩)
def RFa:List PyData->PyData->Prop:=λas d=>∃ a b:Int×Int,as=[dF a,dF b]/\Sz a/\Sz b/\d = .int (Uj a b)
def RSd (N:Nat):List PyData->PyData->Prop:=λas d=>∃ (t:Tr) (f g:List (Int×Int)),as=[trD t,dTh f,dTh g]/\t.ok f.length J7/\g.length=f.length/\(∀ p∈f,J7 p)/\(∀ p∈g,J7 p)/\Tdp t<N/\d = .int (t.sd f g)
theorem zie {σ:St}{G:Hp}{ta tb:TE}{x y:Bool}(ha:Ev K ta σ G (.bool x))(hb:Ev K tb σ G (.bool y)):Ev K (tOp rNe ta tb) σ G (.bool (!decide (x=y))):=
 Jk ha hb λG1 H u v Q s1 s2 hu hv k=>by
  rw[hu.bl,hv.bl]
  refine ⟨rfl,?_⟩
  have e:decide (V.bl x=V.bl y)=decide (x=y):=decide_eq_decide.mpr ⟨λz=>by injection z,λz=>by rw[z]⟩
  rw[e]
  exact k _ G1 H (Yt.refl s2) (Yb _)
theorem zh1 (T:Top K mg):T.X7.O P w base 1 (spP K RFa):=by
 refine T.X7.F.okP zbd (by rintro _ _ ⟨a,b,rfl,_⟩;rfl) λcdv A outer s H E hr ds d hR=>?_
 obtain ⟨a,b,rfl,ha,hb,rfl⟩:=hR
 have p1:(10:Nat) ^ 40<10 ^ 100:=pow_lt_pow_right (by decide) (by decide)
 have q:∀ {i:Int},i.natAbs<10 ^ 40->i.natAbs<10 ^ 100:=λh=>lt_trans h p1
 refine ⟨_,(Zo (ZD (ZX JN (ZX Wf (ZG (Z3 (K:=K) rfl) (pv 0) Zi (λ_ _=>rfl)) (ZG (Z3 (K:=K) rfl) (pv 1) Zi (λ_ _=>rfl))) (ZX Wf (ZG (Z3 (K:=K) rfl) (pv 1) Zi (λ_ _=>rfl)) (ZG (Z3 (K:=K) rfl) (pv 0) Zi (λ_ _=>rfl)))))) ,?_⟩
 have i0:∀ {i:Nat}{x:Int×Int}{ρ:List PV},ρ[i]?=some (.dat (dF x))->Er K B0 (tOp (zd5 K) (XQ i) (tC (.int 0))) ρ (.int x.1):=λh=>XH (n:=0) (Ze h) Zn rfl rfl
 have i1:∀ {i:Nat}{x:Int×Int}{ρ:List PV},ρ[i]?=some (.dat (dF x))->Er K B0 (tOp (zd5 K) (XQ i) (tC (.int 1))) ρ (.int x.2):=λh=>XH (n:=1) (Ze h) Zn rfl rfl
 exact Z6 (ZK (Y0 (Wv (i0 (x:=a) rfl) (i1 (x:=b) rfl) (mw (q ha.1) (q hb.2)) λ_=>Zx _) (Wv (i0 (x:=b) rfl) (i1 (x:=a) rfl) (mw (q hb.1) (q ha.2)) λ_=>Zx _) λ_=>Zx _) rfl)
theorem zcO (T:Top K mg):∀ N:Nat,T.Yu.O P w base (N+1) (spP K (RSd N))
 | 0=>T.Yu.F.okP Xe (by rintro _ _ ⟨_,_,_,rfl,_⟩;rfl) λcdv A outer s H E hr ds d hR=>by
  obtain ⟨_,_,_,_,_,_,_,_,h,_⟩:=hR
  exact absurd h (Nat.not_lt_zero _)
 | N+1=>by
  have G__law_side:T.Yu.O P w base (N+1) (spP K (RSd N)):=zcO T N
  have G__law_far:T.X7.O P w base (N+1) (spP K RFa):=(zh1 T).mono (by omega)
  refine T.Yu.F.okP Xe (by rintro _ _ ⟨_,_,_,rfl,_⟩;rfl) λcdv A outer s H E hr ds d hR=>?_
  obtain ⟨t,f,g,rfl,hok,hgl,hf,hg,hdp,rfl⟩:=hR
  have neq:∀ {ρ:List PV}{a b:Str}{i:Nat},ρ[i]?=some (.dat (.str a))->decide (a=b)=false->Et K B0 (Qs (tOp rEq (XQ i) (tC (.str b)))) ρ false:=λh e=>zd7 (Ye (Vg (Ze h) Yd)) e
  have yeq:∀ {ρ:List PV}{a b:Str}{i:Nat},ρ[i]?=some (.dat (.str a))->decide (a=b)=true->Et K B0 (Qs (tOp rEq (XQ i) (tC (.str b)))) ρ true:=λh e=>zd7 (Ye (Vg (Ze h) Yd)) e
  have gv:∀ {h:List (Int×Int)}{i:Nat},(∀ p∈h,J7 p)->i<h.length->ixN (h.map dF).length ((i:Nat):Int)=some i/\(h.map dF)[i]?=some (dF (XF h i))/\Sz (XF h i):=λ{h i} hh hi=>by
   have e:XF h i=h[i]:=by rw[XF,getD_eq_getElem?_getD,getElem?_eq_getElem hi];rfl
   exact ⟨by rw[length_map];exact Xb hi,by rw[getElem?_map,getElem?_eq_getElem hi,e];rfl,by rw[e];exact (hh _ (List.getElem_mem hi)).1⟩
  refine ⟨_,(Zf (ZQ (i:=3) Xe.nd rfl (Or.inl rfl) (ZG (Zt (K:=K) rfl) (pv 0) Zi (λ_ _=>rfl)))
   (Zf (Yk (ZF Xc (pv 3) Zz (ZV _)) (Zo (ZD Zi)) ZL)
   (Zf (Yk (ZF Xc (pv 3) Zz (ZV _)) (Zo (ZD (peN T.X7 G__law_far hr (Za (ZG (Z3 (K:=K) rfl) (pv 1) (ZG (Zt (K:=K) rfl) (pv 0) Zi (λ_ _=>rfl)) (λ_ _=>rfl)) (Za (ZG (Z3 (K:=K) rfl) (pv 2) (ZG (Zt (K:=K) rfl) (pv 0) Zi (λ_ _=>rfl)) (λ_ _=>rfl)) Zg Zk) Zk)))) ZL)
   (Zf (Yk (ZF Xc (pv 3) Zz (ZV _)) (Zo (ZD (peN T.X7 G__law_far hr (Za (ZG (Z3 (K:=K) rfl) (pv 2) (ZG (Zt (K:=K) rfl) (pv 0) Zi (λ_ _=>rfl)) (λ_ _=>rfl)) (Za (ZG (Z3 (K:=K) rfl) (pv 1) (ZG (Zt (K:=K) rfl) (pv 0) Zi (λ_ _=>rfl)) (λ_ _=>rfl)) Zg Zk) Zk)))) ZL)
   (Zf (Yk (ZF Xc (pv 3) Zz (ZV _)) (Zo (ZD (peN T.Yu G__law_side hr (Za (ZG (Zt (K:=K) rfl) (pv 0) Zi (λ_ _=>rfl)) (Za (pv 2) (Za (pv 1) Zg Zd) Zd) Zk)))) ZL)
   (Zf (Yk (ZF Xc (pv 3) Zz (ZV _)) (Zf (ZQ (i:=4) Xe.nd rfl (Or.inl rfl) (peN T.Yu G__law_side hr (Za (ZG (Zt (K:=K) rfl) (pv 0) Zi (λ_ _=>rfl)) (Za (pv 1) (Za (pv 2) Zg Zd) Zd) Zk)))
   (Zf (Yk (ZF zix (pv 4) Zi (ZV _)) (Zo (ZD (pv 4))) ZL)
   (Zo (ZD (peN T.Yu G__law_side hr (Za (ZG (Zt (K:=K) rfl) (pv 0) Zi (λ_ _=>rfl)) (Za (pv 1) (Za (pv 2) Zg Zd) Zd) Zk)))))) ZL)
   (Zf (ZQ (i:=5) Xe.nd rfl (Or.inr rfl) (ZG (Zt (K:=K) rfl) (ZG (Zt (K:=K) rfl) (pv 0) Zi (λ_ _=>rfl)) Zi (λ_ _=>rfl)))
   (Zf (zej (x:= "thing") (cap:=["field", "tree"]) (js:=[5,0]) (i:=6) (y:= "marks") ⟨rfl,by decide +kernel,by decide +kernel,rfl,(by show ∀ p∈(_:List (Str×NameKind)),p.2=NameKind.free->List.lookup p.1 (Zj W5).names=some NameKind.cell;decide +kernel),by decide +kernel,by decide +kernel,by decide +kernel⟩ rfl rfl (λ_ _ h=>h) Xe.nd rfl rfl (zbs (Yz (Za (pv 1) (Za (pv 2) Zg Zd) Zd))) (λ_ _ _ _=>⟨WW,(J2 Vb (peN T.X7 G__law_far hr (Za (ZG (Z3 (K:=K) rfl) (pv 0) (pv 1) (λ_ _=>rfl)) (Za (ZG (Zt (K:=K) rfl) (pv 2) Zi (λ_ _=>rfl)) Zg Zk) Zk)) Zi (ZV _))⟩))
   (Zo (ZD (peN T.Yu G__law_side hr (Za (ZG (Zt (K:=K) rfl) (pv 0) (ZX Xz Zi (YC Vl (by rfl) T.int_ zjl (Za (J2 zix (ZG (Zt (K:=K) rfl) (pv 6) Zi (λ_ _=>rfl)) (ZG (Zt (K:=K) rfl) (pv 6) Zi (λ_ _=>rfl)) (ZV _)) Zg JG))) (λ_ _=>rfl)) (Za (pv 1) (Za (pv 2) Zg Zd) Zd) Zk)))))))))))) ,?_⟩
  cases t with
  | like=>
   refine Zr (ZJ (ZK (Z2 (n:=0) (Ze rfl) Zn rfl rfl) ?_))
   exact Zr (QW (yeq rfl (by decide)) (Z6 (ZK Zn rfl)))
  | fld dn i=>
   have hi:i<f.length:=hok
   obtain ⟨f1,f2,f3⟩:=gv hf hi
   obtain ⟨g1,g2,g3⟩:=gv hg (show i<g.length by omega)
   refine Zr (ZJ (ZK (Z2 (n:=0) (Ze rfl) Zn rfl rfl) ?_))
   refine Zr (YJ (neq rfl (by cases dn <;> decide)) (ZW ?_))
   have aO:∀ {ρ:List PV},ρ[0]?=some (.dat (trD (.fld dn i)))->ρ[1]?=some (.dat (dTh f))->Er K B0 (tOp (zd5 K) (XQ 1) (tOp (za2 K) (XQ 0) (tC (.int 1)))) ρ (dF (XF f i)):=λh0 h1=>XH (Ze h1) (Z2 (n:=1) (Ze h0) Zn rfl rfl) f1 f2
   have aX:∀ {ρ:List PV},ρ[0]?=some (.dat (trD (.fld dn i)))->ρ[2]?=some (.dat (dTh g))->Er K B0 (tOp (zd5 K) (XQ 2) (tOp (za2 K) (XQ 0) (tC (.int 1)))) ρ (dF (XF g i)):=λh0 h1=>XH (Ze h1) (Z2 (n:=1) (Ze h0) Zn rfl rfl) g1 g2
   cases dn with
   | false=>exact Zr (QW (yeq rfl (by decide)) (Z6 (ZK (Yv (Zc (aO rfl rfl) (Zc (aX rfl rfl) Zq)) ⟨_,_,rfl,f3,g3,rfl⟩) rfl)))
   | true=>
    refine Zr (YJ (neq rfl (by decide)) (ZW ?_))
    exact Zr (QW (yeq rfl (by decide)) (Z6 (ZK (Yv (Zc (aX rfl rfl) (Zc (aO rfl rfl) Zq)) ⟨_,_,rfl,g3,f3,rfl⟩) rfl)))
  | turn a=>
   refine Zr (ZJ (ZK (Z2 (n:=0) (Ze rfl) Zn rfl rfl) ?_))
   refine Zr (YJ (neq rfl (by decide)) (ZW ?_))
   refine Zr (YJ (neq rfl (by decide)) (ZW ?_))
   refine Zr (YJ (neq rfl (by decide)) (ZW ?_))
   exact Zr (QW (yeq rfl (by decide)) (Z6 (ZK (Yv (Zc (Z2 (n:=1) (Ze rfl) Zn rfl rfl) (Zc (Ze rfl) (Zc (Ze rfl) Zq))) ⟨a,g,f,rfl,by rw[hgl];exact hok,hgl.symm,hg,hf,Nat.lt_of_succ_lt_succ hdp,rfl⟩) rfl)))
  | thn a b=>
   have hdp:max (Tdp a) (Tdp b)+1<N+1:=hdp
   refine Zr (ZJ (ZK (Z2 (n:=0) (Ze rfl) Zn rfl rfl) ?_))
   refine Zr (YJ (neq rfl (by decide)) (ZW ?_))
   refine Zr (YJ (neq rfl (by decide)) (ZW ?_))
   refine Zr (YJ (neq rfl (by decide)) (ZW ?_))
   refine Zr (YJ (neq rfl (by decide)) (ZW ?_))
   refine Zr (QW (yeq rfl (by decide)) ?_)
   refine Zr (ZJ (ZK (Yv (Zc (Z2 (n:=1) (Ze rfl) Zn rfl rfl) (Zc (Ze rfl) (Zc (Ze rfl) Zq))) ⟨a,f,g,rfl,hok.1,hgl,hf,hg,by omega,rfl⟩) ?_))
   have es:(Tr.thn a b).sd f g=if a.sd f g≠0 then a.sd f g else b.sd f g:=rfl
   rw[es]
   refine Zr (W7 (Ye (zju (Ze rfl) Zn)) (λh=>?_) λh=>ZW ?_)
   ·have h:¬ a.sd f g=0:=by simpa using h
    exact Z6 (ZK (Q6 (Ze rfl) (by rw[if_pos h])) rfl)
   ·have h:a.sd f g=0:=by simpa using h
    exact Z6 (ZK (Q6 (Yv (Zc (Z2 (n:=2) (Ze rfl) Zn rfl rfl) (Zc (Ze rfl) (Zc (Ze rfl) Zq))) ⟨b,f,g,rfl,hok.2,hgl,hf,hg,by omega,rfl⟩) (by rw[if_neg (by rw[h];decide)])) rfl)
  | part p a dn i=>
   obtain ⟨hp,ha,hi⟩:=hok
   have hdp:Tdp a+1<N+1:=hdp
   refine Zr (ZJ (ZK (Z2 (n:=0) (Ze rfl) Zn rfl rfl) ?_))
   refine Zr (YJ (neq rfl (by decide)) (ZW ?_))
   refine Zr (YJ (neq rfl (by decide)) (ZW ?_))
   refine Zr (YJ (neq rfl (by decide)) (ZW ?_))
   refine Zr (YJ (neq rfl (by decide)) (ZW ?_))
   refine Zr (YJ (neq rfl (by decide)) (ZW ?_))
   refine Zr (ZJ (ZK (Z2 (n:=1) (Z2 (n:=3) (Ze rfl) Zn rfl rfl) Zn rfl rfl) ?_))
   refine Zr (ZJ (ZK (Q6 (zeU (js:=[5,0]) [f,g] dTh (λh=>some (.bool (decide (Uj (XF h i) p<0)))) (zdB (X8 (Zc (Ze rfl) (Zc (Ze rfl) Zq)) (by show 2<=sizeLine;decide))) (by show 2<sizeLine;decide) λh hh=>?_) (show _=PyData.list [.bool (decide (Uj (XF f i) p<0)),.bool (decide (Uj (XF g i) p<0))] from rfl)) ?_))
   ·have hh' : (∀ p∈h,J7 p)/\i<h.length:=by
     rcases mem_cons.mp hh with rfl | hh
     ·exact ⟨hf,hi⟩
     ·rw[mem_singleton.mp hh];exact ⟨hg,by omega⟩
    obtain ⟨h1,h2,h3⟩:=gv hh'.1 hh'.2
    exact lx1 zbi (Y0 (Yv (Zc (XH (Ze rfl) (Ze rfl) h1 h2) (Zc (Z2 (n:=1) (Ze rfl) Zn rfl rfl) Zq)) ⟨_,_,rfl,h3,hp.1,rfl⟩) Zn λ_=>Yb _)
   have es:(Tr.part p a dn i).sd f g=if decide (Uj (XF f i) p<0)=decide (Uj (XF g i) p<0) then a.sd f g else (Tr.fld dn i).sd f g:=rfl
   rw[es]
   generalize decide (Uj (XF f i) p<0)=x
   generalize decide (Uj (XF g i) p<0)=y
   have ne:∀ {ρ:List PV},ρ[6]?=some (.dat (.list [.bool x,.bool y]))->Er K B0 (tOp rNe (tOp (za2 K) (XQ 6) (tC (.int 0))) (tOp (za2 K) (XQ 6) (tC (.int 1)))) ρ (.bool (!decide (x=y))):=λh G σ r=>zie (Z2 (n:=0) (Ze h) Zn rfl rfl G σ r) (Z2 (n:=1) (Ze h) Zn rfl rfl G σ r)
   by_cases hxy:x=y
   ·rw[if_pos hxy]
    exact Z6 (ZK (Yv (Zc (Z2 (n:=2) (Ze rfl) (Y0 Zn (zbb (Zc (ne rfl) Zq)) λ_=>Zx _) (by rw[decide_eq_true hxy];rfl) rfl) (Zc (Ze rfl) (Zc (Ze rfl) Zq))) ⟨a,f,g,rfl,ha,hgl,hf,hg,by omega,rfl⟩) rfl)
   ·rw[if_neg hxy]
    exact Z6 (ZK (Yv (Zc (Z2 (n:=3) (Ze rfl) (Y0 Zn (zbb (Zc (ne rfl) Zq)) λ_=>Zx _) (by rw[decide_eq_false hxy];rfl) rfl) (Zc (Ze rfl) (Zc (Ze rfl) Zq))) ⟨.fld dn i,f,g,rfl,hi,hgl,hf,hg,by show 0<N;omega,rfl⟩) rfl)
def QT:Scope:=match (Z5 Yp).getD 0 (.Pass ⟨0,0,0,0⟩) with
 | .Assign _ (.ListComp _ _ sc _) _=>sc
 | _=>Zj Yp
def ThD (m:Nat)(g:List (Int×Int)):Prop:=g.length=m/\∀ p∈g,J7 p/\p.1.natAbs<10 ^ 30
def zhi (n:Nat)(ds:List PyData):Prop:=∃ m k:Nat,ds=[.int (m:Nat),.int (k:Nat)]/\1<=m/\m<=4/\k<=8/\n<=10 ^ 4
inductive RTg (n:Nat) (ds:List PyData) (x:PyData) (n' : Nat):Prop
 | mk (rows:List (List (Int×Int))) (_:x = .list (rows.map dTh)) (_:∀ m k:Nat,ds=[.int (m:Nat),.int (k:Nat)]->rows.length=k/\∀ g∈rows,ThD m g) (_:n' <= n+132):RTg n ds x n'
abbrev dPl (l:List (Int×Int)):PyData:=.list (l.map dF)
def PlD (l:List (Int×Int)):Prop:=1<=l.length/\l.length<=4/\∀ p∈l,J7 p/\p.1.natAbs<10 ^ 30
theorem zdg (T:Top K mg):T.X3.O P w base 4 (spT (lkT K) zhi RTg):=by
 have G__law_next:T.Zw.O P w base 3 (spT (lkT K) zgL RDw):=(zcd T).mono (by decide)
 have G__law_number:=@zfk P w K mg base T
 refine T.X3.F.okT Xw (by rintro _ _ ⟨_,_,rfl,_⟩;rfl) λcdv A outer s H E hr p fp n ds hP=>?_
 obtain ⟨m,mm,rfl,m1,m4,hmm,hn⟩:=hP
 have zl:(2000:Nat)<sizeLine:=by decide
 have lfO:∀ m' k' : Nat,[PyData.int (m:Nat),.int (mm:Nat)]=[.int (m' : Nat),.int (k' : Nat)]->m'=m/\k'=mm:=λm' k' e=>by
  injection e with e e2
  injection e with e
  injection e2 with e2
  injection e2 with e2
  omega
 refine ⟨_,(Zf (zej (x:= "field") (cap:=["deck"]) (js:=[0]) (i:=3) (y:= "pool") ⟨rfl,by decide +kernel,by decide +kernel,rfl,(by show ∀ p∈(_:List (Str×NameKind)),p.2=NameKind.free->List.lookup p.1 (Zj Yp).names=some NameKind.cell;decide +kernel),by decide +kernel,by decide +kernel,by decide +kernel⟩ rfl rfl (λ_ _ h=>h) Xw.nd rfl rfl (Xj (by rfl) T.JQ (Za (pv 1) Zg Zd)) (λ_ _ _ _=>⟨WW,(zbh (x:= "k") (cap:=["deck"]) (js:=[1]) ⟨rfl,by decide +kernel,by decide +kernel,rfl,(by show ∀ p∈(_:List (Str×NameKind)),p.2=NameKind.free->List.lookup p.1 (zke QT (Zj Yp))=some NameKind.cell;decide +kernel),by decide +kernel,by decide +kernel,by decide +kernel⟩ rfl rfl (λ_ _ h=>h) (Xj (by rfl) T.JQ (Za (ZX Xz Zi (peN T.Zw G__law_next hr (Za (pv 1) (Za Zi Zg Zb) Zd))) Zg Z0)) (λ_ _ _ _=>⟨WW,(peN T.Xi G__law_number hr (Za (pv 1) Zg Zd))⟩))⟩))
   (Zf (ZQ (i:=4) Xw.nd rfl (Or.inl rfl) (Yg Zg))
   (Zf (Qd PassesOwn.never rfl (Xj (by rfl) T.JQ (Za (pv 2) Zg Zd)) (Xn (i:=5) Xw.nd rfl (Or.inl rfl)) (Zo (Jq (Ui plainAttrs_list PySem.F.slot_list_append PySem.F.type_list_append XC (pv 4) (Za (YC (Xd (K:=K) rfl) (by rfl) T.J8 zeW (Za (zbh (x:= "some") (cap:=["deck"]) (js:=[0]) ⟨rfl,by decide +kernel,by decide +kernel,rfl,(by show ∀ p∈(_:List (Str×NameKind)),p.2=NameKind.free->List.lookup p.1 (Zj Yp).names=some NameKind.cell;decide +kernel),by decide +kernel,by decide +kernel,by decide +kernel⟩ rfl rfl (λ_ _ h=>h) (zab (pv 3)) (λ_ _ _ _=>⟨WW,(ZG (Zt (K:=K) rfl) (pv 0) (peN T.Zw G__law_next hr (Za (pv 1) (Za (Yq (YB (K:=K) rfl) (by rfl) T.zcB PySem.boot_len (Za (pv 0) Zg Zd)) Zg Z8) Zd)) (λ_ _=>rfl))⟩)) Zg Vp)) Zg Z8)))))
   (Zo (ZD (pv 4)))))) ,?_⟩
 refine Zr (ZJ (zaH (D:=lkT K) (p:=p) (fp:=fp) (i:=0) (kp:=0) rfl (zfF (Vv (Zc (Ze rfl) Zq) (by omega)) ⟨n,λk out c' => c' <= n+25*k/\∃ ps:List (List (Int×Int)),out=ps.map dPl/\∀ l∈ps,PlD l,rfl,by rw[length_map,length_range];omega,⟨Nat.le_refl _,[],rfl,λ_ h=>(by cases h)⟩,?_,?_⟩)))
 ·rintro k hk out c' ⟨hc',ps,rfl,hps⟩ _
  rw[length_map,length_range] at hk
  refine zcU (zaH (D:=lkT K) (p:=p) (fp:=fp) (i:=1) (kp:=0) rfl (zag (Z4 (Xo (ZK Zn ⟨_,rfl,Wj (c:=c') rfl Zn (by omega) (by decide) (by decide) λr hr=>⟨_,.int ((1+r:Nat):Int),rfl,λG σ va vb ha hb=>zb1 (Vc (Y7 ha) (Y7 hb) (Zx _)) (by congr 1),_,rfl,Z9 Zq ⟨1+r,rfl,by omega,c'+1,λj out c'' => c'' <= c'+1+6*j/\∃ f:List (Int×Int),out=f.map dF/\∀ q∈f,J7 q/\q.1.natAbs<10 ^ 30,rfl,by rw[length_map,length_range];omega,⟨Nat.le_refl _,[],rfl,λ_ h=>(by cases h)⟩,?_,?_⟩⟩⟩)))))
  ·rintro j hj out c'' ⟨hc'',f,rfl,hf⟩ _
   rw[length_map,length_range] at hj
   refine YW (s:=c'') rfl (Z9 Zq ⟨c'',rfl,⟨rfl,by omega⟩,λx c3 hx=>?_⟩)
   obtain ⟨q,rfl,hq,hq2,hc3⟩:=hx
   refine ⟨_,c3,rfl,rfl,by omega,f++[q],by rw[map_append];rfl,λy hy=>?_⟩
   rcases mem_append.mp hy with h | h
   ·exact hf y h
   ·rw[mem_singleton.mp h];exact ⟨hq,hq2⟩
  ·rintro out c'' ⟨hc'',f,rfl,hf⟩ hfl
   rw[length_map,length_range] at hc''
   rw[length_map,length_map,length_range] at hfl
   refine ⟨_,rfl,_,c'',rfl,rfl,by omega,ps++[f],by rw[map_append];rfl,λl hl=>?_⟩
   rcases mem_append.mp hl with h | h
   ·exact hps l h
   ·rw[mem_singleton.mp h];exact ⟨by omega,by omega,hf⟩
 rintro out c1 ⟨hc1,ps,rfl,hps⟩ hpl
 rw[length_map,length_range] at hc1
 rw[length_map,length_map,length_range] at hpl
 show Sv K B0 _ [(lkT K).pv c1 p fp,.dat (.int (m:Nat)),.dat (.int (mm:Nat)),.own (ps.map dPl),.un,.un] _
 refine Jt 3 rfl ?_
 refine Zr (ZJ (za0 Zq (zero_le _) ?_))
 refine Zr (VH (List.range mm) (λ(i:Nat)=>PyData.int (i:Nat)) (Vv (Zc (Ze rfl) Zq) (by omega)) (λi ρ=>∃ (c:Nat) (rows:List (List (Int×Int))) (v5:PV),c<=c1+4*i/\rows.length=i/\(∀ g∈rows,ThD m g)/\ρ=[(lkT K).pv c p fp,.dat (.int (m:Nat)),.dat (.int (mm:Nat)),.dat (.list (ps.map dPl)),.own (rows.map dTh),v5]) ⟨c1,[],_,Nat.le_refl _,rfl,λ_ h=>(by cases h),rfl⟩ ?_ ?_)
 ·rintro i hi _ ⟨c,rows,v5,hc,hrl,hrs,rfl⟩
  rw[length_range] at hi
  refine QC (zaI (i:=4) (zfh (zcU (zaH (D:=lkT K) (p:=p) (fp:=fp) (i:=0) (kp:=0) rfl (zfF (zdE (Ze rfl)) ⟨c,λk out c' => c'=c+k/\∃ f:List (Int×Int),out=f.map dF/\∀ q∈f,J7 q/\q.1.natAbs<10 ^ 30,rfl,by rw[length_map];omega,⟨rfl,[],rfl,λ_ h=>(by cases h)⟩,?_,?_⟩)))) rfl rfl)
  ·rintro k hk out _ ⟨rfl,f,rfl,hf⟩ _
   rw[length_map] at hk
   rw[List.getElem_map]
   have hl:=hps ps[k] (List.getElem_mem hk)
   generalize ps[k]=l at hl
   refine Xo (ZK (Ze rfl) ⟨_,rfl,Wj (i:=1) (c:=c+k) rfl (UW (Zc (Ze rfl) Zq)) (by omega) (by rw[length_map];have:=hl.1;omega) (by rw[length_map];have:=hl.2.1;omega) λr hr=>?_⟩)
   rw[length_map] at hr
   have hr' : r<l.length:=by omega
   refine ⟨_,dF l[r],rfl,λG σ va vb ha hb=>YF (Y7 ha) (Y7 hb) (by rw[length_map];exact Xb hr') (by rw[getElem?_map,getElem?_eq_getElem hr'];rfl),_,c+k+1,rfl,rfl,by omega,f++[l[r]],by rw[map_append];rfl,λq hq=>?_⟩
   rcases mem_append.mp hq with h | h
   ·exact hf q h
   ·rw[mem_singleton.mp h];exact hl.2.2 _ (List.getElem_mem hr')
  ·rintro out _ ⟨rfl,f,rfl,hf⟩ hfl
   rw[length_map,length_map] at hfl
   refine ⟨_,rfl,_,dTh f,rfl,λG σ va ha=>V1 (Zv (Y7 ha) ZZ),_,_,rows.map dTh,rfl,rfl,rfl,by rw[length_map];omega,c+(ps.map dPl).length,rows++[f],.dat (.int ((List.range mm)[i]:Nat)),by rw[length_map];omega,by rw[length_append,hrl];rfl,λg hg=>?_,by rw[map_append];rfl⟩
   rcases mem_append.mp hg with h | h
   ·exact hrs g h
   ·rw[mem_singleton.mp h];exact ⟨by omega,hf⟩
 ·rintro _ ⟨c,rows,v5,hc,hrl,hrs,rfl⟩
  rw[length_range] at hc hrl
  refine Jt 4 rfl ?_
  exact Z6 (ZK (Ze rfl) ⟨_,c,rfl,⟨rows,rfl,λm' k' e=>by rw[(lfO m' k' e).1,(lfO m' k' e).2];exact ⟨hrl,hrs⟩,by omega⟩,rfl⟩)
open Ord Look
theorem zdW {σ:St}{G:Hp}{ta:TE}{b:Bool}(h:Ev K ta σ G (.bool b)):Ev K (zit ta) σ G (.bool (!b)):=
 λG1 H s1 s2 Q k=>h G1 H s1 s2 _ λv G2 H2 g2 hv=>⟨b,hv.bl,k _ G2 H2 g2 (Yb _)⟩
theorem zha {σ:St}{G:Hp}{ta tb:TE}{t b c:Bool}(ha:Ev K ta σ G (.bool t))(hb:Ev K tb σ G (.list [.bool b,.bool c])):Ev K (tOp (rIn K false) ta tb) σ G (.bool (b==t||c==t)):=
 Jk ha hb λG1 H u v Q s1 s2 hu hv k=>by
  obtain ⟨p,xs,rfl,hp,hx⟩:=hv.lst
  obtain ⟨y1,r1,rfl,h1,hx⟩:=hx.cons
  obtain ⟨y2,r2,rfl,h2,hx⟩:=hx.cons
  cases hx.nil
  rw[hu.bl]
  rw[h1.bl,h2.bl] at hp
  refine ⟨p,_,rfl,.inl (SqL.of (s2 _ _ hp)),rfl,rfl,?_⟩
  have e:inV (.bl t) [.bl b,.bl c]=(b==t||c==t):=by cases t <;> cases b <;> cases c <;> rfl
  show Q (.bl (inV (.bl t) [.bl b,.bl c])) H
  rw[e]
  exact k _ G1 H (Yt.refl s2) (Yb _)
theorem Up (T:Top K mg):T.Xg.O P w base 2 (spP K zg8):=by
 have G_is_open:=@Vs P w K mg base T
 refine T.Xg.F.ok Qh (λvs H Q E h=>?_) (λcdv A outer s H vs Q E hr h=>?_)
 ·obtain ⟨G,as,d,sg,hv,⟨t,x,b,c,rfl,_⟩,_⟩:=h
  rw[hv.length];rfl
 ·obtain ⟨G,as,d,sg,hv,⟨t,x,b,c,rfl,rfl⟩,k⟩:=h
  have hu:=hr.units
  obtain ⟨v1,r1,rfl,h1,hv⟩:=hv.cons
  obtain ⟨v2,r2,rfl,h2,hv⟩:=hv.cons
  obtain ⟨v3,r3,rfl,h3,hv⟩:=hv.cons
  cases hv.nil
  refine ⟨_,(Zf (Yk (ZF zaQ (pv 0) (pv 2) (by rfl)) (Zo (ZD (pv 0))) ZL)
   (Zf (zej (x:= "part") (cap:=[]) (js:=[]) (i:=3) (y:= "rest") ⟨rfl,by decide +kernel,by decide +kernel,rfl,(by show ∀ p∈(_:List (Str×NameKind)),p.2=NameKind.free->List.lookup p.1 (Zj Ws).names=some NameKind.cell;decide +kernel),by decide +kernel,by decide +kernel,by decide +kernel⟩ rfl rfl (λ_ _ h=>h) Qh.nd rfl rfl (zab (pv 2)) (λ_ _ _ _=>⟨(zcZ (Q9 (peN T.XD G_is_open hr (Za (pv 0) Zg Zd)))),(pv 0)⟩))
   (Zf (Yk (ZF (zgX (K:=K) rfl hu) (pv 3) (Yg Zg) (ZV _)) (Zo (ZD (zfD (pv 0)))) ZL)
   (Zo (ZD (WR (ZF Xc (Yq (YB (K:=K) rfl) (by rfl) T.zcB PySem.boot_len (Za (pv 3) Zg Zd)) Zi (ZV _)) (ZG (Zt (K:=K) rfl) (pv 3) Zi (λ_ _=>rfl)) (Yz (Za (pv 1) (Za (ZG (Zt (K:=K) rfl) (pv 3) Zi (λ_ _=>rfl)) (Za (ZG (Zt (K:=K) rfl) (pv 3) Zi (λ_ _=>rfl)) Zg Zk) Zk) Zd)))))))) ,?_⟩
  refine zbe (Xa (K:=K) (zha (Zh rfl h1) (Zh rfl h3))) sg (λz G1 H1 g1=>?_) (λz G1 H1 g1=>?_)
  ·refine Yj (K:=K) (G:=G1) (d:=.bool (if t=true then b||c else b&&c)) (zb1 (Zh rfl (h1.same g1.gg)) ?_) g1.gh λv G' H' g hv=>k v G' H' (g1.trans g) hv
   revert z;cases t <;> cases b <;> cases c <;> simp
  ·have h3' : Dat K G1 v3 (.list ([b,c].map PyData.bool)):=h3.same g1.gg
   refine (zhV (K:=K) (G:=G1) [b,c] PyData.bool (λ_=>none) (Zh rfl h3') (by show 2<sizeLine;decide) (λG2 i a x sG ha hx=>?_)).use g1.gh λv4 G2 H2 g2 h4=>?_
   ·exact .inr ⟨rfl,za5 (K:=K) (Yi (E:=E0) (R:=zbo) (d:=.bool false) (Zv (Zh rfl hx) ZZ) ⟨.inr ⟨_,rfl⟩,rfl⟩)⟩
   ·have h4' : Dat K G2 v4 (.list []):=by
     have e:[b,c].filterMap (λ_=>(none:Option PyData))=[]:=rfl
     rw[e] at h4;exact h4
    have pl0:Pl 2 (.list []):=zia λx hx=>by cases hx
    refine zbe (Xa (K:=K) (zfB (Zh rfl h4') (ze9 ZZ (by decide)) pl0 pl0 (by decide))) g2.gh (λy G3 H3 g3=>?_) (λy=>?_)
    ·refine Yj (K:=K) (G:=G3) (d:=.bool (if t=true then b||c else b&&c)) (zb1 (zdW (Zh rfl (((h1.same g1.gg).same g2.gg).same g3.gg))) ?_) g3.gh λv G' H' g hv=>k v G' H' (((g1.trans g2).trans g3).trans g) hv
     revert z;cases t <;> cases b <;> cases c <;> simp
    ·rw[same_self] at y;cases y
def zdy:Sp:=λvs H Q _=>∃ (p:Addr) (n:Nat) (xs:List V),vs=[.ref p,.int (n:Nat)]/\H p=some (.lst xs)/\n<=xs.length/\n<=1000/\
 ∀ l H',H l=none->l≠p->H' l=some (.lst (xs.drop (xs.length-n)).reverse)->H' p=some (.lst (xs.take (xs.length-n)))->(∀ b,b≠l->b≠p->H' b=H b)->Q (.ref l) H'
theorem zed (T:Top K mg):T.UG.O P w base 1 zdy:=by
 refine T.UG.F.ok zbB (λvs H Q E h=>?_) (λcdv A outer s H vs Q E hr h=>?_)
 ·obtain ⟨p,n,xs,rfl,_⟩:=h
  rfl
 ·obtain ⟨p,n,xs,rfl,hp,hn,hm,k⟩:=h
  have zl:(2000:Nat)<=sizeLine:=by decide
  refine ⟨_,(Zf (ZQ (i:=2) zbB.nd rfl (Or.inl rfl) (Yg Zg))
   (Zf (zb0 PassesOwn.never (ZF Vb (Yq (YB (K:=K) rfl) (by rfl) T.zcB PySem.boot_len (Za (pv 2) Zg Zd)) (pv 1) (ZV _)) (Zo (Jq (Ui plainAttrs_list PySem.F.slot_list_append PySem.F.type_list_append XC (pv 2) (Za (zhU plainAttrs_list PySem.F.slot_list_pop PySem.F.type_list_pop zhK (pv 0)) Zg Z8)))))
   (Zo (ZD (pv 2))))) ,?_⟩
  refine ⟨(by show 0<=sizeLine;decide),λl hl=>?_⟩
  have nlp:l≠p:=λz=>by subst z;rw[hp] at hl;cases hl
  refine zew (fun σ H' => ∃ j,j<=n/\σ=[some (.ref p),some (.int (n:Nat)),some (.ref l)]/\H' l=some (.lst (xs.drop (xs.length-j)).reverse)/\H' p=some (.lst (xs.take (xs.length-j)))/\∀ b,b≠l->b≠p->H' b=H b) (fun σ H' => match H' l with | some (.lst ys)=>n-ys.length | _=>0)
   ⟨0,zero_le _,rfl,by rw[Zy];simp,by rw[ZC (Ne.symm nlp),hp];simp,λb h1 h2=>by rw[ZC h1]⟩ ?_ ?_
  ·rintro σ H1 ⟨j,hj,rfl,h1,h2,h3⟩
   have hlen:((xs.drop (xs.length-j)).reverse).length=j:=by rw[length_reverse,length_drop];omega
   have hlt:(xs.take (xs.length-j)).length=xs.length-j:=by rw[length_take];omega
   have hmu:(match H1 l with | some (.lst ys)=>n-ys.length | _=>0)=n-j:=by rw[h1];show n-_=_;rw[hlen]
   refine ⟨_,rfl,l,_,rfl,.inl (SqL.of h1),_,rfl,_,_,rfl,rfl,_,rfl,?_⟩
   by_cases hjn:j<n
   ·have e:decide (((xs.drop (xs.length-j)).reverse.length:Int)<(n:Nat))=true:=decide_eq_true (by rw[hlen];omega)
    rw[e]
    refine zjQ ?_
    have hy:(xs.take (xs.length-j))[(xs.take (xs.length-j)).length-1]?=some (xs[xs.length-j-1]'(by omega)):=by
     rw[hlt,List.getElem?_take_of_lt (by omega),getElem?_eq_getElem]
    have edl:(xs.take (xs.length-j)).dropLast=xs.take (xs.length-(j+1)):=by
     rw[List.dropLast_eq_take,hlt,List.take_take]
     congr 1;omega
    have edr:(xs.drop (xs.length-j)).reverse++[xs[xs.length-j-1]'(by omega)]=(xs.drop (xs.length-(j+1))).reverse:=by
     have:xs.drop (xs.length-(j+1))=xs[xs.length-j-1]'(by omega)::xs.drop (xs.length-j):=by
      rw[List.drop_eq_getElem_cons (by omega:xs.length-(j+1)<xs.length)]
      congr 1
      congr 1;omega
     rw[this,reverse_cons]
    refine ⟨_,rfl,.inl ⟨rfl,_,SqL.of h1⟩,_,rfl,.inl ⟨rfl,_,SqL.of h2⟩,p,_,_,rfl,rfl,h2,hy,l,_,_,rfl,rfl,(by rw[ZC nlp];exact h1),(by rw[hlen];omega),?_,?_⟩
    ·refine ⟨j+1,hjn,rfl,by rw[Zy,edr],by rw[ZC (Ne.symm nlp),Zy,edl],λb hb1 hb2=>by rw[ZC hb1,ZC hb2];exact h3 b hb1 hb2⟩
    ·show (match L2.upd _ l _ l with | some (.lst ys)=>n-ys.length | _=>0)<_
     rw[hmu,Zy]
     show n-_<_
     rw[length_append,hlen]
     show n-(j+1)<n-j
     omega
   ·have e:decide (((xs.drop (xs.length-j)).reverse.length:Int)<(n:Nat))=false:=decide_eq_false (by rw[hlen];omega)
    rw[e]
    refine zjw ?_
    have:j=n:=by omega
    subst this
    exact ⟨_,rfl,k l H1 hl nlp h1 h2 h3⟩
  ·rintro σ H1 Q1 Q2 hq ⟨v,e1,p',ys,e2,e3,v2,e4,i,j,e5,e6,c,e7,e8⟩
   exact ⟨v,e1,p',ys,e2,e3,v2,e4,i,j,e5,e6,c,e7,hq _ _ e8⟩
def zfP:List PyData->PyData->Prop:=λas d=>∃ (x:Str) (n:Nat) (vs:List Tv),as=[.str x,.list (vs.map Tv.d)]/\d=(zgn ⟨λ_=>.like,λ_ _ _=>.like,λ_ _ _=>.like⟩ n vs).d/\
 ((x=S "then" /\ n=3/\∃ a b,vs=[.an a,.an b])\/(x=S "turn" /\ n=4/\∃ a,vs=[.an a])\/(x=S "pick" /\ n=5/\∃ c a b,vs=[.tr c,.an a,.an b])\/(x=S "not" /\ n=9/\∃ a,vs=[.tr a])\/(x=S "and" /\ n=10/\∃ a b,vs=[.tr a,.tr b])\/(x=S "or" /\ n=11/\∃ a b,vs=[.tr a,.tr b]))
theorem zeT:(S "turn" ≠ S "then" /\ S "pick" ≠ S "then" /\ S "pick" ≠ S "turn")/\(S "not" ≠ S "then" /\ S "not" ≠ S "turn" /\ S "not" ≠ S "pick")/\(S "and" ≠ S "then" /\ S "and" ≠ S "turn" /\ S "and" ≠ S "pick" /\ S "and" ≠ S "not")/\(S "or" ≠ S "then" /\ S "or" ≠ S "turn" /\ S "or" ≠ S "pick" /\ S "or" ≠ S "not")/\S "and" ≠ S "or" := by decide +kernel
theorem Jg {G H:Hp}{D:Ends}{σ:St}{tc:TT}{t u:TS}(h:EvT tc σ G true)(s:ZR G H)(k:∀ G' H',Yt G H G' H' -> t D σ H'):zeb tc t u D σ H:=zbe h s (λ_=>k) λz=>nomatch z
theorem Je {σ:St}{G:Hp}{ta tb:TE}{x y:Str}(ha:Ev K ta σ G (.str x))(hb:Ev K tb σ G (.str y))(e:x=y):EvT (Qs (tOp rEq ta tb)) σ G true:=zig (Xa (K:=K) (Qf ha hb)) (decide_eq_true e)
theorem Zm {σ:St}{G:Hp}{ta tb:TE}{x y:Str}(ha:Ev K ta σ G (.str x))(hb:Ev K tb σ G (.str y))(e:x≠y):EvT (Qs (tOp rEq ta tb)) σ G false:=zig (Xa (K:=K) (Qf ha hb)) (decide_eq_false e)
theorem ziv (T:Top K mg)(W2:Txs K w.params mg "OTHER_WAY" Qm):T.Wz.O P w base 3 (spP K zfP):=by
 have G_is_open:T.XD.O P w base 2 (spP K zbo):=(Vs T).mono (by decide)
 have G_one_then_other:=@zgK P w K mg base T
 have G_turned_about:=@zaW P w K mg base T W2
 have G_picked:=@zdS P w K mg base T
 have G_settled_by:=@Up P w K mg base T
 obtain ⟨⟨n1,n2,n3⟩,⟨m1,m2,m3⟩,⟨a1,a2,a3,a4⟩,⟨o1,o2,o3,o4⟩,ao⟩:=zeT
 refine T.Wz.F.ok Ub (λvs H Q E h=>?_) (λcdv A outer s H vs Q E hr h=>?_)
 ·obtain ⟨G,as,d,sg,hv,⟨x,n,us,rfl,_⟩,_⟩:=h
  rw[hv.length];rfl
 ·obtain ⟨G,as,d,sg,hv,⟨x,n,us,rfl,rfl,hx⟩,k⟩:=h
  obtain ⟨v1,r1,rfl,h1,hv⟩:=hv.cons
  obtain ⟨v2,r2,rfl,h2,hv⟩:=hv.cons
  cases hv.nil
  refine ⟨_,(Zf (Yk (ZF Xc (pv 0) Zz (ZV _)) (Zo (ZD (peN T.XM G_one_then_other hr (Za (ZG (Zt (K:=K) rfl) (pv 1) Zi (λ_ _=>rfl)) (Za (ZG (Zt (K:=K) rfl) (pv 1) Zi (λ_ _=>rfl)) Zg Zk) Zk)))) ZL)
   (Zf (Yk (ZF Xc (pv 0) Zz (ZV _)) (Zo (ZD (peN T.Y5 G_turned_about hr (Za (ZG (Zt (K:=K) rfl) (pv 1) Zi (λ_ _=>rfl)) Zg Zk)))) ZL)
   (Zf (Yk (ZF Xc (pv 0) Zz (ZV _)) (Zo (ZD (peN T.U4 G_picked hr (Za (ZG (Zt (K:=K) rfl) (pv 1) Zi (λ_ _=>rfl)) (Za (ZG (Zt (K:=K) rfl) (pv 1) Zi (λ_ _=>rfl)) (Za (ZG (Zt (K:=K) rfl) (pv 1) Zi (λ_ _=>rfl)) Zg Zk) Zk) Zk)))) ZL)
   (Zf (Yk (ZF Xc (pv 0) Zz (ZV _)) (Zo (ZD (WR (Q9 (peN T.XD G_is_open hr (Za (ZG (Zt (K:=K) rfl) (pv 1) Zi (λ_ _=>rfl)) Zg Zk))) (Yz (Za Zz (Za (ZG (Zt (K:=K) rfl) (pv 1) Zi (λ_ _=>rfl)) Zg Zk) Zb)) (zfD (ZG (Zt (K:=K) rfl) (pv 1) Zi (λ_ _=>rfl)))))) ZL)
   (Zo (ZD (peN T.Xg G_settled_by hr (Za (J2 Xc (pv 0) Zz (ZV _)) (Za (pv 0) (Za (pv 1) Zg Zd) Zd) JG)))))))) ,?_⟩
  rcases hx with ⟨rfl,rfl,a,b,rfl⟩ | ⟨rfl,rfl,a,rfl⟩ | ⟨rfl,rfl,c,a,b,rfl⟩ | ⟨rfl,rfl,a,rfl⟩ | ⟨rfl,rfl,a,b,rfl⟩ | ⟨rfl,rfl,a,b,rfl⟩
  ·refine Jg (Je (K:=K) (Zh rfl h1) Zu rfl) sg λG1 H1 g1=>?_
   have h2' := h2.same g1.gg
   exact Yj (K:=K) (G:=G1) (Yi (E:=E0) (R:=ziO) (Zv (YF (Zh rfl h2') YD rfl rfl) (Zv (YF (Zh rfl h2') YD rfl rfl) ZZ)) ⟨a,b,rfl,rfl⟩) g1.gh λv G' H' g hv=>k v G' H' (g1.trans g) hv
  ·refine ZS (Zm (K:=K) (Zh rfl h1) Zu n1) sg λG1 H1 g1=>?_
   refine Jg (Je (K:=K) (Zh rfl (h1.same g1.gg)) Zu rfl) g1.gh λG2 H2 g2=>?_
   have g12:=g1.trans g2
   have h2' := h2.same g12.gg
   exact Yj (K:=K) (G:=G2) (Yi (E:=E0) (R:=zeC) (Zv (YF (Zh rfl h2') YD rfl rfl) ZZ) ⟨a,rfl,rfl⟩) g2.gh λv G' H' g hv=>k v G' H' (g12.trans g) hv
  ·refine ZS (Zm (K:=K) (Zh rfl h1) Zu n2) sg λG1 H1 g1=>?_
   refine ZS (Zm (K:=K) (Zh rfl (h1.same g1.gg)) Zu n3) g1.gh λG2 H2 g2=>?_
   have g12:=g1.trans g2
   refine Jg (Je (K:=K) (Zh rfl (h1.same g12.gg)) Zu rfl) g2.gh λG3 H3 g3=>?_
   have g13:=g12.trans g3
   have h2' := h2.same g13.gg
   exact Yj (K:=K) (G:=G3) (Yi (E:=E0) (R:=zhq) (Zv (YF (Zh rfl h2') YD rfl rfl) (Zv (YF (Zh rfl h2') YD rfl rfl) (Zv (YF (Zh rfl h2') YD rfl rfl) ZZ))) ⟨c,a,b,rfl,rfl⟩) g3.gh λv G' H' g hv=>k v G' H' (g13.trans g) hv
  ·refine ZS (Zm (K:=K) (Zh rfl h1) Zu m1) sg λG1 H1 g1=>?_
   refine ZS (Zm (K:=K) (Zh rfl (h1.same g1.gg)) Zu m2) g1.gh λG2 H2 g2=>?_
   have g12:=g1.trans g2
   refine ZS (Zm (K:=K) (Zh rfl (h1.same g12.gg)) Zu m3) g2.gh λG3 H3 g3=>?_
   have g13:=g12.trans g3
   refine Jg (Je (K:=K) (Zh rfl (h1.same g13.gg)) Zu rfl) g3.gh λG4 H4 g4=>?_
   have g14:=g13.trans g4
   have h2' := h2.same g14.gg
   exact Yj (K:=K) (G:=G4) (V2 (za5 (K:=K) (Yi (E:=E0) (R:=zbo) (d:=.bool false) (Zv (YF (Zh rfl h2') YD rfl rfl) ZZ) ⟨.inr ⟨_,rfl⟩,rfl⟩)) (λz=>nomatch z) (λ_=>zdW (YF (Zh rfl h2') YD rfl rfl))) g4.gh λv G' H' g hv=>k v G' H' (g14.trans g) hv
  ·refine ZS (Zm (K:=K) (Zh rfl h1) Zu a1) sg λG1 H1 g1=>?_
   refine ZS (Zm (K:=K) (Zh rfl (h1.same g1.gg)) Zu a2) g1.gh λG2 H2 g2=>?_
   have g12:=g1.trans g2
   refine ZS (Zm (K:=K) (Zh rfl (h1.same g12.gg)) Zu a3) g2.gh λG3 H3 g3=>?_
   have g13:=g12.trans g3
   refine ZS (Zm (K:=K) (Zh rfl (h1.same g13.gg)) Zu a4) g3.gh λG4 H4 g4=>?_
   have g14:=g13.trans g4
   exact Yj (K:=K) (G:=G4) (Yi (E:=E0) (R:=zg8) (Zv (zb1 (Qf (Zh rfl (h1.same g14.gg)) Zu) (by rw[decide_eq_false ao])) (Zv (Zh rfl (h1.same g14.gg)) (Zv (Zh rfl (h2.same g14.gg)) ZZ))) ⟨false,_,a,b,rfl,rfl⟩) g4.gh λv G' H' g hv=>k v G' H' (g14.trans g) hv
  ·refine ZS (Zm (K:=K) (Zh rfl h1) Zu o1) sg λG1 H1 g1=>?_
   refine ZS (Zm (K:=K) (Zh rfl (h1.same g1.gg)) Zu o2) g1.gh λG2 H2 g2=>?_
   have g12:=g1.trans g2
   refine ZS (Zm (K:=K) (Zh rfl (h1.same g12.gg)) Zu o3) g2.gh λG3 H3 g3=>?_
   have g13:=g12.trans g3
   refine ZS (Zm (K:=K) (Zh rfl (h1.same g13.gg)) Zu o4) g3.gh λG4 H4 g4=>?_
   have g14:=g13.trans g4
   exact Yj (K:=K) (G:=G4) (Yi (E:=E0) (R:=zg8) (Zv (zb1 (Qf (Zh rfl (h1.same g14.gg)) Zu) (by rw[decide_eq_true rfl])) (Zv (Zh rfl (h1.same g14.gg)) (Zv (Zh rfl (h2.same g14.gg)) ZZ))) ⟨true,_,a,b,rfl,rfl⟩) g4.gh λv G' H' g hv=>k v G' H' (g14.trans g) hv
def RBF (book:List Str)(E:En):List PyData->PyData->Prop:=λas d=>∃ z,z∈book/\((as=[.str (S "look"),.str z]/\d = .str (E.look z).t)\/(as=[.str (S "same"),.str z]/\d = .bool (isA (E.look z) .like)))
def RBM (book:List Str)(num:Int->Int->Prop)(E:En):List PyData->PyData->Prop:=λas d=>∃ z,z∈book/\∃ a b,num a b/\((as=[.str (S "less"),.str z,dF (a,b)]/\d = .list [.bool (isA (E.one z a b) .ahead),.bool (isA (E.two z a b) .ahead)])\/
 (as=[.str (S "same"),.str z,dF (a,b)]/\d = .list [.bool (isA (E.one z a b) .like),.bool (isA (E.two z a b) .like)]))
def RWT (book:List Str)(num:Int->Int->Prop)(E:En):List PyData->PyData->Prop:=λas d=>∃ (x want:Str) (ps:List Str) (vs:List Tv),as=[.str x,.list (vs.map Tv.d)]/\Ym x=some (x,want,ps)/\Tys (· ∈ book) num ps vs/\d=(zgn E (wix x) vs).d
def cls2 (P:Program)(w:World)(K:PySem.W.Frag)(mg:Str->Option Value)(base:Heap)(book:List Str)(num:Int->Int->Prop)(E:En)(f1 f2:Addr):Shared->Hp->Prop:=λs H=>zdK P w K mg base 3 f1 2 (spP K (RBF book E)) s H/\zdK P w K mg base 3 f2 3 (spP K (RBM book num E)) s H
theorem zfT {P:Program}{w:World}{K:PySem.W.Frag}{mg:Str->Option Value}{base:Heap}{book:List Str}{num:Int->Int->Prop}{E:En}{f1 f2:Addr}:∀ (fs:List Addr) (s:Shared) (H:Hp) (s' : Shared) (H' : Hp),Un fs [] H H' s.heap s'.heap->cls2 P w K mg base book num E f1 f2 s H->cls2 P w K mg base book num E f1 f2 s' H' :=
 λ_ _ _ _ _ u C=>⟨C.1.un u,C.2.un u⟩
theorem zjd (T:Top K mg)(W2:Txs K w.params mg "OTHER_WAY" Qm)(book:List Str)(num:Int->Int->Prop)(E:En)(f1 f2:Addr):V5 P w K mg base 4 T.YL.f T.YL.fd ["word", "parts", "by_field", "by_mark"] (λs vs H Q=>cls2 P w K mg base book num E f1 f2 s H/\spC K f1 f2 (RWT book num E) vs H Q E0):=by
 have G_turned_about:T.Y5.O P w base 3 (spP K zeC):=(zaW T W2).mono (by decide)
 have G_settled_by:T.Xg.O P w base 3 (spP K zg8):=(Up T).mono (by decide)
 have G_put_together:=@ziv P w K mg base T W2
 obtain ⟨w0,w1,w2,w3,w4,w5,w6,w7,w8,w9,w10,w11,w12,w13⟩:=JL
 refine T.YL.F.okS zaF (λs vs H Q h=>?_) (λcdv A outer s H vs Q hr h=>?_)
 ·obtain ⟨_,G,as,d,xs,rfl,sg,hv,⟨x,want,ps,us,rfl,_⟩,_⟩:=h
  rw[length_append,hv.length];rfl
 ·obtain ⟨⟨C_by_field,C_by_mark⟩,G,as,d,xs,rfl,sg,hv,⟨x,want,ps,us,rfl,hw,hty,rfl⟩,k⟩:=h
  have hu:=hr.units
  obtain ⟨v1,r1,rfl,h1,hv⟩:=hv.cons
  obtain ⟨v2,r2,rfl,h2,hv⟩:=hv.cons
  cases hv.nil
  have go1:∀ {p:Str},Tys (· ∈ book) num [p] us->∃ v,us=[v]/\Ty (· ∈ book) num p v:=λh=>by cases h with | cons a b=>cases b;exact ⟨_,rfl,a⟩
  have go2:∀ {p q:Str},Tys (· ∈ book) num [p,q] us->∃ v u,us=[v,u]/\Ty (· ∈ book) num p v/\Ty (· ∈ book) num q u:=λh=>by cases h with | cons a b=>cases b with | cons b c=>cases c;exact ⟨_,_,rfl,a,b⟩
  have go3:∀ {p q r:Str},Tys (· ∈ book) num [p,q,r] us->∃ v u t,us=[v,u,t]/\Ty (· ∈ book) num p v/\Ty (· ∈ book) num q u/\Ty (· ∈ book) num r t:=λh=>by cases h with | cons a b=>cases b with | cons b c=>cases c with | cons c d=>cases d;exact ⟨_,_,_,rfl,a,b,c⟩
  refine ⟨_,(Zf (Yk (ZF Xc (pv 0) Zz (ZV _)) (Zo (ZD Zz)) ZL)
   (Zf (Yk (ZF Xc (pv 0) Zz (ZV _)) (Zo (ZD (Qa (i:=2) rfl (Or.inl rfl) (hr.mono (by decide)) rfl C_by_field (Za Zz (Za (ZG (Zt (K:=K) rfl) (pv 1) Zi (λ_ _=>rfl)) Zg Zk) Zb)))) ZL)
   (Zf (Yk (ZF Xc (pv 0) Zz (ZV _)) (Zo (ZD (peN T.Y5 G_turned_about hr (Za (Qa (i:=2) rfl (Or.inl rfl) (hr.mono (by decide)) rfl C_by_field (Za Zz (Za (ZG (Zt (K:=K) rfl) (pv 1) Zi (λ_ _=>rfl)) Zg Zk) Zb)) Zg Z8)))) ZL)
   (Zf (Yk (ZF Xc (pv 0) Zz (ZV _)) (Zo (ZD (Qa (i:=2) rfl (Or.inl rfl) (hr.mono (by decide)) rfl C_by_field (Za Zz (Za (ZG (Zt (K:=K) rfl) (pv 1) Zi (λ_ _=>rfl)) Zg Zk) Zb)))) ZL)
   (Zf (Yk (ZF Xc (pv 0) Zz (ZV _)) (Zo (ZD (Qa (i:=3) rfl (Or.inl rfl) (hr.mono (by decide)) rfl C_by_mark (Za Zz (Za (ZG (Zt (K:=K) rfl) (pv 1) Zi (λ_ _=>rfl)) (Za (ZG (Zt (K:=K) rfl) (pv 1) Zi (λ_ _=>rfl)) Zg Zk) Zk) Zb)))) ZL)
   (Zf (Yk (ZF Xc (pv 0) Zz (ZV _)) (Zo (ZD (Qa (i:=3) rfl (Or.inl rfl) (hr.mono (by decide)) rfl C_by_mark (Za Zz (Za (ZG (Zt (K:=K) rfl) (pv 1) Zi (λ_ _=>rfl)) (Za (ZG (Zt (K:=K) rfl) (pv 1) Zi (λ_ _=>rfl)) Zg Zk) Zk) Zb)))) ZL)
   (Zf (Yk (ZF Xc (pv 0) Zz (ZV _)) (Zo (ZD (peN T.Xg G_settled_by hr (Za zbk (Za Zz (Za (ZG (Zt (K:=K) rfl) (pv 1) Zi (λ_ _=>rfl)) Zg Zk) Zb) Zb)))) ZL)
   (Zf (Yk (ZF Xc (pv 0) Zz (ZV _)) (Zo (ZD (peN T.Xg G_settled_by hr (Za zbk (Za Zz (Za (ZG (Zt (K:=K) rfl) (pv 1) Zi (λ_ _=>rfl)) Zg Zk) Zb) Zb)))) ZL)
   (Zo (ZD (peN T.Wz G_put_together hr (Za (pv 0) (Za (pv 1) Zg Zd) Zd)))))))))))) ,?_⟩
  rcases zfp hw with ⟨rfl,rfl,rfl⟩ | ⟨rfl,rfl,rfl⟩ | ⟨rfl,rfl,rfl⟩ | ⟨rfl,rfl,rfl⟩ | ⟨rfl,rfl,rfl⟩ | ⟨rfl,rfl,rfl⟩ | ⟨rfl,rfl,rfl⟩ | ⟨rfl,rfl,rfl⟩ | ⟨rfl,rfl,rfl⟩ | ⟨rfl,rfl,rfl⟩ | ⟨rfl,rfl,rfl⟩ | ⟨rfl,rfl,rfl⟩ | ⟨rfl,rfl,rfl⟩ | ⟨rfl,rfl,rfl⟩
  ·rw[w0] at k
   refine Jg (Je (K:=K) (Zh rfl h1) Zu rfl) sg λG1 H1 q1=>?_
   have g1:=q1
   have h2' := h2.same g1.gg
   exact Yj (K:=K) (G:=G1) Zu q1.gh λv G' H' g hv=>k v G' H' (g1.trans g) hv
  ·obtain ⟨v,rfl,t1⟩:=go1 hty;obtain ⟨z,hz,rfl⟩:=t1.field;rw[w1] at k
   refine ZS (Zm (K:=K) (Zh rfl h1) Zu (by decide +kernel)) sg λG1 H1 q1=>?_
   have g1:=q1
   refine Jg (Je (K:=K) (Zh rfl (h1.same g1.gg)) Zu rfl) q1.gh λG2 H2 q2=>?_
   have g2:=g1.trans q2
   have h2' := h2.same g2.gg
   exact Yj (K:=K) (G:=G2) (Qp (R:=RBF book E) rfl (Zv Zu (Zv (YF (Zh rfl h2') YD rfl rfl) ZZ)) rfl ⟨z,hz,.inl ⟨rfl,rfl⟩⟩) q2.gh λv G' H' g hv=>k v G' H' (g2.trans g) hv
  ·obtain ⟨v,rfl,t1⟩:=go1 hty;obtain ⟨z,hz,rfl⟩:=t1.field;rw[w2] at k
   refine ZS (Zm (K:=K) (Zh rfl h1) Zu (by decide +kernel)) sg λG1 H1 q1=>?_
   have g1:=q1
   refine ZS (Zm (K:=K) (Zh rfl (h1.same g1.gg)) Zu (by decide +kernel)) q1.gh λG2 H2 q2=>?_
   have g2:=g1.trans q2
   refine Jg (Je (K:=K) (Zh rfl (h1.same g2.gg)) Zu rfl) q2.gh λG3 H3 q3=>?_
   have g3:=g2.trans q3
   have h2' := h2.same g3.gg
   exact Yj (K:=K) (G:=G3) (Yi (E:=E0) (R:=zeC) (Zv (Qp (R:=RBF book E) rfl (Zv Zu (Zv (YF (Zh rfl h2') YD rfl rfl) ZZ)) rfl ⟨z,hz,.inl ⟨rfl,rfl⟩⟩) ZZ) ⟨_,rfl,rfl⟩) q3.gh λv G' H' g hv=>k v G' H' (g3.trans g) hv
  ·obtain ⟨v,u,rfl,t1,t2⟩:=go2 hty;obtain ⟨a,rfl⟩:=t1.order;obtain ⟨b,rfl⟩:=t2.order;rw[w3] at k
   refine ZS (Zm (K:=K) (Zh rfl h1) Zu (by decide +kernel)) sg λG1 H1 q1=>?_
   have g1:=q1
   refine ZS (Zm (K:=K) (Zh rfl (h1.same g1.gg)) Zu (by decide +kernel)) q1.gh λG2 H2 q2=>?_
   have g2:=g1.trans q2
   refine ZS (Zm (K:=K) (Zh rfl (h1.same g2.gg)) Zu (by decide +kernel)) q2.gh λG3 H3 q3=>?_
   have g3:=g2.trans q3
   refine ZS (Zm (K:=K) (Zh rfl (h1.same g3.gg)) Zu (by decide +kernel)) q3.gh λG4 H4 q4=>?_
   have g4:=g3.trans q4
   refine ZS (Zm (K:=K) (Zh rfl (h1.same g4.gg)) Zu (by decide +kernel)) q4.gh λG5 H5 q5=>?_
   have g5:=g4.trans q5
   refine ZS (Zm (K:=K) (Zh rfl (h1.same g5.gg)) Zu (by decide +kernel)) q5.gh λG6 H6 q6=>?_
   have g6:=g5.trans q6
   refine ZS (Zm (K:=K) (Zh rfl (h1.same g6.gg)) Zu (by decide +kernel)) q6.gh λG7 H7 q7=>?_
   have g7:=g6.trans q7
   refine ZS (Zm (K:=K) (Zh rfl (h1.same g7.gg)) Zu (by decide +kernel)) q7.gh λG8 H8 q8=>?_
   have g8:=g7.trans q8
   have h2' := h2.same g8.gg
   exact Yj (K:=K) (G:=G8) (Yi (E:=E0) (R:=zfP) (Zv (Zh rfl (h1.same g8.gg)) (Zv (Zh rfl h2') ZZ)) ⟨_,3,_,rfl,rfl,.inl ⟨rfl,rfl,a,b,rfl⟩⟩) q8.gh λv G' H' g hv=>k v G' H' (g8.trans g) hv
  ·obtain ⟨v,rfl,t1⟩:=go1 hty;obtain ⟨a,rfl⟩:=t1.order;rw[w4] at k
   refine ZS (Zm (K:=K) (Zh rfl h1) Zu (by decide +kernel)) sg λG1 H1 q1=>?_
   have g1:=q1
   refine ZS (Zm (K:=K) (Zh rfl (h1.same g1.gg)) Zu (by decide +kernel)) q1.gh λG2 H2 q2=>?_
   have g2:=g1.trans q2
   refine ZS (Zm (K:=K) (Zh rfl (h1.same g2.gg)) Zu (by decide +kernel)) q2.gh λG3 H3 q3=>?_
   have g3:=g2.trans q3
   refine ZS (Zm (K:=K) (Zh rfl (h1.same g3.gg)) Zu (by decide +kernel)) q3.gh λG4 H4 q4=>?_
   have g4:=g3.trans q4
   refine ZS (Zm (K:=K) (Zh rfl (h1.same g4.gg)) Zu (by decide +kernel)) q4.gh λG5 H5 q5=>?_
   have g5:=g4.trans q5
   refine ZS (Zm (K:=K) (Zh rfl (h1.same g5.gg)) Zu (by decide +kernel)) q5.gh λG6 H6 q6=>?_
   have g6:=g5.trans q6
   refine ZS (Zm (K:=K) (Zh rfl (h1.same g6.gg)) Zu (by decide +kernel)) q6.gh λG7 H7 q7=>?_
   have g7:=g6.trans q7
   refine ZS (Zm (K:=K) (Zh rfl (h1.same g7.gg)) Zu (by decide +kernel)) q7.gh λG8 H8 q8=>?_
   have g8:=g7.trans q8
   have h2' := h2.same g8.gg
   exact Yj (K:=K) (G:=G8) (Yi (E:=E0) (R:=zfP) (Zv (Zh rfl (h1.same g8.gg)) (Zv (Zh rfl h2') ZZ)) ⟨_,4,_,rfl,rfl,.inr (.inl ⟨rfl,rfl,a,rfl⟩)⟩) q8.gh λv G' H' g hv=>k v G' H' (g8.trans g) hv
  ·obtain ⟨v,u,t,rfl,t1,t2,t3⟩:=go3 hty;obtain ⟨c,rfl⟩:=t1.case;obtain ⟨a,rfl⟩:=t2.order;obtain ⟨b,rfl⟩:=t3.order;rw[w5] at k
   refine ZS (Zm (K:=K) (Zh rfl h1) Zu (by decide +kernel)) sg λG1 H1 q1=>?_
   have g1:=q1
   refine ZS (Zm (K:=K) (Zh rfl (h1.same g1.gg)) Zu (by decide +kernel)) q1.gh λG2 H2 q2=>?_
   have g2:=g1.trans q2
   refine ZS (Zm (K:=K) (Zh rfl (h1.same g2.gg)) Zu (by decide +kernel)) q2.gh λG3 H3 q3=>?_
   have g3:=g2.trans q3
   refine ZS (Zm (K:=K) (Zh rfl (h1.same g3.gg)) Zu (by decide +kernel)) q3.gh λG4 H4 q4=>?_
   have g4:=g3.trans q4
   refine ZS (Zm (K:=K) (Zh rfl (h1.same g4.gg)) Zu (by decide +kernel)) q4.gh λG5 H5 q5=>?_
   have g5:=g4.trans q5
   refine ZS (Zm (K:=K) (Zh rfl (h1.same g5.gg)) Zu (by decide +kernel)) q5.gh λG6 H6 q6=>?_
   have g6:=g5.trans q6
   refine ZS (Zm (K:=K) (Zh rfl (h1.same g6.gg)) Zu (by decide +kernel)) q6.gh λG7 H7 q7=>?_
   have g7:=g6.trans q7
   refine ZS (Zm (K:=K) (Zh rfl (h1.same g7.gg)) Zu (by decide +kernel)) q7.gh λG8 H8 q8=>?_
   have g8:=g7.trans q8
   have h2' := h2.same g8.gg
   exact Yj (K:=K) (G:=G8) (Yi (E:=E0) (R:=zfP) (Zv (Zh rfl (h1.same g8.gg)) (Zv (Zh rfl h2') ZZ)) ⟨_,5,_,rfl,rfl,.inr (.inr (.inl ⟨rfl,rfl,c,a,b,rfl⟩))⟩) q8.gh λv G' H' g hv=>k v G' H' (g8.trans g) hv
  ·obtain ⟨v,rfl,t1⟩:=go1 hty;obtain ⟨z,hz,rfl⟩:=t1.field;rw[w6] at k
   refine ZS (Zm (K:=K) (Zh rfl h1) Zu (by decide +kernel)) sg λG1 H1 q1=>?_
   have g1:=q1
   refine ZS (Zm (K:=K) (Zh rfl (h1.same g1.gg)) Zu (by decide +kernel)) q1.gh λG2 H2 q2=>?_
   have g2:=g1.trans q2
   refine ZS (Zm (K:=K) (Zh rfl (h1.same g2.gg)) Zu (by decide +kernel)) q2.gh λG3 H3 q3=>?_
   have g3:=g2.trans q3
   refine Jg (Je (K:=K) (Zh rfl (h1.same g3.gg)) Zu rfl) q3.gh λG4 H4 q4=>?_
   have g4:=g3.trans q4
   have h2' := h2.same g4.gg
   exact Yj (K:=K) (G:=G4) (Qp (R:=RBF book E) rfl (Zv Zu (Zv (YF (Zh rfl h2') YD rfl rfl) ZZ)) rfl ⟨z,hz,.inr ⟨rfl,rfl⟩⟩) q4.gh λv G' H' g hv=>k v G' H' (g4.trans g) hv
  ·obtain ⟨v,rfl,t1⟩:=go1 hty;obtain ⟨a,b,rfl⟩:=t1.mark;rw[w7] at k
   refine ZS (Zm (K:=K) (Zh rfl h1) Zu (by decide +kernel)) sg λG1 H1 q1=>?_
   have g1:=q1
   refine ZS (Zm (K:=K) (Zh rfl (h1.same g1.gg)) Zu (by decide +kernel)) q1.gh λG2 H2 q2=>?_
   have g2:=g1.trans q2
   refine ZS (Zm (K:=K) (Zh rfl (h1.same g2.gg)) Zu (by decide +kernel)) q2.gh λG3 H3 q3=>?_
   have g3:=g2.trans q3
   refine ZS (Zm (K:=K) (Zh rfl (h1.same g3.gg)) Zu (by decide +kernel)) q3.gh λG4 H4 q4=>?_
   have g4:=g3.trans q4
   refine ZS (Zm (K:=K) (Zh rfl (h1.same g4.gg)) Zu (by decide +kernel)) q4.gh λG5 H5 q5=>?_
   have g5:=g4.trans q5
   refine ZS (Zm (K:=K) (Zh rfl (h1.same g5.gg)) Zu (by decide +kernel)) q5.gh λG6 H6 q6=>?_
   have g6:=g5.trans q6
   refine Jg (Je (K:=K) (Zh rfl (h1.same g6.gg)) Zu rfl) q6.gh λG7 H7 q7=>?_
   have g7:=g6.trans q7
   have h2' := h2.same g7.gg
   exact Yj (K:=K) (G:=G7) (Yi (E:=E0) (R:=zg8) (Zv zf8 (Zv Zu (Zv (YF (Zh rfl h2') YD rfl rfl) ZZ))) ⟨false,_,a,b,rfl,rfl⟩) q7.gh λv G' H' g hv=>k v G' H' (g7.trans g) hv
  ·obtain ⟨v,rfl,t1⟩:=go1 hty;obtain ⟨a,b,rfl⟩:=t1.mark;rw[w8] at k
   refine ZS (Zm (K:=K) (Zh rfl h1) Zu (by decide +kernel)) sg λG1 H1 q1=>?_
   have g1:=q1
   refine ZS (Zm (K:=K) (Zh rfl (h1.same g1.gg)) Zu (by decide +kernel)) q1.gh λG2 H2 q2=>?_
   have g2:=g1.trans q2
   refine ZS (Zm (K:=K) (Zh rfl (h1.same g2.gg)) Zu (by decide +kernel)) q2.gh λG3 H3 q3=>?_
   have g3:=g2.trans q3
   refine ZS (Zm (K:=K) (Zh rfl (h1.same g3.gg)) Zu (by decide +kernel)) q3.gh λG4 H4 q4=>?_
   have g4:=g3.trans q4
   refine ZS (Zm (K:=K) (Zh rfl (h1.same g4.gg)) Zu (by decide +kernel)) q4.gh λG5 H5 q5=>?_
   have g5:=g4.trans q5
   refine ZS (Zm (K:=K) (Zh rfl (h1.same g5.gg)) Zu (by decide +kernel)) q5.gh λG6 H6 q6=>?_
   have g6:=g5.trans q6
   refine ZS (Zm (K:=K) (Zh rfl (h1.same g6.gg)) Zu (by decide +kernel)) q6.gh λG7 H7 q7=>?_
   have g7:=g6.trans q7
   refine Jg (Je (K:=K) (Zh rfl (h1.same g7.gg)) Zu rfl) q7.gh λG8 H8 q8=>?_
   have g8:=g7.trans q8
   have h2' := h2.same g8.gg
   exact Yj (K:=K) (G:=G8) (Yi (E:=E0) (R:=zg8) (Zv zf8 (Zv Zu (Zv (YF (Zh rfl h2') YD rfl rfl) ZZ))) ⟨true,_,a,b,rfl,rfl⟩) q8.gh λv G' H' g hv=>k v G' H' (g8.trans g) hv
  ·obtain ⟨v,rfl,t1⟩:=go1 hty;obtain ⟨a,rfl⟩:=t1.case;rw[w9] at k
   refine ZS (Zm (K:=K) (Zh rfl h1) Zu (by decide +kernel)) sg λG1 H1 q1=>?_
   have g1:=q1
   refine ZS (Zm (K:=K) (Zh rfl (h1.same g1.gg)) Zu (by decide +kernel)) q1.gh λG2 H2 q2=>?_
   have g2:=g1.trans q2
   refine ZS (Zm (K:=K) (Zh rfl (h1.same g2.gg)) Zu (by decide +kernel)) q2.gh λG3 H3 q3=>?_
   have g3:=g2.trans q3
   refine ZS (Zm (K:=K) (Zh rfl (h1.same g3.gg)) Zu (by decide +kernel)) q3.gh λG4 H4 q4=>?_
   have g4:=g3.trans q4
   refine ZS (Zm (K:=K) (Zh rfl (h1.same g4.gg)) Zu (by decide +kernel)) q4.gh λG5 H5 q5=>?_
   have g5:=g4.trans q5
   refine ZS (Zm (K:=K) (Zh rfl (h1.same g5.gg)) Zu (by decide +kernel)) q5.gh λG6 H6 q6=>?_
   have g6:=g5.trans q6
   refine ZS (Zm (K:=K) (Zh rfl (h1.same g6.gg)) Zu (by decide +kernel)) q6.gh λG7 H7 q7=>?_
   have g7:=g6.trans q7
   refine ZS (Zm (K:=K) (Zh rfl (h1.same g7.gg)) Zu (by decide +kernel)) q7.gh λG8 H8 q8=>?_
   have g8:=g7.trans q8
   have h2' := h2.same g8.gg
   exact Yj (K:=K) (G:=G8) (Yi (E:=E0) (R:=zfP) (Zv (Zh rfl (h1.same g8.gg)) (Zv (Zh rfl h2') ZZ)) ⟨_,9,_,rfl,rfl,.inr (.inr (.inr (.inl ⟨rfl,rfl,a,rfl⟩)))⟩) q8.gh λv G' H' g hv=>k v G' H' (g8.trans g) hv
  ·obtain ⟨v,u,rfl,t1,t2⟩:=go2 hty;obtain ⟨a,rfl⟩:=t1.case;obtain ⟨b,rfl⟩:=t2.case;rw[w10] at k
   refine ZS (Zm (K:=K) (Zh rfl h1) Zu (by decide +kernel)) sg λG1 H1 q1=>?_
   have g1:=q1
   refine ZS (Zm (K:=K) (Zh rfl (h1.same g1.gg)) Zu (by decide +kernel)) q1.gh λG2 H2 q2=>?_
   have g2:=g1.trans q2
   refine ZS (Zm (K:=K) (Zh rfl (h1.same g2.gg)) Zu (by decide +kernel)) q2.gh λG3 H3 q3=>?_
   have g3:=g2.trans q3
   refine ZS (Zm (K:=K) (Zh rfl (h1.same g3.gg)) Zu (by decide +kernel)) q3.gh λG4 H4 q4=>?_
   have g4:=g3.trans q4
   refine ZS (Zm (K:=K) (Zh rfl (h1.same g4.gg)) Zu (by decide +kernel)) q4.gh λG5 H5 q5=>?_
   have g5:=g4.trans q5
   refine ZS (Zm (K:=K) (Zh rfl (h1.same g5.gg)) Zu (by decide +kernel)) q5.gh λG6 H6 q6=>?_
   have g6:=g5.trans q6
   refine ZS (Zm (K:=K) (Zh rfl (h1.same g6.gg)) Zu (by decide +kernel)) q6.gh λG7 H7 q7=>?_
   have g7:=g6.trans q7
   refine ZS (Zm (K:=K) (Zh rfl (h1.same g7.gg)) Zu (by decide +kernel)) q7.gh λG8 H8 q8=>?_
   have g8:=g7.trans q8
   have h2' := h2.same g8.gg
   exact Yj (K:=K) (G:=G8) (Yi (E:=E0) (R:=zfP) (Zv (Zh rfl (h1.same g8.gg)) (Zv (Zh rfl h2') ZZ)) ⟨_,10,_,rfl,rfl,.inr (.inr (.inr (.inr (.inl ⟨rfl,rfl,a,b,rfl⟩))))⟩) q8.gh λv G' H' g hv=>k v G' H' (g8.trans g) hv
  ·obtain ⟨v,u,rfl,t1,t2⟩:=go2 hty;obtain ⟨a,rfl⟩:=t1.case;obtain ⟨b,rfl⟩:=t2.case;rw[w11] at k
   refine ZS (Zm (K:=K) (Zh rfl h1) Zu (by decide +kernel)) sg λG1 H1 q1=>?_
   have g1:=q1
   refine ZS (Zm (K:=K) (Zh rfl (h1.same g1.gg)) Zu (by decide +kernel)) q1.gh λG2 H2 q2=>?_
   have g2:=g1.trans q2
   refine ZS (Zm (K:=K) (Zh rfl (h1.same g2.gg)) Zu (by decide +kernel)) q2.gh λG3 H3 q3=>?_
   have g3:=g2.trans q3
   refine ZS (Zm (K:=K) (Zh rfl (h1.same g3.gg)) Zu (by decide +kernel)) q3.gh λG4 H4 q4=>?_
   have g4:=g3.trans q4
   refine ZS (Zm (K:=K) (Zh rfl (h1.same g4.gg)) Zu (by decide +kernel)) q4.gh λG5 H5 q5=>?_
   have g5:=g4.trans q5
   refine ZS (Zm (K:=K) (Zh rfl (h1.same g5.gg)) Zu (by decide +kernel)) q5.gh λG6 H6 q6=>?_
   have g6:=g5.trans q6
   refine ZS (Zm (K:=K) (Zh rfl (h1.same g6.gg)) Zu (by decide +kernel)) q6.gh λG7 H7 q7=>?_
   have g7:=g6.trans q7
   refine ZS (Zm (K:=K) (Zh rfl (h1.same g7.gg)) Zu (by decide +kernel)) q7.gh λG8 H8 q8=>?_
   have g8:=g7.trans q8
   have h2' := h2.same g8.gg
   exact Yj (K:=K) (G:=G8) (Yi (E:=E0) (R:=zfP) (Zv (Zh rfl (h1.same g8.gg)) (Zv (Zh rfl h2') ZZ)) ⟨_,11,_,rfl,rfl,.inr (.inr (.inr (.inr (.inr ⟨rfl,rfl,a,b,rfl⟩))))⟩) q8.gh λv G' H' g hv=>k v G' H' (g8.trans g) hv
  ·obtain ⟨v,u,rfl,t1,t2⟩:=go2 hty;obtain ⟨z,hz,rfl⟩:=t1.field;obtain ⟨a,b,hab,rfl⟩:=t2.number;rw[w12] at k
   refine ZS (Zm (K:=K) (Zh rfl h1) Zu (by decide +kernel)) sg λG1 H1 q1=>?_
   have g1:=q1
   refine ZS (Zm (K:=K) (Zh rfl (h1.same g1.gg)) Zu (by decide +kernel)) q1.gh λG2 H2 q2=>?_
   have g2:=g1.trans q2
   refine ZS (Zm (K:=K) (Zh rfl (h1.same g2.gg)) Zu (by decide +kernel)) q2.gh λG3 H3 q3=>?_
   have g3:=g2.trans q3
   refine ZS (Zm (K:=K) (Zh rfl (h1.same g3.gg)) Zu (by decide +kernel)) q3.gh λG4 H4 q4=>?_
   have g4:=g3.trans q4
   refine Jg (Je (K:=K) (Zh rfl (h1.same g4.gg)) Zu rfl) q4.gh λG5 H5 q5=>?_
   have g5:=g4.trans q5
   have h2' := h2.same g5.gg
   exact Yj (K:=K) (G:=G5) (Qp (R:=RBM book num E) rfl (Zv Zu (Zv (YF (Zh rfl h2') YD rfl rfl) (Zv (YF (Zh rfl h2') YD rfl rfl) ZZ))) rfl ⟨z,hz,a,b,hab,.inl ⟨rfl,rfl⟩⟩) q5.gh λv G' H' g hv=>k v G' H' (g5.trans g) hv
  ·obtain ⟨v,u,rfl,t1,t2⟩:=go2 hty;obtain ⟨z,hz,rfl⟩:=t1.field;obtain ⟨a,b,hab,rfl⟩:=t2.number;rw[w13] at k
   refine ZS (Zm (K:=K) (Zh rfl h1) Zu (by decide +kernel)) sg λG1 H1 q1=>?_
   have g1:=q1
   refine ZS (Zm (K:=K) (Zh rfl (h1.same g1.gg)) Zu (by decide +kernel)) q1.gh λG2 H2 q2=>?_
   have g2:=g1.trans q2
   refine ZS (Zm (K:=K) (Zh rfl (h1.same g2.gg)) Zu (by decide +kernel)) q2.gh λG3 H3 q3=>?_
   have g3:=g2.trans q3
   refine ZS (Zm (K:=K) (Zh rfl (h1.same g3.gg)) Zu (by decide +kernel)) q3.gh λG4 H4 q4=>?_
   have g4:=g3.trans q4
   refine ZS (Zm (K:=K) (Zh rfl (h1.same g4.gg)) Zu (by decide +kernel)) q4.gh λG5 H5 q5=>?_
   have g5:=g4.trans q5
   refine Jg (Je (K:=K) (Zh rfl (h1.same g5.gg)) Zu rfl) q5.gh λG6 H6 q6=>?_
   have g6:=g5.trans q6
   have h2' := h2.same g6.gg
   exact Yj (K:=K) (G:=G6) (Qp (R:=RBM book num E) rfl (Zv Zu (Zv (YF (Zh rfl h2') YD rfl rfl) (Zv (YF (Zh rfl h2') YD rfl rfl) ZZ))) rfl ⟨z,hz,a,b,hab,.inr ⟨rfl,rfl⟩⟩) q6.gh λv G' H' g hv=>k v G' H' (g6.trans g) hv
open Ord Look Rdo
theorem zfW {K:PySem.W.Frag}{a:Addr}{xs:List V}{g:TG}{tb:TS}{D:Ends}{σ:St}{H:Hp}(Pv:Nat->St->Hp->Prop)(h0:Pv 0 σ H)(hl:∀ i σ H,i<=xs.length->Pv i σ H->SqT K H a xs)
  (hs:∀ i x σ H,xs.reverse[i]?=some x->Pv i σ H->g x σ H fun σ2 H2=>tb { D with nx:=Pv (i+1),ct:=Pv (i+1),bk:=D.nx } σ2 H2) (hd:∀ σ H,Pv xs.length σ H->D.nx σ H):
  ∃ W:Nat->Nat->St->Hp->Prop,(∃ m,W 0 m σ H)/\∀ i m σ H,W i m σ H->
   ((Itv K a xs.length).stop i H/\D.nx σ H)\/((Itv K a xs.length).go i H/\∃ N:St->Hp->Prop,(∀ σ' H',N σ' H' -> ∃ m',m'<m/\W (i+1) m' σ' H')/\∀ x H',(Itv K a xs.length).yld i H x H' -> g x σ H' fun σ2 H2=>tb { D with nx:=N,ct:=N,bk:=D.nx } σ2 H2):=by
 refine ⟨λi m σ H=>m=xs.length-i/\i<=xs.length/\Pv i σ H,⟨xs.length,by simp,zero_le _,h0⟩,?_⟩
 rintro i m σ H ⟨rfl,hi,p⟩
 have q:=hl i σ H hi p
 by_cases hlt:i<xs.length
 ·refine .inr ⟨⟨hlt,xs,q,rfl⟩,Pv (i+1),fun σ' H' p' => ⟨xs.length-(i+1),by omega,rfl,hlt,p'⟩,λx H' y=>?_⟩
  obtain ⟨e,y⟩:=y
  subst e
  exact hs i x σ _ (y xs q) p
 ·have e:i=xs.length:=by omega
  subst e
  exact .inl ⟨⟨rfl,xs,q⟩,hd σ H p⟩
theorem zbJ {fld:Str->Prop}{num:Int->Int->Prop}:∀ {ws:List Wd}{st st' : List Str},Run fld num st ws st' -> Kinds st->∀ j,∃ st2,Kinds st2/\Run fld num st2 (ws.drop j) st'
 | ws,st,_,h,hk,0=>⟨st,hk,h⟩
 | [],st,_,h,hk,j+1=>⟨st,hk,h⟩
 | w::ws,st,_,h,hk,j+1=>by
  cases h with
  | cons a b=>exact zbJ b (Qq a hk) j
def zhA (book:List Str)(num:Int->Int->Prop)(E:En):List PyData->PyData->Prop:=λas d=>∃ (ws:List Wd) (a:An),as=[.tuple (ws.map Wd.d)]/\Ql (· ∈ book) num ws/\(∀ R,ev E ws R = .an a::R)/\ws.length<=900/\d = .str a.t
theorem zdF {E:En}:∀ (ws:List Wd),(ev E ws []).length<=ws.length
 | []=>Nat.le_refl _
 | w::ws=>by
  have ih:=zdF (E:=E) ws
  show (push E w (ev E ws [])).length<=ws.length+1
  unfold push
  split
  ·rw[length_cons];omega
  ·split
   ·rw[length_cons,length_drop];omega
   ·rw[length_cons];omega
theorem zhm {σ:St}{G:Hp}{tb:TE}{x:Str}{r:Str×Str×List Str}(W:Wds K w.params mg)(hb:Ev K tb σ G (.str x))(h:Ym x=some r):
  Ev K (tOp (λx y H Q=>∃ z a g v u,x = .ref a/\y = .str z/\zaU K w.params a g/\g z=some (v,u)/\Q v H) (tC (.ref W.a)) tb) σ G (.tuple [.str r.2.1,.tuple (r.2.2.map PyData.str)]):=
 λG1 H s1 s2 Q k=>hb G1 H s1 s2 _ λu G2 H2 g2 hu=>by
  obtain ⟨v,u',hg,hd⟩:=W.yes x r h
  rw[hu.str]
  exact ⟨x,W.a,W.g,v,u',rfl,rfl,W.D,hg,k _ G2 H2 g2 (hd G2)⟩
theorem zb7 (T:Top K mg)(W:Wds K w.params mg)(W2:Txs K w.params mg "OTHER_WAY" Qm)(book:List Str)(num:Int->Int->Prop)(E:En)(hf:∀ z∈book,Ym z=none)(f1 f2:Addr):
  V5 P w K mg base 5 T.WQ.f T.WQ.fd ["order", "by_field", "by_mark"] (λs vs H Q=>cls2 P w K mg base book num E f1 f2 s H/\spC K f1 f2 (zhA book num E) vs H Q E0):=by
 have G_word_told:V5 P w K mg base 4 T.YL.f T.YL.fd ["word", "parts", "by_field", "by_mark"] (λs vs H Q=>cls2 P w K mg base book num E f1 f2 s H/\spC K f1 f2 (RWT book num E) vs H Q E0):=zjd T W2 book num E f1 f2
 have G_taken:T.UG.O P w base 4 zdy:=(zed T).mono (by decide)
 have hst:=zfT (P:=P) (w:=w) (K:=K) (mg:=mg) (base:=base) (book:=book) (num:=num) (E:=E) (f1:=f1) (f2:=f2)
 refine T.WQ.F.okS QK (λs vs H Q h=>?_) (λcdv A outer s H vs Q hr h=>?_)
 ·obtain ⟨_,G,as,d,xs,rfl,sg,hv,⟨ws,a,rfl,_⟩,_⟩:=h
  rw[length_append,hv.length];rfl
 ·obtain ⟨hC,G,as,d,xs,rfl,sg,hv,⟨ws,a,rfl,ho,hev,hlen,rfl⟩,k⟩:=h
  have hu:=hr.units
  have zl:(2000:Nat)<=sizeLine:=by decide
  obtain ⟨v1,r1,rfl,h1,hv⟩:=hv.cons
  cases hv.nil
  obtain ⟨po,os,rfl,hpo,hos⟩:=h1.tup
  have hol:os.length=ws.length:=by rw[hos.length,length_map]
  refine ⟨_,(Zf (ZQ (i:=3) QK.nd rfl (Or.inl rfl) (Yg Zg))
   (Zf (Qd PassesOwn.never rfl (zi0 (by rfl) T.zcV (pv 0)) (Xn (i:=4) QK.nd rfl (Or.inl rfl)) (Zo (Yk (ZF (zgi hu) (pv 4) (zac (v:=.ref W.a) (by rfl) W.m rfl) (by rfl)) (Zo (Jq (Ui plainAttrs_list PySem.F.slot_list_append PySem.F.type_list_append XC (pv 3) (Za (zeQ G_word_told hC hst rfl hr (by rfl) T.YL.m T.YL.F.kp T.YL.b (Za (pv 4) (Za (peN T.UG G_taken hr (Za (pv 3) (Za (Yq (YB (K:=K) rfl) (by rfl) T.zcB PySem.boot_len (Za (ZG (Z3 (K:=K) rfl) (ZG UV (zac (v:=.ref W.a) (by rfl) W.m rfl) (pv 4) (λ_ _=>rfl)) Zi (λ_ _=>rfl)) Zg Zk)) Zg Z8) Zd)) (Za (pv 1) (Za (pv 2) Zg Zd) Zd) Z8) Zd)) Zg Z8)))) (Zo (Jq (Ui plainAttrs_list PySem.F.slot_list_append PySem.F.type_list_append XC (pv 3) (Za (pv 4) Zg Zd)))))))
   (Zo (ZD (ZG (Zt (K:=K) rfl) (pv 3) Zi (λ_ _=>rfl)))))) ,?_⟩
  refine ⟨(by show 0<=sizeLine;decide),λpt hpt=>?_⟩
  refine ⟨_,rfl,po,os,rfl,(XR hpt).tup (sg.tup hpo),zfW (λi σ H' => ∃ (v:Option V) (xs:List V) (G' : Hp),σ=[some (.ref po),some (.ref f1),some (.ref f2),some (.ref pt),v]/\H' pt=some (.lst xs)/\Yc K G' xs ((ev E (ws.drop (ws.length-i)) []).map Tv.d).reverse/\ZR G G' /\ ZR G' H' /\ G' pt=none/\ZR H H')
   ⟨_,[],G,rfl,Zy,by rw[Nat.sub_zero,List.drop_length];exact Z7,ZR.refl _,sg.trans (XR hpt),sg.free hpt,XR hpt⟩ ?_ ?_ ?_⟩
  ·rintro i σ H' _ ⟨v,xs,G',rfl,_,_,g1,g2,_,_⟩
   exact (g1.trans g2).tup hpo
  ·rintro i x σ H' hx ⟨v,xs,G',rfl,hp,hxs,g1,g2,g3,g4⟩
   have hi:i<ws.length:=by
    have:=(List.getElem?_eq_some_iff.mp hx).1
    rw[length_reverse,hol] at this;exact this
   have hdr:ws.drop (ws.length-(i+1))=ws[ws.length-(i+1)]::ws.drop (ws.length-i):=by
    rw[List.drop_eq_getElem_cons (by omega:ws.length-(i+1)<ws.length)]
    congr 2;omega
   obtain ⟨st,hks,hrun⟩:=zbJ ho zgt (ws.length-(i+1))
   rw[hdr] at hrun
   have hxd:Dat K G x (ws[ws.length-(i+1)]).d:=by
    obtain ⟨d,e1,e2⟩:=(Uy hos).zjC hx
    rw[List.getElem?_reverse (by rw[length_map];exact hi),length_map,getElem?_map,getElem?_eq_getElem (by omega)] at e1
    have e1:some (ws[ws.length-1-i]).d=some d:=e1
    injection e1 with e1
    have e3:ws[ws.length-(i+1)]=ws[ws.length-1-i]:=by congr 1;omega
    rw[e3,e1];exact e2
   have hevs:ev E (ws.drop (ws.length-(i+1))) []=push E ws[ws.length-(i+1)] (ev E (ws.drop (ws.length-i)) []):=by rw[hdr];rfl
   have hsl:=zdF (E:=E) (ws.drop (ws.length-i))
   rw[length_drop] at hsl
   rw[hevs]
   generalize ws[ws.length-(i+1)]=wd at hrun hxd
   generalize ws.drop (ws.length-i)=wr at hrun hxs hsl
   cases hrun with
   | @cons _ st1 _ _ _ sa sb=>
    obtain ⟨hty,_⟩:=zjj (E:=E) hf sb (Qq sa hks) (vs:=[]) .nil
    generalize ev E wr []=stk at hty hxs hsl
    have hxl:xs.length=stk.length:=by rw[hxs.length,length_reverse,length_map]
    have hxd' := hxd.same g1
    rcases VF sa hks with ⟨z,st0,rfl,rfl,hz,rfl⟩ | ⟨b,c,st0,rfl,rfl,hbc,rfl⟩ | ⟨want,z,ps,st0,rfl,rfl,n1,n2,hw,hl3,rfl⟩
    ·have e:push E (.t z) stk = .wd (.t z)::stk:=by unfold push;dsimp only;rw[hf z hz]
     rw[e]
     have ez:x=V.str z:=hxd'.str
     subst ez
     refine ⟨_,rfl,W.a,W.g,rfl,W.D,.inl ⟨z,rfl,?_⟩⟩
     rw[W.no z (hf z hz)]
     refine ⟨_,rfl,zjw ?_⟩
     refine ⟨_,rfl,.inl ⟨rfl,_,SqL.of hp⟩,_,rfl,pt,_,_,rfl,rfl,hp,by omega,?_⟩
     refine ⟨_,_,G',rfl,Zy,?_,g1,JB g2 g3,g3,JB g4 hpt⟩
     rw[map_cons,reverse_cons]
     exact XJ hxs (YZ z)
    ·obtain ⟨pn,ns,rfl,hpn,hns⟩:=hxd'.tup
     obtain ⟨y1,s1,rfl,d1,hns⟩:=hns.cons
     obtain ⟨y2,s2,rfl,d2,hns⟩:=hns.cons
     cases hns.nil
     rw[d1.int,d2.int] at hpn
     refine ⟨_,rfl,W.a,W.g,rfl,W.D,.inr ⟨pn,b,c,rfl,g2.tup hpn,?_⟩⟩
     refine ⟨_,rfl,zjw ?_⟩
     refine ⟨_,rfl,.inl ⟨rfl,_,SqL.of hp⟩,_,rfl,pt,_,_,rfl,rfl,hp,by omega,?_⟩
     refine ⟨_,_,G',rfl,Zy,?_,g1,JB g2 g3,g3,JB g4 hpt⟩
     show Yc K G' _ ((Tv.wd (.n b c)::stk).map Tv.d).reverse
     rw[map_cons,reverse_cons]
     exact XJ hxs hxd'
    ·have e:push E (.t z) stk=zgn E (wix z) (stk.take ps.length)::stk.drop ps.length:=by unfold push;dsimp only;rw[hw]
     rw[e]
     have ez:x=V.str z:=hxd'.str
     subst ez
     obtain ⟨u,v',hg,_⟩:=W.yes z _ hw
     refine ⟨_,rfl,W.a,W.g,rfl,W.D,.inl ⟨z,rfl,?_⟩⟩
     rw[hg]
     refine ⟨_,rfl,zjQ ?_⟩
     have hpl:ps.length<=stk.length:=by have:=hty.length;rw[length_append] at this;omega
     have hLn:stk.length-(stk.length-ps.length)=ps.length:=by omega
     refine ⟨_,rfl,.inl ⟨rfl,_,SqL.of hp⟩,_,rfl,_,rfl,?_⟩
     refine (zc6 (K:=K) (G:=G') (Zv (JR (zhm W (Zh rfl (YZ z)) hw) YD rfl rfl) ZZ)).use g2 λv6 G6 H6 g6 h6=>?_
     rw[h6.int,length_map]
     have hp6:=g6.hh _ _ hp
     have g6pt:G6 pt=none:=by
      cases e:G6 pt with
      | none=>rfl
      | some o=>
       rcases g6.fr pt o e with q | q
       ·rw[g3] at q;cases q
       ·rw[hp] at q;cases q
     refine ⟨pt,ps.length,xs,rfl,hp6,by rw[hxl];exact hpl,by omega,λl H7 hl nlp h7l h7p h7o=>?_⟩
     have g6l:G6 l=none:=g6.gh.free hl
     have s67:ZR (L2.upd G6 l (.lst (xs.drop (xs.length-ps.length)).reverse)) H7:=λb o q=>by
      by_cases hb:b=l
      ·subst hb;rw[Zy] at q;rw[← q];exact h7l
      ·rw[ZC hb] at q
       have hbp:b≠pt:=λz=>by subst z;rw[g6pt] at q;cases q
       rw[h7o b hb hbp];exact g6.gh _ _ q
     have hxs6:=hxs.same g6.gg
     have hys:Yc K G6 (xs.drop (xs.length-ps.length)).reverse ((stk.take ps.length).map Tv.d):=by
      have q:=Uy (Jo (xs.length-ps.length) hxs6)
      rw[List.drop_reverse,List.reverse_reverse,length_map,hxl,hLn,← map_take] at q
      rw[hxl];exact q
     refine ⟨_,rfl,_,rfl,L2.upd G6 l (.lst (xs.drop (xs.length-ps.length)).reverse),[.str z,.list ((stk.take ps.length).map Tv.d)],_,[.str z,.ref l],rfl,s67,Z1 (YZ z) (Z1 (YX Zy (hys.same (XR g6l))) Z7),⟨z,want,ps,_,rfl,hw,(Ud hty).1,rfl⟩,λv8 G8 H8 g8 h8=>?_⟩
     have g8pt:G8 pt=none:=by
      cases e:G8 pt with
      | none=>rfl
      | some o=>
       rcases g8.fr pt o e with q | q
       ·rw[ZC (Ne.symm nlp),g6pt] at q;cases q
       ·rw[h7p] at q;cases q
     have s68:ZR G6 G8:=(XR g6l).trans g8.gg
     refine ⟨pt,_,_,rfl,rfl,g8.hh _ _ h7p,by rw[length_take];omega,?_⟩
     refine ⟨_,_,G8,rfl,Zy,?_,(g1.trans g6.gg).trans s68,JB g8.gh g8pt,g8pt,λb o q=>?_⟩
     ·rw[map_cons,reverse_cons]
      refine XJ ?_ h8
      have q:=Jp (xs.length-ps.length) (hxs6.same s68)
      rw[List.take_reverse,length_map,hxl,hLn,← map_drop] at q
      rw[hxl];exact q
     ·have hbp:b≠pt:=ZM q hpt
      have q6:=g6.hh _ _ (g4 _ _ q)
      have hbl:b≠l:=ZM q6 hl
      rw[ZC hbp]
      exact g8.hh _ _ (by rw[h7o b hbl hbp];exact q6)
  ·rintro σ H' ⟨v,xs,G',rfl,hp,hxs,g1,g2,g3,g4⟩
   rw[hol,Nat.sub_self,drop_zero,hev] at hxs
   obtain ⟨y,ys,rfl,hy,hr'⟩:=hxs.cons
   cases hr'.nil
   rw[show y=V.str a.t from hy.str] at hp
   exact ⟨_,rfl,pt,_,0,_,rfl,rfl,SqL.of hp,rfl,k _ G H' ⟨ZR.refl _,g1.trans g2,g4,λ_ _ h=>.inl h⟩ (YZ _)⟩
end K46
namespace L2
open PySem PySem.Spec PyProof.Rows
noncomputable def zfE (K:PySem.W.Frag):Bool:=K.all λp=>p.2.dict.isNone || !(p.2.cls == .type "tuple")
theorem Vt {α β:Type}[BEq α] [LawfulBEq α]{a:α}{b:β}:∀ {l:List (α×β)},l.lookup a=some b->(a,b)∈l
 | [],h=>by cases h
 | (x,y)::l,h=>by
  rw[lookup_cons] at h
  cases e:a==x with
  | true=>
   rw[e] at h
   rw[eq_of_beq e]
   cases h
   exact mem_cons_self
  | false=>
   rw[e] at h
   exact mem_cons_of_mem _ (Vt h)
theorem zfJ {K:PySem.W.Frag}(h:zfE K=true){a:Addr}{o:Obj}(hk:K.lookup a=some o)(hc:o.cls = .type "tuple"):o.dict=none:=by
 have:=List.all_eq_true.mp h (a,o) (Vt hk)
 dsimp only at this
 rw[hc] at this
 have e:((Value.type "tuple" : Value) == .type "tuple")=true:=by rfl
 rw[e] at this
 simpa using this
section
variable {X:Cx}{o e:Expr}{es:List Expr}{to:TE}{t:TA}{name:Str}{apos cpos:Pos}{id:String}{r:V->List V->Hp->VK->Prop}
def zjO (K:PySem.W.Frag)(r:V->List V->Hp->VK->Prop)(to:TE)(t:TA):TE:=fun σ H Q=>to σ H λx H1=>(∃ p xs,x = .ref p/\SqT K H1 p xs)/\t σ H1 λvs H2=>r x vs H2 Q
theorem ze8 {K:PySem.W.Frag}(eK:X.K=K)(hnd:zfE K=true)(slot:Slot "tuple" name id)(hty:typeOf (.builtin id)=pure (.type "method_descriptor"))(hm:MtR X id r)(ho:PE X o to)(ha:PA X (e::es) t)
  (hbase:attributeBase o name X.env (eval o X.env)=eval o X.env:=by rfl)
  (hfew:((backTo cpos (starEach (e::es) X.env)).all (λx=>!x.1)&&(backToKw cpos (keywordEach [] X.env)).all (λx=>x.1.isSome)
   && decide ((e::es).length+([]:List Keyword).length+(if ([]:List Keyword).isEmpty then 0 else 1)<30))=true:=by rfl)
  (hline:(apos.endLine==cpos.line)=true:=by rfl) (hs:starEach (e::es) X.env=(false,eval e X.env)::starEach es X.env:=by rfl) (hplain:(backTo cpos (starEach es X.env)).any (·.1)=false:=by rfl):
  PE X (.Call (.Attribute o name apos) (e::es) [] cpos) (zjO K r to t):=by
 subst eK
 intro pins s σ H Q I h
 refine wpAny_Call_method_late hbase hfew hline rfl (thn (ho pins s σ H _ I h) λv s1 ⟨x,H1,I1,r1,⟨p,xs,ex,hp⟩,q1⟩=>?_)
 subst ex
 cases (show v=Value.ref p from r1)
 obtain ⟨its,_,pt,_⟩:=I1.tuple hp
 have nd:zfH s1.heap p:=by
  rcases hp with h | ⟨o,its,n,hk,hc,_⟩
  ·obtain ⟨_,_,_,_,nd⟩:=h.ok I1.hok
   exact nd
  ·exact ⟨o,I1.kIn p o hk,zfJ hnd hk hc⟩
 refine ⟨"tuple",id,PySem.F.plainAttrs_tuple,slot,hty,pt.typeIs,λa ea=>?_,?_⟩
 ·cases ea;exact nd
 have hA:=ha cpos pins s1 σ H1 _ I1 q1
 rw[hs] at hA ⊢
 refine Calls.callWith_builtin (by show (false||(backTo cpos (starEach es X.env)).any (·.1))=false;rw[hplain] <;> rfl) (Calls.evalArgs_plain ?_)
 exact thn hA λus s2 ⟨vs,H2,I2,r2,q2⟩=>hm pins s2 σ H2 (.ref p) vs (.ref p) us Q I2 (show RelV (.ref p) (.ref p) from rfl) r2 q2
end
section
variable {K:PySem.W.Frag}{B:Hp}{ρ:List PV}{σ:St}{G:Hp}{ta tb te:TE}
theorem Uv {G:Hp}:∀ {ws:List Str}{xs:List V},Yc K G xs (ws.map PyData.str)->xs=ws.map V.str
 | [],xs,h=>h.nil
 | w::ws,xs,h=>by
  obtain ⟨y,ys,rfl,hy,hr⟩:=h.cons
  rw[hy.str,Uv hr];rfl
theorem zdN {ws:List Str}{z:Str}(ha:Ev K ta σ G (.tuple (ws.map .str)))(hb:Ev K tb σ G (.str z))(hz:z∈ws):Ev K (zjO K (zdb K) ta (Yh tb Q4)) σ G (.int (ws.idxOf z:Nat)):=λG1 H s1 s2 Q k=>
 ha G1 H s1 s2 _ λv G2 H2 g2 hv=>by
  obtain ⟨p,xs,rfl,hp,hx⟩:=hv.tup
  have e:=Uv hx
  subst e
  refine ⟨⟨p,_,rfl,g2.gh.tup hp⟩,hb G2 H2 (s1.trans g2.gg) g2.gh _ λu G3 H3 g3 hu=>?_⟩
  rw[hu.str]
  exact ⟨p,ws,z,rfl,rfl,g3.gh.tup (g3.gg.tup hp),hz,k _ G3 H3 (g2.trans g3) (Zx _)⟩
end
end L2
namespace K46
open PySem L2 Frac Lw PySem.NumText Nm
open Ord Look Rdo
variable {P:Program}{w:World}{K:PySem.W.Frag}{mg:Str->Option Value}{base:Heap}
theorem zba {f:List (Int×Int)}{n:Nat}(h:n<f.length):(f.map dF)[n]?=some (dF (f.getD n (0,1))):=by
 rw[getElem?_map,getD_eq_getElem?_getD,getElem?_eq_getElem h];rfl
theorem getD_mem {f:List (Int×Int)}{n:Nat}(h:n<f.length):f.getD n (0,1)∈f:=by
 rw[getD_eq_getElem?_getD,getElem?_eq_getElem h];exact List.getElem_mem h
theorem zby (ws:List Str):noL (.tuple (ws.map PyData.str))=true:=by
 unfold noL
 induction ws with
 | nil=>rfl
 | cons x r ih=>rw[map_cons];unfold zg6;rw[ih];rfl
theorem U8 (ws:List (Int×Int)):noL (.tuple (ws.map dF))=true:=by
 unfold noL
 induction ws with
 | nil=>rfl
 | cons x r ih=>rw[map_cons];unfold zg6;rw[ih];rfl
theorem zcm (T:Top K mg)(W1:Txs K w.params mg "AHEAD" Q7){book:List Str}{f g:List (Int×Int)}(hfl:f.length=book.length)(hgl:g.length=book.length)(hf:∀ p∈f,Sz p)(hg:∀ p∈g,Sz p)
  {H0:Hp}{pb:Addr}{vf vg:V}(Nd:zfE K=true) (hb:Dat K H0 (.ref pb) (.tuple (book.map PyData.str))) (hvf:Dat K H0 vf (.tuple (f.map dF))) (hvg:Dat K H0 vg (.tuple (g.map dF)))
  {A:Around}{outer:List Env}{s' : Shared} {H' : Hp} {vs:List V}{Q:VK}{fa c' : Addr} {cl:List (Str×Addr)}(hr:Wa 2 (A.deeper (zgW Xu (Zj Ys) s'.heap.objs.size fa (.ref c') cl))) (kp:Kp H0 H') (h:spP K (RBF book (zd8 book f g)) vs H' Q E0):
  ∃ t,PSs (Uh P w K mg base ((["word", "field"]:List Str)++(["place"]:List Str)++(["book", "first", "second"]:List Str)) Xu (Zj Ys) fa c' cl A outer s' H') (Z5 Ys) t/\t { nx:=λ_ H' => Q .non H',rt:=Q } (vs.map some++List.replicate (["place"]:List Str).length none++[some (.ref pb),some vf,some vg]) H' := by
 have G_answer:T.JH.O P w base 2 (spP K zg2):=(zaj T W1).mono (by decide)
 have G_how_stands:=@zfb P w K mg base T
 have hu:=hr.units
 obtain ⟨G,as,d,sg,hv,⟨z,hz,hx⟩,k⟩:=h
 have hi:book.idxOf z<book.length:=List.idxOf_lt_length_of_mem hz
 have hb' := kp.dat _ _ (zby _) hb
 have hf' := kp.dat _ _ (U8 _) hvf
 have hg' := kp.dat _ _ (U8 _) hvg
 have key:∀ {x:Str}{e:PyData}{v1 v2:V},Dat K H' v1 (.str x)->Dat K H' v2 (.str z)->zg2 [.str x,.str (hsA (f.getD (book.idxOf z) (0,1)) (g.getD (book.idxOf z) (0,1))).how] e->(∀ v G' H'',Yt H' H' G' H'' -> Dat K G' v e->Q v H'')->
   ∃ t,PSs (Uh P w K mg base ((["word", "field"]:List Str)++(["place"]:List Str)++(["book", "first", "second"]:List Str)) Xu (Zj Ys) fa c' cl A outer s' H') (Z5 Ys) t/\t { nx:=λ_ H' => Q .non H',rt:=Q } [some v1,some v2,none,some (.ref pb),some vf,some vg] H' := λ{x e v1 v2} h1 h2 hR hk=>by
  refine ⟨_,(Zf (ZQ (i:=2) JS.nd rfl (Or.inl rfl) (ze8 (K:=K) rfl Nd PySem.F.slot_tuple_index PySem.F.type_tuple_index (zaC (K:=K) rfl) (pv 3) (Za (pv 1) Zg Zd)))
   (Zo (ZD (peN T.JH G_answer hr (Za (pv 0) (Za (peN T.Wl G_how_stands hr (Za (ZG (Z3 (K:=K) rfl) (pv 4) (pv 2) (λ_ _=>rfl)) (Za (ZG (Z3 (K:=K) rfl) (pv 5) (pv 2) (λ_ _=>rfl)) Zg Zk) Zk)) Zg Z8) Zd))))) ,?_⟩
  refine zaP (K:=K) (G:=H') (zdN (Zh rfl hb') (Zh rfl h2) hz) (ZR.refl _) λv3 G1 H1 g1 h3=>?_
  refine Yj (K:=K) (G:=G1) (Yi (E:=E0) (R:=zg2) (Zv (Zh rfl (h1.same g1.gg)) (Zv (Yi (E:=E0) (R:=zjL) (Zv (JR (Zh rfl (hf'.same g1.gg)) (Zh rfl h3) (Xb (by rw[length_map];omega)) (zba (by omega))) (Zv (JR (Zh rfl (hg'.same g1.gg)) (Zh rfl h3) (Xb (by rw[length_map];omega)) (zba (by omega))) ZZ)) ⟨_,_,rfl,hf _ (getD_mem (by omega)),hg _ (getD_mem (by omega)),rfl⟩) ZZ)) hR) g1.gh λv G' H'' g hv=>hk v G' H'' (g1.trans g) hv
 rcases hx with ⟨rfl,rfl⟩ | ⟨rfl,rfl⟩
 ·obtain ⟨v1,r1,rfl,h1,hv⟩:=hv.cons
  obtain ⟨v2,r2,rfl,h2,hv⟩:=hv.cons
  cases hv.nil
  exact key (h1.same sg) (h2.same sg) ⟨_,.inl ⟨rfl,rfl⟩⟩ λv G' H'' g hv=>by
   rw[hv.str]
   exact k _ G H'' ⟨ZR.refl _,sg.trans g.hh,g.hh,λ_ _ h=>.inl h⟩ (YZ _)
 ·obtain ⟨v1,r1,rfl,h1,hv⟩:=hv.cons
  obtain ⟨v2,r2,rfl,h2,hv⟩:=hv.cons
  cases hv.nil
  refine key (e:=.bool (isA (hsA (f.getD (book.idxOf z) (0,1)) (g.getD (book.idxOf z) (0,1))) .like)) (h1.same sg) (h2.same sg) ⟨_,.inr ⟨_,by decide +kernel,rfl,?_⟩⟩ λv G' H'' g hv=>by
   rw[hv.bl]
   exact k _ G H'' ⟨ZR.refl _,sg.trans g.hh,g.hh,λ_ _ h=>.inl h⟩ (Yb _)
  congr 1
  generalize hsA _ _=a
  cases a <;> decide +kernel
noncomputable def wid (G H:Hp):Hp:=λb=>match G b with
 | some o=>some o
 | none=>match H b with
  | some (.lst _)=>none
  | o=>o
theorem zeP {G H:Hp}:ZR G (wid G H):=λb o e=>by unfold wid;rw[e]
theorem zhh {G H:Hp}(s:ZR G H):ZR (wid G H) H:=λb o e=>by
 unfold wid at e
 cases hg:G b with
 | some o' => rw[hg] at e;dsimp only at e;rw[← e];exact s _ _ hg
 | none=>
  rw[hg] at e
  dsimp only at e
  split at e
  ·cases e
  ·exact e
theorem zhG {G H:Hp}(s:ZR G H):Kp H (wid G H):=by
 refine ⟨λb xs e=>?_,λb o u e=>?_⟩
 ·unfold wid
  cases hg:G b with
  | some o' => rw[s _ _ hg] at e;exact e
  | none=>dsimp only;rw[e]
 ·unfold wid
  cases hg:G b with
  | some o' => rw[s _ _ hg] at e;exact e
  | none=>dsimp only;rw[e]
theorem zef {K:PySem.W.Frag}{G H G' H' : Hp}{v:V}{ds:List PyData}(s:ZR G H)(g:Yt (wid G H) H G' H')(hv:Dat K G' v (.list ds))(hf:∀ {G1 G2:Hp}{xs:List V},Yc K G1 xs ds->Yc K G2 xs ds):∃ G'',Yt G H G'' H' /\ Dat K G'' v (.list ds):=by
 obtain ⟨p,xs,rfl,hp,hx⟩:=hv.lst
 cases hg:G p with
 | some o=>
  have e:=g.gg _ _ (zeP (H:=H) _ _ hg)
  rw[hp] at e
  injection e with e
  refine ⟨G,⟨ZR.refl _,s.trans g.hh,g.hh,λ_ _ h=>.inl h⟩,YX (xs:=xs) (by rw[hg,← e]) (hf hx)⟩
 | none=>
  have hn:H p=none:=by
   rcases g.fr p _ hp with q | q
   ·have hH:=zhh s _ _ q
    unfold wid at q
    rw[hg] at q
    dsimp only at q
    rw[hH] at q
    cases q
   ·exact q
  have sG:ZR G (L2.upd G p (.lst xs)):=XR hg
  refine ⟨L2.upd G p (.lst xs),⟨sG,λb o e=>?_,g.hh,λb o e=>?_⟩,YX Zy (hf hx)⟩
  ·by_cases hb:b=p
   ·subst hb;rw[Zy] at e;rw[← e];exact g.gh _ _ hp
   ·rw[ZC hb] at e;exact g.hh _ _ (s _ _ e)
  ·by_cases hb:b=p
   ·subst hb;exact .inr hn
   ·rw[ZC hb] at e;exact .inl e
theorem zh0 {a:An}{x:Str}{b:An}(h:b.how=x):decide (a.how=x)=isA a b:=by
 subst h
 cases a <;> cases b <;> decide +kernel
theorem zc5 (T:Top K mg)(W1:Txs K w.params mg "AHEAD" Q7){book:List Str}{f g:List (Int×Int)}{num:Int->Int->Prop}(hnum:∀ a b,num a b->Sz (a,b))(hfl:f.length=book.length)(hgl:g.length=book.length)(hf:∀ p∈f,Sz p)(hg:∀ p∈g,Sz p)
  {H0:Hp}{pb:Addr}{vf vg:V}(Nd:zfE K=true) (hb:Dat K H0 (.ref pb) (.tuple (book.map PyData.str))) (hvf:Dat K H0 vf (.tuple (f.map dF))) (hvg:Dat K H0 vg (.tuple (g.map dF)))
  {A:Around}{outer:List Env}{s' : Shared} {H' : Hp} {vs:List V}{Q:VK}{fa c' : Addr} {cl:List (Str×Addr)}(hr:Wa 2 (A.deeper (zgW X6 (Zj YM) s'.heap.objs.size fa (.ref c') cl))) (kp:Kp H0 H') (h:spP K (RBM book num (zd8 book f g)) vs H' Q E0):
  ∃ t,PSs (Uh P w K mg base ((["word", "field", "number"]:List Str)++(["place"]:List Str)++(["book", "first", "second"]:List Str)) X6 (Zj YM) fa c' cl A outer s' H') (Z5 YM) t/\t { nx:=λ_ H' => Q .non H',rt:=Q } (vs.map some++List.replicate (["place"]:List Str).length none++[some (.ref pb),some vf,some vg]) H' := by
 have G_answer:T.JH.O P w base 2 (spP K zg2):=(zaj T W1).mono (by decide)
 have G_how_stands:=@zfb P w K mg base T
 have hu:=hr.units
 obtain ⟨G,as,d,sg,hv,⟨z,hz,a,b,hab,hx⟩,k⟩:=h
 have hi:book.idxOf z<book.length:=List.idxOf_lt_length_of_mem hz
 have kw:=kp.trans (zhG sg)
 have hb' := kw.dat _ _ (zby _) hb
 have hf' := kw.dat _ _ (U8 _) hvf
 have hg' := kw.dat _ _ (U8 _) hvg
 have key:∀ {x:Str}{c:An}{v1 v2 v3:V},x≠S "look" -> c.how=x->Dat K G v1 (.str x)->Dat K G v2 (.str z)->Dat K G v3 (dF (a,b))->
   (∀ v G' H'',Yt G H' G' H'' -> Dat K G' v (.list [.bool (isA (hsA (f.getD (book.idxOf z) (0,1)) (a,b)) c),.bool (isA (hsA (g.getD (book.idxOf z) (0,1)) (a,b)) c)])->Q v H'')->
   ∃ t,PSs (Uh P w K mg base ((["word", "field", "number"]:List Str)++(["place"]:List Str)++(["book", "first", "second"]:List Str)) X6 (Zj YM) fa c' cl A outer s' H') (Z5 YM) t/\t { nx:=λ_ H' => Q .non H',rt:=Q } [some v1,some v2,some v3,none,some (.ref pb),some vf,some vg] H' := λ{x c v1 v2 v3} hxl hc h1 h2 h3 hk=>by
  have h1' := h1.same (zeP (H:=H'))
  have h2' := h2.same (zeP (H:=H'))
  have h3' := h3.same (zeP (H:=H'))
  refine ⟨_,(Zf (ZQ (i:=3) QJ.nd rfl (Or.inr rfl) (ze8 (K:=K) rfl Nd PySem.F.slot_tuple_index PySem.F.type_tuple_index (zaC (K:=K) rfl) (pv 4) (Za (pv 1) Zg Zd)))
   (Zo (ZD (zbh (x:= "thing") (cap:=["word", "place", "number"]) (js:=[0,3,2]) ⟨rfl,by decide +kernel,by decide +kernel,rfl,(by show ∀ p∈(_:List (Str×NameKind)),p.2=NameKind.free->List.lookup p.1 (Zj YM).names=some NameKind.cell;decide +kernel),by decide +kernel,by decide +kernel,by decide +kernel⟩ rfl rfl (λ_ _ h=>h) (zbs (Yz (Za (pv 5) (Za (pv 6) Zg Zd) Zd))) (λ_ _ _ _=>⟨WW,(peN T.JH G_answer hr (Za (pv 1) (Za (peN T.Wl G_how_stands hr (Za (ZG (Z3 (K:=K) rfl) (pv 0) (pv 2) (λ_ _=>rfl)) (Za (pv 3) Zg Zd) Zk)) Zg Z8) Zd))⟩))))) ,?_⟩
  refine zaP (K:=K) (G:=wid G H') (zdN (Zh rfl hb') (Zh rfl h2') hz) (zhh sg) λv4 G1 H1 g1 h4=>?_
  refine Yj (K:=K) (G:=G1) (d:=.list [.bool (isA (hsA (f.getD (book.idxOf z) (0,1)) (a,b)) c),.bool (isA (hsA (g.getD (book.idxOf z) (0,1)) (a,b)) c)])
   (zh8 (K:=K) [f,g] (λl=>.tuple (l.map dF)) (λl=>some (.bool (isA (hsA (l.getD (book.idxOf z) (0,1)) (a,b)) c))) (zfC (Zv (Zh rfl (hf'.same g1.gg)) (Zv (Zh rfl (hg'.same g1.gg)) ZZ)) (by show 2<=sizeLine;decide)) (by show 2<sizeLine;decide) (λG2 i l y sG hl hy=>?_)) g1.gh λv G' H'' g2 hv=>?_
  ·have hll:l.length=book.length/\∀ p∈l,Sz p:=by
    match i,hl with
    | 0,hl=>cases hl;exact ⟨hfl,hf⟩
    | 1,hl=>cases hl;exact ⟨hgl,hg⟩
   refine .inl ⟨_,rfl,zbw,Yi (E:=E0) (R:=zg2) (Zv (Zh rfl ((h1'.same g1.gg).same sG)) (Zv (Yi (E:=E0) (R:=zjL) (Zv (JR (Zh rfl hy) (Zh rfl (h4.same sG)) (Xb (by rw[length_map];omega)) (zba (by omega))) (Zv (Zh rfl ((h3'.same g1.gg).same sG)) ZZ)) ⟨_,(a,b),rfl,hll.2 _ (getD_mem (by omega)),hnum a b hab,rfl⟩) ZZ)) ⟨_,.inr ⟨x,hxl,rfl,?_⟩⟩⟩
   rw[zh0 hc]
  ·obtain ⟨G'',g3,hv'⟩:=zef sg (g1.trans g2) hv (λ{G1 G2 xs} hd=>by
    obtain ⟨y1,r1,rfl,d1,hd⟩:=hd.cons
    obtain ⟨y2,r2,rfl,d2,hd⟩:=hd.cons
    cases hd.nil
    rw[d1.bl,d2.bl]
    exact Z1 (Yb _) (Z1 (Yb _) Z7))
   exact hk v G'' H'' g3 hv'
 rcases hx with ⟨rfl,rfl⟩ | ⟨rfl,rfl⟩
 ·obtain ⟨v1,r1,rfl,h1,hv⟩:=hv.cons
  obtain ⟨v2,r2,rfl,h2,hv⟩:=hv.cons
  obtain ⟨v3,r3,rfl,h3,hv⟩:=hv.cons
  cases hv.nil
  exact key (c:=.ahead) (by decide +kernel) rfl h1 h2 h3 k
 ·obtain ⟨v1,r1,rfl,h1,hv⟩:=hv.cons
  obtain ⟨v2,r2,rfl,h2,hv⟩:=hv.cons
  obtain ⟨v3,r3,rfl,h3,hv⟩:=hv.cons
  cases hv.nil
  exact key (c:=.like) (by decide +kernel) rfl h1 h2 h3 k
def RLk:List PyData->PyData->Prop:=λas d=>∃ (ws:List Wd) (book:List Str) (f g:List (Int×Int)) (num:Int->Int->Prop) (a:An),as=[.tuple (ws.map Wd.d),.tuple (book.map PyData.str),.tuple (f.map dF),.tuple (g.map dF)]/\Ql (· ∈ book) num ws/\(∀ a b,num a b->Sz (a,b))/\(f.length=book.length/\g.length=book.length/\(∀ p∈f,Sz p)/\∀ p∈g,Sz p)/\(∀ z∈book,Ym z=none)/\ws.length<=900/\(∀ R,ev (zd8 book f g) ws R = .an a::R)/\d = .str a.t
theorem zcJ (T:Top K mg)(Nd:zfE K=true)(M:Bs K mg base)(W:Wds K w.params mg)(W1:Txs K w.params mg "AHEAD" Q7)(W2:Txs K w.params mg "OTHER_WAY" Qm):T.XX.O P w base 6 (zjU K T.Y8 YS RLk):=by
 refine T.XX.F.okC V0 (λvs H Q E h=>?_) (λcdv A outer s H vs Q E hcd hr h=>?_)
 ·obtain ⟨G,ds,d,_,_,hv,⟨ws,book,f,g,num,a,rfl,_⟩,_⟩:=h
  rw[hv.length];rfl
 ·obtain ⟨G,ds,d,hP,sg,hv,⟨ws,book,f,g,num,a,rfl,hord,hnum,⟨hfl,hgl,hf,hg⟩,hwd,hlen,hev,rfl⟩,k0⟩:=h
  obtain ⟨vo,r1,rfl,ho,hv⟩:=hv.cons
  obtain ⟨vb,r2,rfl,hpb,hv⟩:=hv.cons
  obtain ⟨vf,r3,rfl,hvf,hv⟩:=hv.cons
  obtain ⟨vg,r4,rfl,hvg,hv⟩:=hv.cons
  cases hv.nil
  obtain ⟨pb,_,rfl,_,_⟩:=id hpb.tup
  have k:∀ G' H',Yt G H G' H' -> Q (.str a.t) H' := λG' H' g' => k0 _ G' H' g' (YZ _)
  have hu:=hr.units
  have G_telling:=λf1 f2=>zb7 (P:=P) (w:=w) (base:=base) T W W2 book num (zd8 book f g) hwd f1 f2
  let RH:Addr->Addr->St->Hp->Prop:=λf1 f2 σ H1=>(Qu H1 f1 "by_field" Xu (Xq Ys) (Z5 Ys) (Zj Ys) (Ji (PyProof.Rows.envOfC "looked" (Zj YH) s.heap.objs.size T.XX.f cdv) (Zj Ys).names [])/\
   Qu H1 f2 "by_mark" X6 (Xq YM) (Z5 YM) (Zj YM) (Ji (PyProof.Rows.envOfC "looked" (Zj YH) s.heap.objs.size T.XX.f cdv) (Zj YM).names []))/\
   σ=[some vo,some (.ref pb),some vf,some vg,some (.ref f1),some (.ref f2)]/\Dat K H1 (.ref pb) (.tuple (book.map PyData.str))/\Dat K H1 vf (.tuple (f.map dF))/\Dat K H1 vg (.tuple (g.map dF))
  have hC:∀ (pins:List (Addr×Obj)) (σ:St) (H1:Hp) (s1:Shared) (f1 f2:Addr),Inv (Uw CX0 P w K mg base ["order", "book", "first", "second", "by_field", "by_mark"] "looked" (Zj YH) T.XX.f cdv A outer s H E).nox pins σ H1 s1->RH f1 f2 σ H1->cls2 P w K mg base book num (zd8 book f g) f1 f2 s1 H1:=by
   rintro pins σ H1 s1 f1 f2 I ⟨⟨L1,L2⟩,rfl,hb1,hf1,hg1⟩
   refine ⟨zhe (js:=[1,2,3]) I JS rfl L1 (λcl us hl doc pm ctv c' => ?_) (λA outer s' H' vs Q fa c' cl hr' kp hl h=>zcm T W1 hfl hgl hf hg Nd hb1 hf1 hg1 hr' kp h),zhe (js:=[1,2,3]) I QJ rfl L2 (λcl us hl doc pm ctv c' => ?_) (λA outer s' H' vs Q fa c' cl hr' kp hl h=>zc5 T W1 hnum hfl hgl hf hg Nd hb1 hf1 hg1 hr' kp h)⟩
   ·match us,hl with
    | [_,_],_=>rfl
   ·match us,hl with
    | [_,_,_],_=>rfl
  refine ⟨_,(Zf (zfs (i:=4) (P:=T.Y8) (cr:=YS) (q:=Xu) JS (hcd.trans T.cd_looked) (codeHd_of_K M.kin T.ch_looked) M.bm rfl rfl V0.nd rfl rfl)
   (Zf (zfs (i:=5) (P:=T.Y8) (cr:=YS) (q:=X6) QJ (hcd.trans T.cd_looked) (codeHd_of_K M.kin T.ch_looked) M.bm rfl rfl V0.nd rfl rfl)
   (Zo (ZD (zgl (C:=cls2 P w K mg base book num (zd8 book f g)) (sp2:=λf1 f2 _=>spC K f1 f2 (zhA book num (zd8 book f g))) (RH:=RH) (λf1 f2 _=>G_telling f1 f2) hC hr (by rfl) T.WQ.m T.WQ.F.kp T.WQ.b (Za (pv 0) (Za (pv 4) (Za (pv 5) Zg Zd) Zd) Zd)))))) ,?_⟩
  refine ⟨sg _ _ hP,λf1 H1 hf1 s1 L1=>⟨s1 _ _ (sg _ _ hP),λf2 H2 hf2 s2 L2=>?_⟩⟩
  have sH:=s1.trans s2
  have sG:=sg.trans sH
  refine ⟨_,rfl,_,rfl,_,rfl,f1,f2,⟨⟨L1.same λb o u e=>s2 _ _ e,L2⟩,rfl,hpb.same sG,hvf.same sG,hvg.same sG⟩,?_⟩
  refine ⟨G,[.tuple (ws.map Wd.d)],.str a.t,[vo],rfl,sG,Z1 ho Z7,⟨ws,a,rfl,hord,hev,hlen,rfl⟩,λv G' H' g' hv=>?_⟩
  rw[hv.str]
  exact k G H' ⟨ZR.refl _,sG.trans g'.hh,sH.trans g'.hh,λ_ _ h=>.inl h⟩
open Ord Look Rdo Big Net
theorem zkF {bk:List Str}{num:Int->Int->Prop}(hb:∀ z∈bk,Ym z=none){o o' : Oe}(h:o.ok (· ∈ bk) num)(h' : o'.ok (· ∈ bk) num)(e:o.w=o'.w)(f g:Fs):o.an bk f g=o'.an bk f g:=by
 have h1:=Oe.ev hb f g h []
 have h2:=Oe.ev hb f g h' []
 rw[e,h2] at h1
 injection h1 with h1
 injection h1 with h1
 exact h1.symm
theorem zhX:∀ {a b:Wd},a.d=b.d->a=b
 | .t x,.t y,e=>by injection e with e;rw[e]
 | .t x,.n c d,e=>by cases e
 | .n a b,.t y,e=>by cases e
 | .n a b,.n c d,e=>by
  injection e with e
  injection e with e1 e2
  injection e2 with e2 _
  injection e1 with e1
  injection e2 with e2
  rw[e1,e2]
theorem zjK {o o' : Oe}(h:dOr o=dOr o'):o.w=o'.w:=by
 injection h with h
 exact (List.map_inj_right λx y e=>zhX e).mp h
theorem zgo {a b:List (List (Int×Int))}(h:PyData.tuple (a.map dTh) = .tuple (b.map dTh)):a=b:=by
 injection h with h
 refine (List.map_inj_right λx y e=>?_).mp h
 injection e with e
 refine (List.map_inj_right λx y e=>?_).mp e
 injection e with e
 injection e with e1 e2
 injection e2 with e2 _
 injection e1 with e1
 injection e2 with e2
 exact Prod.ext e1 e2
def OrD (bk:List Str)(o:Oe):Prop:=o.ok (· ∈ bk) (λa b=>J7 (a,b))/\o.w.length<=100
def zhE (n:Nat)(ds:List PyData):Prop:=∃ (bk:List Str) (o:Oe) (rows:List (List (Int×Int))),ds=[dBk bk,dOr o,.tuple (rows.map dTh)]/\BkD bk/\o.ok (· ∈ bk) (λa b=>J7 (a,b))/\o.w.length<=24/\rows.length<=60/\(∀ g∈rows,ThD bk.length g)/\n<=10 ^ 4
inductive RCa (n:Nat) (ds:List PyData) (x:PyData) (n' : Nat):Prop
 | mk (bk:List Str) (o o' : Oe) (rows:List (List (Int×Int))) (_:ds=[dBk bk,dOr o,.tuple (rows.map dTh)]) (_:o.ok (· ∈ bk) (λa b=>J7 (a,b))) (_:x=dOr o') (_:OrD bk o') (_:∀ f∈rows,∀ g∈rows,o'.an bk f g=o.an bk f g) (_:n' <= n+5):RCa n ds x n'
theorem zfg:∀ ns:List Int,ns≠[]->∃ M∈ns,∀ a∈ns,a<=M
 | [],h=>absurd rfl h
 | [a],_=>⟨a,mem_cons_self,λb hb=>by rw[mem_singleton.mp hb];exact Int.le_refl _⟩
 | a::b::l,_=>by
  obtain ⟨M,hM,hle⟩:=zfg (b::l) (by simp)
  by_cases h:a<=M
  ·exact ⟨M,mem_cons_of_mem _ hM,λx hx=>(mem_cons.mp hx).elim (λe=>by rw[e];exact h) (hle x)⟩
  ·exact ⟨a,mem_cons_self,λx hx=>(mem_cons.mp hx).elim (λe=>by rw[e];exact Int.le_refl _) λhx=>by have:=hle x hx;omega⟩
theorem U6 {α β:Type}(g:α->β):∀ l:List α,(l.filterMap λa=>some (g a))=l.map g
 | []=>rfl
 | a::l=>congrArg (g a :: ·) (U6 g l)
theorem ziI {B:Hp}{ρ:List PV}{X:XK}{i j c:Nat}{p:Addr}{fp:List Addr}{te:TE}{bk:List Str}{R:PV->List PV->Prop}(hj:(msk ρ)[j]?=some (.dat (dBk bk)))(hi:ρ[i]?=some ((lkT K).pv c p fp))(hm:Er K B te (msk ρ) (.int (bk.length:Nat)))(hc:c<=10 ^ 6)(hb:BkD bk)(k:∀ z∈bk,R (.dat (.str z)) (ρ.set i ((lkT K).pv (c+1) p fp))):
  Eg K B (tOp (zd5 K) (XQ j) (Jx (spT (lkT K) zgL RDw) [] X (Yh (XQ i) (Yh te Q4)))) ρ R:=
 Xo (ZK (Ze hj) ⟨_,rfl,Wj hi hm hc (by have:=hb.1;omega) (by have:=hb.2.1;omega) λr hr=>by
  have hl:r<bk.length:=by omega
  exact ⟨_,.str bk[r],rfl,λG σ va vb ha hb=>JR (Y7 ha) (Y7 hb) (by rw[length_map];exact Xb hl) (by rw[getElem?_map,getElem?_eq_getElem hl];rfl),k _ (List.getElem_mem hl)⟩⟩)
theorem zeA (T:Top K mg):T.Wm.O P w base 3 (spT (lkT K) zhE RCa):=by
 have G__law_next:=@zcd P w K mg base T
 refine T.Wm.F.okT YT (by rintro _ _ ⟨_,_,_,rfl,_⟩;rfl) λcdv A outer s H E hr p fp n ds hP=>?_
 obtain ⟨bk,o,rows,rfl,hbk,hok,hol,hrl,hrs,hn⟩:=hP
 have zl:(2000:Nat)<sizeLine:=by decide
 have hwl:(o.w.map Wd.d).length=o.w.length:=length_map _
 have lenB:∀ {ρ:List PV},ρ[1]?=some (.dat (dBk bk))->Er K B0 (tCB (λxs H Q=>∃ p ys,xs=[.ref p]/\(SqL K H p ys\/SqT K H p ys)/\Q (.int ys.length) H) (Yh (XQ 1) Q4)) ρ (.int (bk.length:Nat)):=λh=>Q6 (zbg (Zc (Ze h) Zq)) (by rw[length_map])
 refine ⟨_,(Zf (Yk (ZF Xc (peN T.Zw G__law_next hr (Za (pv 0) (Za Zi Zg Zb) Zd)) Zi (ZV _)) (Zo (ZD (pv 2))) ZL)
   (Zf (ZQ (i:=4) YT.nd rfl (Or.inr rfl) (peN T.Zw G__law_next hr (Za (pv 0) (Za (Yq (YB (K:=K) rfl) (by rfl) T.zcB PySem.boot_len (Za (pv 1) Zg Zd)) Zg Z8) Zd)))
   (Zf (ZQ (i:=5) YT.nd rfl (Or.inl rfl) (Yq (zda (K:=K) rfl rfl) (by rfl) T.zkD zkv (Za (ZX Wq (Yg (Za Zi Zg Zb)) (zbh (x:= "thing") (cap:=["field"]) (js:=[4]) ⟨rfl,by decide +kernel,by decide +kernel,rfl,(by show ∀ p∈(_:List (Str×NameKind)),p.2=NameKind.free->List.lookup p.1 (Zj Wn).names=some NameKind.cell;decide +kernel),by decide +kernel,by decide +kernel,by decide +kernel⟩ rfl rfl (λ_ _ h=>h) (zbs (pv 3)) (λ_ _ _ _=>⟨WW,(ZX Xz (ZX Qn (ZG (Z3 (K:=K) rfl) (ZG (Z3 (K:=K) rfl) (pv 0) (pv 1) (λ_ _=>rfl)) Zi (λ_ _=>rfl)) (ZG (Z3 (K:=K) rfl) (ZG (Z3 (K:=K) rfl) (pv 0) (pv 1) (λ_ _=>rfl)) Zi (λ_ _=>rfl))) Zi)⟩))) Zg Z0)))
   (Zf (ZQ (i:=6) YT.nd rfl (Or.inl rfl) (Yz (Za (ZG (Z3 (K:=K) rfl) (pv 1) (pv 4) (λ_ _=>rfl)) (Za (Yz (Za (pv 5) (Za Zi Zg Zb) Zd)) Zg zaf) Zk)))
   (Zf (ZQ (i:=7) YT.nd rfl (Or.inl rfl) (Yg (Za (ZX (Wk (K:=K) rfl) (Yz (Za Zz (Za Zz Zg Zb) Zb)) (pv 6)) (Za (ZX (Wk (K:=K) rfl) (Yz (Za Zz (Za Zz (Za Zz Zg Zb) Zb) Zb)) (pv 6)) Zg Z0) Z0)))
   (Zf (Jq (Ui plainAttrs_list PySem.F.slot_list_append PySem.F.type_list_append XC (pv 7) (Za (ZX (Wk (K:=K) rfl) (ZX (Wk (K:=K) rfl) (ZX (Wk (K:=K) rfl) (Yz (Za Zz (Za Zz (Za Zz Zg Zb) Zb) Zb)) (pv 6)) (Yz (Za Zz (Za Zz (Za Zz Zg Zb) Zb) Zb))) (pv 6)) Zg Z0)))
   (Zf (Jq (Ui plainAttrs_list PySem.F.slot_list_append PySem.F.type_list_append XC (pv 7) (Za (Yz (Za Zz (Za Zz (Za (ZG (Z3 (K:=K) rfl) (pv 1) (pv 4) (λ_ _=>rfl)) (Za Zz (Za Zz (Za (ZG (Z3 (K:=K) rfl) (pv 1) (pv 4) (λ_ _=>rfl)) Zg Zk) Zb) Zb) Zk) Zb) Zb)) Zg zaf)))
   (Zf (ZQ (i:=8) YT.nd rfl (Or.inl rfl) (Yz (Za (ZG (Zt (K:=K) rfl) (Yg (Za Zz (Za Zz Zg Zb) Zb)) (peN T.Zw G__law_next hr (Za (pv 0) (Za Zi Zg Zb) Zd)) (λ_ _=>rfl)) (Za (ZG (Z3 (K:=K) rfl) (pv 1) (peN T.Zw G__law_next hr (Za (pv 0) (Za (Yq (YB (K:=K) rfl) (by rfl) T.zcB PySem.boot_len (Za (pv 1) Zg Zd)) Zg Z8) Zd)) (λ_ _=>rfl)) Zg Zk) Zk)))
   (Zo (ZD (ZX (Wk (K:=K) rfl) (ZX (Wk (K:=K) rfl) (ZX (Wk (K:=K) rfl) (Yz (Za Zz Zg Zb)) (ZG (Zt (K:=K) rfl) (pv 7) (peN T.Zw G__law_next hr (Za (pv 0) (Za Zi Zg Zb) Zd)) (λ_ _=>rfl))) (pv 2)) (pv 8)))))))))))) ,?_⟩
 refine Zr (zhw (zeM (Xo (Wj (c:=n) rfl Zn (by omega) (by decide) (by decide) λr0 _=>⟨_,rfl,ZK Zn ⟨_,.bool (decide ((r0:Int)=0)),rfl,λG σ va vb ha hb=>zc1 (Y7 ha) (Y7 hb),_,rfl,?_⟩⟩))))
 split
 ·exact Z6 (ZK (Ze rfl) ⟨_,n+1,rfl,⟨bk,o,o,rows,rfl,hok,rfl,⟨hok,by omega⟩,λ_ _ _ _=>rfl,by omega⟩,rfl⟩)
 refine ZW ?_
 refine Zr (ZJ (Wj (c:=n+1) rfl (lenB rfl) (by omega) (by have:=hbk.1;omega) (by have:=hbk.2.1;omega) λi hi=>?_))
 have hi' : i<bk.length:=by omega
 show Sv K B0 _ [(lkT K).pv (n+2) p fp,.dat (dBk bk),.dat (dOr o),.dat (.tuple (rows.map dTh)),.dat (.int (i:Nat)),.un,.un,.un,.un] _
 have gv:∀ {h:List (Int×Int)},ThD bk.length h->ixN (h.map dF).length ((i:Nat):Int)=some i/\(h.map dF)[i]?=some (dF (XF h i))/\J7 (XF h i)/\(XF h i).1.natAbs<10 ^ 30:=λ{h} hh=>by
  have hi2:i<h.length:=by rw[hh.1];exact hi'
  have e:XF h i=h[i]:=by rw[XF,getD_eq_getElem?_getD,getElem?_eq_getElem hi2];rfl
  exact ⟨by rw[length_map];exact Xb hi2,by rw[getElem?_map,getElem?_eq_getElem hi2,e];rfl,by rw[e];exact hh.2 _ (List.getElem_mem hi2)⟩
 obtain ⟨M,hM,hle⟩:=zfg (0::rows.map λh=>(XF h i).1 / (XF h i).2+1) (by simp)
 refine Zr (ZJ (ZK (zgM (M:=M) (ns:=0::rows.map λh=>(XF h i).1 / (XF h i).2+1) (Zc (Q6 (WD (Xl (Zc Zn Zq) (by show 1<=sizeLine;decide)) (zeU (js:=[4]) rows dTh (λh=>some (PyData.int ((XF h i).1 / (XF h i).2+1))) (zdB (Ze rfl)) (by omega) λh hh=>?_) (by rw[U6,length_map];show 1+_<=_;omega)) (by rw[U6,map_cons,map_map];rfl)) Zq) hM hle) ?_))
 ·obtain ⟨h1,h2,h3,h4⟩:=gv (hrs h hh)
  have hp2:=h3.2.1
  have hs2:(XF h i).2.natAbs<10 ^ 100:=lt_trans h3.1.2 (pow_lt_pow_right (by decide) (by decide))
  exact lx1 zbi (Y0 (Wv (XH (n:=0) (XH (Ze rfl) (Ze rfl) h1 h2) Zn rfl rfl) (XH (n:=1) (XH (Ze rfl) (Ze rfl) h1 h2) Zn rfl rfl) ⟨by omega,w0 hs2⟩ λ_=>Zx _) Zn λ_=>Zx _)
 have hz:=List.getElem_mem hi'
 have ez:WF bk i=bk[i]:=by rw[WF,getD_eq_getElem?_getD,getElem?_eq_getElem hi'];rfl
 have bkI:∀ {ρ:List PV},ρ[1]?=some (.dat (dBk bk))->ρ[4]?=some (.dat (.int (i:Nat)))->Er K B0 (tOp (zd5 K) (XQ 1) (XQ 4)) ρ (.str (WF bk i)):=λh1 h4=>XH (Ze h1) (Ze h4) (by rw[length_map];exact Xb hi') (by rw[getElem?_map,getElem?_eq_getElem hi',ez];rfl)
 have hMf:J7 (M,1):=by
  have hMa:M.natAbs<10 ^ 31:=by
   rcases mem_cons.mp hM with rfl | hm
   ·decide
   ·obtain ⟨h,hh,rfl⟩:=mem_map.mp hm
    obtain ⟨_,_,h3,h4⟩:=gv (hrs h hh)
    have h5:=Int.natAbs_ediv_le_natAbs (XF h i).1 (XF h i).2
    generalize (XF h i).1 / (XF h i).2=q at h5
    omega
  exact ⟨⟨lt_trans hMa (pow_lt_pow_right (by decide) (by decide)),Nat.lt_of_lt_of_le (show (1:Int).natAbs<10 ^ 1 by decide) (Nat.pow_le_pow_right (by decide) (by decide))⟩,Int.le_refl 1,Nat.gcd_one_right _⟩
 have hah:∀ f∈rows,hsA (vl bk (WF bk i) f) (M,1) = .ahead:=λf hf=>by
  rw[zdX hbk.2.2.1 (hrs f hf).1 hi']
  obtain ⟨_,_,h3,_⟩:=gv (hrs f hf)
  have hp2:=h3.2.1
  have h5:=hle _ (mem_cons_of_mem _ (mem_map.mpr ⟨f,hf,rfl⟩))
  have h6:=Int.lt_ediv_add_one_mul_self (XF f i).1 (show 0<(XF f i).2 by omega)
  have h7:=Int.mul_le_mul_of_nonneg_right h5 (show 0<=(XF f i).2 by omega)
  have h8:(XF f i).1*1<M*(XF f i).2:=by rw[Int.mul_one];exact Int.lt_of_lt_of_le h6 h7
  show (if (XF f i).1*1<M*(XF f i).2 then An.ahead else _) = .ahead
  rw[if_pos h8]
 refine Zr (ZJ (ZK (X8 (Zc (bkI rfl rfl) (Zc (X8 (Zc (Ze rfl) (Zc Zn Zq)) (by show 2<=sizeLine;decide)) Zq)) (by show 2<=sizeLine;decide)) ?_))
 have t3:∀ {a b c:Str}{ρ:List PV},Er K B0 (zg3 (Yh (tC (.str a)) (Yh (tC (.str b)) (Yh (tC (.str c)) Q4)))) ρ (.tuple [.str a,.str b,.str c]):=X8 (Zc Yd (Zc Yd (Zc Yd Zq))) (by show 3<=sizeLine;decide)
 refine Zr (ZJ (za0 (Zc (Vm (X8 (Zc Yd (Zc Yd Zq)) (by show 2<=sizeLine;decide)) (Ze rfl) (by show 4<=sizeLine;decide)) (Zc (Vm t3 (Ze rfl) (by show 5<=sizeLine;decide)) Zq)) (by show 2<=sizeLine;decide) ?_))
 refine Zr (zaI (i:=7) (ZK (Vm (Vm (Vm t3 (Ze rfl) (by show 5<=sizeLine;decide)) t3 (by show 8<=sizeLine;decide)) (Ze rfl) (by show 10<=sizeLine;decide)) ⟨_,_,_,rfl,rfl,rfl,by show 2<sizeLine;decide,?_⟩) rfl rfl)
 refine Zr (zaI (i:=7) (ZK (X8 (Zc Yd (Zc Yd (Zc (bkI rfl rfl) (Zc Yd (Zc Yd (Zc (bkI rfl rfl) Zq)))))) (by show 6<=sizeLine;decide)) ⟨_,_,_,rfl,rfl,rfl,by show 3<sizeLine;decide,?_⟩) rfl rfl)
 show Sv K B0 _ [(lkT K).pv (n+2) p fp,.dat (dBk bk),.dat (dOr o),.dat (.tuple (rows.map dTh)),.dat (.int (i:Nat)),.dat (.int M),.dat (.tuple [.str (WF bk i),dF (M,1)]),.own ((List.range 4).map λk=>PyData.tuple ((csN (WF bk i) (M,1) k).w.map Wd.d)),.un] _
 refine Jt 7 rfl ?_
 refine Zr (ZJ (zfc (Z4 (ziN (i:=0) (c:=n+2) rfl (by omega) λdn=>⟨_,rfl,Z4 (ziI (j:=1) (i:=0) (c:=n+3) rfl rfl (lenB rfl) (by omega) hbk λz2 hz2=>⟨_,rfl,Z9 Zq ⟨by show 2<=sizeLine;decide,?_⟩⟩)⟩))))
 show Sv K B0 _ [(lkT K).pv (n+4) p fp,.dat (dBk bk),.dat (dOr o),.dat (.tuple (rows.map dTh)),.dat (.int (i:Nat)),.dat (.int M),.dat (.tuple [.str (WF bk i),dF (M,1)]),.dat (.list ((List.range 4).map λk=>PyData.tuple ((csN (WF bk i) (M,1) k).w.map Wd.d))),.dat (dOr (.lf dn z2))] _
 have hc10:∀ k,(csN (WF bk i) (M,1) k).w.length<=10:=λk=>by
  match k with
  | 0=>show 4<=10;decide
  | 1=>show 5<=10;decide
  | 2=>show 10<=10;decide
  | k+3=>show 6<=10;decide
 have hck:∀ k,(csN (WF bk i) (M,1) k).ok (· ∈ bk) (λa b=>J7 (a,b)):=λk=>by
  have hzz:WF bk i∈bk:=by rw[ez];exact hz
  match k with
  | 0=>exact ⟨hzz,hMf⟩
  | 1=>exact ⟨hzz,hMf⟩
  | 2=>exact ⟨⟨hzz,hMf⟩,hzz,hMf⟩
  | k+3=>exact ⟨hzz,hzz⟩
 refine Z6 (Xo (Xo (Xo (ZK (X8 (Zc Yd Zq) (by show 1<=sizeLine;decide)) ⟨_,rfl,Xo (ZK (Ze rfl) ⟨_,rfl,Wj (c:=n+4) rfl Zn (by omega) (by decide) (by decide) λk hk=>?_⟩)⟩))))
 have hk4:k<4:=by omega
 have h10:=hc10 k
 have hw:(o.w.map Wd.d).length<=24:=by rw[hwl];exact hol
 refine ⟨_,.tuple ((csN (WF bk i) (M,1) k).w.map Wd.d),rfl,λG σ va vb ha hb=>YF (n:=k) (Y7 ha) (Y7 hb) (by rw[length_map,length_range];exact Xb hk4) (by rw[getElem?_map,getElem?_eq_getElem (by rw[length_range];exact hk4)];simp),_,_,rfl,λG σ va vb ha hb=>UT (Y7 ha) (Y7 hb) (by rw[length_map];show 1+_<=_;omega),_,rfl,ZK (Ze rfl) ⟨_,_,rfl,λG σ va vb ha hb=>UT (Y7 ha) (Y7 hb) (by rw[length_append,length_map];show 1+_+_<=_;omega),_,rfl,ZK (Ze rfl) ⟨_,dOr (.pick (csN (WF bk i) (M,1) k) o (.lf dn z2)),rfl,λG σ va vb ha hb=>zb1 (UT (Y7 ha) (Y7 hb) (by rw[length_append,length_append,length_map];show 1+_+_+2<=_;omega)) ?_,_,n+5,rfl,⟨bk,o,_,rows,rfl,hok,rfl,⟨⟨hck k,hok,hz2⟩,?_⟩,λf hf g hg=>?_,by omega⟩,rfl⟩⟩⟩
 ·show PyData.tuple _=PyData.tuple (List.map Wd.d (Wd.t (S "pick")::((csN (WF bk i) (M,1) k).w++(o.w++[_,_]))))
  rw[map_cons,map_append,map_append]
  congr 1
  simp only[append_assoc,cons_append,List.nil_append]
  rfl
 ·show (Wd.t (S "pick")::((csN (WF bk i) (M,1) k).w++(o.w++[_,_]))).length<=100
  rw[length_cons,length_append,length_append]
  show _+(_+2)+1<=100
  omega
 ·show (if (csN (WF bk i) (M,1) k).tr bk f g=true then o.an bk f g else _)=_
  rw[if_pos (ziA (hah f hf) (hah g hg) k)]
abbrev dNt (net:List (Nat×Nat)):PyData:=.tuple (net.map dP)
def zd3 (b:Fs->Fs->Bool)(net:List (Nat×Nat))(rows:List Fs):Nat->List Int
 | 0=>[]
 | k+1=>if b ((VG [] b (net.take k) rows).getD (net.getD k (0,0)).1 []) ((VG [] b (net.take k) rows).getD (net.getD k (0,0)).2 [])=true then zd3 b net rows k++[(k:Int)] else zd3 b net rows k
theorem zbL (b:Fs->Fs->Bool)(net:List (Nat×Nat))(rows:List Fs):∀ k,(zd3 b net rows k).length<=k
 | 0=>Nat.le_refl _
 | k+1=>by
  have:=zbL b net rows k
  rw[zd3];split
  ·rw[length_append];show _+1<=_;omega
  ·omega
def RTh (Rg:List PyData->PyData->Prop):List PyData->PyData->Prop:=λas d=>∃ (net:List (Nat×Nat)) (rows:List Fs) (b:Fs->Fs->Bool),as=[dNt net,.tuple (rows.map dTh)]/\net.length<=100/\rows.length<=100/\(∀ p∈net,p.1<rows.length/\p.2<rows.length)/\(∀ f∈rows,∀ g∈rows,Rg [dTh f,dTh g] (.bool (b f g)))/\d = .tuple [.list ((VG [] b net rows).map dTh),.list ((zd3 b net rows net.length).map PyData.int)]
def RLd:List PyData->PyData->Prop:=λas d=>∃ (o:Oe) (bk:List Str) (net:List (Nat×Nat)) (rows:List Fs),as=[dOr o,dBk bk,dNt net,.tuple (rows.map dTh)]/\OrD bk o/\BkD bk/\net.length<=100/\rows.length<=100/\(∀ p∈net,p.1<rows.length/\p.2<rows.length)/\(∀ g∈rows,ThD bk.length g)/\d = .tuple ((VG [] (λf g=>isA (o.an bk f g) .behind) net rows).map dTh)
section
variable {P:Program}{w:World}{K:PySem.W.Frag}{mg:Str->Option Value}{base:Heap}{B:Hp}
theorem ziZ (T:Top K mg)(kk:Nat):V5 P w K mg base (kk+3) T.Xy.f T.Xy.fd ["net", "row", "is_behind"] (ziQ P w K mg base kk 2 RTh):=by
 refine T.Xy.F.zkz (k:=kk+2) Xp (by rintro _ _ _ ⟨_,_,_,rfl,_⟩;rfl) λcdv A outer s H hr G Rg ds d fg q params body fr sc cl lps cap vals te hR LA hev=>?_
 obtain ⟨net,rows,b,rfl,hn,hrl,hp,hb,rfl⟩:=hR
 have zl:(2000:Nat)<sizeLine:=by decide
 refine ⟨_,(Zf (ZQ (i:=3) Xp.nd rfl (Or.inl rfl) (YC (Ut (K:=K) rfl) (by rfl) T.zh9 zbv (Za (pv 1) Zg Zd)))
   (Zf (ZQ (i:=4) Xp.nd rfl (Or.inl rfl) (Yg Zg))
   (Zf (Qd PassesOwn.never rfl (zey (by rfl) T.zb5 (Za (pv 0) Zg Zd)) (zfz (n:=2) rfl (JF (Xn (i:=5) Xp.nd rfl (Or.inl rfl)) (JF (Xn (i:=6) Xp.nd rfl (Or.inl rfl)) zbl)) (by rfl)) (Zf (ZQ (i:=7) Xp.nd rfl (Or.inl rfl) (ZG (Zt (K:=K) rfl) (pv 3) (ZG (Z3 (K:=K) rfl) (pv 6) Zi (λ_ _=>rfl)) (λ_ _=>rfl)))
   (Zf (ZQ (i:=8) Xp.nd rfl (Or.inl rfl) (ZG (Zt (K:=K) rfl) (pv 3) (ZG (Z3 (K:=K) rfl) (pv 6) Zi (λ_ _=>rfl)) (λ_ _=>rfl)))
   (Zo (Yk (Q9 (zeI (i:=2) rfl (Or.inl rfl) (hr.mono (by omega)) rfl LA.L LA.C LA.S LA.hcap LA.hbind LA.hvl LA.hbody (Za (pv 7) (Za (pv 8) Zg Zd) Zd))) (Zf (Qo (pv 8) (Q8 (pv 3) (ZG (Z3 (K:=K) rfl) (pv 6) Zi (λ_ _=>rfl)) set_list))
   (Zf (Qo (pv 7) (Q8 (pv 3) (ZG (Z3 (K:=K) rfl) (pv 6) Zi (λ_ _=>rfl)) set_list))
   (Zo (Jq (Ui plainAttrs_list PySem.F.slot_list_append PySem.F.type_list_append XC (pv 4) (Za (pv 5) Zg Zd)))))) ZL)))))
   (Zo (ZD (Yz (Za (pv 3) (Za (pv 4) Zg Zd) Zd))))))) ,?_⟩
 refine Zr (ZJ (zdT (.inl (Zc (Ze rfl) Zq)) ?_))
 refine Zr (ZJ (za0 Zq (zero_le _) ?_))
 have hen:za7 (net.map dP)=(List.range net.length).map λ(i:Nat)=>PyData.tuple [.int (i:Nat),dP (net.getD i (0,0))]:=by
  unfold za7
  rw[length_map]
  refine List.map_congr_left λi hi=>?_
  have hi:=mem_range.mp hi
  rw[getD_eq_getElem?_getD,getElem?_map,getD_eq_getElem?_getD,getElem?_eq_getElem hi];rfl
 refine Zr (VH (List.range net.length) (λ(i:Nat)=>PyData.tuple [.int (i:Nat),dP (net.getD i (0,0))]) (by rw[← hen];exact zhH (Zc (Ze rfl) Zq)) (λk ρ=>k<=net.length/\∃ v5 v6 v7 v8:PV,ρ=[.dat (dNt net),.dat (.tuple (rows.map dTh)),.val (.ref fg),.own ((VG [] b (net.take k) rows).map dTh),.own ((zd3 b net rows k).map PyData.int),v5,v6,v7,v8]) ⟨zero_le _,_,_,_,_,rfl⟩ ?_ ?_)
 ·rintro k hk _ ⟨_,v5,v6,v7,v8,rfl⟩
  rw[length_range] at hk
  have ei:(List.range net.length)[k]'(by rw[length_range];exact hk)=k:=by simp
  rw[ei]
  have hq:=hp (net.getD k (0,0)) (by rw[getD_eq_getElem?_getD,getElem?_eq_getElem hk];exact List.getElem_mem hk)
  have es:=zaZ (z:=[]) (b:=b) (l:=rows) hk
  have hpl:=zbL b net rows k
  have hL:=UJ (z:=[]) (b:=b) (net:=net.take k) (l:=rows)
  have hmem:=zaa (z:=[]) (b:=b) (net:=net.take k) (l:=rows) λp h=>hp p (mem_of_mem_take h)
  have ep:zd3 b net rows (k+1)=if b ((VG [] b (net.take k) rows).getD (net.getD k (0,0)).1 []) ((VG [] b (net.take k) rows).getD (net.getD k (0,0)).2 [])=true then zd3 b net rows k++[(k:Int)] else zd3 b net rows k:=rfl
  unfold J6 at es
  rw[es,ep]
  generalize net.getD k (0,0)=pq at hq
  obtain ⟨a,c⟩:=pq
  generalize VG [] b (net.take k) rows=L at hL hmem
  have hga:∀ {i:Nat},i<rows.length->ixN (L.map dTh).length ((i:Nat):Int)=some i/\(L.map dTh)[i]?=some (dTh (L.getD i []))/\L.getD i []∈rows:=λ{i} hi=>by
   have hi2:i<L.length:=by omega
   have e:L.getD i []=L[i]:=by rw[getD_eq_getElem?_getD,getElem?_eq_getElem hi2];rfl
   exact ⟨by rw[length_map];exact Xb hi2,by rw[getElem?_map,getElem?_eq_getElem hi2,e];rfl,by rw[e];exact hmem _ (List.getElem_mem hi2)⟩
  obtain ⟨a1,a2,a3⟩:=hga hq.1
  obtain ⟨c1,c2,c3⟩:=hga hq.2
  have a1:ixN (L.map dTh).length ((a:Nat):Int)=some a:=a1
  have c1:ixN (L.map dTh).length ((c:Nat):Int)=some c:=c1
  refine zfm ?_
  refine Zr (ZJ (zcn (zbZ (i:=3) (n:=a) (d:=dTh (L.getD a [])) rfl rfl (XH (Ze rfl) Zn (n:=0) rfl rfl) a1 a2) ?_))
  refine Zr (ZJ (zcn (zbZ (i:=3) (n:=c) (d:=dTh (L.getD c [])) rfl rfl (XH (Ze rfl) Zn (n:=1) rfl rfl) c1 c2) ?_))
  show Sv K G _ [.dat (dNt net),.dat (.tuple (rows.map dTh)),.val (.ref fg),.own (L.map dTh),.own ((zd3 b net rows k).map PyData.int),.dat (.int (k:Nat)),.dat (dP (a,c)),.dat (dTh (L.getD a [])),.dat (dTh (L.getD c []))] _
  refine W7 (zjT (zeV rfl hev (Zc (Ze rfl) (Zc (Ze rfl) Zq)) (hb _ a3 _ c3) LA.hn.symm)) (λh=>?_) λh=>ZW ?_
  ·refine Zr (Jl (i:=3) (ZK (Ze rfl) ⟨_,_,_,_,a,rfl,rfl,rfl,XH (Ze rfl) Zn (n:=0) rfl rfl,a1,?_⟩))
   refine Zr (Jl (i:=3) (ZK (Ze rfl) ⟨_,_,_,_,c,rfl,rfl,rfl,XH (Ze rfl) Zn (n:=1) rfl rfl,by rw[length_set];exact c1,?_⟩))
   refine zaI (i:=4) (ZK (Ze rfl) ⟨_,_,_,rfl,rfl,rfl,by rw[length_map];omega,?_⟩) rfl rfl
   refine ⟨by omega,.dat (.int (k:Nat)),.dat (dP (a,c)),.dat (dTh (L.getD a [])),.dat (dTh (L.getD c [])),?_⟩
   rw[if_pos h,if_pos h,map_append,map_set,map_set]
   rfl
  ·refine ⟨by omega,.dat (.int (k:Nat)),.dat (dP (a,c)),.dat (dTh (L.getD a [])),.dat (dTh (L.getD c [])),?_⟩
   rw[if_neg (by rw[h];decide),if_neg (by rw[h];decide)]
 ·rintro _ ⟨_,v5,v6,v7,v8,rfl⟩
  rw[length_range,take_length]
  refine Jt 3 rfl (Jt 4 rfl ?_)
  exact Z6 (ZK (X8 (Zc (Ze rfl) (Zc (Ze rfl) Zq)) (by show 2<=sizeLine;decide)) rfl)
theorem zkC {a:An}{x:An}:decide (a.t=x.t)=isA a x:=by
 unfold isA
 exact decide_eq_decide.mpr zjf
theorem ziX (T:Top K mg)(hB1:B T.Y8=some (.tbl YS))(hB2:B T.Uk=some (.tbl λ_ _=>some JP))(Nd:zfE K=true)(M:Bs K mg base)(W:Wds K w.params mg)(W1:Txs K w.params mg "AHEAD" Q7)(W2:Txs K w.params mg "OTHER_WAY" Qm):T.zaz.O P w base 10 (zg4 K B RLd):=by
 have G_looked:=@zcJ P w K mg base T Nd M W W1 W2
 have G_through:V5 P w K mg base 9 T.Xy.f T.Xy.fd ["net", "row", "is_behind"] (ziQ P w K mg base 6 2 RTh):=ziZ T 6
 refine T.zaz.F.ziz ziC (by rintro _ _ ⟨_,_,_,_,rfl,_⟩;rfl) λcdv A outer s H E hcd hr ds d hR=>?_
 obtain ⟨o,bk,net,rows,rfl,ho,hbk,hn,hrl,hp,hrs,rfl⟩:=hR
 have zl:(2000:Nat)<sizeLine:=by decide
 refine ⟨_,(Zo (ZD (YC (Xd (K:=K) rfl) (by rfl) T.J8 zeW (Za (ZG (Z3 (K:=K) rfl) (zdY (js:=[0,1]) (lps:=["one", "other"]) (cap:=["order", "book"]) (q:=JP) G_through hr (by rfl) T.Xy.m T.Xy.F.kp T.Xy.b ⟨rfl,rfl,rfl,by decide +kernel,by decide +kernel,(by show ∀ p∈(_:List (Str×NameKind)),p.2=NameKind.free->List.lookup p.1 (Zj za3).names=some NameKind.cell;decide +kernel),by decide +kernel,by decide +kernel,by decide +kernel⟩ rfl rfl (λus hl _ _ _ _=>match us,hl with | [_,_],_=>rfl) (λ_ _ _ _ _ _ _ hr2=>J2 Xc (zcN G_looked hr2 (by rfl) T.XX.m T.XX.F.kp T.XX.b .nil zic (Za (pv 2) (Za (pv 3) (Za (pv 0) (Za (pv 1) Zg Zd) Zd) Zd) Zd)) Zz (ZV _)) (Za (pv 2) (Za (pv 3) (Za (ziw (P:=T.Uk) (ps:=["one", "other"]) (cap:=["order", "book"]) (cr:=λ_ _=>some JP) ⟨rfl,rfl,rfl,by decide +kernel,by decide +kernel,(by show ∀ p∈(_:List (Str×NameKind)),p.2=NameKind.free->List.lookup p.1 (Zj za3).names=some NameKind.cell;decide +kernel),by decide +kernel,by decide +kernel,by decide +kernel⟩ (hcd.trans T.cd_led) (codeHd_of_K M.kin T.ch_led) M.bm rfl rfl) Zg (by rfl)) Zd) Zd)) Zi (λ_ _=>rfl)) Zg Zk)))),?_⟩
 refine sv0 (Z6 (ZK (Jv (Zc (XH (n:=0) (zjF (Rg:=λds d=>∃ f g:Fs,f∈rows/\g∈rows/\ds=[dTh f,dTh g]/\d = .bool (isA (o.an bk f g) .behind)) hB2 (Ze rfl) (Ze rfl) ⟨net,rows,λf g=>isA (o.an bk f g) .behind,rfl,hn,hrl,hp,λf hf g hg=>⟨f,g,hf,hg,rfl,rfl⟩,rfl⟩ (λG σ r=>?_)) Zn rfl rfl) Zq)) rfl))
 rintro _ _ ⟨f,g,hf,hg,rfl,rfl⟩ us G' sG hv
 obtain ⟨u0,us,rfl,h0,hv⟩:=hv.cons
 obtain ⟨u1,us,rfl,h1,hv⟩:=hv.cons
 cases hv.nil
 obtain ⟨x0,e0,d0⟩:=r.2.1 0 _ rfl
 obtain ⟨x1,e1,d1⟩:=r.2.1 1 _ rfl
 have ec:Wu σ [0,1]=[some x0,some x1]:=by
  show [(σ[0]?).join,(σ[1]?).join]=_
  rw[e0,e1];rfl
 rw[ec]
 have hw:∀ z∈bk,Ym z=none:=hbk.2.2.2
 refine zb1 (Qf (zeG (sG _ _ (r.1 _ _ hB1)) (Zv (Zh rfl (d0.same sG)) (Zv (Zh rfl (d1.same sG)) (Zv (Zh rfl h0) (Zv (Zh rfl h1) ZZ)))) ⟨o.w,bk,f,g,_,o.an bk f g,rfl,Oe.zcl ho.1,λa b (h:J7 (a,b))=>h.1,⟨(hrs f hf).1,(hrs g hg).1,λp hp=>((hrs f hf).2 p hp).1.1,λp hp=>((hrs g hg).2 p hp).1.1⟩,hw,by have:=ho.2;omega,Oe.ev hw f g ho.1,rfl⟩) Zu) ?_
 show PyData.bool (decide ((o.an bk f g).t=An.behind.t))=_
 rw[zkC]
end
open Big Net
def zeH (m:Nat):Nat->List (Nat×Nat)
 | 0=>[]
 | k+1=>zeH m k++(List.range (m-1-k)).map λj=>(j,j+1)
theorem UL (m:Nat)(hm:m<=8):∀ k,(zeH m k).length<=8*k
 | 0=>Nat.le_refl _
 | k+1=>by
  have:=UL m hm k
  rw[zeH,length_append,length_map,length_range];omega
def InR (m:Nat)(net:List (Nat×Nat)):Prop:=∀ p∈net,p.1<m/\p.2<m
theorem InR.app {m:Nat}{a b:List (Nat×Nat)}(ha:InR m a)(hb:InR m b):InR m (a++b):=λp h=>(mem_append.mp h).elim (ha p) (hb p)
theorem InR.sub {m:Nat}{a b:List (Nat×Nat)}(hb:InR m b)(h:∀ p∈a,p∈b):InR m a:=λp hp=>hb p (h p hp)
theorem zdc (m:Nat):∀ k,InR m (zeH m k)
 | 0=>λp h=>by cases h
 | k+1=>(zdc m k).app λp h=>by
  obtain ⟨j,hj,rfl⟩:=mem_map.mp h
  have:=mem_range.mp hj
  exact ⟨by show j<m;omega,by show j+1<m;omega⟩
abbrev zbM (m:Nat):List (Nat×Nat):=zeH m (m-1)
abbrev lNt (net:List (Nat×Nat)):PyData:=.list (net.map dP)
def zj7:List PyData->PyData->Prop:=λas d=>∃ m:Nat,as=[.int (m:Nat)]/\m<=8/\d=lNt (zbM m)
def zkw:List PyData->List PyData->Prop:=λes ds=>∃ (n m:Nat),Dk n es/\n<=10 ^ 5/\ds=[.int (m:Nat)]/\2<=m/\m<=8
def RPr:List PyData->List PyData->PyData->List PyData->Prop:=λes ds x es' => ∃ (m:Nat) (p:Nat×Nat),ds=[.int (m:Nat)]/\x=dP p/\p.1<m/\p.2<m/\∀ n,Dk n es->Dk (n+2) es'
theorem zcw (T:Top K mg):T.Y4.O P w base 1 (spP K zj7):=by
 refine T.Y4.F.okP Xm (by rintro _ _ ⟨m,rfl,_⟩;rfl) λcdv A outer s H E hr ds d hR=>?_
 obtain ⟨m,rfl,hm,rfl⟩:=hR
 have zl:(2000:Nat)<sizeLine:=by decide
 refine ⟨_,(Zf (ZQ (i:=1) Xm.nd rfl (Or.inl rfl) (Yg Zg))
   (Zf (Qd PassesOwn.never rfl (zdp (by rfl) T.JQ (Za (ZX JN (pv 0) Zi) (Za Zi (Za (ZX JN Zi Zi) Zg Z0) Zb) Z0)) (Xn (i:=2) Xm.nd rfl (Or.inl rfl)) (Zo (ZQ (i:=1) Xm.nd rfl (Or.inl rfl) (ZX Wq (pv 1) (zbh (x:= "k") (cap:=[]) (js:=[]) ⟨rfl,by decide +kernel,by decide +kernel,rfl,(by show ∀ p∈(_:List (Str×NameKind)),p.2=NameKind.free->List.lookup p.1 (Zj Xv).names=some NameKind.cell;decide +kernel),by decide +kernel,by decide +kernel,by decide +kernel⟩ rfl rfl (λ_ _ h=>h) (Xj (by rfl) T.JQ (Za (pv 2) Zg Zd)) (λ_ _ _ _=>⟨WW,(Yz (Za (pv 0) (Za (ZX Xz (pv 0) Zi) Zg Z0) Zd))⟩))))))
   (Zo (ZD (pv 1))))) ,?_⟩
 refine Zr (ZJ (ZK (Xl Zq (zero_le _)) ?_))
 have hi:Ei K B0 (zfZ (Yh (tOp (rI0 λa b=>.int (a-b)) (XQ 0) (tC (.int 1))) (Yh (tC (.int 0)) (Yh (tOp (rI0 λa b=>.int (a-b)) (tC (.int 0)) (tC (.int 1))) Q4)))) (msk [.dat (.int (m:Nat)),.dat (lNt []),.un]) ((List.range (m-1)).map λ(i:Nat)=>PyData.int ((m:Int)-1-i)):=by
  have h:=zgc (K:=K) (B:=B0) (ρ:=msk [.dat (.int (m:Nat)),.dat (lNt []),.un]) (t:=Yh (tOp (rI0 λa b=>.int (a-b)) (XQ 0) (tC (.int 1))) (Yh (tC (.int 0)) (Yh (tOp (rI0 λa b=>.int (a-b)) (tC (.int 0)) (tC (.int 1))) Q4))) (lo:=(m:Int)-1) (j:=0) (Zc (Y0 (Ze rfl) Zn λ_=>Zx _) (Zc Zn (Zc (Y0 Zn Zn λ_=>Zx _) Zq))) (by omega)
  rw[show ((m:Int)-1-0).toNat=m-1 by omega] at h
  exact h
 refine Zr (VH (List.range (m-1)) (λ(i:Nat)=>PyData.int ((m:Int)-1-i)) hi (λk ρ=>∃ v:PV,ρ=[.dat (.int (m:Nat)),.dat (lNt (zeH m k)),v]) ⟨_,rfl⟩ ?_ ?_)
 ·rintro k hk _ ⟨v,rfl⟩
  rw[length_range] at hk
  have ei:(List.range (m-1))[k]'(by rw[length_range];exact hk)=k:=by simp
  rw[ei]
  have hl:=UL m hm k
  refine QC (ZJ (ZK (Q6 (WD (Ze rfl) (zeU (js:=[]) (List.range (m-1-k)) (λ(j:Nat)=>PyData.int (j:Nat)) (λj=>some (dP (j,j+1))) (Vv (Zc (Q6 (Ze rfl) (show _=PyData.int ((m-1-k:Nat):Int) by congr 1;omega)) Zq) (by omega)) (by rw[length_range];omega) λj _=>lx1 zbi (X8 (Zc (Ze rfl) (Zc (Y0 (Ze rfl) Zn λ_=>Zx _) Zq)) (by show 2<=sizeLine;decide))) ?_) (show _=lNt (zeH m (k+1)) from ?_)) ⟨_,rfl⟩))
  ·have:=List.length_filterMap_le (λj:Nat=>some (dP (j,j+1))) (List.range (m-1-k))
   rw[length_range] at this
   rw[length_map];omega
  ·rw[zeH]
   show PyData.list _=PyData.list _
   rw[map_append,map_map]
   congr 2
   induction List.range (m-1-k) with
   | nil=>rfl
   | cons a l ih=>exact congrArg (dP (a,a+1) :: ·) ih
 ·rintro _ ⟨v,rfl⟩
  rw[length_range]
  exact Z6 (ZK (Ze rfl) rfl)
theorem zg0 (T:Top K mg):T.WT.O P w base 3 (spL K zkw RPr):=by
 have G__law_next:=@za9 P w K mg base T
 refine T.WT.F.okL Jz (by rintro _ _ ⟨n,m,_,_,rfl,_⟩;rfl) λcdv A outer s H E hr p es ds hP=>?_
 obtain ⟨n,m,hD,hn,rfl,m2,m8⟩:=hP
 refine ⟨_,(Zf (ZQ (i:=2) Jz.nd rfl (Or.inl rfl) (peN T.Zw G__law_next hr (Za (pv 0) (Za (pv 1) Zg Zd) Zd)))
   (Zf (ZQ (i:=3) Jz.nd rfl (Or.inl rfl) (peN T.Zw G__law_next hr (Za (pv 0) (Za (ZX JN (pv 1) Zi) Zg Z0) Zd)))
   (Zf (Yk (ZF zjz (pv 3) (pv 2) (ZV _)) (Zo (ZD (Yz (Za (pv 2) (Za (ZX Xz (pv 3) Zi) Zg Z0) Zd)))) ZL)
   (Zo (ZD (Yz (Za (pv 3) (Za (pv 2) Zg Zd) Zd))))))) ,?_⟩
 refine Zr (ZJ (Wg rfl rfl (Z9 (Zc (Ze rfl) Zq) ⟨_,es,rfl,rfl,⟨n,_,hD,by omega,rfl,by omega,by omega⟩,λx es1 hx=>?_⟩)))
 obtain ⟨m1,a,e1,rfl,a0,a1,s1⟩:=hx
 cases e1
 have s1' := s1 n hD
 obtain ⟨a,rfl⟩:=eq_ofNat_of_zero_le a0
 refine Zr (ZJ (Wg rfl rfl (Z9 (Zc (Y0 (Ze rfl) Zn λ_=>Zx _) Zq) ⟨_,es1,rfl,rfl,⟨n+1,_,s1',by omega,rfl,by omega,by omega⟩,λx es2 hx=>?_⟩)))
 obtain ⟨m3,b,e2,rfl,b0,b1,s2⟩:=hx
 cases e2
 obtain ⟨b,rfl⟩:=eq_ofNat_of_zero_le b0
 have sA:∀ n,Dk n es->Dk (n+2) es2:=λn' h=>s2 _ (s1 n' h)
 refine Zr (W7 (Ye (Y0 (Ze rfl) (Ze rfl) λ_=>Yb _)) (λh=>?_) λh=>ZW ?_)
 ·have h:=of_decide_eq_true h
  exact Z6 (ZK (X8 (Zc (Ze rfl) (Zc (Y0 (Ze rfl) Zn λ_=>Zx _) Zq)) (by show 2<=sizeLine;decide)) ⟨_,es2,rfl,⟨m,(a,b+1),rfl,rfl,by show a<m;omega,by show b+1<m;omega,sA⟩,rfl⟩)
 ·exact Z6 (ZK (X8 (Zc (Ze rfl) (Zc (Ze rfl) Zq)) (by show 2<=sizeLine;decide)) ⟨_,es2,rfl,⟨m,(b,a),rfl,rfl,by show b<m;omega,by show a<m;omega,sA⟩,rfl⟩)
def zjB:List PyData->List PyData->Prop:=λes ds=>∃ (n m:Nat),Dk n es/\n<=10 ^ 4/\ds=[.int (m:Nat)]/\m<=8
def RNt:List PyData->List PyData->PyData->List PyData->Prop:=λes ds x es' => ∃ (m:Nat) (net:List (Nat×Nat)),ds=[.int (m:Nat)]/\x = .tuple (net.map dP)/\InR m net/\net.length<=60/\∀ n,Dk n es->Dk (n+1000) es'
theorem c4:∀ r:Nat,r<4->ixN ([.int 61,.int 25,.int 25,.int 25]:List PyData).length (r:Nat)=some r/\∃ c:Nat,1<=c/\c<=61/\([.int 61,.int 25,.int 25,.int 25]:List PyData)[r]?=some (.int (c:Nat))
 | 0,_=>⟨rfl,61,by decide,by decide,rfl⟩
 | 1,_=>⟨rfl,25,by decide,by decide,rfl⟩
 | 2,_=>⟨rfl,25,by decide,by decide,rfl⟩
 | 3,_=>⟨rfl,25,by decide,by decide,rfl⟩
theorem d4:∀ r:Nat,r<4->ixN ([.int 0,.int 0,.int 1,.int 3]:List PyData).length (r:Nat)=some r/\∃ c:Nat,c<=3/\([.int 0,.int 0,.int 1,.int 3]:List PyData)[r]?=some (.int (c:Nat))
 | 0,_=>⟨rfl,0,by decide,rfl⟩
 | 1,_=>⟨rfl,0,by decide,rfl⟩
 | 2,_=>⟨rfl,1,by decide,rfl⟩
 | 3,_=>⟨rfl,3,by decide,rfl⟩
theorem zgR (T:Top K mg):T.WM.O P w base 4 (spL K zjB RNt):=by
 have G__law_next:T.Zw.O P w base 3 (spL K zj6 RNx):=(za9 T).mono (by decide)
 have G__law_pair:=@zg0 P w K mg base T
 have G__law_bubbles:T.Y4.O P w base 3 (spP K zj7):=(zcw T).mono (by decide)
 refine T.WM.F.okL Yr (by rintro _ _ ⟨n,m,_,_,rfl,_⟩;rfl) λcdv A outer s H E hr p es ds hP=>?_
 obtain ⟨n,m,hD,hn,rfl,hm⟩:=hP
 have zl:(2000:Nat)<sizeLine:=by decide
 refine ⟨_,(Zf (Yk (ZF Vb (pv 1) Zi (ZV _)) (Zo (ZD (Yz Zg))) ZL)
   (Zf (zej (x:= "k") (cap:=["deck", "many"]) (js:=[0,1]) (i:=2) (y:= "net") ⟨rfl,by decide +kernel,by decide +kernel,rfl,(by show ∀ p∈(_:List (Str×NameKind)),p.2=NameKind.free->List.lookup p.1 (Zj JK).names=some NameKind.cell;decide +kernel),by decide +kernel,by decide +kernel,by decide +kernel⟩ rfl rfl (λ_ _ h=>h) Yr.nd rfl rfl (Xj (by rfl) T.JQ (Za (peN T.Zw G__law_next hr (Za (pv 0) (Za (ZG (Zt (K:=K) rfl) (Yg (Za Zi (Za Zi (Za Zi (Za Zi Zg Zb) Zb) Zb) Zb)) (peN T.Zw G__law_next hr (Za (pv 0) (Za Zi Zg Zb) Zd)) (λ_ _=>rfl)) Zg Zk) Zd)) Zg Z8)) (λ_ _ _ _=>⟨WW,(peN T.WT G__law_pair hr (Za (pv 1) (Za (pv 2) Zg Zd) Zd))⟩))
   (Zf (ZQ (i:=3) Yr.nd rfl (Or.inl rfl) (peN T.Zw G__law_next hr (Za (pv 0) (Za Zi Zg Zb) Zd)))
   (Zf (Yk (ZF za8 (pv 3) Zi (ZV _)) (Zo (ZQ (i:=2) Yr.nd rfl (Or.inl rfl) (ZX Wq (X4 (W9 (K:=K) rfl) (pv 2) WY (W3 (peN T.Zw G__law_next hr (Za (pv 0) (Za Zi Zg Zb) Zd)))) (peN T.Y4 G__law_bubbles hr (Za (pv 1) Zg Zd))))) ZL)
   (Zf (Yk (ZF Xc (pv 3) Zi (ZV _)) (Zo (ZQ (i:=2) Yr.nd rfl (Or.inl rfl) (ZX Wq (pv 2) (ZX zfx (peN T.Y4 G__law_bubbles hr (Za (pv 1) Zg Zd)) (peN T.Zw G__law_next hr (Za (pv 0) (Za Zi Zg Zb) Zd)))))) ZL)
   (Zf (Qd PassesOwn.never rfl (Xj (by rfl) T.JQ (Za (ZG (Zt (K:=K) rfl) (Yg (Za Zi (Za Zi (Za Zi (Za Zi Zg Zb) Zb) Zb) Zb)) (pv 3) (λ_ _=>rfl)) Zg Zk)) (Xn (i:=4) Yr.nd rfl (Or.inl rfl)) (Zf (ZQ (i:=5) Yr.nd rfl (Or.inl rfl) (peN T.Zw G__law_next hr (Za (pv 0) (Za (ZX Xz (Yq (YB (K:=K) rfl) (by rfl) T.zcB PySem.boot_len (Za (pv 2) Zg Zd)) Zi) Zg Z0) Zd)))
   (Zf (ZQ (i:=6) Yr.nd rfl (Or.inl rfl) (peN T.Zw G__law_next hr (Za (pv 0) (Za Zi Zg Zb) Zd)))
   (Zf (ZQ (i:=7) Yr.nd rfl (Or.inl rfl) (X4 (W9 (K:=K) rfl) (pv 2) (W3 (ZX Xz (pv 5) (YC Vl (by rfl) T.int_ zjl (Za (J2 Vb (pv 6) Zi (ZV _)) Zg JG)))) WY))
   (Zo (ZQ (i:=2) Yr.nd rfl (Or.inl rfl) (ZX Wq (ZX Wq (X4 (W9 (K:=K) rfl) (pv 2) WY (W3 (pv 5))) (ZX zfx (Yg (Za (peN T.WT G__law_pair hr (Za (pv 0) (Za (pv 1) Zg Zd) Zd)) Zg Z8)) (YC Vl (by rfl) T.int_ zjl (Za (J2 za8 (pv 6) Zi (ZV _)) Zg JG)))) (pv 7))))))))
   (Zo (ZD (YC (Xd (K:=K) rfl) (by rfl) T.J8 zeW (Za (X4 (W9 (K:=K) rfl) (pv 2) WY (W3 Zi)) Zg Zk)))))))))) ,?_⟩
 refine Zr (W7 (Ye (Y0 (Ze rfl) Zn λ_=>Yb _)) (λh=>?_) λh=>ZW ?_)
 ·exact Z6 (ZK (X8 Zq (zero_le _)) ⟨_,es,rfl,⟨m,[],rfl,rfl,λp h=>(by cases h),by decide,λn' h=>h.mono (by omega)⟩,rfl⟩)
 have m2:2<=m:=by have h:=of_decide_eq_false h;omega
 have hbub:=UL m hm (m-1)
 have hbin:=zdc m (m-1)
 have hbl:(zbM m).length<=56:=by show (zeH m (m-1)).length<=56;omega
 refine Zr (ZJ (zaH (D:=zkx K) (p:=p) (fp:=[]) (i:=0) (kp:=0) rfl (zag (Z4 ?_))))
 refine Wg (i:=0) rfl rfl (Z4 (Xo (ZK (Xl (Zc Zn (Zc Zn (Zc Zn (Zc Zn Zq)))) (by show 4<=sizeLine;decide)) ⟨_,rfl,?_⟩)))
 refine Wg (i:=0) rfl rfl (Z9 (Zc Zn Zq) ⟨_,es,rfl,rfl,⟨n,4,hD,by omega,rfl,by decide,by decide⟩,λx es1 hx=>?_⟩)
 obtain ⟨m4,r4,e4,rfl,r40,r41,s1⟩:=hx
 cases e4
 obtain ⟨r4,rfl⟩:=eq_ofNat_of_zero_le r40
 obtain ⟨x4,c,c1,c61,g4⟩:=c4 r4 (by omega)
 have D1:=s1 n hD
 refine ⟨_,.int (c:Nat),rfl,λG σ va vb ha hb=>YF (Y7 ha) (Y7 hb) x4 g4,_,rfl,Z9 Zq ⟨_,es1,rfl,rfl,⟨n+1,_,D1,by omega,rfl,by omega,by omega⟩,λx es2 hx=>?_⟩⟩
 obtain ⟨m5,r5,e5,rfl,r50,r51,s2⟩:=hx
 cases e5
 obtain ⟨r5,rfl⟩:=eq_ofNat_of_zero_le r50
 have D2:=s2 _ D1
 refine ⟨_,rfl,Z9 Zq ⟨r5,rfl,by omega,es2,λk out s' => ∃ net:List (Nat×Nat),out=net.map dP/\InR m net/\∀ n',Dk n' es->Dk (n'+2+2*k) s',rfl,by rw[length_map,length_range];omega,⟨[],rfl,λp h=>(by cases h),λn' h=>s2 _ (s1 _ h)⟩,?_,?_⟩⟩
 ·rintro k hk out s' ⟨net,rfl,hin,hs⟩ _
  rw[length_map,length_range] at hk
  refine Wg (i:=1) rfl rfl (Z9 (Zc (Ze rfl) Zq) ⟨_,s',rfl,rfl,⟨_,m,hs n hD,by omega,rfl,m2,hm⟩,λx es3 hx=>?_⟩)
  obtain ⟨m6,q,e6,rfl,q1,q2,s3⟩:=hx
  have e6:m=m6:=by injection e6 with e6;injection e6 with e6;omega
  subst e6
  exact ⟨_,es3,rfl,rfl,net++[q],by rw[map_append];rfl,hin.app λp h=>by rw[mem_singleton.mp h];exact ⟨q1,q2⟩,λn' h=>(s3 _ (hs n' h)).mono (by omega)⟩
 rintro out s' ⟨net0,rfl,hin0,hs0⟩ hlen0
 rw[length_map,length_range] at hs0
 rw[length_map,length_map,length_range] at hlen0
 have hs1:∀ n',Dk n' es->Dk (n'+122) s' := λn' h=>(hs0 n' h).mono (by omega)
 have hlen1:net0.length<=60:=by omega
 clear hs0 hlen0 D2 D1 s1 s2
 show Sv K B0 _ [.lnt p s',.dat (.int (m:Nat)),.own (net0.map dP),.un,.un,.un,.un,.un] _
 refine Jt 2 rfl ?_
 refine Zr (ZJ (Wg (i:=0) rfl rfl (Z9 (Zc Zn Zq) ⟨_,s',rfl,rfl,⟨n+122,4,hs1 n hD,by omega,rfl,by decide,by decide⟩,λx es3 hx=>?_⟩)))
 obtain ⟨m7,kd,e7,rfl,kd0,kd1,s3⟩:=hx
 cases e7
 obtain ⟨kd,rfl⟩:=eq_ofNat_of_zero_le kd0
 let St:Nat->Nat->List PV->Prop:=λX Y ρ=>∃ (s' : List PyData) (net:List (Nat×Nat)) (v4 v5 v6 v7:PV),(∀ n',Dk n' es->Dk (n'+X) s')/\InR m net/\net.length<=Y/\ρ=[.lnt p s',.dat (.int (m:Nat)),.dat (lNt net),.dat (.int (kd:Nat)),v4,v5,v6,v7]
 have h0:St 123 60 [.lnt p es3,.dat (.int (m:Nat)),.dat (lNt net0),.dat (.int (kd:Nat)),.un,.un,.un,.un]:=⟨es3,net0,_,_,_,_,λn' h=>s3 _ (hs1 n' h),hin0,hlen1,rfl⟩
 refine U5 (St 124 120) ?_ fun ρ1 h1=>?_
 ·refine W7 (Ye (Y0 (Ze rfl) Zn λ_=>Yb _)) (λh=>?_) λh=>ZW ?_
  ·refine ZJ (Xo (zhu (Ze rfl) (Wg (i:=0) rfl rfl (Z9 (Zc Zn Zq) ⟨_,es3,rfl,rfl,⟨n+123,5,(s3 _ (hs1 n hD)),by omega,rfl,by decide,by decide⟩,λx es4 hx=>?_⟩))))
   obtain ⟨m8,j,e8,rfl,j0,j1,s4⟩:=hx
   cases e8
   obtain ⟨j,rfl⟩:=eq_ofNat_of_zero_le j0
   refine ⟨_,rfl,_,rfl,ZK (Yv (Zc (Ze rfl) Zq) ⟨m,rfl,hm,rfl⟩) ⟨_,lNt (net0.take j++zbM m),rfl,λG σ va vb ha hb=>?_,?_⟩⟩
   ·rw[Vh] at ha
    have:=VJ (σ:=σ) (Y7 ha) (Y7 hb) (by rw[length_take,length_map,length_map];omega)
    rw[show lNt (net0.take j++zbM m)=PyData.list (List.take j (List.map dP net0)++List.map dP (zbM m)) by show PyData.list (List.map dP _)=_;rw[map_append,map_take]]
    exact this
   ·exact ⟨es4,_,_,_,_,_,λn' h=>s4 _ (s3 _ (hs1 n' h)),(hin0.sub λp h=>mem_of_mem_take h).app hbin,by rw[length_append,length_take];omega,rfl⟩
  ·exact ⟨es3,net0,_,_,_,_,λn' h=>(s3 _ (hs1 n' h)).mono (by omega),hin0,by omega,rfl⟩
 refine U5 (St 125 180) ?_ fun ρ2 h2=>?_
 ·obtain ⟨s5,net1,v4,v5,v6,v7,d5,i5,l5,rfl⟩:=h1
  refine W7 (Ye (zbS (Ze rfl) Zn)) (λh=>?_) λh=>ZW ?_
  ·refine ZJ (Xo (ZK (Ze rfl) ⟨_,rfl,Xo (ZK (Yv (Zc (Ze rfl) Zq) ⟨m,rfl,hm,rfl⟩) ⟨_,rfl,Wg (i:=0) rfl rfl (Z9 (Zc Zn Zq) ⟨_,s5,rfl,rfl,⟨n+124,2,d5 n hD,by omega,rfl,by decide,by decide⟩,λx es6 hx=>?_⟩)⟩)⟩))
   obtain ⟨m9,j,e9,rfl,j0,j1,s6⟩:=hx
   cases e9
   obtain ⟨j,rfl⟩:=eq_ofNat_of_zero_le j0
   have hjl:(zbM m).length*j<=56:=le_trans (Nat.mul_le_mul hbl (show j<=1 by omega)) (by decide)
   have hfl:(List.replicate j (zbM m)).flatten.length=j*(zbM m).length:=len_rep _ _
   rw[Nat.mul_comm] at hfl
   refine ⟨_,lNt (List.replicate j (zbM m)).flatten,rfl,λG σ va vb ha hb=>?_,_,lNt (net1++(List.replicate j (zbM m)).flatten),rfl,λG σ va vb ha hb=>?_,?_⟩
   ·have:=zdJ (σ:=σ) (Y7 ha) (Y7 hb) (by omega) (by rw[length_map];omega)
    rw[show lNt (List.replicate j (zbM m)).flatten=PyData.list (List.replicate j ((zbM m).map dP)).flatten by show PyData.list (List.map dP _)=_;rw[List.map_flatten,List.map_replicate]]
    exact this
   ·have:=VJ (σ:=σ) (Y7 ha) (Y7 hb) (by rw[length_map,length_map];omega)
    rw[show lNt (net1++(List.replicate j (zbM m)).flatten)=PyData.list (net1.map dP++(List.replicate j (zbM m)).flatten.map dP) by show PyData.list (List.map dP _)=_;rw[map_append]]
    exact this
   ·exact ⟨es6,_,_,_,_,_,λn' h=>s6 _ (d5 n' h),i5.app λq hq=>by
     obtain ⟨l,hl,hp⟩:=List.mem_flatten.mp hq
     rw[List.eq_of_mem_replicate hl] at hp
     exact hbin q hp,by rw[length_append];omega,rfl⟩
  ·exact ⟨s5,net1,_,_,_,_,λn' h=>(d5 n' h).mono (by omega),i5,by omega,rfl⟩
 obtain ⟨x3,c3,c33,g3⟩:=d4 kd (by omega)
 obtain ⟨s5,net1,v4,v5,v6,v7,d5,i5,l5,rfl⟩:=h2
 refine Zr (VH (List.range c3) (λ(i:Nat)=>PyData.int (i:Nat)) (Vv (Zc (Z2 (Xl (Zc Zn (Zc Zn (Zc Zn (Zc Zn Zq)))) (by show 4<=sizeLine;decide)) (Ze rfl) x3 g3) Zq) (by omega)) (λk ρ=>St (125+4*k) (180+k) ρ) ⟨s5,net1,_,_,_,_,d5,i5,l5,rfl⟩ ?_ ?_)
 ·rintro k hk _ ⟨s7,net2,v4,v5,v6,v7,d7,i7,l7,rfl⟩
  rw[length_range] at hk
  generalize (List.range c3)[k]=k'
  refine QC ?_
  refine Zr (ZJ (Wg (i:=0) rfl rfl (Z9 (Zc (Y0 (UW (Zc (Ze rfl) Zq)) Zn λ_=>Zx _) Zq) ⟨_,s7,rfl,rfl,⟨n+(125+4*k),_,d7 n hD,by omega,rfl,by omega,by rw[length_map];omega⟩,λx es8 hx=>?_⟩)))
  obtain ⟨ma,at_,ea,rfl,a0,a1,s8⟩:=hx
  cases ea
  obtain ⟨at_,rfl⟩:=eq_ofNat_of_zero_le a0
  refine Zr (ZJ (Wg (i:=0) rfl rfl (Z9 (Zc Zn Zq) ⟨_,es8,rfl,rfl,⟨n+(125+4*k)+1,3,s8 _ (d7 n hD),by omega,rfl,by decide,by decide⟩,λx es9 hx=>?_⟩)))
  obtain ⟨mb,way,eb,rfl,w0',w1',s9⟩:=hx
  cases eb
  have D9:=s9 _ (s8 _ (d7 n hD))
  show Sv K B0 _ [.lnt p es9,.dat (.int (m:Nat)),.dat (lNt net2),.dat (.int (kd:Nat)),.dat (.int (k' : Nat)),.dat (.int (at_:Nat)),.dat (.int way),v7] _
  obtain ⟨x,hx,hxa⟩:∃ x:Nat,(at_:Int)+(if decide (way<2)=true then (1:Int) else 0)=(x:Nat)/\at_<=x:=by
   split
   ·exact ⟨at_+1,by omega,by omega⟩
   ·exact ⟨at_,by omega,by omega⟩
  obtain ⟨wj,hwj,hwj1⟩:∃ wj:Nat,(if decide (0<way)=true then (1:Int) else 0)=(wj:Nat)/\wj<=1:=by
   split
   ·exact ⟨1,rfl,by decide⟩
   ·exact ⟨0,rfl,by decide⟩
  refine Zr (ZJ (ZK (Q6 (zbV (lo:=some (x:Nat)) (Ze rfl) (λG σ r H Q q=>?_) J5) (show _=lNt (net2.drop x) from ?_)) ?_))
  ·obtain ⟨x5,h5,d5'⟩:=r.2.1 5 _ rfl
   obtain ⟨x6,h6,d6'⟩:=r.2.1 6 _ rfl
   rw[d5'.int] at h5
   rw[d6'.int] at h6
   rw[← hx] at q
   exact ⟨_,h5,_,h6,_,_,rfl,rfl,.inr ⟨_,rfl,_,_,rfl,rfl,_,rfl,q⟩⟩
  ·show PyData.list _=PyData.list _
   rw[zbX,map_drop]
  refine ZJ (Xo (Xo (ZK (zbV (Ze rfl) J5 (zhZ rfl)) ⟨_,rfl,Xo (Vw (Z4 (Wg (i:=0) rfl rfl (Z9 (Zc (Ze rfl) Zq) ⟨_,es9,rfl,rfl,⟨_,m,D9,by omega,rfl,m2,hm⟩,λy es10 hy=>?_⟩))))⟩)))
  obtain ⟨mc,q,ec,rfl,q1,q2,s10⟩:=hy
  have ec:m=mc:=by injection ec with ec;injection ec with ec;omega
  subst ec
  have hfl:(List.replicate wj [q]).flatten.length=wj:=by rw[len_rep];simp
  refine ⟨_,rfl,Z9 Zq ⟨by show 1<=sizeLine;decide,_,rfl,ZK (Q6 (zbb (Zc (Y0 (Ze rfl) Zn λ_=>Yb _) Zq)) (show _=PyData.int (wj:Nat) by rw[← hwj])) ⟨_,lNt (List.replicate wj [q]).flatten,rfl,λG σ va vb ha hb=>?_,_,lNt (net2.take at_++(List.replicate wj [q]).flatten),rfl,λG σ va vb ha hb=>?_,_,rfl,ZK (Ze rfl) ⟨_,lNt (net2.take at_++(List.replicate wj [q]).flatten++net2.drop x),rfl,λG σ va vb ha hb=>?_,?_⟩⟩⟩⟩
  ·have:=zdJ (σ:=σ) (Y7 ha) (Y7 hb) (by omega) (by show 1*wj<=_;omega)
   rw[show lNt (List.replicate wj [q]).flatten=PyData.list (List.replicate wj [dP q]).flatten by show PyData.list (List.map dP _)=_;rw[List.map_flatten,List.map_replicate];rfl]
   exact this
  ·rw[Vh] at ha
   have:=VJ (σ:=σ) (Y7 ha) (Y7 hb) (by rw[length_take,length_map,length_map];omega)
   rw[show lNt (net2.take at_++(List.replicate wj [q]).flatten)=PyData.list ((net2.map dP).take at_++(List.replicate wj [q]).flatten.map dP) by show PyData.list (List.map dP _)=_;rw[map_append,map_take]]
   exact this
  ·have:=VJ (σ:=σ) (Y7 ha) (Y7 hb) (by rw[length_map,length_map,length_append,length_take,length_drop];omega)
   rw[show lNt (net2.take at_++(List.replicate wj [q]).flatten++net2.drop x)=PyData.list ((net2.take at_++(List.replicate wj [q]).flatten).map dP++(net2.drop x).map dP) by show PyData.list (List.map dP _)=_;rw[map_append]]
   exact this
  ·exact ⟨es10,_,_,_,_,_,λn' h=>(s10 _ (s9 _ (s8 _ (d7 n' h)))).mono (by omega),((i7.sub λp h=>mem_of_mem_take h).app λz hz=>by
    obtain ⟨l,hl,hp⟩:=List.mem_flatten.mp hz
    rw[List.eq_of_mem_replicate hl] at hp
    rw[mem_singleton.mp hp];exact ⟨q1,q2⟩).app (i7.sub λp h=>List.mem_of_mem_drop h),by rw[length_append,length_append,length_take,length_drop];omega,rfl⟩
 ·rintro _ ⟨s7,net2,v4,v5,v6,v7,d7,i7,l7,rfl⟩
  rw[length_range] at d7 l7
  refine Z6 (ZK (Q6 (Jv (Zc (Q6 (zbV (Ze rfl) J5 zaM) (show _=lNt (net2.take 60) from ?_)) Zq)) rfl) ⟨_,s7,rfl,⟨m,net2.take 60,rfl,rfl,i7.sub λp h=>mem_of_mem_take h,by rw[length_take];omega,λn' h=>(d7 n' h).mono (by omega)⟩,rfl⟩)
  show PyData.list _=PyData.list _
  rw[show (60:Int)=((60:Nat):Int) from rfl,Vh,map_take]
def RDu:List PyData->PyData->Prop:=λas d=>∃ (t:Tr) (net:List (Nat×Nat)) (rows:List Fs) (m:Nat),as=[trD t,dNt net,.tuple (rows.map dTh)]/\t.ok m J7/\Tdp t<3/\net.length<=100/\rows.length<=100/\(∀ p∈net,p.1<rows.length/\p.2<rows.length)/\(∀ g∈rows,ThD m g)/\d = .tuple ((VG [] (λf g=>decide (0<t.sd f g)) net rows).map dTh)
def ziM (n:Nat)(ds:List PyData):Prop:=∃ m:Nat,ds=[.int (m:Nat)]/\m<=8/\n<=10 ^ 4
inductive RNd (n:Nat) (ds:List PyData) (x:PyData) (n' : Nat):Prop
 | mk (m:Nat) (net:List (Nat×Nat)) (_:ds=[.int (m:Nat)]) (_:x=dNt net) (_:InR m net) (_:net.length<=60) (_:n' <= n+1000):RNd n ds x n'
theorem zci {bk:List Str}:∀ {t:Tr},t.ok bk.length J7->(t.o bk).ok (· ∈ bk) (λa b=>J7 (a,b))
 | .like,_=>trivial
 | .fld dn i,h=>by
  have h:i<bk.length:=h
  show WF bk i∈bk
  rw[WF,getD_eq_getElem?_getD,getElem?_eq_getElem h];exact List.getElem_mem h
 | .thn a b,h=>⟨zci (t:=a) h.1,zci (t:=b) h.2⟩
 | .turn a,h=>zci (t:=a) h
 | .part p a dn i,h=>by
  have hz:WF bk i∈bk:=by
   have h3:=h.2.2
   rw[WF,getD_eq_getElem?_getD,getElem?_eq_getElem h3];exact List.getElem_mem h3
  exact ⟨⟨⟨hz,h.1⟩,hz,h.1⟩,zci (t:=a) h.2.1,hz⟩
theorem zdk (rows:List Fs):Pl 6 (.tuple (rows.map dTh)):=zdz λd hd=>by
 obtain ⟨f,_,rfl⟩:=mem_map.mp hd
 exact zdz λd hd=>by
  obtain ⟨p,_,rfl⟩:=mem_map.mp hd
  exact zdz λd hd=>by
   rcases mem_cons.mp hd with rfl | hd
   ·exact zfu _
   ·rw[mem_singleton.mp hd];exact zfu _
theorem zfX {B:Hp}{ρ:List PV}{ds:List PyData}{n:Nat}{t:TS}{R:L2.Pn}(i:Nat)(hi:ρ[i]?=some (.own ds))(hD:Dk n ds)(h:∀ p,Sv K B t (ρ.set i ((lkT K).pv n p [])) R):Sv K B t ρ R:=λE G0 H0 G H σ F D r dn=>by
 obtain ⟨p,xs,e,hx,hp,hd⟩:=r.sl i _ hi
 have hlt:i<ρ.length:=(List.getElem?_eq_some_iff.mp hi).1
 refine h p E G0 H0 G H σ F D ⟨r.g,r.bb,by rw[length_set];exact r.ls,λj v hj=>?_,r.fr,r.dj,λj ds' a hj ha=>?_⟩ dn
 ·by_cases z:j=i
  ·subst z
   rw[getElem?_set_self hlt] at hj
   cases hj
   exact (lkT K).sl.mpr ⟨e,hx,rfl,xs,ds,hp,hd,hD⟩
  ·rw[getElem?_set_ne (Ne.symm z)] at hj
   exact r.sl j v hj
 ·by_cases z:j=i
  ·subst z
   rw[getElem?_set_self hlt] at hj
   cases hj
  ·rw[getElem?_set_ne (Ne.symm z)] at hj
   exact r.ow j ds' a hj ha
theorem zjD (T:Top K mg):T.WM.O P w base 4 (spT (lkT K) ziM RNd):=
 zhW (zgR T) (λn es ds h ⟨m,e,h1,h2⟩=>⟨n,m,h,h2,e,h1⟩) λn es ds x es' h _ ⟨m,net,e,e2,h1,h2,s⟩=>⟨n+1000,s n h,⟨m,net,e,e2,h1,h2,Nat.le_refl _⟩⟩
theorem zhz (T:Top K mg):T.WP.O P w base 5 (spP K RDu):=by
 have G__law_side:=@zcO P w K mg base T 3
 refine T.WP.F.okP Wc (by rintro _ _ ⟨_,_,_,_,rfl,_⟩;rfl) λcdv A outer s H E hr ds d hR=>?_
 obtain ⟨t,net,rows,m,rfl,ht,htd,hn,hrl,hp,hrs,rfl⟩:=hR
 have zl:(2000:Nat)<sizeLine:=by decide
 refine ⟨_,(Zf (ZQ (i:=3) Wc.nd rfl (Or.inl rfl) (YC (Ut (K:=K) rfl) (by rfl) T.zh9 zbv (Za (pv 2) Zg Zd)))
   (Zf (Qd PassesOwn.never rfl (zbs (pv 1)) (zfz (n:=2) rfl (JF (Xn (i:=4) Wc.nd rfl (Or.inl rfl)) (JF (Xn (i:=5) Wc.nd rfl (Or.inl rfl)) zbl)) (by rfl)) (Zo (Yk (ZF za8 (peN T.Yu G__law_side hr (Za (pv 0) (Za (ZG (Zt (K:=K) rfl) (pv 3) (pv 4) (λ_ _=>rfl)) (Za (ZG (Zt (K:=K) rfl) (pv 3) (pv 5) (λ_ _=>rfl)) Zg Zk) Zk) Zd)) Zi (ZV _)) (Zf (ZQ (i:=6) Wc.nd rfl (Or.inl rfl) (ZG (Zt (K:=K) rfl) (pv 3) (pv 4) (λ_ _=>rfl)))
   (Zf (Qo (ZG (Zt (K:=K) rfl) (pv 3) (pv 5) (λ_ _=>rfl)) (Q8 (pv 3) (pv 4) set_list))
   (Zo (Qo (pv 6) (Q8 (pv 3) (pv 5) set_list))))) ZL)))
   (Zo (ZD (YC (Xd (K:=K) rfl) (by rfl) T.J8 zeW (Za (pv 3) Zg Zd)))))) ,?_⟩
 refine Zr (ZJ (zdT (.inl (Zc (Ze rfl) Zq)) ?_))
 generalize hb:(λf g:Fs=>decide (0<t.sd f g))=b
 refine Zr (VH net dP (zdB (Ze rfl)) (λk ρ=>∃ v4 v5 v6:PV,ρ=[.dat (trD t),.dat (dNt net),.dat (.tuple (rows.map dTh)),.own ((VG [] b (net.take k) rows).map dTh),v4,v5,v6]) ⟨_,_,_,rfl⟩ ?_ ?_)
 ·rintro k hk _ ⟨v4,v5,v6,rfl⟩
  have eg:net.getD k (0,0)=net[k]:=by rw[getD_eq_getElem?_getD,getElem?_eq_getElem hk];rfl
  have hq:=hp net[k] (List.getElem_mem hk)
  have es:=zaZ (z:=[]) (b:=b) (l:=rows) hk
  have hL:=UJ (z:=[]) (b:=b) (net:=net.take k) (l:=rows)
  have hmem:=zaa (z:=[]) (b:=b) (net:=net.take k) (l:=rows) λp h=>hp p (mem_of_mem_take h)
  unfold J6 at es
  rw[es,eg]
  generalize net[k]=pq at hq
  obtain ⟨a,c⟩:=pq
  generalize VG [] b (net.take k) rows=L at hL hmem
  have hga:∀ {i:Nat},i<rows.length->ixN (L.map dTh).length ((i:Nat):Int)=some i/\(L.map dTh)[i]?=some (dTh (L.getD i []))/\L.getD i []∈rows:=λ{i} hi=>by
   have hi2:i<L.length:=by omega
   have e:L.getD i []=L[i]:=by rw[getD_eq_getElem?_getD,getElem?_eq_getElem hi2];rfl
   exact ⟨by rw[length_map];exact Xb hi2,by rw[getElem?_map,getElem?_eq_getElem hi2,e];rfl,by rw[e];exact hmem _ (List.getElem_mem hi2)⟩
  obtain ⟨a1,a2,a3⟩:=hga hq.1
  obtain ⟨c1,c2,c3⟩:=hga hq.2
  have a1:ixN (L.map dTh).length ((a:Nat):Int)=some a:=a1
  have c1:ixN (L.map dTh).length ((c:Nat):Int)=some c:=c1
  have a2:(L.map dTh)[a]?=some (dTh (L.getD a [])):=a2
  have c2:(L.map dTh)[c]?=some (dTh (L.getD c [])):=c2
  have ha:=hrs _ a3
  have hc:=hrs _ c3
  refine zfm ?_
  show Sv K B0 _ [.dat (trD t),.dat (dNt net),.dat (.tuple (rows.map dTh)),.own (L.map dTh),.dat (.int (a:Nat)),.dat (.int (c:Nat)),v6] _
  refine W7 (zd7 (Ye (Y0 (Yv (Zc (Ze rfl) (Zc (Z2 (Xx rfl rfl) (Ze rfl) a1 a2) (Zc (Z2 (Xx rfl rfl) (Ze rfl) c1 c2) Zq))) ⟨t,L.getD a [],L.getD c [],rfl,by rw[ha.1];exact ht,by rw[hc.1];exact ha.1.symm,λp hp=>(ha.2 p hp).1,λp hp=>(hc.2 p hp).1,htd,rfl⟩) Zn λ_=>Yb _)) (show _=b (L.getD a []) (L.getD c []) by rw[← hb])) (λh=>?_) λh=>ZW ?_
  ·refine Zr (ZJ (zcn (zbZ (i:=3) (n:=a) (d:=dTh (L.getD a [])) rfl rfl (Ze rfl) a1 a2) ?_))
   refine Zr (Jl (i:=3) (zcn (zbZ (i:=3) (n:=c) (d:=dTh (L.getD c [])) rfl rfl (Ze rfl) c1 c2) ⟨_,_,_,_,a,rfl,rfl,rfl,Ze rfl,a1,?_⟩))
   refine Jl (i:=3) (ZK (Ze rfl) ⟨_,_,_,_,c,rfl,rfl,rfl,Ze rfl,by rw[length_set];exact c1,?_⟩)
   refine ⟨.dat (.int (a:Nat)),.dat (.int (c:Nat)),.dat (dTh (L.getD a [])),?_⟩
   rw[if_pos h,map_set,map_set]
   rfl
  ·refine ⟨.dat (.int (a:Nat)),.dat (.int (c:Nat)),v6,?_⟩
   rw[if_neg (by rw[h];decide)]
 ·rintro _ ⟨v4,v5,v6,rfl⟩
  rw[take_length]
  refine Jt 3 rfl ?_
  exact Z6 (ZK (Jv (Zc (Ze rfl) Zq)) rfl)
theorem zim {f:Addr}{fd:FuncData}(F:Fun K "law" "law" zbq f fd)(T:Top K mg)(hne:T.Y8≠T.Uk)(Nd:zfE K=true)(W:Wds K w.params mg)(W1:Txs K w.params mg "AHEAD" Q7)(W2:Txs K w.params mg "OTHER_WAY" Qm)(M:Bs K mg base):QS P w K mg base CX0 16 f fd ["script"] (zav K [(T.Y8,YS),(T.Uk,λ_ _=>some JP)]):=by
 have hB1:zeF [(T.Y8,YS),(T.Uk,λ_ _=>some JP)] T.Y8=some (.tbl YS):=by unfold zeF;simp
 have hB2:zeF [(T.Y8,YS),(T.Uk,λ_ _=>some JP)] T.Uk=some (.tbl λ_ _=>some JP):=by unfold zeF;simp[hne]
 have G__law_deck:T.Jc.O P w base 15 (zbR K zhv):=(zgF T).mono (by decide)
 have G__law_next:T.Zw.O P w base 15 (spT (lkT K) zgL RDw):=(zcd T).mono (by decide)
 have G__law_book:T.W4.O P w base 15 (spT (lkT K) zi3 RBk):=(zga T).mono (by decide)
 have G__law_order:T.Wr.O P w base 15 (spT (lkT K) zhj ROd):=(zea T).mono (by decide)
 have G__law_things:T.X3.O P w base 15 (spT (lkT K) zhi RTg):=(zdg T).mono (by decide)
 have G__law_cased:T.Wm.O P w base 15 (spT (lkT K) zhE RCa):=(zeA T).mono (by decide)
 have G__law_net:T.WM.O P w base 15 (spT (lkT K) ziM RNd):=(zjD T).mono (by decide)
 have G__law_due:T.WP.O P w base 15 (spP K RDu):=(zhz T).mono (by decide)
 have G_led:T.zaz.O P w base 15 (zg4 K (zeF [(T.Y8,YS),(T.Uk,λ_ _=>some JP)]) RLd):=(ziX T hB1 hB2 Nd M W W1 W2).mono (by decide)
 refine F.zhD Jr λcdv A outer s H E hr ns hns=>?_
 generalize zeF [(T.Y8,YS),(T.Uk,λ_ _=>some JP)]=B at hB1 hB2 G_led
 have hu:=hr.units
 have zl:(2000:Nat)<sizeLine:=by decide
 refine ⟨_,(Zf (ZQ (i:=1) Jr.nd rfl (Or.inl rfl) (peN T.Jc G__law_deck hr (Za (pv 0) Zg Zd)))
   (Zf (Qd PassesOwn.never rfl (Xj (by rfl) T.JQ (Za Zi Zg Zb)) (Xn (i:=2) Jr.nd rfl (Or.inl rfl)) (Zf (ZQ (i:=3) Jr.nd rfl (Or.inl rfl) (peN T.W4 G__law_book hr (Za (pv 1) Zg Zd)))
   (Zf (Qo (peN T.Wr G__law_order hr (Za (pv 1) (Za (Yq (YB (K:=K) rfl) (by rfl) T.zcB PySem.boot_len (Za (pv 3) Zg Zd)) (Za (pv 3) Zg Zd) Z8) Zd)) (ziW (n:=2) rfl (JF (Xn (i:=4) Jr.nd rfl (Or.inl rfl)) (JF (Xn (i:=5) Jr.nd rfl (Or.inl rfl)) zbl)) (by rfl)))
   (Zf (ZQ (i:=6) Jr.nd rfl (Or.inl rfl) (YC (Xd (K:=K) rfl) (by rfl) T.J8 zeW (Za (peN T.X3 G__law_things hr (Za (pv 1) (Za (Yq (YB (K:=K) rfl) (by rfl) T.zcB PySem.boot_len (Za (pv 3) Zg Zd)) (Za (peN T.Zw G__law_next hr (Za (pv 1) (Za Zi Zg Zb) Zd)) Zg Z8) Z8) Zd)) Zg Z8)))
   (Zf (ZQ (i:=5) Jr.nd rfl (Or.inl rfl) (peN T.Wm G__law_cased hr (Za (pv 1) (Za (pv 3) (Za (pv 5) (Za (pv 6) Zg Zd) Zd) Zd) Zd)))
   (Zf (ZQ (i:=7) Jr.nd rfl (Or.inl rfl) (peN T.WM G__law_net hr (Za (pv 1) (Za (Yq (YB (K:=K) rfl) (by rfl) T.zcB PySem.boot_len (Za (pv 6) Zg Zd)) Zg Z8) Zd)))
   (Zf (ZQ (i:=8) Jr.nd rfl (Or.inl rfl) (peN T.WP G__law_due hr (Za (pv 4) (Za (pv 7) (Za (pv 6) Zg Zd) Zd) Zd)))
   (Zf (ZQ (i:=9) Jr.nd rfl (Or.inl rfl) (peN T.zaz G_led hr (Za (pv 5) (Za (pv 3) (Za (pv 7) (Za (pv 6) Zg Zd) Zd) Zd) Zd)))
   (Zf (Yk ((pw_or (zhS (Q9 (Yq (zbT (K:=K) rfl) (by rfl) T.VL zjX (Za (pv 9) (Za (zd1 (v:=.ty "tuple") (by rfl) T.J8 zeW rfl) Zg))))) (pw_or1 (ZF (Ux (K:=K) rfl hu) (pv 9) (pv 8) (ZV _))))).pt (Zo (ZD zbk)) ZL)
   (Zf (Yk (ZF (Ux (K:=K) rfl hu) (peN T.zaz G_led hr (Za (pv 5) (Za (pv 3) (Za (pv 7) (Za (pv 6) Zg Zd) Zd) Zd) Zd)) (pv 8) (ZV _)) (Zo (ZD zbk)) ZL)
   (Zf (Yk (ZF (Ux (K:=K) rfl hu) (peN T.zaz G_led hr (Za (pv 5) (Za (pv 3) (Za (Yz Zg) (Za (pv 6) Zg Zd) zaf) Zd) Zd)) (pv 6) (ZV _)) (Zo (ZD zbk)) ZL)
   (Zo (Yk (ZF (Ux (K:=K) rfl hu) (peN T.zaz G_led hr (Za (pv 5) (Za (pv 3) (Za (X4 (zcI (K:=K) rfl) (pv 7) WY (W3 Zi)) (Za (pv 6) Zg Zd) Zk) Zd) Zd)) (peN T.WP G__law_due hr (Za (pv 4) (Za (X4 (zcI (K:=K) rfl) (pv 7) WY (W3 Zi)) (Za (pv 6) Zg Zd) Zk) Zd)) (ZV _)) (Zo (ZD zbk)) ZL)))))))))))))
   (Zo (ZD zbk)))) ,?_⟩
 obtain ⟨cs,hcs,hcl,_⟩:=zgD PyData.int ns none (some 63)
 refine Zr (ZJ (zfL rfl ⟨cs,hcs,rfl⟩ ?_))
 refine zfX (n:=0) 1 rfl ⟨cs,0,0,0,cs.sum,rfl,by omega,by decide,by decide⟩ λp=>?_
 refine Zr (VH (List.range 3) (λ(i:Nat)=>PyData.int (i:Nat)) (Vv (n:=3) (Zc Zn Zq) (by decide)) (λi ρ=>∃ (c:Nat) (v2 v3 v4 v5 v6 v7 v8 v9:PV),c<=2000*i/\ρ=[.scr ns,(lkT K).pv c p [],v2,v3,v4,v5,v6,v7,v8,v9]) ⟨0,_,_,_,_,_,_,_,_,Nat.le_refl _,rfl⟩ ?_ ?_)
 ·rintro i hi _ ⟨c,v2,v3,v4,v5,v6,v7,v8,v9,hc,rfl⟩
  rw[length_range] at hi
  generalize (List.range 3)[i]=i'
  refine QC (Zr (ZJ (YW (s:=c) rfl (Z9 Zq ⟨c,rfl,⟨rfl,by omega⟩,λx c1 hx=>?_⟩))))
  obtain ⟨bk,rfl,hbk,hc1⟩:=hx
  have lenB:∀ {ρ:List PV}{i:Nat}{B:Hp},ρ[i]?=some (.dat (dBk bk))->Er K B (tCB (λxs H Q=>∃ p ys,xs=[.ref p]/\(SqL K H p ys\/SqT K H p ys)/\Q (.int ys.length) H) (Yh (XQ i) Q4)) ρ (.int (bk.length:Nat)):=λh=>Q6 (zbg (Zc (Ze h) Zq)) (by rw[length_map])
  refine Zr (zgY (YW (s:=c1) rfl (Z9 (Zc (lenB rfl) (Zc (Ze rfl) Zq)) ⟨c1,rfl,⟨bk,rfl,hbk,by omega⟩,λx c2 hx=>?_⟩)))
  obtain ⟨bk1,t,e1,rfl,ht,htd,htl,hc2⟩:=hx
  injection e1 with _ e1
  injection e1 with e1 _
  obtain rfl:=zcH e1
  refine ⟨_,rfl,zf6 ?_⟩
  show Sv K B _ [.scr ns,(lkT K).pv c2 p [],.dat (.int (i' : Nat)),.dat (dBk bk),.dat (trD t),.dat (dOr (t.o bk)),v6,v7,v8,v9] _
  refine Zr (ZJ (zfh (YW (s:=c2) rfl (Z4 (ZK (lenB rfl) ⟨_,rfl,Z4 (Wj (c:=c2) rfl Zn (by omega) (by decide) (by decide) λmm hmm=>⟨_,rfl,Z9 Zq ⟨c2+1,rfl,⟨bk.length,mm,rfl,hbk.1,hbk.2.1,by omega,by omega⟩,λx c3 hx=>?_⟩⟩)⟩)))))
  obtain ⟨rows,rfl,hrw,hc3⟩:=hx
  obtain ⟨hrl,hrs⟩:=hrw _ _ rfl
  refine ⟨_,.tuple (rows.map dTh),rfl,λG σ va ha=>V1 (Zv (Y7 ha) ZZ),?_⟩
  show Sv K B _ [.scr ns,(lkT K).pv c3 p [],.dat (.int (i' : Nat)),.dat (dBk bk),.dat (trD t),.dat (dOr (t.o bk)),.dat (.tuple (rows.map dTh)),v7,v8,v9] _
  refine Zr (ZJ (YW (s:=c3) rfl (Z9 (Zc (Ze rfl) (Zc (Ze rfl) (Zc (Ze rfl) Zq))) ⟨c3,rfl,⟨bk,t.o bk,rows,rfl,hbk,zci ht,htl,by omega,hrs,by omega⟩,λx c4 hx=>?_⟩)))
  obtain ⟨bk1,o1,o',rows1,e1,ho1,rfl,ho',han,hc4⟩:=hx
  injection e1 with e1 e2
  injection e2 with e2 e3
  injection e3 with e3 _
  obtain rfl:=zcH e1
  obtain rfl:=zgo e3
  have hb:∀ f∈rows,∀ g∈rows,isA (o'.an bk f g) .behind=decide (0<t.sd f g):=λf hf g hg=>by
   rw[han f hf g hg,← zkF hbk.2.2.2 (zci ht) ho1 (zjK e2),Tr.zdt hbk.2.2.1 ht (hrs f hf).1 (hrs g hg).1,zdi]
  clear han e2 ho1
  refine Zr (ZJ (YW (s:=c4) rfl (Z9 (Zc (Q6 (zbg (Zc (Ze rfl) Zq)) (show _=PyData.int (rows.length:Nat) by rw[length_map])) Zq) ⟨c4,rfl,⟨rows.length,rfl,by omega,by omega⟩,λx c5 hx=>?_⟩)))
  obtain ⟨m1,net,e1,rfl,hin,hnl,hc5⟩:=hx
  injection e1 with e1 _
  injection e1 with e1
  have e1:rows.length=m1:=by omega
  subst e1
  show Sv K B _ [.scr ns,(lkT K).pv c5 p [],.dat (.int (i' : Nat)),.dat (dBk bk),.dat (trD t),.dat (dOr o'),.dat (.tuple (rows.map dTh)),.dat (dNt net),v8,v9] _
  have hduE:∀ {nt:List (Nat×Nat)}{t1 t2 t3:TE}{X:XK}{ρ:List PV},(∀ q∈nt,q.1<rows.length/\q.2<rows.length)->nt.length<=60->Er K B t1 ρ (trD t)->Er K B t2 ρ (dNt nt)->Er K B t3 ρ (.tuple (rows.map dTh))->Er K B (Jx (spP K RDu) [] X (Yh t1 (Yh t2 (Yh t3 Q4)))) ρ (.tuple ((VG [] (λf g=>decide (0<t.sd f g)) nt rows).map dTh)):=λh1 h2 a b d=>Yv (Zc a (Zc b (Zc d Zq))) ⟨t,_,rows,bk.length,rfl,ht,htd,by omega,by omega,h1,hrs,rfl⟩
  have hldE:∀ {nt:List (Nat×Nat)}{t1 t2 t3 t4:TE}{X:XK}{ρ:List PV},(∀ q∈nt,q.1<rows.length/\q.2<rows.length)->nt.length<=60->Er K B t1 ρ (dOr o')->Er K B t2 ρ (dBk bk)->Er K B t3 ρ (dNt nt)->Er K B t4 ρ (.tuple (rows.map dTh))->Er K B (Jx (zg4 K B RLd) [] X (Yh t1 (Yh t2 (Yh t3 (Yh t4 Q4))))) ρ (.tuple ((VG [] (λf g=>decide (0<t.sd f g)) nt rows).map dTh)):=λh1 h2 a b d e=>Q6 (zd9 (Zc a (Zc b (Zc d (Zc e Zq)))) ⟨o',bk,_,rows,rfl,ho',hbk,by omega,by omega,h1,hrs,rfl⟩) (by rw[Uq h1 hb])
  refine Zr (ZJ (ZK (hduE hin hnl (Ze rfl) (Ze rfl) (Ze rfl)) ?_))
  refine Zr (ZJ (ZK (hldE hin hnl (Ze rfl) (Ze rfl) (Ze rfl) (Ze rfl)) ?_))
  have neF:∀ {ta tb:TE}{ρ:List PV}{l:List Fs},Er K B ta ρ (.tuple (l.map dTh))->Er K B tb ρ (.tuple (l.map dTh))->Et K B (Qs (tOp (zf1 K λb=>!b) ta tb)) ρ false:=λh1 h2=>zd7 (Ye (zh6 (n:=6) h1 h2 (zdk _) (zdk _) (by decide))) (by rw[same_self];rfl)
  refine Zr (YJ (zd7 (zhM (zib (zjT (zhg (Ze rfl) T.tt))) λ_=>neF (Ze rfl) (Ze rfl)) rfl) (ZW ?_))
  refine Zr (YJ (neF (hldE hin hnl (Ze rfl) (Ze rfl) (Ze rfl) (Ze rfl)) (Ze rfl)) (ZW ?_))
  refine Zr (YJ (neF (hldE (nt:=[]) (λ_ h=>(by cases h)) (by decide) (Ze rfl) (Ze rfl) (X8 Zq (zero_le _)) (Ze rfl)) (Ze rfl)) (ZW ?_))
  have h1in:∀ q∈net.take 1,q.1<rows.length/\q.2<rows.length:=λq hq=>hin q (mem_of_mem_take hq)
  have h1l:(net.take 1).length<=60:=by rw[length_take];omega
  have sl1:∀ {ρ:List PV},ρ[7]?=some (.dat (dNt net))->Er K B (tSl (zen K) (XQ 7) V3 (zcu (tC (.int 1)))) ρ (dNt (net.take 1)):=λh=>Q6 (zhO (Ze h) J5 zaM) (by rw[show (1:Int)=((1:Nat):Int) from rfl,Vh,← map_take])
  exact YJ (neF (hldE h1in h1l (Ze rfl) (Ze rfl) (sl1 rfl) (Ze rfl)) (hduE h1in h1l (Ze rfl) (sl1 rfl) (Ze rfl))) (ZW ⟨c5,_,_,_,_,_,_,_,_,by omega,rfl⟩)
 ·rintro _ ⟨c,v2,v3,v4,v5,v6,v7,v8,v9,hc,rfl⟩
  exact Z6 (ZK zjG rfl)
structure Pm (K:PySem.W.Frag)(x:Str)(st:Stmt)(f:Addr)(oc:Value)(od:Option Addr)(kV dc pm:Value)(an:Option Addr)(cd ct:Value)(sl:Array (Option Value)):Prop where
 a:PySem.W.nsIn K mainGlobals x=some (some (.ref f))
 l:K.lookup f=some ⟨oc,od,.func (PySem.W.fnOf x x (Xq st) (Z5 st) (Zj st) .none kV dc pm an cd ct),sl⟩
 c:codeIn K cd x=true
 k:keepIn K (.ref f)=true
abbrev tabs:zfj:=[(129,YS),(136,λ_ _=>some JP)]
def Pn (K:PySem.W.Frag)(n:Str)(s:Stmt):Prop:=∃ f oc od kV dc pm an cd ct sl,Pm K n s f oc od kV dc pm an cd ct sl
noncomputable def Pn.go {K:PySem.W.Frag}{h:Heap}{mg:Str->Option Value}{n:Str}{s:Stmt}{ps:List Str}(p:Pn K n s) (X:K.In h) (G:h.Ns mainGlobals mg) (hb:∀ (kV doc pm:Value) (an:Option Addr) (cdv ct:Value) (us:List Value),us.length=ps.length->bindArgs (PySem.W.fnOf n n (Xq s) (Z5 s) (Zj s) .none kV doc pm an cdv ct) ⟨us,[]⟩=pure (ps.zip us)):Fn1 K mg n s ps:=Classical.choice (by
 obtain ⟨f,oc,od,kV,dc,pm,an,cd,ct,sl,p⟩:=p
 exact ⟨⟨f,_,Vz (st:=s) p.l p.c p.k,(Vz (st:=s) p.l p.c p.k).binds hb,mg_of X G p.a⟩⟩)
noncomputable def Pn.go1 {K:PySem.W.Frag}{h:Heap}{mg:Str->Option Value}{n:Str}{s:Stmt}{x0:Str}(p:Pn K n s) (X:K.In h) (G:h.Ns mainGlobals mg) (hb:∀ (kV doc pm:Value) (an:Option Addr) (cdv ct:Value) (u0:Value),bindArgs (PySem.W.fnOf n n (Xq s) (Z5 s) (Zj s) .none kV doc pm an cdv ct) ⟨[u0],[]⟩=pure ([x0].zip [u0])):Fn1 K mg n s [x0]:=p.go X G λa b c d e f us hl=>match us,hl with | [u0],_=>hb a b c d e f u0
noncomputable def Pn.go2 {K:PySem.W.Frag}{h:Heap}{mg:Str->Option Value}{n:Str}{s:Stmt}{x0 x1:Str}(p:Pn K n s) (X:K.In h) (G:h.Ns mainGlobals mg) (hb:∀ (kV doc pm:Value) (an:Option Addr) (cdv ct:Value) (u0 u1:Value),bindArgs (PySem.W.fnOf n n (Xq s) (Z5 s) (Zj s) .none kV doc pm an cdv ct) ⟨[u0,u1],[]⟩=pure ([x0,x1].zip [u0,u1])):Fn1 K mg n s [x0,x1]:=p.go X G λa b c d e f us hl=>match us,hl with | [u0,u1],_=>hb a b c d e f u0 u1
noncomputable def Pn.go3 {K:PySem.W.Frag}{h:Heap}{mg:Str->Option Value}{n:Str}{s:Stmt}{x0 x1 x2:Str}(p:Pn K n s) (X:K.In h) (G:h.Ns mainGlobals mg) (hb:∀ (kV doc pm:Value) (an:Option Addr) (cdv ct:Value) (u0 u1 u2:Value),bindArgs (PySem.W.fnOf n n (Xq s) (Z5 s) (Zj s) .none kV doc pm an cdv ct) ⟨[u0,u1,u2],[]⟩=pure ([x0,x1,x2].zip [u0,u1,u2])):Fn1 K mg n s [x0,x1,x2]:=p.go X G λa b c d e f us hl=>match us,hl with | [u0,u1,u2],_=>hb a b c d e f u0 u1 u2
noncomputable def Pn.go4 {K:PySem.W.Frag}{h:Heap}{mg:Str->Option Value}{n:Str}{s:Stmt}{x0 x1 x2 x3:Str}(p:Pn K n s) (X:K.In h) (G:h.Ns mainGlobals mg) (hb:∀ (kV doc pm:Value) (an:Option Addr) (cdv ct:Value) (u0 u1 u2 u3:Value),bindArgs (PySem.W.fnOf n n (Xq s) (Z5 s) (Zj s) .none kV doc pm an cdv ct) ⟨[u0,u1,u2,u3],[]⟩=pure ([x0,x1,x2,x3].zip [u0,u1,u2,u3])):Fn1 K mg n s [x0,x1,x2,x3]:=p.go X G λa b c d e f us hl=>match us,hl with | [u0,u1,u2,u3],_=>hb a b c d e f u0 u1 u2 u3
theorem ziJ {l:PySem.W.OpenLaw}{w:World}{K:PySem.W.Frag}{h:Heap}{mg:Str->Option Value}{fa:Addr}{fz12 fz13 fz32:Addr}(X:K.In h)(G:h.Ns mainGlobals mg)(hfa:mg "law" = some (.ref fa))
  {odz12 anz12 odz13 anz13 odz32 anz32:Option Addr}{slz12 slz13 slz32:Array (Option Value)}{ocz12 kVz12 dcz12 pmz12 cdz12 ctz12 ocz13 kVz13 dcz13 pmz13 cdz13 ctz13 ocz32 kVz32 dcz32 pmz32 cdz32 ctz32:Value}
  (pz0:Pn K "telling" VD)
  (pz1:Pn K "taken" zbj)
  (pz2:Pn K "word_told" JT)
  (pz3:Pn K "put_together" Wy)
  (pz4:Pn K "is_open" V9)
  (pz5:Pn K "answer" U0)
  (pz6:Pn K "one_then_other" XN)
  (pz7:Pn K "turned_about" Ww)
  (pz8:Pn K "picked" U7)
  (pz9:Pn K "settled_by" Ws)
  (pz10:Pn K "compared" Qy)
  (pz11:Pn K "how_stands" Jj)
  (pz12:Pm K "looked" YH fz12 ocz12 odz12 kVz12 dcz12 pmz12 anz12 cdz12 ctz12 slz12)
  (pz13:Pm K "led" za3 fz13 ocz13 odz13 kVz13 dcz13 pmz13 anz13 cdz13 ctz13 slz13)
  (pz14:Pn K "through" Vk)
  (pz15:Pn K "_law_mix" QF)
  (pz16:Pn K "_law_deck" JZ)
  (pz17:Pn K "_law_next" J4)
  (pz18:Pn K "_law_fraction" Wh)
  (pz19:Pn K "_law_number" Ja)
  (pz20:Pn K "_law_book" Wi)
  (pz21:Pn K "_law_tree" J1)
  (pz22:Pn K "_law_words" Jm)
  (pz23:Pn K "_law_order" Jy)
  (pz24:Pn K "_law_far" Qw)
  (pz25:Pn K "_law_side" W5)
  (pz26:Pn K "_law_cased" Wn)
  (pz27:Pn K "_law_things" Yp)
  (pz28:Pn K "_law_bubbles" Xv)
  (pz29:Pn K "_law_pair" JX)
  (pz30:Pn K "_law_net" JK)
  (pz31:Pn K "_law_due" QB)
  (pz32:Pm K "law" zbq fz32 ocz32 odz32 kVz32 dcz32 pmz32 anz32 cdz32 ctz32 slz32)
  (qz12:cdz12 = .ref 133) (hz12:codeHdIn K 133 129=true) (nz12:K.lookup 129=none)
  (qz13:cdz13 = .ref 140) (hz13:codeHdIn K 140 136=true) (nz13:K.lookup 136=none)
  (z_len:PySem.W.nsIn K mainGlobals "len" = some none)
  (z_range:PySem.W.nsIn K mainGlobals "range" = some none)
  (z_tuple:PySem.W.nsIn K mainGlobals "tuple" = some none)
  (z_isinstance:PySem.W.nsIn K mainGlobals "isinstance" = some none)
  (z_list:PySem.W.nsIn K mainGlobals "list" = some none)
  (z_int:PySem.W.nsIn K mainGlobals "int" = some none)
  (z_reversed:PySem.W.nsIn K mainGlobals "reversed" = some none)
  (z_enumerate:PySem.W.nsIn K mainGlobals "enumerate" = some none)
  (z_bool:PySem.W.nsIn K mainGlobals "bool" = some none)
  (z_abs:PySem.W.nsIn K mainGlobals "abs" = some none)
  (z_max:PySem.W.nsIn K mainGlobals "max" = some none)
  (z_sum:PySem.W.nsIn K mainGlobals "sum" = some none)
  {aW:Addr}{esW:Array DictEntry}{nW:Nat}
  (aWo:PySem.W.nsIn K mainGlobals "WORDS" = some (some (.ref aW))) (lWo:K.lookup aW=some ⟨.type "dict",none,.dict esW nW,#[]⟩) (kWo:KeysLit w.params esW.toList) (oWo:(aW==sysModules)=false) (vWo:zaD K esW.toList Ord.Q5=true)
  {aA:Addr}{esA:Array DictEntry}{nA:Nat}
  (aAo:PySem.W.nsIn K mainGlobals "AHEAD" = some (some (.ref aA))) (lAo:K.lookup aA=some ⟨.type "dict",none,.dict esA nA,#[]⟩) (kAo:KeysLit w.params esA.toList) (oAo:(aA==sysModules)=false) (vAo:zao esA.toList Q7=true)
  {aO:Addr}{esO:Array DictEntry}{nO:Nat}
  (aOo:PySem.W.nsIn K mainGlobals "OTHER_WAY" = some (some (.ref aO))) (lOo:K.lookup aO=some ⟨.type "dict",none,.dict esO nO,#[]⟩) (kOo:KeysLit w.params esO.toList) (oOo:(aO==sysModules)=false) (vOo:zao esO.toList Qm=true)
  (nd:zfE K=true)
  (tt:kitOne K (.type "tuple") (.type "tuple")=some true)
  (st:kitOne K (.type "str") (.type "tuple")=some false)
  (bt:kitOne K (.type "bool") (.type "tuple")=some false)
  (ii:kitOne K (.type "int") (.type "int")=some true)
  (ib:kitOne K (.type "int") (.type "bool")=some false)
  (bb:kitOne K (.type "bool") (.type "bool")=some true):
  ∃ fd:FuncData,(∀ (s:Shared) (v:Value),BindsTo s fd ⟨[v],[]⟩ [("script",v)])/\((∀ p∈tabs,K.lookup p.1=none)/\(∀ p∈tabs,isCodeTable h p.1)/\(tabs.map (·.1)).Nodup)/\∀ base:Heap,K.In base->base.Ns mainGlobals mg->Bs K mg base->QS l.prog w K mg base CX0 16 fa fd ["script"] (zav K tabs):=by
 have e:=hfa.symm.trans (mg_of X G pz32.a)
 cases e
 obtain ⟨W⟩:=Ord.zhN (P:=w.params) (mg_of X G aWo) lWo kWo oWo vWo
 obtain ⟨W1⟩:=zfq (P:=w.params) (mg_of X G aAo) lAo kAo oAo vAo
 obtain ⟨W2⟩:=zfq (P:=w.params) (mg_of X G aOo) lOo kOo oOo vOo
 exact ⟨PySem.W.fnOf "law" "law" (Xq zbq) (Z5 zbq) (Zj zbq) .none kVz32 dcz32 pmz32 anz32 cdz32 ctz32,λs v=>.of_eq rfl,⟨(forall_mem_cons.mpr ⟨nz12,(forall_mem_cons.mpr ⟨nz13,(λ_ h=>nomatch h)⟩)⟩),(forall_mem_cons.mpr ⟨zbW X hz12,(forall_mem_cons.mpr ⟨zbW X hz13,(λ_ h=>nomatch h)⟩)⟩),by decide⟩,λbase _ _ M=>zim (Vz (st:=zbq) pz32.l pz32.c pz32.k)
  ⟨pz0.go3 X G λ_ _ _ _ _ _ _ _ _=>rfl,
  pz1.go2 X G λ_ _ _ _ _ _ _ _=>rfl,
  pz2.go4 X G λ_ _ _ _ _ _ _ _ _ _=>rfl,
  pz3.go2 X G λ_ _ _ _ _ _ _ _=>rfl,
  pz4.go1 X G λ_ _ _ _ _ _ _=>rfl,
  pz5.go2 X G λ_ _ _ _ _ _ _ _=>rfl,
  pz6.go2 X G λ_ _ _ _ _ _ _ _=>rfl,
  pz7.go1 X G λ_ _ _ _ _ _ _=>rfl,
  pz8.go3 X G λ_ _ _ _ _ _ _ _ _=>rfl,
  pz9.go3 X G λ_ _ _ _ _ _ _ _ _=>rfl,
  pz10.go2 X G λ_ _ _ _ _ _ _ _=>rfl,
  pz11.go2 X G λ_ _ _ _ _ _ _ _=>rfl,
   ⟨fz12,_,(Vz (st:=YH) pz12.l pz12.c pz12.k),(Vz (st:=YH) pz12.l pz12.c pz12.k).binds (ps:=["order", "book", "first", "second"]) λ_ _ _ _ _ _ us hl=>match us,hl with | [_,_,_,_],_=>rfl,mg_of X G pz12.a⟩,
   ⟨fz13,_,(Vz (st:=za3) pz13.l pz13.c pz13.k),(Vz (st:=za3) pz13.l pz13.c pz13.k).binds (ps:=["order", "book", "net", "row"]) λ_ _ _ _ _ _ us hl=>match us,hl with | [_,_,_,_],_=>rfl,mg_of X G pz13.a⟩,
  pz14.go3 X G λ_ _ _ _ _ _ _ _ _=>rfl,
  pz15.go2 X G λ_ _ _ _ _ _ _ _=>rfl,
  pz16.go1 X G λ_ _ _ _ _ _ _=>rfl,
  pz17.go2 X G λ_ _ _ _ _ _ _ _=>rfl,
  pz18.go2 X G λ_ _ _ _ _ _ _ _=>rfl,
  pz19.go1 X G λ_ _ _ _ _ _ _=>rfl,
  pz20.go1 X G λ_ _ _ _ _ _ _=>rfl,
  pz21.go3 X G λ_ _ _ _ _ _ _ _ _=>rfl,
  pz22.go2 X G λ_ _ _ _ _ _ _ _=>rfl,
  pz23.go3 X G λ_ _ _ _ _ _ _ _ _=>rfl,
  pz24.go2 X G λ_ _ _ _ _ _ _ _=>rfl,
  pz25.go3 X G λ_ _ _ _ _ _ _ _ _=>rfl,
  pz26.go4 X G λ_ _ _ _ _ _ _ _ _ _=>rfl,
  pz27.go3 X G λ_ _ _ _ _ _ _ _ _=>rfl,
  pz28.go1 X G λ_ _ _ _ _ _ _=>rfl,
  pz29.go2 X G λ_ _ _ _ _ _ _ _=>rfl,
  pz30.go2 X G λ_ _ _ _ _ _ _ _=>rfl,
  pz31.go3 X G λ_ _ _ _ _ _ _ _ _=>rfl,
   133,129,qz12,hz12,
   140,136,qz13,hz13,
   mg_none_of X G z_len,
   mg_none_of X G z_range,
   mg_none_of X G z_tuple,
   mg_none_of X G z_isinstance,
   mg_none_of X G z_list,
   mg_none_of X G z_int,
   mg_none_of X G z_reversed,
   mg_none_of X G z_enumerate,
   mg_none_of X G z_bool,
   mg_none_of X G z_abs,
   mg_none_of X G z_max,
   mg_none_of X G z_sum,
   tt,
   st,
   bt,
   ii,
   ib,
   bb⟩ (show ((129:Nat)≠136) by decide) nd W W1 W2 M⟩
theorem walk {l:PySem.W.OpenLaw}{q:Program}{loose:List Str}{XP:(Str->Option Value)->Heap->Prop}{YP:World->Heap->Prop}{d:DefRec}{K:Params->PySem.W.Frag}(hn:l.most=some 63)(hdf:d.params.defaults=[])
  (hY:∀ (w:World) (h:Heap),YP w h->(K w.params).In h/\∀ p∈tabs,h.get? p.1=some { cls:=.none,data:=.fields #[] })
  (F:∀ (w:World) (mg:Str->Option Value) (fa:Addr) (h:Heap),(K w.params).In h->h.Ns mainGlobals mg->mg d.name=some (.ref fa)->
   ∃ fd:FuncData,(∀ (s:Shared) (u:Value),BindsTo s fd ⟨[u],[]⟩ [("script",u)])/\((∀ p∈tabs,(K w.params).lookup p.1=none)/\(∀ p∈tabs,isCodeTable h p.1)/\(tabs.map (·.1)).Nodup)/\∀ base:Heap,(K w.params).In base->base.Ns mainGlobals mg->Bs (K w.params) mg base->QS l.prog w (K w.params) mg base CX0 16 fa fd ["script"] (zav (K w.params) tabs)):
  PySem.W.WalkO q loose XP YP l.row.toRowW d [] (λf vs=>PySem.call f vs):=
 L2.ze7 (n:=63) (k:=16) (x:= "script") (sp:=λw=>zav (K w.params) tabs) (λ_=>tabs) hn (by decide) hdf ⟨rfl,by decide,by decide⟩ hY F (λ_ _ a ns hl hT hS=>⟨a,ns,rfl,hS,hl,hT,λ_=>rfl⟩)
end K46
def PySem.W.Fast.tw2926296631517513634:Nat:=0
def PySem.W.Fast.tw11819255786301692939:Nat:=0
def PySem.W.Fast.tw14348978985403421488:Nat:=0
def PySem.W.Fast.tw5485438263255961557:Nat:=0
def PySem.W.Fast.tw2302956942863507646:Nat:=0
def PySem.W.Fast.tw16494287515441448913:=0
def PySem.W.Fast.tw13159203269979116250:=0
def PySem.W.Fast.tw5140298531348037964:=0
def PySem.W.Fast.tw1058939357796548312:=0
def PySem.W.Fast.tw13577692244955669069:=0
def PySem.W.Fast.tw2524745723364746000:=0
def PySem.W.Fast.tw10199797478408899813:=0
def PySem.W.Fast.tw16661704795251730204:=0
def PySem.W.Fast.tw7953327102179771068:=0
def PySem.W.Fast.tw1377229280150062494:=0
def PySem.W.Fast.tw14341810161781679129:=0
def PySem.W.Fast.tw15507234261533896307:=0
def PySem.W.Fast.tw2384663294670658211:=0
def PySem.W.Fast.tw18273307115916457632:=0
def PySem.W.Fast.tw8656932428868495822:=0
def PySem.W.Fast.tw4087806483282176044:=0
def PySem.W.Fast.tw11339574634867079836:=0
def PySem.W.Fast.tw3671632330461331377:=0
def PySem.W.Fast.tw11812447613188751296:=0
def PySem.W.Fast.tw15943993205513260935:=0
def PySem.W.Fast.tw13241460368428577427:=0
def PySem.W.Fast.tw16389971221682839830:=0
def PySem.W.Fast.tw6695199116985512394:=0
def PySem.W.Fast.tw5810244073379032987:=0
def PySem.W.Fast.tw9967666023152889271:=0
def PySem.W.Fast.tw259621228185572434:=0
def PySem.W.Fast.tw12275593800817689413:=0
def PySem.W.Fast.tw3290092434828359790:=0
def PySem.W.Fast.tw13844751425740764644:=0
def PySem.W.Fast.tw11903922161185036974:=0
def PySem.W.Fast.tw4497134879771236003:=0
def PySem.W.Fast.tw13504343490744068808:=0
def PySem.W.Fast.tw14620648432719501676:=0
def PySem.W.Fast.tw7734217079450913315:=0
def PySem.W.Fast.tw6352289313833167731:=0
def PySem.W.Fast.tw15880124443317766955:=0
def PySem.W.Fast.tw10854881162921479065:=0
def PySem.W.Fast.tw12777631291310936888:=0
def PySem.W.Fast.tw18003649214789506716:=0
def PySem.W.Fast.tw15107545616436258986:=0
def PySem.W.Fast.tw13829582387455237746:=0
def PySem.W.Fast.tw4891346275417942022:=0
def PySem.W.Fast.tw3257805774157746970:=0
def PySem.W.Fast.tw17962640529256843812:=0
def PySem.W.Fast.tw10983697111416917233:=0
def PySem.W.Fast.tw364939408760561381:=0
def PySem.W.Fast.tw14011781633854913933:=0
def PySem.W.Fast.tw5316497603841422553:=0
def PySem.W.Fast.tw978084432445228609:=0
def PySem.W.Fast.tw17209661781186620062:=0
def PySem.W.Fast.tw13015501920627964000:=0
def PySem.W.Fast.tw9419425800474811411:=0
def PySem.W.Fast.tw4942542815022156050:=0
def PySem.W.Fast.tw40297450771104914:=0
def PySem.W.Fast.tw16381212968421344180:=0
def PySem.W.Fast.tw1361758364963476081:=0
def PySem.W.Fast.tw3009524638277321832:=0
def PySem.W.Fast.tw6969896176755724452:=0
def PySem.W.Fast.tw7700012829047422340:=0
def PySem.W.Fast.tw5829978595238765507:=0
def PySem.W.Fast.tw6906381679356390807:=0
def PySem.W.Fast.tw16815132151171956971:=0
def PySem.W.Fast.tw12030085743848677462:=0
def PySem.W.Fast.tw3918253091800544704:=0
def PySem.W.Fast.tw2157345581882479539:=0
def PySem.W.Fast.tw5435536254860047293:=0
def PySem.W.Fast.tw12844124978571745207:=0
def PySem.W.Fast.tw7322655629956734425:=0
def PySem.W.Fast.tw10549033840413101249:=0
def PySem.W.Fast.tw16734638222433036813:=0
def PySem.W.Fast.tw17715444479412839835:=0
def PySem.W.Fast.tw18197248779024875737:=0
def PySem.W.Fast.tw8354763633959859997:=0
def PySem.W.Fast.tw10616355560953592054:=0
def PySem.W.Fast.tw15749699746871104931:=0
def PySem.W.Fast.tw8096894821901072333:=0
open PySem PySem.W PyProof.Rows
set_option maxRecDepth 100000 in
set_option maxHeartbeats 0 in
theorem PySem.Challenge.cw_ordertext_k46_led_holds : PySem.Challenge.rw_ordertext_k46_led.Holds := by
 w_on;o_law;k_head;(case hw=>w_witness2)
 k_fill
 refine K46.walk (l:=PySem.Challenge.rw_ordertext_k46_led) rfl rfl (λw h Y=>⟨PySem.W.km_in_of Y,(forall_mem_cons.mpr ⟨km_tabs_of Y _ (by first | k_mem | simp),(forall_mem_cons.mpr ⟨km_tabs_of Y _ (by first | k_mem | simp),(λ_ h=>nomatch h)⟩)⟩)⟩) ?F
 case F=>
  intro w mg fa h KX G hmg
  refine' K46.ziJ KX G hmg ?pz0 ?pz1 ?pz2 ?pz3 ?pz4 ?pz5 ?pz6 ?pz7 ?pz8 ?pz9 ?pz10 ?pz11 ?pz12 ?pz13 ?pz14 ?pz15 ?pz16 ?pz17 ?pz18 ?pz19 ?pz20 ?pz21 ?pz22 ?pz23 ?pz24 ?pz25 ?pz26 ?pz27 ?pz28 ?pz29 ?pz30 ?pz31 ?pz32 ?qz12 ?hz12 ?nz12 ?qz13 ?hz13 ?nz13 ?z_len ?z_range ?z_tuple ?z_isinstance ?z_list ?z_int ?z_reversed ?z_enumerate ?z_bool ?z_abs ?z_max ?z_sum ?aWo ?lWo ?kWo ?oWo ?vWo ?aAo ?lAo ?kAo ?oAo ?vAo ?aOo ?lOo ?kOo ?oOo ?vOo ?nd ?tt ?st ?bt ?ii ?ib ?bb
  case pz0|pz1|pz2|pz3|pz4|pz5|pz6|pz7|pz8|pz9|pz10|pz11|pz14|pz15|pz16|pz17|pz18|pz19|pz20|pz21|pz22|pz23|pz24|pz25|pz26|pz27|pz28|pz29|pz30|pz31=>exact ⟨_,_,_,_,_,_,_,_,_,_,by k_is,by k_is,by k_is,by k_is⟩
  (case pz12=>exact ⟨by k_is,by k_is,by k_is,by k_is⟩)
  (case pz13=>exact ⟨by k_is,by k_is,by k_is,by k_is⟩)
  (case pz32=>exact ⟨by k_is,by k_is,by k_is,by k_is⟩)
  (case qz12=>first | rfl | kernel_rfl | k_is)
  (case hz12=>first | rfl | kernel_rfl | k_is)
  (case nz12=>first | rfl | kernel_rfl | k_is)
  (case qz13=>first | rfl | kernel_rfl | k_is)
  (case hz13=>first | rfl | kernel_rfl | k_is)
  (case nz13=>first | rfl | kernel_rfl | k_is)
  (case z_len=>k_is)
  (case z_range=>k_is)
  (case z_tuple=>k_is)
  (case z_isinstance=>k_is)
  (case z_list=>k_is)
  (case z_int=>k_is)
  (case z_reversed=>k_is)
  (case z_enumerate=>k_is)
  (case z_bool=>k_is)
  (case z_abs=>k_is)
  (case z_max=>k_is)
  (case z_sum=>k_is)
  (case aWo=>k_is)
  (case lWo=>k_is)
  (case kWo=>k_keys)
  (case oWo=>decide)
  (case vWo=>kernel_rfl)
  (case aAo=>k_is)
  (case lAo=>k_is)
  (case kAo=>k_keys)
  (case oAo=>decide)
  (case vAo=>kernel_rfl)
  (case aOo=>k_is)
  (case lOo=>k_is)
  (case kOo=>k_keys)
  (case oOo=>decide)
  (case vOo=>kernel_rfl)
  (case nd=>first | kernel_rfl | k_is)
  (case tt=>first | kit_is | k_is | rfl)
  (case st=>first | kit_is | k_is | rfl)
  (case bt=>first | kit_is | k_is | rfl)
  (case ii=>first | kit_is | k_is | rfl)
  (case ib=>first | kit_is | k_is | rfl)
  (case bb=>first | kit_is | k_is | rfl)
