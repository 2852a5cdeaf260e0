import PyProof.Rows.All
import Wide.All
import OpenK.AllK
import Wide.FinOn
import Lean
import PyProof.EqAt
import PyProof.EqKinds
import PyProof.TupleCall
import PySem.Challenge.RW_ordertext_k29_no_row
set_option Elab.async false
set_option linter.all false
set_option maxRecDepth 100000
set_option genSizeOf false
open PySem.Around (frames_deeper)
open Array (forIn_toList getElem?_toList length_toList mem_toList_iff toList_append)
open PySem.Calls (callWith_builtin evalArgs_plain spliced_cons spliced_nil)
open PySem.Heap (ExtBut SameBut)
open List (any_cons any_eq_true append_assoc cons_append countP_cons filterMap_nil foldl_cons forIn_cons length_reverse map_drop map_nil map_take mem_range nil_append nodup_append nodup_cons nodup_nil of_mem_zip pairwise_cons take_length take_succ)
open Nat (add_assoc le_succ lt_trans ne_of_gt)
open Option (map_eq_some_iff)
open PyProof.Rows (entry_list_sort slot_list_sort)
open PySem.F (attrBase_ValueError excBase_ValueError slot_list_count type_list_count)
open PySem.Spec (sameAll samePairs same_self)
open PySem.W (CodeHd KatTups KeysLit Looks any_some callWith_F callWith_K cellsFrom_some clsIn codeHdIn codeHd_of_K codeIn codeRec_of exmOne findCls findIn fnMade handedIn hasDictIn hideAll instObj kat_cons kat_go kat_no kat_yes keepIn kitAny kitOne kitx_dict kitx_list kitx_none kitx_tuple kla_fn kla_obj km_tabs_of lookIn looks_findIn looks_subIn methodObj mg_of of_hideAll plainGet readsIn specialIn subIn)
open PySem.Shared (TypeIs)
noncomputable section
def Ia:=@PySem.wpAny_bind
def Ib:=@List.getElem?_eq_getElem
def Ic:=@PySem.wpAny_pure
def Ie:=@PySem.Heap.get?_push_of_some
def Ig:=@List.length_map
def Ih:=@Nat.le_refl
def Ii:=@List.mem_of_getElem?
def Ij:=@Bool.false_ne_true
def Ik:=@List.getElem?_eq_some_iff
def Il:=@PySem.Heap.get?_push_size
def Im:=@List.getD_eq_getElem?_getD
def Io:=@List.getElem?_map
def Ip:=@Option.some.inj
def Iq:=@decide_eq_true
def Ir:=@of_decide_eq_true
def Iu:=@Nat.lt_of_lt_of_le
def Iv:=@List.length_append
def Iw:=@if_neg
def Ix:=@List.size_toArray
def Iy:=@decide_eq_false
def Iz:=@List.mem_cons_of_mem
def IA:=@if_pos
def IB:=@PySem.Heap.lt_size
def IC:=@List.mem_cons_self
def ID:=@List.mem_cons
def IE:=@List.length_cons
def IF:=@PySem.mem_of_lookup
def IG:=@Bool.false_eq_true
def IH:=@List.mem_append_right
def II:=@PySem.Heap.get?_update_other
def IJ:=@PySem.boot_len
def IK:=@PySem.wpAny_mono
def IL:=@PySem.wpAny_call_entry
def IM:=@Nat.ne_of_lt
def IN:=@List.mem_singleton
def IP:=@PySem.wpAny_callSpecial?_slot
def IQ:=@PySem.Obj.data_mapFields
def IR:=@PySem.wpAny_field
def IS:=@Array.getElem?_eq_getElem
def IT:=@PySem.PassesOwn.never
def IU:=@PySem.wpAny_Call_Name_kw
def IV:=@PySem.wpAny_holding
def IW:=@if_false
def IX:=@List.not_mem_nil
def IY:=@PySem.wpAny_loadPart_at
def IZ:=@PyProof.Rows.callWith_type1
def Na:=@congrArg
def Nb:=@List.map_cons
def Nd:=@Bool.and_eq_true
def Nf:=@PySem.F.plainAttrs_list
def Ng:=@List.append_nil
def Nh:=@PySem.Heap.get?_update_self
def Ni:=@List.map_append
def Nj:=@Nat.le_trans
def Nk:=@of_decide_eq_false
def Nl:=@Nat.zero_le
def Nn:=@PySem.F.slot_list_append
def Np:=@PySem.F.type_list_append
def Nq:=@List.getElem?_append_right
def Nr:=@PySem.Obj.isFreed_of_fields
def Nt:=@PySem.wpAny_newObj_type
def Nu:=@Array.getElem?_eq_some_iff
def Nv:=@Int.emod_lt_of_pos
def Nw:=@PySem.codeAny_mono
def Nx:=@PySem.wpAny_isInstance
def Ny:=@Option.isSome_iff_exists
def Nz:=@List.all_eq_true
def NA:=@PySem.Heap.size_push
def NB:=@PySem.wpAny_seqItems
def NC:=@PySem.wpAny_specialOf
def ND:=@List.length_range
def NE:=@List.getElem?_append_left
def NF:=@Int.eq_ofNat_of_zero_le
def NG:=@PySem.wpAny_attempt
def NH:=@List.filterMap_cons
def NI:=@List.mem_map
def NJ:=@PySem.wpAny_setField
def NK:=@or_false
def NL:=@List.getElem?_zip_eq_some
def NM:=@PySem.builtinLookup_eq_fast
def NN:=@List.mem_append
def NO:=@List.getElem_mem
def NP:=@decide_eq_true_iff
def NQ:=@PySem.lookup_relabel_local
def NR:=@PySem.wpAny_typeNameOfWhole_keyiter
def NS:=@List.replicate_succ
def NT:=@Int.emod_nonneg
def NU:=@PySem.F.slot_dict_keyiterator_next
def NV:=@List.length_take
def NW:=@Bool.not_true
def NX:=@PySem.wpAny_forIn_list
def NY:=@decide_eq_decide
def NZ:=@PySem.wpAny_call
def N0:=@PySem.F.slot_tuple_iterator_next
def N1:=@PySem.wpAny_setField_rec
def N2:=@Array.perm_iff_toList_perm
def N3:=@PySem.W.mg_none_of
def N4:=@List.pairwise_iff_getElem
def N5:=@PySem.wpAny_passesOwn
def N6:=@PySem.wpAny_truthy_bool
def N7:=@PySem.codeAny_call_builtin
def N8:=@PySem.wpAny_standAt
def N9:=@PySem.wpAny_rule
def Oa:=@beq_iff_eq
def Ob:=@PySem.wpAny_typeNameOf_keyiter
def Oc:=@List.length_nil
def Od:=@Nat.le_of_lt
def Oe:=@List.length_replicate
def Og:=@List.lookup_cons
def Oh:=@List.reverse_cons
def Oi:=@List.take_of_length_le
def Oj:=@PySem.wpAny_execs_nil
def Ol:=@PySem.typeLookup_type
def Om:=@List.forall_mem_cons
def Oo:=@Nat.lt_irrefl
def Op:=@List.filterMap_append
def Oq:=@PySem.F.slot_enumerate_next
def Os:=@PySem.Obj.cls_mapFields
def Ot:=@List.length_drop
def Ou:=@PySem.wpAny_of_eq
def Ov:=@PySem.isSubtype_type
def Ow:=@PySem.W.kia_one
def Ox:=@if_true
def Oy:=@List.map_map
def Oz:=@Nat.zero_add
def OA:=@List.mem_filterMap
def OB:=@Int.toNat_natCast
def OD:=@Nat.lt_succ_of_lt
def OE:=@List.range_succ
def OF:=@List.find?_cons
def OG:=@Option.map_some
abbrev FG:=PySem.W.Frag
abbrev SH:=PySem.Shared
abbrev PD:=PySem.PyData
abbrev AD:=PySem.Addr
abbrev LA:=List PD
abbrev LB:=List PySem.Str
abbrev LD:=List PySem.Value
abbrev LF:=Option PySem.Value
abbrev LG:=List AD
abbrev LH:=Option Int
abbrev LI:=List PySem.Env
namespace L2
open PySem PySem.Spec PyProof.Rows
variable {us:LD}{x:Str}{u:Value}{a b C:AD}{h:Heap}{t' i k:Nat}{ch fp:LG}{e tg:Expr}{M:Model}{A:Around}{E:Value->SH->Prop}{s:SH}{pos:Pos}{aa:List (Addr×Obj)}{body:List Stmt}{op:CmpOp}{ps:LB}{outer:LI}{kindOf:Str->Option NameKind}{scope:Scope}
abbrev Key:=Sum Int Str
noncomputable def zd7:Key->Value->Bool
 |.inl k,v=>Value.isInt k v
 |.inr x,v=>Value.isStrOf x v
noncomputable def zny(w:World):Key->Int
 |.inl k=>hashInt k
 |.inr x=>hashStr w x
theorem YQ:∀{k:Key}{v:Value},zd7 k v=true->(∃ i t,k=Sum.inl i/\v=Value.int i t)\/(∃ x t,k=Sum.inr x/\v=Value.str x t)
 |.inl i,v,h=>by obtain⟨t,e⟩:=Value.isInt_shape (k:=i) (v:=v) h;exact .inl ⟨i,t,rfl,e⟩
 |.inr x,v,h=>by obtain⟨t,e⟩:=Value.isStrOf_shape (x:=x) (v:=v) h;exact .inr ⟨x,t,rfl,e⟩
def zfP(i:Int)(t:Tok):zd7 (.inl i) (.int i t)=true:=by simp[zd7,Value.isInt]
def ze1(x:Str)(t:Tok):zd7 (.inr x) (.str x t)=true:=by simp[zd7,Value.isStrOf]
def zkD(a b:Int):decide ((Sum.inl a:Key)=Sum.inl b)=(a==b):=by
 by_cases e:a=b
 .subst e;simp
 .have h:¬ (Sum.inl a:Key)=Sum.inl b:=λq=>e (Sum.inl.inj q);rw[Iy h];exact(beq_eq_false_iff_ne.mpr e).symm
def zlZ(a b:Str):decide ((Sum.inr a:Key)=Sum.inr b)=decide (a=b):=by
 by_cases e:a=b
 .subst e;simp
 .have h:¬ (Sum.inr a:Key)=Sum.inr b:=λq=>e (Sum.inr.inj q);rw[Iy h,Iy e]
def zkM(a:Int)(b:Str):decide ((Sum.inl a:Key)=Sum.inr b)=false:=Iy (λq=>nomatch q)
def zlD(a:Str)(b:Int):decide ((Sum.inr a:Key)=Sum.inl b)=false:=Iy (λq=>nomatch q)
noncomputable def Xh(prog:Program)(w:World):PySem.KeyKind prog w Key where
 is:=zd7
 hash:=zny w
 inj:=λv a b ha hb=>by
  rcases YQ ha with⟨i,t,rfl,rfl⟩ | ⟨x,t,rfl,rfl⟩
  .rcases YQ hb with⟨j,u,rfl,e⟩ | ⟨y,u,rfl,e⟩
   .injection e with e1 _;rw[e1]
   .exact nomatch e
  .rcases YQ hb with⟨j,u,rfl,e⟩ | ⟨y,u,rfl,e⟩
   .exact nomatch e
   .injection e with e1 _;rw[e1]
 byValue:=λk v h=>by rcases YQ h with⟨i,t,rfl,rfl⟩ | ⟨x,t,rfl,rfl⟩ <;> rfl
 pyHash:=λhv h=>by
  rcases YQ hv with⟨i,t,rfl,rfl⟩ | ⟨x,t,rfl,rfl⟩
  .exact wpAny_pyHash_int h
  .exact wpAny_pyHash_str h
 eqBool:=λhu hv h=>by
  rcases YQ hu with⟨i,t,rfl,rfl⟩ | ⟨x,t,rfl,rfl⟩
  .rcases YQ hv with⟨j,u,rfl,rfl⟩ | ⟨y,u,rfl,rfl⟩
   .rw[zkD]at h;exact wpAny_eqBool_int h
   .rw[zkM]at h;exact SeqAt.EqAt.int_str i t y u _ _ _ _ h
  .rcases YQ hv with⟨j,u,rfl,rfl⟩ | ⟨y,u,rfl,rfl⟩
   .rw[zlD]at h;exact SeqAt.EqAt.str_int x t j u _ _ _ _ h
   .rw[zlZ]at h;exact wpAny_eqBool_str h
 «strs» := λk x t v h=>by
  rcases YQ h with⟨i,u,rfl,e⟩ | ⟨y,u,rfl,e⟩
  .exact nomatch e
  .injection e with e1 _;subst e1;cases v <;> rfl
def zci(prog:Program)(w:World)(i:Int)(t:Tok):(Xh prog w).is (.inl i) (.int i t)=true:=zfP i t
def zcU(prog:Program)(w:World)(x:Str)(t:Tok):(Xh prog w).is (.inr x) (.str x t)=true:=ze1 x t
inductive V where
 |non | bl (b:Bool) | int (i:Int) | str (x:Str) | byt (b:Array UInt8) | flt (b:UInt64) | ref (a:AD) | ty (n:String)
 deriving DecidableEq
abbrev LC:=List V
def RelV:V->Value->Prop
 |.non,u=>u=Value.none
 |.bl b,u=>u=Value.bool b
 |.int i,u=>∃ t,u=Value.int i t
 |.str x,u=>∃ t,u=Value.str x t
 |.byt b,u=>∃ t,u=Value.bytes b t
 |.flt b,u=>∃ t,u=Value.float b t
 |.ref a,u=>u=Value.ref a
 |.ty n,u=>u=Value.type n
abbrev Vals:LC->LD->Prop:=Paired RelV
theorem Vals.length{xs:LC}(r:Vals xs us):xs.length=us.length:=Paired.length r
theorem Vals.get:∀{xs:LC}{us:LD}{i:Nat}{x:V},Vals xs us->xs[i]?=some x->∃ u,us[i]?=some u/\RelV x u
 |_,_,_,_,.nil,e=>by simp at e
 |_,_,0,_,.cons r _,e=>by simp at e;subst e;exact⟨_,rfl,r⟩
 |_,_,i+1,x,.cons _ t,e=>by obtain⟨u,h1,h2⟩:=Vals.get (i:=i) (x:=x) t (by simpa using e);exact⟨u,by simpa using h1,h2⟩
theorem Vals.set{x:V}(r:RelV x u):∀{xs:LC}{us:LD}(i:Nat),Vals xs us->Vals (xs.set i x) (us.set i u)
 |_,_,_,.nil=>.nil
 |_,_,0,.cons _ t=>.cons r t
 |_,_,i+1,.cons q t=>.cons q (Vals.set r i t)
theorem Vals.append:∀{xs ys:LC}{us ws:LD},Vals xs us->Vals ys ws->Vals (xs++ys) (us++ws)
 |_,_,_,_,.nil,s=>s
 |_,_,_,_,.cons r t,s=>.cons r (Vals.append t s)
theorem Vals.take:∀{xs:LC}{us:LD}(n:Nat),Vals xs us->Vals (xs.take n) (us.take n)
 |_,_,0,_=>.nil
 |_,_,_+1,.nil=>.nil
 |_,_,n+1,.cons r t=>.cons r (Vals.take n t)
theorem Vals.drop:∀{xs:LC}{us:LD}(n:Nat),Vals xs us->Vals (xs.drop n) (us.drop n)
 |_,_,0,r=>r
 |_,_,_+1,.nil=>.nil
 |_,_,n+1,.cons _ t=>Vals.drop n t
def zje:Option V->LF->Prop
 |some v,some u=>RelV v u
 |none,none=>True
 |_,_=>False
def KV{κ:Type}:List (κ×V)->List (κ×Value)->Prop:=Paired λ(p:κ×V)(q:κ×Value)=>p.1=q.1/\RelV p.2 q.2
noncomputable def kV:Key->V
 |.inl i=>.int i
 |.inr x=>.str x
inductive HO where
 
 |lst (xs:LC)
 
 |tup (xs:LC)
 
 |dK (kvs:List (Key×V)) | dT (kvs:List (List Key×V))
 
 |set (S:Int->Bool) (n:Nat)
 
 |ins (C dx:AD) (fs:List (Str×V))
 
 |own (x:AD)
 
 |xd (fs:List (Str×V))
 
 |met (f x:AD)
 
 |rng (lo hi:Int)
 
 |frz (o:Obj) (u:HO)
 
 |tbl (cr:Nat->Nat->Option Str)
 
 |ext (φ:Heap->Prop)
abbrev Hp:=AD->Option HO
noncomputable def upd(H:Hp)(a:AD)(o:HO):Hp:=λb=>if b=a then some o else H b
def Zh{H:Hp}{o:HO}:upd H a o a=some o:=by unfold upd;rw[IA rfl]
def Zm{H:Hp}{o:HO}(h:b≠a):upd H a o b=H b:=by unfold upd;rw[Iw h]
def Zk{H:Hp}{o:HO}(h:H a=some o)(h' : H b=none):a≠b:=by intro e;subst e;rw[h]at h';cases h'
def zdy(oc:Obj)(q:Str):Prop:=∃(vs:Array Value)(t:Tok),oc.data = .fields vs/\vs[1]?=some (.str q t)
def zkw(h:Heap)(a:AD):Prop:=∃ o,h.get? a=some o/\o.dict=none
section
variable (P:Program)(w:World)
def Yt(H:Hp)(h:Heap)(a:AD):HO->Prop
 |.lst xs=>xs.length<=sizeLine/\∃(its:LD)(n:Nat),Vals xs its/\h.get? a=some {cls:=.type "list",data:=.seq its.toArray n}
 |.tup xs=>xs.length<=sizeLine/\∃ its:LD,Vals xs its/\IsTup h a its.toArray/\zkw h a
 |.dK kvs=>kvs.length<=sizeLine/\(a==sysModules)=false/\∃ vs,KV kvs vs/\h.DictOf (Xh P w) a vs
 |.dT kvs=>kvs.length<=sizeLine/\(a==sysModules)=false/\∃ xs:List (List Key×AD×Value),
   Paired (λ(p:List Key×V)(q:List Key×AD×Value)=>p.1=q.1/\H q.2.1=some (.tup (p.1.map kV))/\RelV p.2 q.2.2) kvs xs/\
   ∃ o es ep,h.get? a=some o/\o.ExactDict/\o.data = .dict es ep/\es.toList=xs.map (entryOfKey (tupleKind (Xh P w)))/\(xs.map (·.1)).Nodup
 |.set S n=>h.SetOf (intKind P w) a S n
 |.ins C dx fs=>H dx=some (.own a)/\fs.length<=1000/\dx≠a/\h.get? a=some (instObj C dx)/\
   ∃ mA,h.Ns1 dx mA/\(∀ f,zje (fs.lookup f) (mA f))/\PySem.Within mA (fs.map (·.1))
 |.own _=>∃ o,h.get? a=some o
 |.xd fs=>∃ mA,h.Ns1 a mA/\∀ f,zje (fs.lookup f) (mA f)
 |.rng lo hi=>∃ t u v,h.get? a=some {cls:=.type "range",data:=.fields #[.int lo t,.int hi u,.int 1 v]}
 |.frz o u=>h.get? a=some o/\Yt H h a u
 |.tbl cr=>∃ ps:Array Value,h.get? a=some {cls:=.none,data:=.fields ps}/\TriplesOk ps.toList/\∀(pos:Pos)(v:Value),codeAmong pos ps.toList=some v->
   ∃(c:AD)(oc:Obj)(q:Str),v = .ref c/\cr pos.line pos.col=some q/\H c=some (.frz oc (.own c))/\zdy oc q
 |.met f x=>h.get? a=some (methodObj (.ref f) (.ref x))
 |.ext φ=>φ h/\(∃ o,h.get? a=some o)/\∀ h1 h2:Heap,φ h1->(∀ o,h1.get? a=some o->h2.get? a=some o)->φ h2
def HOk(H:Hp)(h:Heap):Prop:=∀ a o,H a=some o->Yt P w H h a o
end
section
variable {P:Program}{w:World}{H H' : Hp}{h h' : Heap}{a:AD}{o:HO}
theorem Yt.lt(x:Yt P w H h a o):a<h.objs.size:=by
 cases o with
 |lst xs=>obtain⟨_,_,_,_,e⟩:=x;exact IB e
 |tup xs=>obtain⟨_,_,_,p,_⟩:=x;exact p.lt
 |dK kvs=>obtain⟨_,_,_,_,o,_,_,e,_⟩:=x;exact IB e
 |dT kvs=>obtain⟨_,_,_,_,o,_,_,e,_⟩:=x;exact IB e
 |set S n=>obtain⟨o,_,_,_,e,_⟩:=x;exact IB e
 |ins C dx fs=>obtain⟨_,_,_,e,_⟩:=x;exact IB e
 |own y=>obtain⟨_,e⟩:=x;exact IB e
 |xd fs=>obtain⟨_,⟨_,_,_,e,_⟩,_⟩:=x;exact IB e
 |rng lo hi=>obtain⟨_,_,_,e⟩:=x;exact IB e
 |frz ob u=>obtain⟨e,_⟩:=x;exact IB e
 |tbl cr=>obtain⟨_,e,_⟩:=x;exact IB e
 |met f y=>exact IB (show h.get? a=some _ from x)
 |ext φ=>obtain⟨_,⟨_,e⟩,_⟩:=x;exact IB e
theorem Paired.znl{α β:Type}{F G:α->β->Prop}:∀{l₁:List α}{l₂:List β},Paired F l₁ l₂->(∀ a b,F a b->G a b)->Paired G l₁ l₂
 |_,_,.nil,_=>.nil
 |_,_,.cons r t,f=>.cons (f _ _ r) (Paired.znl t f)
def Yt.stay(x:Yt P w H h a o)(k:∀ b u,(b=a\/H b=some (.own a))->h.get? b=some u->h'.get? b=some u)(ho:∀ b,H b=some (.own a)->H' b=some (.own a))(ht:∀ b xs,H b=some (.tup xs)->H' b=some (.tup xs))(hz:∀ b o u,H b=some (.frz o u)->H' b=some (.frz o u)):Yt P w H' h' a o:=by
 induction o with
 |lst xs=>obtain⟨z,its,n,r,e⟩:=x;exact⟨z,its,n,r,k _ _ (.inl rfl) e⟩
 |tup xs=>obtain⟨z,its,r,⟨ob,e,c⟩,od,e',d'⟩:=x;exact⟨z,its,r,⟨ob,k _ _ (.inl rfl) e,c⟩,od,k _ _ (.inl rfl) e',d'⟩
 |dK kvs=>obtain⟨z,y,vs,r,ob,es,ep,e,c⟩:=x;exact⟨z,y,vs,r,ob,es,ep,k _ _ (.inl rfl) e,c⟩
 |dT kvs=>obtain⟨z,y,xs,r,ob,es,ep,e,c⟩:=x;exact⟨z,y,xs,Paired.znl r λp q z=>⟨z.1,ht _ _ z.2.1,z.2.2⟩,ob,es,ep,k _ _ (.inl rfl) e,c⟩
 |set S n=>obtain⟨ob,es,ep,t,e,c⟩:=x;exact⟨ob,es,ep,t,k _ _ (.inl rfl) e,c⟩
 |ins C dx fs=>obtain⟨d,z,ne,e,mA,⟨od,es,ep,e2,c⟩,r⟩:=x;exact⟨ho _ d,z,ne,k _ _ (.inl rfl) e,mA,⟨od,es,ep,k _ _ (.inr d) e2,c⟩,r⟩
 |own y=>obtain⟨ob,e⟩:=x;exact⟨ob,k _ _ (.inl rfl) e⟩
 |xd fs=>obtain⟨mA,⟨od,es,ep,e,c⟩,r⟩:=x;exact⟨mA,⟨od,es,ep,k _ _ (.inl rfl) e,c⟩,r⟩
 |rng lo hi=>obtain⟨t,u,v,e⟩:=x;exact⟨t,u,v,k _ _ (.inl rfl) e⟩
 |frz ob u ih=>obtain⟨e,q⟩:=x;exact⟨k _ _ (.inl rfl) e,ih q⟩
 |tbl cr=>obtain⟨ps,e,ht3,hc⟩:=x;exact⟨ps,k a _ (.inl rfl) e,ht3,λpos v q=>let ⟨c,oc,z,h1,h2,h3,h4⟩:=hc pos v q;⟨c,oc,z,h1,h2,hz _ _ _ h3,h4⟩⟩
 |met f y=>have e:h.get? a=some (methodObj (.ref f) (.ref y)):=x;show h'.get? a=some (methodObj (.ref f) (.ref y));exact k a _ (.inl rfl) e
 |ext φ=>obtain⟨p,⟨o,e⟩,st⟩:=x;exact⟨st _ _ p λo q=>k _ _ (.inl rfl) q,⟨o,k _ _ (.inl rfl) e⟩,st⟩
theorem HOk.lt(x:HOk P w H h)(e:H a=some o):a<h.objs.size:=(x a o e).lt
def HOk.fresh(x:HOk P w H h)(e:h.objs.size<=a):H a=none:=by
 cases q:H a with
 |none=>rfl
 |some u=>exact absurd (Iu (x.lt q) e) (Oo _)
def HOk.kept(x:HOk P w H h)(k:∀ b u,h.get? b=some u->h'.get? b=some u):HOk P w H h':=λa o e=>(x a o e).stay (λb u _ q=>k b u q) (λ_ q=>q) (λ_ _ q=>q) λ_ _ _ q=>q
def HOk.laid(x:HOk P w H h)(k:∀ b u,h.get? b=some u->h'.get? b=some u)(hp:h.objs.size<=a)(new:Yt P w (upd H a o) h' a o):HOk P w (upd H a o) h':=λb u e=>by
 have hn:=x.fresh hp;by_cases hb:b=a
 .subst hb;rw[Zh]at e;cases e;exact new
 .rw[Zm hb]at e;exact(x b u e).stay (λc v _ q=>k c v q) (λc q=>by rw[Zm (Zk q hn)];exact q) (λc xs q=>by rw[Zm (Zk q hn)];exact q) λc o u q=>by rw[Zm (Zk q hn)];exact q
end
def Rd(H:Hp)(a:AD)(u:HO):Prop:=H a=some u\/∃ o,H a=some (.frz o u)
def Rd.ok{P:Program}{w:World}{H:Hp}{u:HO}(r:Rd H a u)(x:HOk P w H h):Yt P w H h a u:=by
 rcases r with r | ⟨o,r⟩
 .exact x a u r
 .obtain⟨_,q⟩:=x a _ r;exact q
def Mut:Option HO->Prop
 |some (.lst _)=>True
 |some (.dK _)=>True
 |some (.dT _)=>True
 |some (.set _ _)=>True
 |some (.ins _ _ _)=>True
 |some (.ext _)=>True
 |_=>False
section
variable {P:Program}{w:World}{H:Hp}{h h' : Heap}{x e:AD}{o' : HO}
def HOk.write(ok:HOk P w H h)(mu:Mut (H x))(he:e=x\/H e=some (.own x))(k:∀ b u,b≠e->h.get? b=some u->h'.get? b=some u)(heo:∃ u,h'.get? e=some u)(new:Yt P w (upd H x o') h' x o'):HOk P w (upd H x o') h':=λb u q=>by
 have nown:∀ c y,H c=some (.own y)->c≠x:=λc y r z=>by subst z;rw[r]at mu;exact mu
 have ntup:∀ c xs,H c=some (.tup xs)->c≠x:=λc xs r z=>by subst z;rw[r]at mu;exact mu
 have nfrz:∀ c o u,H c=some (.frz o u)->c≠x:=λc o u r z=>by subst z;rw[r]at mu;exact mu
 by_cases hb:b=x
 .subst hb;rw[Zh]at q;cases q;exact new
 .rw[Zm hb]at q;by_cases hbe:b=e
  .have q' : H b=some (.own x):=by
    rcases he with z | z
    .exact absurd (hbe.trans z) hb
    .rw[hbe];exact z
   rw[q]at q';cases q';obtain⟨v,hv⟩:=heo;exact⟨v,by rw[hbe];exact hv⟩
  .refine(ok b u q).stay (λc v hc r=>k c v ?_ r) (λc r=>by rw[Zm (nown c b r)];exact r) (λc xs r=>by rw[Zm (ntup c xs r)];exact r) λc o u r=>by rw[Zm (nfrz c o u r)];exact r
   rcases hc with rfl | hc
   .exact hbe
   .rintro rfl;rcases he with z | z
    .exact nown c b hc z
    .rw[hc]at z;cases z;exact hb rfl
end
structure Un(fs ex:LG)(H H' : Hp)(h h' : Heap):Prop where
 keep:∀ b o,h.get? b=some o->H b=none->b∉fs->b∉ex->h'.get? b=some o
 slot:∀ b o,h.get? b=some o->H b=none->b∈fs->b∉ex->∃ sl,h'.get? b=some {o with slots:=sl}
 free:∀ b o,h.get? b=some o->H b=none->b∉ex->H' b=none
 there:∀ b o,h.get? b=some o->b∉ex->∃ o',h'.get? b=some o'
 tups:∀ b xs,H b=some (.tup xs)->H' b=some (.tup xs)
 frzs:∀ b o u,H b=some (.frz o u)->H' b=some (.frz o u)
 tbls:∀ b cr,H b=some (.tbl cr)->H' b=some (.tbl cr)
section
variable {fs fs' ex ex' : LG}{H H1 H2:Hp}{h h1 h2 h' : Heap}{a x e:AD}{o:HO}
def Un.any(u:Un fs ex H H1 h h1){ob:Obj}(q:h.get? b=some ob)(n:H b=none)(hx:b∉ex):∃ sl,h1.get? b=some {ob with slots:=sl}:=by
 by_cases hb:b∈fs
 .exact u.slot b ob q n hb hx
 .exact⟨ob.slots,u.keep b ob q n hb hx⟩
def Un.kept(k:∀ b u,h.get? b=some u->h'.get? b=some u):Un fs ex H H h h' :=⟨λb ob q _ _ _=>k b ob q,λb ob q _ _ _=>⟨ob.slots,k b ob q⟩,λ_ _ _ n _=>n,λb ob q _=>⟨ob,k b ob q⟩,λ_ _ q=>q,λ_ _ _ q=>q,λ_ _ q=>q⟩
def Un.refl:Un fs ex H H h h:=Un.kept λ_ _ q=>q
def Un.laid(k:∀ b u,h.get? b=some u->h'.get? b=some u)(hp:h.objs.size<=a)(hn:H a=none):Un fs ex H (upd H a o) h h' where
 keep:=λb u q _ _ _=>k b u q
 slot:=λb u q _ _ _=>⟨u.slots,k b u q⟩
 free:=λb u q n _=>by rw[Zm (IM (Iu (IB q) hp))];exact n
 there:=λb u q _=>⟨u,k b u q⟩
 tups:=λb xs q=>by rw[Zm (Zk q hn)];exact q
 frzs:=λb u xs q=>by rw[Zm (Zk q hn)];exact q
 tbls:=λb cr q=>by rw[Zm (Zk q hn)];exact q
def Un.write(mu:Mut (H x))(he:e=x\/H e=some (.own x))(k:∀ b u,b≠e->h.get? b=some u->h'.get? b=some u)(heo:∃ u,h'.get? e=some u):Un fs ex H (upd H x o) h h':=by
 have hx:∀ b,H b=none->b≠x:=λb n z=>by subst z;rw[n]at mu;exact mu
 have hb:∀ b,H b=none->b≠e:=λb n z=>by
  subst z;rcases he with r | r
  .exact hx b n r
  .rw[n]at r;cases r
 have hm:∀ b u,H b=some u->¬ Mut (some u)->b≠x:=λb u q nm z=>by subst z;rw[q]at mu;exact nm mu
 refine⟨λb u q n _ _=>k b u (hb b n) q,λb u q n _ _=>⟨u.slots,k b u (hb b n) q⟩,λb u q n _=>by rw[Zm (hx b n)];exact n,λb u q _=>?_,
  λb xs q=>by rw[Zm (hm b _ q λz=>z)];exact q,λb u xs q=>by rw[Zm (hm b _ q λz=>z)];exact q,λb cr q=>by rw[Zm (hm b _ q λz=>z)];exact q⟩
 by_cases hbe:b=e
 .subst hbe;exact heo
 .exact⟨u,k b u hbe q⟩
end
noncomputable def trk(h:Heap)(H:Hp):LG:=(List.range h.objs.size).filter λa=>(H a).isSome
noncomputable def zge(h:Heap)(H:Hp):Heap:=hideAll h (trk h H)
def zfU(h:Heap)(H:Hp):(zge h H).objs.size=h.objs.size:=PySem.W.hideAll_size _ _
def zg4{H:Hp}{o:Obj}(e:h.get? b=some o)(n:H b=none):(zge h H).get? b=some o:=
 PySem.W.hideAll_get _ e λhm=>by have q:(H b).isSome=true:=(List.mem_filter.mp hm).2;rw[n]at q;simp at q
def ziX{H:Hp}{o:Obj}(e:(zge h H).get? b=some o):h.get? b=some o/\H b=none:=by
 have e' : h.get? b=some o:=of_hideAll (trk h H) e;refine⟨e',?_⟩;cases q:H b with
 |none=>rfl
 |some x=>have hm:b∈trk h H:=List.mem_filter.mpr ⟨mem_range.mpr (IB e'),by simp[q]⟩;have z:(zge h H).get? b=none:=PySem.W.hideAll_none (trk h H) hm;rw[z]at e;cases e
structure Mod(K:FG)(mg:Str->LF)(base:Heap):Prop where
 kin:K.In base
 glob:base.Ns mainGlobals mg
 blt:∃ mb,base.Ns builtinsNs mb/\∀ x:Str,x≠ "__name__" -> mb x=bootBuiltins x
 nolimit:base.NoLimit
structure Cx where
 prog:Program
 w:World
 K:FG
 mg:Str->LF
 base:Heap
 A:Around
 N:LB
 s₀:SH
 H₀:Hp
 env:Env
 outer:LI
 stack:LI
 ex:LG
 fn:Str->Bool
 calm:Bool
 pn:List (Addr×Obj)
 xe:Value->SH->Prop
noncomputable def frs(l:LI):LG:=l.filterMap (·.frame)
abbrev Cx.fs(X:Cx):LG:=frs X.outer
def Vis(sc:Scope)(x:Str):Prop:=sc.names.lookup x=some .local\/sc.names.lookup x=some .cell\/sc.names.lookup x=some .free
def Loc(sc:Scope)(x:Str):Prop:=sc.names.lookup x=some .local\/sc.names.lookup x=some .cell
def Look(env:Env)(h:Heap)(m:Str->LF)(x:Str)(u:Value):Prop:=(env.kindOf x=some .local/\m x=some u)\/((env.kindOf x=some .cell\/env.kindOf x=some .free)/\∃ c,env.cells.lookup x=some c/\h.IsCell c (some u))
structure Cx.Ok(X:Cx):Prop where
 mod:Mod X.K X.mg X.base
 kind:X.env.scope.kind = .function
 glob:X.env.globals=mainGlobals
 blt:X.env.builtins=builtinsNs
 above:X.s₀.heap.objs.size<=X.env.locals
 inj:∀ x y c,X.env.cells.lookup x=some c->X.env.cells.lookup y=some c->x=y
 has:∀ x,(X.env.kindOf x=some .cell\/X.env.kindOf x=some .free)->∃ c,X.env.cells.lookup x=some c
 cab:∀ x c,X.fn x=true->X.env.cells.lookup x=some c->X.s₀.heap.objs.size<=c
 hd:X.calm=true->X.A.handled=none
 frames:X.A.frames=some X.stack
 stk:X.stack=X.outer\/(X.stack=X.env::X.outer/\X.env.frame=some X.env.locals)
 exf:∀ b∈X.ex,b≠X.env.locals/\∀ x c,X.env.cells.lookup x=some c->c≠b
 bs:∀ b o,X.base.get? b=some o->X.s₀.heap.get? b=some o/\X.H₀ b=none
 bsz:X.base.objs.size<=X.s₀.heap.objs.size
 noex:∀ b o,X.base.get? b=some o->b∉X.ex
 exfs:∀ b∈X.ex,b∉X.fs
 zaY:X.s₀.heap.FunFrames X.base X.outer
 frf:∀ b∈X.fs,X.H₀ b=none
structure Inv(X:Cx)(aa:List (Addr×Obj))(σ:List (Option V))(H:Hp)(s:SH):Prop where
 ok:X.Ok
 os:s.os=X.s₀.os
 bare:AllBare s.gens
 base:Un X.fs X.ex X.H₀ H X.s₀.heap s.heap
 loc:∃ m,s.heap.Ns X.env.locals m/\∀(i:Nat)(x:Str)(v:V),X.N[i]?=some x->σ[i]?=some (some v)->Vis X.env.scope x->∃ u,RelV v u/\Look X.env s.heap m x u
 cell:∀ x c,X.env.cells.lookup x=some c->∃ v,s.heap.IsCell c v
 free:H X.env.locals=none
 freeC:∀ x c,X.env.cells.lookup x=some c->H c=none
 pin:∀ p∈X.pn++aa,s.heap.get? p.1=some p.2/\H p.1=none/\p.1≠X.env.locals/\p.1∉X.fs/\∀ v,p.2.data≠.cell v
 ac:HOk X.prog X.w H s.heap
 len:σ.length=X.N.length
section
variable {X:Cx}{aa:List (Addr×Obj)}{σ:List (Option V)}{H H' : Hp}{s:SH}{h' : Heap}
def Cx.Ok.znx(ok:X.Ok){o:Obj}(e:X.base.get? b=some o):b∉X.fs:=λhb=>by have:=(ok.zaY.mem hb).1;rw[e]at this;cases this
theorem Inv.bs(I:Inv X aa σ H s):∀ b o,X.base.get? b=some o->s.heap.get? b=some o/\H b=none:=λb o e=>⟨I.base.keep b o (I.ok.bs b o e).1 (I.ok.bs b o e).2 (I.ok.znx e) (I.ok.noex b o e),I.base.free b o (I.ok.bs b o e).1 (I.ok.bs b o e).2 (I.ok.noex b o e)⟩
def Inv.bk(I:Inv X aa σ H s):∀ b o,X.base.get? b=some o->s.heap.get? b=some o:=λb o e=>(I.bs b o e).1
theorem Inv.mod(I:Inv X aa σ H s):Mod X.K X.mg X.base:=I.ok.mod
def Inv.kIn(I:Inv X aa σ H s):X.K.In s.heap:=I.ok.mod.kin.keeps I.bk
def Inv.fr(I:Inv X aa σ H s):∃ m,Fr X.base X.env.locals s.heap m:=
 let ⟨m,hn,_⟩:=I.loc
 ⟨m,hn,I.bk,Nj I.ok.bsz I.ok.above⟩
theorem Inv.lt(I:Inv X aa σ H s):X.env.locals<s.heap.objs.size:=let ⟨_,hn,_⟩:=I.loc;hn.lt
def Inv.sz(I:Inv X aa σ H s):X.s₀.heap.objs.size<=s.heap.objs.size:=Nj I.ok.above (Od I.lt)
def Inv.znv(I:Inv X aa σ H s)(h:s.heap.objs.size<=a):a∉X.fs:=λhb=>by obtain⟨_,o,ho,_⟩:=I.ok.zaY.mem hb;exact absurd (Iu (IB ho) (Nj I.sz h)) (Oo _)
def Inv.cne(I:Inv X aa σ H s):∀ x c,X.env.cells.lookup x=some c->c≠X.env.locals:=λx c e z=>by obtain⟨v,o,ho,hd⟩:=I.cell x c e;obtain⟨m,⟨o',es,ep,ho',hd',_⟩,_⟩:=I.loc;rw[z,ho']at ho;cases ho;rw[hd']at hd;cases hd
theorem Inv.zaY(I:Inv X aa σ H s):s.heap.FunFrames X.base X.outer:=by
 have all:∀(l:LI),(∀ b∈frs l,b∈X.fs)->X.s₀.heap.FunFrames X.base l->s.heap.FunFrames X.base l:=by
  intro l
  induction l with
  |nil=>intro _ _;trivial
  |cons env r ih=>intro hs hl;obtain⟨hk,⟨L,o,hf,hn,ho,hd⟩,hr⟩:=hl;have hL:L∈X.fs:=hs L (by unfold frs;rw[NH,hf];exact IC);obtain⟨sl,e⟩:=I.base.slot L o ho (I.ok.frf L hL) hL λz=>I.ok.exfs L z hL;exact⟨hk,⟨L,_,hf,hn,e,hd⟩,ih (λb hb=>hs b (by unfold frs;rw[NH,hf];exact Iz _ hb)) hr⟩
 exact all X.outer (λ_ hb=>hb) I.ok.zaY
theorem Inv.stack(I:Inv X aa σ H s):s.heap.FunFrames X.base X.stack:=by
 rcases I.ok.stk with e | ⟨e,hf⟩
 .rw[e];exact I.zaY
 .rw[e];obtain⟨m,hn,_⟩:=I.loc;refine .cons (by rw[I.ok.kind];decide) hf hn ?_ I.zaY;exact Heap.get?_none_of_le (Nj I.ok.bsz I.ok.above)
def Inv.zc9(I:Inv X aa σ H s):∀ b∈frs X.stack,b∈X.env.locals::X.fs:=λb hb=>by
 rcases I.ok.stk with e | ⟨e,hf⟩
 .rw[e]at hb;exact Iz _ hb
 .rw[e]at hb;unfold frs at hb;rw[NH,hf]at hb;exact hb
def Inv.zcT(I:Inv X aa σ H s):∀ b∈frs X.stack,H b=none:=λb hb=>by
 rcases ID.mp (I.zc9 b hb)with e | hb
 .rw[e];exact I.free
 .obtain⟨_,o,ho,_⟩:=I.ok.zaY.mem hb;exact I.base.free b o ho (I.ok.frf b hb) λz=>I.ok.exfs b z hb
def Inv.step{g' : Array GenState}{d' : Drawn}(I:Inv X aa σ H s)(hch:∀ b∈ch,(b∈X.ex\/X.s₀.heap.objs.size<=b)/\b≠X.env.locals/\(∀ x c,X.env.cells.lookup x=some c->c≠b)/\∀ p∈X.pn++aa,p.1≠b)(keep:∀ b o,b≠X.env.locals->b∉X.fs->b∉ch->s.heap.get? b=some o->H b=none->h'.get? b=some o)(slot:∀ b o,b≠X.env.locals->b∈X.fs->b∉ch->s.heap.get? b=some o->H b=none->∃ sl,h'.get? b=some {o with slots:=sl})(free:∀ b o,b∉ch->s.heap.get? b=some o->H b=none->H' b=none)(there:∀ b o,b∉ch->s.heap.get? b=some o->∃ o',h'.get? b=some o')(tups:∀ b xs,H b=some (.tup xs)->H' b=some (.tup xs))(frzs:∀ b o u,H b=some (.frz o u)->H' b=some (.frz o u))(tbls:∀ b cr,H b=some (.tbl cr)->H' b=some (.tbl cr))(ns:∀ m,s.heap.Ns X.env.locals m->h'.Ns X.env.locals m)(ac:HOk X.prog X.w H' h')(hg:AllBare g'):
  Inv X aa σ H' {s with heap:=h',gens:=g',drawn:=d',toks:=t'}:=by
 have neL:∀ b o,X.s₀.heap.get? b=some o->b≠X.env.locals:=λb o e=>IM (Iu (IB e) I.ok.above);have neC:∀ b o,X.s₀.heap.get? b=some o->b∉X.ex->b∉ch:=λb o e hx hb=>by
  rcases(hch b hb).1 with z | z
  .exact hx z
  .exact absurd (Iu (IB e) z) (Oo _)
 have cellK:∀ x c,X.env.cells.lookup x=some c->∀ v,s.heap.IsCell c v->h'.IsCell c v:=λx c e v ⟨o,ho,hd⟩=>by
  have nch:c∉ch:=λz=>(hch c z).2.2.1 x c e rfl;by_cases hc:c∈X.fs
  .obtain⟨sl,q⟩:=slot c o (I.cne x c e) hc nch ho (I.freeC x c e);exact⟨_,q,hd⟩
  .exact⟨o,keep c o (I.cne x c e) hc nch ho (I.freeC x c e),hd⟩
 refine⟨I.ok,I.os,hg,⟨λb o e n hb hx=>?_,λb o e n hb hx=>?_,λb o e n hx=>?_,λb o e hx=>?_,λb xs e=>tups b xs (I.base.tups b xs e),λb o xs e=>frzs b o xs (I.base.frzs b o xs e),λb ps e=>?_⟩,?_,λx c e=>?_,?_,λx c e=>?_,λp hp=>?_,ac,I.len⟩
 .exact keep b o (neL b o e) hb (neC b o e hx) (I.base.keep b o e n hb hx) (I.base.free b o e n hx)
 .obtain⟨sl,e1⟩:=I.base.slot b o e n hb hx;obtain⟨sl',e2⟩:=slot b _ (neL b o e) hb (neC b o e hx) e1 (I.base.free b o e n hx);exact⟨sl',e2⟩
 .obtain⟨o',e1⟩:=I.base.there b o e hx;exact free b o' (neC b o e hx) e1 (I.base.free b o e n hx)
 .obtain⟨o',e1⟩:=I.base.there b o e hx;exact there b o' (neC b o e hx) e1
 .exact tbls b ps (I.base.tbls b ps e)
 .obtain⟨m,hn,hl⟩:=I.loc;refine⟨m,ns m hn,λi x v e1 e2 e3=>?_⟩;obtain⟨u,r,l⟩:=hl i x v e1 e2 e3;refine⟨u,r,?_⟩;rcases l with l | ⟨k,c,e,z⟩
  .exact .inl l
  .exact .inr ⟨k,c,e,cellK x c e _ z⟩
 .obtain⟨v,z⟩:=I.cell x c e;exact⟨v,cellK x c e v z⟩
 .obtain⟨m,⟨o,_,_,ho,_⟩,_⟩:=I.loc;exact free _ o (λz=>(hch _ z).2.1 rfl) ho I.free
 .obtain⟨v,o,ho,hd⟩:=I.cell x c e;exact free c o (λz=>(hch c z).2.2.1 x c e rfl) ho (I.freeC x c e)
 .obtain⟨e,n,ne,nf,d⟩:=I.pin p hp;have nch:p.1∉ch:=λz=>(hch p.1 z).2.2.2 p hp rfl;exact⟨keep p.1 p.2 ne nf nch e n,free p.1 p.2 nch e n,ne,nf,d⟩
def Inv.un(I:Inv X aa σ H s)(u:Un X.fs [] H H' s.heap h')(ac:HOk X.prog X.w H' h'):Inv X aa σ H' {s with heap:=h',toks:=t'}:=by
 obtain⟨m,⟨o,es,ep,ho,r⟩,_⟩:=id I.loc;obtain⟨sl,hL⟩:=u.any ho I.free (by simp);exact I.step (g':=s.gens) (d':=s.drawn) (ch:=[]) (λ_ z=>nomatch z) (λb o _ hb _ e n=>u.keep b o e n hb (by simp)) (λb o _ hb _ e n=>u.slot b o e n hb (by simp)) (λb o _ e n=>u.free b o e n (by simp)) (λb o _ e=>u.there b o e (by simp)) u.tups u.frzs u.tbls (λm' hm=>by
  obtain⟨o',es',ep',ho',r'⟩:=hm;rw[ho]at ho';cases ho';exact⟨_,es',ep',hL,r'⟩) ac I.bare
def Inv.call{g' : Array GenState}{d' : Drawn}(I:Inv X aa σ H s)(u:Un (frs X.stack) ch H H' s.heap h')(ac:HOk X.prog X.w H' h')(hg:AllBare g')(hch:∀ b∈ch,(b∈X.ex\/X.s₀.heap.objs.size<=b)/\b≠X.env.locals/\(∀ x c,X.env.cells.lookup x=some c->c≠b)/\∀ p∈X.pn++aa,p.1≠b):
  Inv X aa σ H' {s with heap:=h',gens:=g',drawn:=d',toks:=t'}:=by
 obtain⟨m,⟨o,es,ep,ho,r⟩,_⟩:=id I.loc;obtain⟨sl,hL⟩:=u.any ho I.free λz=>(hch _ z).2.1 rfl;exact I.step (ch:=ch) hch (λb o hL hb hc e n=>u.keep b o e n (λz=>(ID.mp (I.zc9 b z)).elim hL hb) hc) (λb o _ _ hc e n=>u.any e n hc) (λb o hc e n=>u.free b o e n hc) (λb o hc e=>u.there b o e hc) u.tups u.frzs u.tbls (λm' hm=>by
  obtain⟨o',es',ep',ho',r'⟩:=hm;rw[ho]at ho';cases ho';exact⟨_,es',ep',hL,r'⟩) ac hg
def Inv.turned{it:AD}(I:Inv X aa σ H s)(k:∀ b o,b≠it->s.heap.get? b=some o->h'.get? b=some o)(hn:H it=none)(hL:it≠X.env.locals)(h1:it∈X.ex\/X.s₀.heap.objs.size<=it)(h2:∀ x c,X.env.cells.lookup x=some c->c≠it)(h3:∀ p∈X.pn++aa,p.1≠it):Inv X aa σ H {s with heap:=h',toks:=t'}:=by
 have nit:∀ b u,H b=some u->b≠it:=λb u e z=>by rw[z,hn]at e;cases e
 refine I.step (g':=s.gens) (d':=s.drawn) (ch:=[it]) (λb hb=>?_) (λb o _ _ hc e _=>k b o (λz=>hc (by simp[z])) e) (λb o _ _ hc e _=>⟨o.slots,k b o (λz=>hc (by simp[z])) e⟩) (λ_ _ _ _ n=>n)
  (λb o hc e=>⟨o,k b o (λz=>hc (by simp[z])) e⟩) (λ_ _ e=>e) (λ_ _ _ e=>e) (λ_ _ e=>e) (λm hm=>?_) (λb u e=>?_) I.bare
 .have e:b=it:=by simpa using hb
  subst e;exact⟨h1,hL,h2,h3⟩
 .obtain⟨o,es,ep,ho,r⟩:=hm;exact⟨o,es,ep,k _ o (Ne.symm hL) ho,r⟩
 .refine(I.ac b u e).stay (λc v hc q=>k c v ?_ q) (λ_ q=>q) (λ_ _ q=>q) λ_ _ _ q=>q;rcases hc with z | z
  .rw[z];exact nit b u e
  .exact nit c _ z
def Inv.tok(I:Inv X aa σ H s)(t:Nat):Inv X aa σ H {s with toks:=t}:=I.un (h':=s.heap) (t':=t) Un.refl I.ac
theorem Inv.kept(I:Inv X aa σ H s)(k:∀ b u,s.heap.get? b=some u->h'.get? b=some u):Inv X aa σ H {s with heap:=h',toks:=t'}:=I.un (Un.kept k) (I.ac.kept k)
theorem Inv.laid{o:HO}(I:Inv X aa σ H s)(k:∀ b u,s.heap.get? b=some u->h'.get? b=some u)(hp:s.heap.objs.size<=a)(new:Yt X.prog X.w (upd H a o) h' a o):
  Inv X aa σ (upd H a o) {s with heap:=h',toks:=t'}:=I.un (Un.laid k hp (I.ac.fresh hp)) (I.ac.laid k hp new)
theorem Inv.write{x e:AD}{o:HO}(I:Inv X aa σ H s)(mu:Mut (H x))(he:e=x\/H e=some (.own x))(k:∀ b u,b≠e->s.heap.get? b=some u->h'.get? b=some u)(heo:∃ u,h'.get? e=some u)(new:Yt X.prog X.w (upd H x o) h' x o):Inv X aa σ (upd H x o) {s with heap:=h',toks:=t'}:=I.un (Un.write mu he k heo) (I.ac.write mu he k heo new)
def Inv.Q9{pins' : List (Addr×Obj)}(I:Inv X aa σ H s)(h:∀ p∈pins',s.heap.get? p.1=some p.2/\H p.1=none/\p.1≠X.env.locals/\p.1∉X.fs/\∀ v,p.2.data≠.cell v):Inv X pins' σ H s:=⟨I.ok,I.os,I.bare,I.base,I.loc,I.cell,I.free,I.freeC,λp hp=>(NN.mp hp).elim (λz=>I.pin p (List.mem_append_left _ z)) (h p),I.ac,I.len⟩
def zaP{N:LB}(hN:N.Nodup){j:Nat}(a:N[i]?=some x)(b:N[j]?=some x):i=j:=by obtain⟨h1,e1⟩:=Ik.mp a;obtain⟨h2,e2⟩:=Ik.mp b;exact(List.getElem_inj hN).mp (e1.trans e2.symm)
def zfh{v:V}{Q:Unit->SH->Prop}(I:Inv X aa σ H s)(hN:X.N.Nodup)(hi:X.N[i]?=some x)(hx:Loc X.env.scope x)(r:RelV v u)(h:∀ s',Inv X aa (σ.set i (some v)) H s' -> (∃ a,SameBut a s.heap s'.heap/\(a=X.env.locals\/X.env.cells.lookup x=some a))->Q () s')(hf:X.fn x=true\/X.env.scope.names.lookup x=some .local:=by first | exact .inl rfl | exact .inr rfl | assumption):wpAny M A (storeName X.env x u) Q E s:=by
 obtain⟨m,hn,hl⟩:=id I.loc;have hcls:(X.env.scope.kind == .class||(X.env.scope.kind == .module&&X.env.locals != X.env.globals))=false:=by rw[I.ok.kind];rfl
 have hiσ:i<σ.length:=by rw[I.len];exact(Ik.mp hi).1
 have cne:=I.cne;have tracked:∀{a:AD}{h' : Heap},(∃ o,s.heap.get? a=some o/\H a=none)->SameBut a s.heap h' -> HOk X.prog X.w H h':=λ{a h'} ha hs b ob e=>by
  obtain⟨_,_,hfree⟩:=ha;refine(I.ac b ob e).stay (λc w' hc q=>(hs.2 c ?_).trans q) (λ_ q=>q) (λ_ _ q=>q) λ_ _ _ q=>q;rintro rfl;rcases hc with rfl | hc
  .rw[hfree]at e;cases e
  .rw[hfree]at hc;cases hc
 rcases hx with hk | hk
 .refine wpAny_storeName_local hk hn (λh' hn' hs=>?_) hcls;obtain⟨oL,_,_,hoL,_⟩:=id hn;refine h _ ⟨I.ok,I.os,I.bare,⟨λb o e n hb hx=>?_,λb o e n hb hx=>?_,I.base.free,λb o e hx=>?_,I.base.tups,I.base.frzs,I.base.tbls⟩,⟨_,hn',λj y v' e1 e2 e3=>?_⟩,λy c e=>?_,I.free,I.freeC,λp hp=>?_,tracked ⟨oL,hoL,I.free⟩ hs,by simpa using I.len⟩ ⟨_,hs,.inl rfl⟩
  .exact(hs.2 b (IM (Iu (IB e) I.ok.above))).trans (I.base.keep b o e n hb hx)
  .obtain⟨sl,e1⟩:=I.base.slot b o e n hb hx;exact⟨sl,(hs.2 b (IM (Iu (IB e) I.ok.above))).trans e1⟩
  .obtain⟨o',e1⟩:=I.base.there b o e hx;exact⟨o',(hs.2 b (IM (Iu (IB e) I.ok.above))).trans e1⟩
  .by_cases hj:j=i
   .subst hj;rw[hi]at e1;cases e1;rw[List.getElem?_set_self hiσ]at e2;cases e2;exact⟨u,r,.inl ⟨hk,(by simp)⟩⟩
   .rw[List.getElem?_set_ne (Ne.symm hj)]at e2;obtain⟨u',r',q⟩:=hl j y v' e1 e2 e3;refine⟨u',r',?_⟩;rcases q with⟨k,e⟩ | ⟨k,c,e,z⟩
    .refine .inl ⟨k,?_⟩;have:y≠x:=λe=>hj (zaP hN e1 (e ▸ hi));simp[this,e]
    .exact .inr ⟨k,c,e,z.sameBut hs (cne y c e)⟩
  .obtain⟨w',z⟩:=I.cell y c e;exact⟨w',z.sameBut hs (cne y c e)⟩
  .obtain⟨e,n,ne,nf,d⟩:=I.pin p hp;exact⟨(hs.2 p.1 ne).trans e,n,ne,nf,d⟩
 .have hfn:X.fn x=true:=by
   rcases hf with z | z
   .exact z
   .rw[z]at hk;cases hk
  obtain⟨c,hc⟩:=I.ok.has x (.inl hk);obtain⟨w',z⟩:=I.cell x c hc;refine wpAny_storeName_cell I.ok.kind hk hc z (λh' hc' hs=>?_);obtain⟨oc,hoc,hocd⟩:=id z;refine h {s with heap:=h'} ⟨I.ok,I.os,I.bare,⟨λb o e n hb hx=>?_,λb o e n hb hx=>?_,I.base.free,λb o e hx=>?_,I.base.tups,I.base.frzs,I.base.tbls⟩,⟨m,hn.sameBut hs (Ne.symm (cne x c hc)),λj y v' e1 e2 e3=>?_⟩,λy c' e=>?_,I.free,I.freeC,λp hp=>?_,tracked ⟨oc,hoc,I.freeC x c hc⟩ hs,by simpa using I.len⟩ ⟨c,hs,.inr hc⟩
  .exact(hs.2 b (IM (Iu (IB e) (I.ok.cab x c hfn hc)))).trans (I.base.keep b o e n hb hx)
  .obtain⟨sl,e1⟩:=I.base.slot b o e n hb hx;exact⟨sl,(hs.2 b (IM (Iu (IB e) (I.ok.cab x c hfn hc)))).trans e1⟩
  .obtain⟨o',e1⟩:=I.base.there b o e hx;exact⟨o',(hs.2 b (IM (Iu (IB e) (I.ok.cab x c hfn hc)))).trans e1⟩
  .by_cases hj:j=i
   .subst hj;rw[hi]at e1;cases e1;rw[List.getElem?_set_self hiσ]at e2;cases e2;exact⟨u,r,.inr ⟨.inl hk,c,hc,hc'⟩⟩
   .rw[List.getElem?_set_ne (Ne.symm hj)]at e2;obtain⟨u',r',q⟩:=hl j y v' e1 e2 e3;refine⟨u',r',?_⟩;rcases q with q | ⟨k,c',e,z'⟩
    .exact .inl q
    .refine .inr ⟨k,c',e,z'.sameBut hs ?_⟩;rintro rfl;exact hj (zaP hN e1 (I.ok.inj _ _ _ e hc ▸ hi))
  .by_cases hcc:c'=c
   .subst hcc;exact⟨_,hc'⟩
   .obtain⟨w2,z2⟩:=I.cell y c' e;exact⟨w2,z2.sameBut hs hcc⟩
  .obtain⟨e,n,ne,nf,d⟩:=I.pin p hp;refine⟨(hs.2 p.1 ?_).trans e,n,ne,nf,d⟩;intro q;rw[q,hoc]at e;have q' : oc=p.2:=Ip e;exact d w' (by rw[← q'];exact hocd)
def Qi{v:V}{Q:Unit->SH->Prop}(I:Inv X aa σ H s)(hN:X.N.Nodup)(hi:X.N[i]?=some x)(hx:Loc X.env.scope x)(r:RelV v u)(h:∀ s',Inv X aa (σ.set i (some v)) H s' -> Q () s')(hf:X.fn x=true\/X.env.scope.names.lookup x=some .local:=by first | exact .inl rfl | exact .inr rfl | assumption):wpAny M A (storeName X.env x u) Q E s:=
 zfh I hN hi hx r (λs' I' _=>h s' I') hf
def Inv.call'{s' : SH}(I:Inv X aa σ H s)(ho:s'.os=s.os)(u:Un (frs X.stack) ch H H' s.heap s'.heap)(ac:HOk X.prog X.w H' s'.heap)(hg:AllBare s'.gens)(hch:∀ b∈ch,(b∈X.ex\/X.s₀.heap.objs.size<=b)/\b≠X.env.locals/\(∀ x c,X.env.cells.lookup x=some c->c≠b)/\∀ p∈X.pn++aa,p.1≠b):Inv X aa σ H' s':=by
 obtain⟨h',g',d',t',o'⟩:=s';have e:o'=s.os:=ho;subst e;exact I.call (g':=g') (t':=t') (d':=d') u ac hg hch
end
abbrev XK:=Value->Option AD->Hp->Prop
abbrev St:=List (Option V)
abbrev VK:=V->Hp->Prop
abbrev TE:=St->Hp->VK->Prop
abbrev TT:=St->Hp->(Bool->Hp->Prop)->Prop
abbrev TA:=St->Hp->(LC->Hp->Prop)->Prop
structure Ends where
 nx:St->Hp->Prop
 rt:VK
 bk:St->Hp->Prop:=λ_ _=>False
 ct:St->Hp->Prop:=λ_ _=>False
abbrev TS:=Ends->St->Hp->Prop
def EP(X:Cx)(aa:List (Addr×Obj))(σ:St)(Q:VK)(u:Value)(s' : SH):Prop:=∃ v H',Inv X aa σ H' s' /\ RelV v u/\Q v H'
def TP(X:Cx)(aa:List (Addr×Obj))(σ:St)(Q:Bool->Hp->Prop)(b:Bool)(s' : SH):Prop:=∃ H',Inv X aa σ H' s' /\ Q b H'
def AP(X:Cx)(aa:List (Addr×Obj))(σ:St)(Q:LC->Hp->Prop)(us:LD)(s' : SH):Prop:=∃ vs H',Inv X aa σ H' s' /\ Vals vs us/\Q vs H'
def SP(X:Cx)(aa:List (Addr×Obj))(D:Ends)(f:Flow)(s' : SH):Prop:=
 match f with
 |.next=>∃ σ' H',Inv X aa σ' H' s' /\ D.nx σ' H'
 |.brk=>∃ σ' H',Inv X aa σ' H' s' /\ D.bk σ' H'
 |.cont=>∃ σ' H',Inv X aa σ' H' s' /\ D.ct σ' H'
 |.ret u=>∃ v σ' H',Inv X aa σ' H' s' /\ RelV v u/\D.rt v H'
def PE(X:Cx)(e:Expr)(t:TE):Prop:=∀(aa:List (Addr×Obj))(s:SH)(σ:St)(H:Hp)(Q:VK),Inv X aa σ H s->t σ H Q->wpAny (model X.prog X.w) X.A (eval e X.env) (EP X aa σ Q) X.xe s
def PT(X:Cx)(e:Expr)(t:TT):Prop:=∀(aa:List (Addr×Obj))(s:SH)(σ:St)(H:Hp)(Q:Bool->Hp->Prop),Inv X aa σ H s->t σ H Q->wpAny (model X.prog X.w) X.A (isTrue e X.env (eval e X.env)) (TP X aa σ Q) X.xe s
def PW(X:Cx)(e:Expr)(t:TT):Prop:=∀(whole:Sem Value)(aa:List (Addr×Obj))(s:SH)(σ:St)(H:Hp)(Q:Bool->Hp->Prop),Inv X aa σ H s->t σ H Q->wpAny (model X.prog X.w) X.A (isTrue e X.env whole) (TP X aa σ Q) X.xe s
def PW.pt{X:Cx}{t:TT}(h:PW X e t):PT X e t:=h _
def PA(X:Cx)(es:List Expr)(t:TA):Prop:=∀(pos:Pos)(aa:List (Addr×Obj))(s:SH)(σ:St)(H:Hp)(Q:LC->Hp->Prop),Inv X aa σ H s->t σ H Q->wpAny (model X.prog X.w) X.A (spliced (backTo pos (starEach es X.env))) (AP X aa σ Q) X.xe s
def PS(X:Cx)(st:Stmt)(t:TS):Prop:=∀(aa:List (Addr×Obj))(s:SH)(σ:St)(H:Hp)(D:Ends),Inv X aa σ H s->t D σ H->wpAny (model X.prog X.w) X.A (exec st X.env) (SP X aa D) X.xe s
def PSs(X:Cx)(st:List Stmt)(t:TS):Prop:=∀(aa:List (Addr×Obj))(s:SH)(σ:St)(H:Hp)(D:Ends),Inv X aa σ H s->t D σ H->wpAny (model X.prog X.w) X.A (execs st X.env) (SP X aa D) X.xe s
def thn{α:Type}{t:Sem α}{Q Q' : α->SH->Prop}(h:wpAny M A t Q E s)(hQ:∀ a s,Q a s->Q' a s):wpAny M A t Q' E s:=IK h hQ λ_ _ x=>x
section
variable {X:Cx}
def XH(i:Nat):TE:=fun σ H Q=>∃ v,σ[i]?=some (some v)/\Q v H
def tC(v:V):TE:=λ_ H Q=>Q v H
def zeV(hN:X.N[i]?=some x)(hv:Vis X.env.scope x)(hd:(x==("__debug__" : Str))=false:=by decide)(hcd:(x==("__classdict__" : Str))=false:=by decide):PE X (.Name x pos) (XH i):=by
 intro aa s σ H Q I h;obtain⟨v,e,h⟩:=h;obtain⟨m,hn,hl⟩:=I.loc;obtain⟨u,r,l⟩:=hl i x v hN e hv;have fin:EP X aa σ Q u s:=⟨v,H,I,r,h⟩
 rcases l with⟨hk,hm⟩ | ⟨hk,c,hc,hcell⟩
 .exact wpAny_Name (wpAny_loadName_local I.ok.kind hk hn hm fin) hd
 .rcases hk with hk | hk
  .exact wpAny_Name (wpAny_loadName_cell I.ok.kind hk hc hcell fin) hd
  .exact wpAny_Name (wpAny_loadName_free I.ok.kind hk hc hcell fin hcd) hd
def Zg{i j pos}:PE X (.Constant (.int i) j pos) (tC (.int i)):=λ_ _ _ H _ I h=>wpAny_Constant_int ⟨.int i,H,I.tok _,⟨_,rfl⟩,h⟩
def zby{b j pos}:PE X (.Constant (.bool b) j pos) (tC (.bl b)):=λ_ _ _ H _ I h=>Constant_bool ⟨.bl b,H,I,rfl,h⟩
def QH{j pos}:PE X (.Constant .none j pos) (tC .non):=λ_ _ _ H _ I h=>Constant_none ⟨.non,H,I,rfl,h⟩
def Zz{x j pos}:PE X (.Constant (.str x) j pos) (tC (.str x)):=λ_ _ _ H _ I h=>Calls.Constant_str ⟨.str x,H,I.tok _,⟨_,rfl⟩,h⟩
def Gl(X:Cx)(x:Str):Prop:=X.env.kindOf x=some .globalImplicit
def JL{σ:St}{H:Hp}{Q:Value->SH->Prop}(I:Inv X aa σ H s)(hg:Gl X x)(hm:X.mg x=some u)(h:Q u s)(hd:(x==("__debug__" : Str))=false:=by decide):wpAny (model X.prog X.w) X.A (eval (.Name x pos) X.env) Q E s:=
 Calls.Name_function_global I.ok.kind hg (Calls.loadGlobal_global (by rw[I.ok.glob];exact I.mod.glob.keeps I.bk) hm h) hd
def Qo{σ:St}{H:Hp}{Q:Value->SH->Prop}(I:Inv X aa σ H s)(hg:Gl X x)(hm:X.mg x=none)(hv:bootBuiltins x=some u)(h:Q u s)(hn:x≠ "__name__" := by decide)(hd:(x==("__debug__" : Str))=false:=by decide):wpAny (model X.prog X.w) X.A (eval (.Name x pos) X.env) Q E s:=by
 obtain⟨mb,h1,h2⟩:=I.mod.blt;exact Calls.Name_function_global I.ok.kind hg (Calls.loadGlobal_builtin (by rw[I.ok.glob];exact I.mod.glob.keeps I.bk) hm (by rw[I.ok.blt];exact h1.keeps I.bk) ((h2 x hn).trans hv) h) hd
def Xr{v:V}(hg:Gl X x)(hm:X.mg x=some u)(r:RelV v u)(hd:(x==("__debug__" : Str))=false:=by decide):PE X (.Name x pos) (tC v):=λ_ _ _ H _ I h=>JL I hg hm ⟨v,H,I,r,h⟩ hd
def zcE{v:V}(hg:Gl X x)(hm:X.mg x=none)(hv:bootBuiltins x=some u)(r:RelV v u)(hn:x≠ "__name__" := by decide)(hd:(x==("__debug__" : Str))=false:=by decide):PE X (.Name x pos) (tC v):=λ_ _ _ H _ I h=>Qo I hg hm hv ⟨v,H,I,r,h⟩ hn hd
variable {a b:Expr}{ta tb:TE}{pos:Pos}
def tB(t:TE):TT:=fun σ H Q=>t σ H λx H1=>∃ c,x = .bl c/\Q c H1
def W6{t:TE}(h:PE X e t)(he:∀ whole,isTrue e X.env whole=(do let v ← whole;standAt e.pos;holding [v] (truthy v)):=by intro _;rfl):PT X e (tB t):=by intro aa s σ H Q I hw;refine isTrue_plain (thn (h aa s σ H _ I hw) λv s1 ⟨x,H1,I1,r1,q1⟩=>?_) (he _);obtain⟨d,rfl,q⟩:=q1;cases r1;exact N6 ⟨H1,I1,q⟩
variable {tA tB' : TT}{rest:List Expr}
def zno(t u:TT):TT:=fun σ H Q=>t σ H λc H1=>if c=true then u σ H1 Q else Q false H1
def tOr(t u:TT):TT:=fun σ H Q=>t σ H λc H1=>if c=true then Q true H1 else u σ H1 Q
def zm6(t:TT):TT:=fun σ H Q=>t σ H λc H1=>Q (!c) H1
def pw_and1(ha:PT X a tA):PW X (.BoolOp .And [a] pos) tA:=by
 intro wh aa s σ H Q I h;refine isTrue_and (thn (ha aa s σ H Q I h) λc s1 e=>?_);cases c with
 |true=>exact isTrue_and_nil e
 |false=>exact e
def pw_or1(ha:PT X a tA):PW X (.BoolOp .Or [a] pos) tA:=by
 intro wh aa s σ H Q I h;refine isTrue_or (thn (ha aa s σ H Q I h) λc s1 e=>?_);cases c with
 |false=>exact isTrue_or_nil e
 |true=>exact e
def pw_and(ha:PT X a tA)(hb:PW X (.BoolOp .And (b::rest) pos) tB'):PW X (.BoolOp .And (a::b::rest) pos) (zno tA tB'):=by
 intro wh aa s σ H Q I h;refine isTrue_and (thn (ha aa s σ H _ I h) λc s1 ⟨H1,I1,q1⟩=>?_);cases c with
 |true=>exact hb wh aa s1 σ H1 Q I1 q1
 |false=>exact⟨H1,I1,q1⟩
def pw_or(ha:PT X a tA)(hb:PW X (.BoolOp .Or (b::rest) pos) tB'):PW X (.BoolOp .Or (a::b::rest) pos) (tOr tA tB'):=by
 intro wh aa s σ H Q I h;refine isTrue_or (thn (ha aa s σ H _ I h) λc s1 ⟨H1,I1,q1⟩=>?_);cases c with
 |true=>exact⟨H1,I1,q1⟩
 |false=>exact hb wh aa s1 σ H1 Q I1 q1
def zbr(ha:PT X a tA):PT X (.UnaryOp .Not a pos) (zm6 tA):=by intro aa s σ H Q I h;exact isTrue_not (ha aa s σ H (λc H1=>Q (!c) H1) I h)
def zlI(ta tb:TE):TE:=fun σ H Q=>ta σ H λx H1=>∃ c,x = .bl c/\if c=true then tb σ H1 Q else Q (.bl false) H1
def zlo(ta:TE):TE:=fun σ H Q=>ta σ H λx H1=>∃ c,x = .bl c/\Q (.bl (!c)) H1
def zlX{op}{t:TE}(h:PE X a t):PE X (.BoolOp op [a] pos) t:=λaa s σ H Q I hw=>BoolOp_one (h aa s σ H Q I hw)
def zkm(ha:PE X a ta)(hb:PE X (.BoolOp .And (b::rest) pos) tb):PE X (.BoolOp .And (a::b::rest) pos) (zlI ta tb):=by
 intro aa s σ H Q I h;refine BoolOp_and (thn (ha aa s σ H _ I h) λv s1 ⟨x,H1,I1,r1,q1⟩=>?_);obtain⟨c,rfl,q1⟩:=q1;cases r1;refine N6 ?_;cases c with
 |true=>exact hb aa s1 σ H1 Q I1 q1
 |false=>exact⟨.bl false,H1,I1,rfl,q1⟩
def zf4(ha:PE X a ta):PE X (.UnaryOp .Not a pos) (zlo ta):=by intro aa s σ H Q I h;refine UnaryOp_ (thn (ha aa s σ H _ I h) λv s1 ⟨x,H1,I1,r1,q1⟩=>?_);obtain⟨c,rfl,q1⟩:=q1;cases r1;exact not_of (N6 ⟨.bl (!c),H1,I1,rfl,q1⟩)
def tIf(t:TT)(ta tb:TE):TE:=fun σ H Q=>t σ H λc H1=>if c=true then ta σ H1 Q else tb σ H1 Q
def W3{c:Expr}(hc:PT X c tA)(ha:PE X a ta)(hb:PE X b tb):PE X (.IfExp c a b pos) (tIf tA ta tb):=by
 intro aa s σ H Q I h;refine wpAny_IfExp (thn (hc aa s σ H _ I h) λd s1 ⟨H1,I1,q1⟩=>?_);cases d with
 |true=>exact ha aa s1 σ H1 Q I1 q1
 |false=>exact hb aa s1 σ H1 Q I1 q1
end
def SqL(K:FG)(H:Hp)(a:AD)(xs:LC):Prop:=
 Rd H a (.lst xs)\/
  ∃(o:Obj)(its:Array Value)(n:Nat),K.lookup a=some o/\o.cls = .type "list" /\ o.dict=none/\o.data = .seq its n/\its.size<=sizeLine/\Vals xs its.toList
def SqT(K:FG)(H:Hp)(a:AD)(xs:LC):Prop:=
 Rd H a (.tup xs)\/
  ∃(o:Obj)(its:Array Value)(n:Nat),K.lookup a=some o/\o.cls = .type "tuple" /\ o.data = .seq its n/\its.size<=sizeLine/\Vals xs its.toList
noncomputable def zm7:Value->Option V
 |.none=>some .non
 |.bool b=>some (.bl b)
 |.int i _=>some (.int i)
 |.str x _=>some (.str x)
 |.bytes b _=>some (.byt b)
 |.float b _=>some (.flt b)
 |.ref a=>some (.ref a)
 |.type n=>some (.ty n)
 |_=>none
def RelV.abs{x:V}(r:RelV x u):zm7 u=some x:=by
 cases x with
 |non=>cases r;rfl
 |bl _=>cases r;rfl
 |int _=>obtain⟨t,rfl⟩:=r;rfl
 |str _=>obtain⟨t,rfl⟩:=r;rfl
 |byt _=>obtain⟨t,rfl⟩:=r;rfl
 |flt _=>obtain⟨t,rfl⟩:=r;rfl
 |ref _=>cases r;rfl
 |ty _=>cases r;rfl
def RelV.inj{x y:V}(r:RelV x u)(q:RelV y u):x=y:=Ip (r.abs.symm.trans q.abs)
theorem Vals.inj:∀{xs ys:LC}{us:LD},Vals xs us->Vals ys us->xs=ys
 |_,_,_,.nil,.nil=>rfl
 |_,_,_,.cons r t,.cons r' t' => by rw[r.inj r',Vals.inj t t']
section
variable {X:Cx}{aa:List (Addr×Obj)}{σ:St}{H:Hp}{s:SH}{a:AD}{xs ys:LC}
def SqL.of{K:FG}(h:H a=some (.lst xs)):SqL K H a xs:=.inl (.inl h)
def SqT.of{K:FG}(h:H a=some (.tup xs)):SqT K H a xs:=.inl (.inl h)
def Inv.list(I:Inv X aa σ H s)(h:SqL X.K H a xs):∃ its:LD,Vals xs its/\PlainL s.heap a its.toArray/\xs.length<=sizeLine:=by
 rcases h with h | ⟨o,its,n,hk,hc,hd,hs,hz,r⟩
 .obtain⟨z,its,n,r,e⟩:=h.ok I.ac;exact⟨its,r,⟨_,n,e,rfl,rfl,rfl⟩,z⟩
 .refine⟨its.toList,r,⟨o,n,I.kIn a o hk,hc,hd,by simpa using hs⟩,?_⟩;have e:=r.length;simp only[length_toList]at e;omega
def Inv.tuple(I:Inv X aa σ H s)(h:SqT X.K H a xs):∃ its:LD,Vals xs its/\IsTup s.heap a its.toArray/\xs.length<=sizeLine:=by
 rcases h with h | ⟨o,its,n,hk,hc,hs,hz,r⟩
 .obtain⟨z,its,r,p,_⟩:=h.ok I.ac;exact⟨its,r,p,z⟩
 .refine⟨its.toList,r,⟨o,I.kIn a o hk,hc,n,by simpa using hs⟩,?_⟩;have e:=r.length;simp only[length_toList]at e;omega
def Inv.V8(I:Inv X aa σ H s)(h:SqL X.K H a xs)(h' : SqL X.K H a ys):xs=ys:=by
 obtain⟨its,r,⟨o,n,e,_,_,d⟩,_⟩:=I.list h;obtain⟨its',r',⟨o',n',e',_,_,d'⟩,_⟩:=I.list h';rw[e]at e';cases e';rw[d]at d';injection d' with d1 _;have:its=its':=by simpa using Na Array.toList d1
 subst this;exact r.inj r'
def Inv.Uw(I:Inv X aa σ H s)(h:SqT X.K H a xs)(h' : SqT X.K H a ys):xs=ys:=by
 obtain⟨its,r,⟨o,e,_,n,d⟩,_⟩:=I.tuple h;obtain⟨its',r',⟨o',e',_,n',d'⟩,_⟩:=I.tuple h';rw[e]at e';cases e';rw[d]at d';injection d' with d1 _;have:its=its':=by simpa using Na Array.toList d1
 subst this;exact r.inj r'
end
abbrev Cx.wish(X:Cx)(E:Value->SH->Prop):Cx:={X with xe:=E}
abbrev Cx.nox(X:Cx):Cx:=X.wish λ_ _=>False
theorem Cx.Ok.wish{X:Cx}(ok:X.Ok)(E:Value->SH->Prop):(X.wish E).Ok:=⟨ok.mod,ok.kind,ok.glob,ok.blt,ok.above,ok.inj,ok.has,ok.cab,ok.hd,ok.frames,ok.stk,ok.exf,ok.bs,ok.bsz,ok.noex,ok.exfs,ok.zaY,ok.frf⟩
def Cx.Ok.JZ{X:Cx}(ok:(X.wish E).Ok):X.Ok:=⟨ok.mod,ok.kind,ok.glob,ok.blt,ok.above,ok.inj,ok.has,ok.cab,ok.hd,ok.frames,ok.stk,ok.exf,ok.bs,ok.bsz,ok.noex,ok.exfs,ok.zaY,ok.frf⟩
section
variable {X:Cx}{aa:List (Addr×Obj)}{σ:St}{H:Hp}{s:SH}{E:Value->SH->Prop}
theorem Inv.wish(I:Inv X aa σ H s)(E:Value->SH->Prop):Inv (X.wish E) aa σ H s:=⟨I.ok.wish E,I.os,I.bare,I.base,I.loc,I.cell,I.free,I.freeC,I.pin,I.ac,I.len⟩
theorem Inv.JZ(I:Inv (X.wish E) aa σ H s):Inv X aa σ H s:=⟨I.ok.JZ,I.os,I.bare,I.base,I.loc,I.cell,I.free,I.freeC,I.pin,I.ac,I.len⟩
theorem SP.JZ{D:Ends}{f:Flow}{s' : SH}(h:SP (X.wish E) aa D f s'):SP X aa D f s':=by
 cases f with
 |next=>obtain⟨σ',H',I,q⟩:=h;exact⟨σ',H',I.JZ,q⟩
 |brk=>obtain⟨σ',H',I,q⟩:=h;exact⟨σ',H',I.JZ,q⟩
 |cont=>obtain⟨σ',H',I,q⟩:=h;exact⟨σ',H',I.JZ,q⟩
 |ret u=>obtain⟨v,σ',H',I,r,q⟩:=h;exact⟨v,σ',H',I.JZ,r,q⟩
theorem PSs.nox{st:List Stmt}{t:TS}(h:PSs X.nox st t):PSs X st t:=λaa s σ H D I hw=>IK (h aa s σ H D (I.wish _) hw) (λ_ _ q=>q.JZ) λ_ _ z=>False.elim z
end
section
variable {X:Cx}{st:Stmt}{rest:List Stmt}{t u:TS}{e:Expr}{te:TE}{pos:Pos}
def zmU:TS:=λD σ H=>D.nx σ H
def zi8(t u:TS):TS:=λD σ H=>t {D with nx:=u D} σ H
def ZL:PSs X [] zmU:=λ_ _ σ H _ I h=>Oj ⟨σ,H,I,h⟩
def Ze(h1:PS X st t)(h2:PSs X rest u):PSs X (st::rest) (zi8 t u):=by
 intro aa s σ H D I h;refine wpAny_execs_cons (thn (h1 aa s σ H {D with nx:=u D} I h) λf s1 q=>?_);cases f with
 |next=>obtain⟨σ',H',I',q⟩:=q;exact h2 aa s1 σ' H' D I' q
 |ret v=>exact q
 |brk=>exact q
 |cont=>exact q
def Zo(h1:PS X st t):PSs X [st] t:=by
 intro aa s σ H D I h;refine wpAny_execs_cons (thn (h1 aa s σ H D I h) λf s1 q=>?_);cases f with
 |next=>exact Oj q
 |ret v=>exact q
 |brk=>exact q
 |cont=>exact q
def Inv.quiet{σ:St}{H:Hp}(I:Inv X aa σ H s):interactive X.env=false:=by simp[interactive,I.ok.kind]
def zl0(te:TE):TS:=λD σ H=>te σ H λ_ H1=>D.nx σ H1
def JK(he:PE X e te)(hs:swapsWith e none pos.line X.env=pure false:=by rfl):PS X (.Expr e pos) (zl0 te):=by intro aa s σ H D I h;exact wpAny_Expr_any (thn (he aa s σ H _ I h) λv s1 ⟨x,H1,I1,r1,q1⟩=>⟨σ,H1,I1,q1⟩) I.quiet hs
def zmg(te:TE):TS:=λD σ H=>te σ H D.rt
def Zx(he:PE X e te):PS X (.Return (some e) pos) (zmg te):=by intro aa s σ H D I h;exact wpAny_Return_some (thn (he aa s σ H _ I h) λv s1 ⟨x,H1,I1,r1,q1⟩=>⟨x,σ,H1,I1,r1,q1⟩)
def zjK(c:TT)(t u:TS):TS:=λD σ H=>c σ H λb H1=>if b=true then t D σ H1 else u D σ H1
def YB{c:Expr}{a b:List Stmt}{tc:TT}(hc:PT X c tc)(ha:PSs X a t)(hb:PSs X b u):PS X (.If c a b pos) (zjK tc t u):=by
 intro aa s σ H D I h;refine wpAny_If (thn (hc aa s σ H _ I h) λd s1 ⟨H1,I1,q1⟩=>?_);cases d with
 |true=>exact ha aa s1 σ H1 D I1 q1
 |false=>exact hb aa s1 σ H1 D I1 q1
def zkA:TS:=λ_ _ _=>False
def Q6{sts:List Stmt}:PSs X sts zkA:=λ_ _ _ _ _ _ h=>h.elim
end
abbrev TG:=V->St->Hp->(St->Hp->Prop)->Prop
abbrev TGs:=LC->St->Hp->(St->Hp->Prop)->Prop
def PG(X:Cx)(target:Expr)(t:TG):Prop:=
 ∀(aa:List (Addr×Obj))(s:SH)(σ:St)(H:Hp)(v:V)(u:Value)(Q:St->Hp->Prop),Inv X aa σ H s->RelV v u->t v σ H Q->
  wpAny (model X.prog X.w) X.A (assign target X.env u) (λ_ s' => ∃ σ' H',Inv X aa σ' H' s' /\ Q σ' H') X.xe s
def PGs(X:Cx)(ts:List Expr)(t:TGs):Prop:=
 ∀(aa:List (Addr×Obj))(s:SH)(σ:St)(H:Hp)(vs:LC)(us:LD)(Q:St->Hp->Prop),Inv X aa σ H s->Vals vs us->t vs σ H Q->
  wpAny (model X.prog X.w) X.A (assignInOrder ((assignEach ts X.env).map (·.2)) us) (λ_ s' => ∃ σ' H',Inv X aa σ' H' s' /\ Q σ' H') X.xe s
abbrev zmR:=V->V->V->Hp->(Hp->Prop)->Prop
def znd(X:Cx)(t:zmR):Prop:=
 ∀(aa:List (Addr×Obj))(s:SH)(σ:St)(H:Hp)(o i v:V)(ov iv u:Value)(Q:Hp->Prop),Inv X aa σ H s->RelV o ov->RelV i iv->RelV v u->t o i v H Q->
  wpAny (model X.prog X.w) X.A (setItem ov iv u) (λ_ s' => ∃ H',Inv X aa σ H' s' /\ Q H') X.xe s
section
variable {X:Cx}{pos:Pos}
def VP(i:Nat):TG:=λv σ H Q=>Q (σ.set i (some v)) H
def YD(hN:X.N.Nodup)(hi:X.N[i]?=some x)(hx:Loc X.env.scope x)(hf:X.fn x=true\/X.env.scope.names.lookup x=some .local:=by first | exact .inl rfl | exact .inr rfl | assumption):PG X (.Name x pos) (VP i):=by intro aa s σ H v u Q I r h;exact wpAny_assign_Name (Qi I hN hi hx r (λs' I' => ⟨_,H,I',h⟩) hf)
def zmQ:TGs:=λvs σ H Q=>vs=[]/\Q σ H
def zfl(t:TG)(u:TGs):TGs:=λvs σ H Q=>∃ v r,vs=v::r/\t v σ H fun σ' H' => u r σ' H' Q
def Vo:PGs X [] zmQ:=by intro aa s σ H vs us Q I r h;obtain⟨e,h⟩:=h;subst e;cases r;exact assignInOrder_nil ⟨σ,H,I,h⟩
def Xq{es:List Expr}{t:TG}{u:TGs}(h1:PG X e t)(h2:PGs X es u)(hs:(assignEach (e::es) X.env).map (·.2)=assign e X.env::(assignEach es X.env).map (·.2):=by rfl):PGs X (e::es) (zfl t u):=by
 intro aa s σ H vs us Q I r h;obtain⟨v,vr,e1,h⟩:=h;subst e1;cases r with
 |cons r rr=>rw[hs];refine assignInOrder_cons (thn (h1 aa s σ H _ _ _ I r h) λ_ s1 ⟨σ1,H1,I1,q1⟩=>?_);exact h2 aa s1 σ1 H1 _ _ Q I1 rr q1
def zmE(K:FG)(n:Nat)(t:TGs):TG:=λv σ H Q=>∃ a xs,v = .ref a/\SqT K H a xs/\xs.length=n/\t xs σ H Q
def zb4{es:List Expr}{t:TGs}{n:Nat}(hc:X.calm=true)(h:PGs X es t)(hn:(assignEach es X.env).length=n:=by rfl)(hst:(assignEach es X.env).findIdx? (·.1)=none:=by rfl):PG X (.Tuple es k pos) (zmE X.K n t):=by
 intro aa s σ H v u Q I r hw;obtain⟨a,xs,e1,hq,hl,hw⟩:=hw;subst e1;cases r;obtain⟨its,rv,ht,hz⟩:=I.tuple hq;refine assign_Tuple_tuple (I.ok.hd hc) ht (by simp[hn,← hl,rv.length]) hst λh' hx=>?_;have I1:Inv X aa σ H {s with heap:=h'}:=I.kept (t':=s.toks) λb o e=>hx b o (IM (IB e)) e;exact h aa _ σ H xs _ Q I1 (by simpa using rv) hw
def znE(to ti:TE)(t:zmR):TG:=λv σ H Q=>to σ H λo H1=>ti σ H1 λi H2=>t o i v H2 λH3=>Q σ H3
def zhG{o i:Expr}{to ti:TE}{t:zmR}(ho:PE X o to)(hi:PE X i ti)(hs:znd X t)(ha:∀ v,assign (.Subscript o i pos) X.env v=(do
   let ov ← holding [v] (eval o X.env)
   let iv ← holding [v,ov] (eval i X.env)
   standAt pos
   holding [v,ov,iv] (setItem ov iv v)
   release [v,ov,iv] []):=by intro _;rfl):PG X (.Subscript o i pos) (znE to ti t):=by
 intro aa s σ H v u Q I r h;rw[ha];refine Ia (IV (thn (ho aa s σ H _ I h) λov s1 ⟨x,H1,I1,r1,q1⟩=>?_));refine Ia (IV (thn (hi aa s1 σ H1 _ I1 q1) λiv s2 ⟨y,H2,I2,r2,q2⟩=>?_));refine Ia (N8 (Ia (IV (thn (hs aa s2 σ H2 x y v ov iv u _ I2 r1 r2 r q2) λ_ s3 ⟨H3,I3,q3⟩=>?_))));exact wpAny_release ⟨σ,H3,I3,q3⟩
def zjZ(te:TE)(g:TG):TS:=λD σ H=>te σ H λx H1=>g x σ H1 D.nx
def zfF{te:TE}{g:TG}(he:PE X e te)(hg:PG X tg g)(hs:swapsWithSole [tg] e pos.line X.env=pure false:=by rfl)(hw:swappedStores [tg] e X.env=pure none:=by rfl)(h1:(assignEach [tg] X.env).map (·.2)=[assign tg X.env]:=by rfl):PS X (.Assign [tg] e pos) (zjZ te g):=by
 intro aa s σ H D I h;refine wpAny_Assign_stores (thn (he aa s σ H _ I h) λv s1 ⟨x,H1,I1,r1,q1⟩=>?_) hs hw;rw[h1];exact thn (hg aa s1 σ H1 x v _ I1 r1 q1) λ_ s2 q=>q
def Zy{te:TE}{pos' : Pos}(hN:X.N.Nodup)(hi:X.N[i]?=some x)(hx:Loc X.env.scope x)(he:PE X e te)(hs:swapsWith e (some (.Name x pos')) pos.line X.env=pure false:=by rfl)(hf:X.fn x=true\/X.env.scope.names.lookup x=some .local:=by first | exact .inl rfl | exact .inr rfl | assumption):
  PS X (.Assign [.Name x pos'] e pos) (zjZ te (VP i)):=by
 intro aa s σ H D I h;refine wpAny_Assign_Name (thn (he aa s σ H _ I h) λv s1 ⟨y,H1,I1,r1,q1⟩=>?_) hs;exact Qi I1 hN hi hx r1 (λs2 I2=>⟨_,H1,I2,q1⟩) hf
def zhy(c:TT)(tb:TS):TS:=λD σ H=>∃ W:Nat->St->Hp->Prop,(∃ m,W m σ H)/\∀ m σ H,W m σ H->
 c σ H λb H1=>if b=true then ∃ N:St->Hp->Prop,(∀ σ' H',N σ' H' -> ∃ m',m'<m/\W m' σ' H')/\tb {D with nx:=N,ct:=N,bk:=D.nx} σ H1 else D.nx σ H1
def zaQ{c:Expr}{tc:TT}{tb:TS}(hp:PassesOwn (model X.prog X.w) X.A X.env X.xe)(hc:PT X c tc)(hb:PSs X body tb):PS X (.While c body [] pos) (zhy tc tb):=by
 intro aa s σ H D I h;obtain⟨W,⟨m0,w0⟩,turn⟩:=h;refine wpAny_While (codeAny_whileLoop (λn s' => ∃ σ' H',Inv X aa σ' H' s' /\ W n σ' H') ?_ m0 ⟨σ,H,I,w0⟩);rintro n s1 ⟨σ1,H1,I1,w1⟩;refine N5 hp (thn (hc aa s1 σ1 H1 _ I1 (turn n σ1 H1 w1)) λb s2 ⟨H2,I2,q2⟩=>?_);cases b with
 |true=>
  obtain⟨N,hN,q2⟩:=q2;rw[IA rfl];refine N5 hp (thn (hb aa s2 σ1 H2 _ I2 q2) λf s3 q3=>?_);cases f with
  |next=>obtain⟨σ3,H3,I3,n3⟩:=q3;obtain⟨m',hm,w3⟩:=hN σ3 H3 n3;exact⟨m',hm,σ3,H3,I3,w3⟩
  |cont=>obtain⟨σ3,H3,I3,n3⟩:=q3;obtain⟨m',hm,w3⟩:=hN σ3 H3 n3;exact⟨m',hm,σ3,H3,I3,w3⟩
  |brk=>exact q3
  |ret v=>exact q3
 |false=>rw[Iw Ij];exact Oj ⟨σ1,H2,I2,q2⟩
end
structure It where
 go:Nat->Hp->Prop
 yld:Nat->Hp->V->Hp->Prop
 stop:Nat->Hp->Prop
def zep(X:Cx)(aa:List (Addr×Obj))(H:Hp)(b:AD):Prop:=H b=none/\b≠X.env.locals/\b∉X.fs/\(b∈X.ex\/X.s₀.heap.objs.size<=b)/\(∀ x c,X.env.cells.lookup x=some c->c≠b)/\∀ p∈X.pn++aa,p.1≠b
def Inv.zjW{X:Cx}{σ:St}{H H' : Hp}(I:Inv X aa σ H s)(hb:s.heap.objs.size<=b)(hn:H' b=none):zep X aa H' b:=by
 refine⟨hn,ne_of_gt (Iu I.lt hb),I.znv hb,.inr (Nj I.sz hb),λx c e z=>?_,λp hp z=>?_⟩
 .obtain⟨v,q⟩:=I.cell x c e;exact absurd (Iu q.lt (by rw[z];exact hb)) (Oo _)
 .exact absurd (Iu (IB (I.pin p hp).1) (by rw[z];exact hb)) (Oo _)
structure Turn(P:Program)(w:World)(K:FG)(tg:Expr)(J:It)(fp:LG)(it:AD)(tn:Nat->Heap->Prop):Prop where
 mem:it∈fp
 obj:∀ i h,tn i h->∀ b∈fp,∃ o,h.get? b=some o/\∀ v,o.data≠.cell v
 keep:∀ i h h',tn i h->(∀ b∈fp,∀ o,h.get? b=some o->h'.get? b=some o)->tn i h'
 item:∀(X:Cx),X.prog=P->X.w=w->X.K=K->X.calm=true->∀(i:Nat)(aa:List (Addr×Obj))(s:SH)(σ:St)(H:Hp)(E:Value->SH->Prop),Inv X aa σ H s->(∀ b∈fp,zep X aa H b)->tn i s.heap->J.go i H->
  wpAny (model P w) X.A (pyNext (.ref it)) (λr s1=>∃ u,r=some u/\
   wpAny (model P w) X.A (letOwnedTupleGo tg (.ref it) u) (λ_ s2=>∃ x H',Inv X aa σ H' s2/\RelV x u/\J.yld i H x H' /\ tn (i+1) s2.heap/\∀ b∈fp,H' b=none) E s1) E s
 done:∀(X:Cx),X.prog=P->X.w=w->X.K=K->X.calm=true->∀(i:Nat)(aa:List (Addr×Obj))(s:SH)(σ:St)(H:Hp)(E:Value->SH->Prop),Inv X aa σ H s->(∀ b∈fp,zep X aa H b)->tn i s.heap->J.stop i H->
  wpAny (model P w) X.A (pyNext (.ref it)) (λr s1=>r=none/\Inv X aa σ H s1) E s
 self:∀(A:Around)(i:Nat)(s:SH)(Q:Value->SH->Prop)(E:Value->SH->Prop),tn i s.heap->Q (.ref it) s->wpAny (model P w) A (pyIter (.ref it)) Q E s
abbrev TI:=St->Hp->(It->Hp->Prop)->Prop
def PIE(X:Cx)(aa:List (Addr×Obj))(σ:St)(tg:Expr)(R:It->Hp->Prop)(itv:Value)(s2:SH):Prop:=∃(it:AD)(fp:LG)(tn:Nat->Heap->Prop)(J:It)(H' : Hp),itv = .ref it/\Inv X aa σ H' s2/\Turn X.prog X.w X.K tg J fp it tn/\tn 0 s2.heap/\(∀ b∈fp,zep X aa H' b)/\R J H'
def PI(X:Cx)(tg iter:Expr)(wi:TI):Prop:=
 ∀(aa:List (Addr×Obj))(s:SH)(σ:St)(H:Hp)(R:It->Hp->Prop),Inv X aa σ H s->wi σ H R->
  wpAny (model X.prog X.w) X.A (eval iter X.env) (λv s1=>wpAny (model X.prog X.w) X.A (pyIter v) (PIE X aa σ tg R) X.xe s1) X.xe s
def zgP{it:AD}{o:Obj}{n:String}{vs:Array Value}{Q:Unit->SH->Prop}(ho:s.heap.get? it=some o)(hc:o.cls = .type n)(hd:o.data = .fields vs)(hn:["enumerate", "zip", "dict_itemiterator", "dict_reverseitemiterator", "odict_iterator", "itertools.zip_longest", "itertools.pairwise"].contains n=false)(hQ:Q () s):wpAny M A (letOwnedTupleGo tg (.ref it) u) Q E s:=by
 unfold letOwnedTupleGo;cases tg <;> first
  |exact Ic hQ
  |(cases u <;> first
    |exact Ic hQ
    |(refine Ia (wpAny_load ho ?_);rw[hc,hd];show wpAny M A (if(["enumerate", "zip", "dict_itemiterator", "dict_reverseitemiterator", "odict_iterator", "itertools.zip_longest", "itertools.pairwise"].contains n&&vs[0]?==some (rawInt _))=true then _ else _) Q E s;rw[Iw (by intro h;rw[hn,Bool.false_and]at h;cases h)];exact Ic hQ))
noncomputable def Itl(K:FG)(a:AD):It:=⟨λi H=>∃ xs x,SqL K H a xs/\xs[i]?=some x,λi H x H' => H'=H/\∀ xs,SqL K H a xs->xs[i]?=some x,λi H=>∃ xs,SqL K H a xs/\xs.length<=i⟩
noncomputable def Itt(K:FG)(a:AD):It:=⟨λi H=>∃ xs x,SqT K H a xs/\xs[i]?=some x,λi H x H' => H'=H/\∀ xs,SqT K H a xs->xs[i]?=some x,λi H=>∃ xs,SqT K H a xs/\xs.length<=i⟩
noncomputable def Itr(lo:Int)(n:Nat):It:=⟨λi _=>i<n,λi H x H' => H'=H/\x = .int (lo+i),λi _=>n<=i⟩
def zex{P:Program}{w:World}{K:FG}(a it:AD):Turn P w K tg (Itl K a) [it] it (λi h=>h.IsListIter it a i) where
 mem:=by simp
 obj:=λi h st b hb=>by
  have e:b=it:=by simpa using hb
  subst e;obtain⟨o,e,c,d⟩:=st;exact⟨o,e,λv z=>by rw[d]at z;cases z⟩
 keep:=λi h h' st k=>st.at λo e=>k it (by simp) o e
 item:=by intro X hP hw hK hc i aa s σ H E I hf st hg;subst hP hw hK;obtain⟨xs,x,hq,hx⟩:=hg;obtain⟨its,rv,p,hz⟩:=I.list hq;obtain⟨u,hu,ru⟩:=rv.get hx;obtain⟨f0,f1,f2,f3,f4,f5⟩:=hf it (by simp);refine wpAny_pyNext_list_item st p.isList (x:=u) (by simpa using hu) λh' st' sb=>?_;have I1:Inv X aa σ H {s with heap:=h'}:=I.turned (t':=s.toks) (λb o hb e=>(sb.2 b hb).trans e) f0 f1 f3 f4 f5;obtain⟨o,e,c,d⟩:=id st';exact⟨u,rfl,zgP (s:={s with heap:=h'}) e c d (by decide) ⟨x,H,I1,ru,⟨rfl,λys hy=>by rw[I.V8 hy hq];exact hx⟩,st',λb hb=>(hf b hb).1⟩⟩
 done:=by intro X hP hw hK hc i aa s σ H E I hf st hg;subst hP hw hK;obtain⟨xs,hq,hx⟩:=hg;obtain⟨its,rv,p,hz⟩:=I.list hq;obtain⟨f0,f1,f2,f3,f4,f5⟩:=hf it (by simp);have hl:=rv.length;exact wpAny_pyNext_list_end (I.ok.hd hc) st p.isList (by simp;omega) λh' eb=>⟨rfl,I.turned (t':=s.toks) (λb o hb e=>eb b o hb e) f0 f1 f3 f4 f5⟩
 self:=λ_ _ _ _ _ st h=>wpAny_pyIter_listiter st h
def zdH{P:Program}{w:World}{K:FG}(a it:AD):Turn P w K tg (Itt K a) [it] it (λi h=>h.IsTupleIter it a i) where
 mem:=by simp
 obj:=λi h st b hb=>by
  have e:b=it:=by simpa using hb
  subst e;obtain⟨o,e,c,d⟩:=st;exact⟨o,e,λv z=>by rw[d]at z;cases z⟩
 keep:=λi h h' st k=>st.at λo e=>k it (by simp) o e
 item:=by intro X hP hw hK hc i aa s σ H E I hf st hg;subst hP hw hK;obtain⟨xs,x,hq,hx⟩:=hg;obtain⟨its,rv,p,hz⟩:=I.tuple hq;obtain⟨u,hu,ru⟩:=rv.get hx;obtain⟨f0,f1,f2,f3,f4,f5⟩:=hf it (by simp);refine wpAny_pyNext_tuple_item st (show s.heap.IsTuple a its.toArray from p) (x:=u) (by simpa using hu) λh' st' sb=>?_;have I1:Inv X aa σ H {s with heap:=h'}:=I.turned (t':=s.toks) (λb o hb e=>(sb.2 b hb).trans e) f0 f1 f3 f4 f5;obtain⟨o,e,c,d⟩:=id st';exact⟨u,rfl,zgP (s:={s with heap:=h'}) e c d (by decide) ⟨x,H,I1,ru,⟨rfl,λys hy=>by rw[I.Uw hy hq];exact hx⟩,st',λb hb=>(hf b hb).1⟩⟩
 done:=by intro X hP hw hK hc i aa s σ H E I hf st hg;subst hP hw hK;obtain⟨xs,hq,hx⟩:=hg;obtain⟨its,rv,p,hz⟩:=I.tuple hq;obtain⟨f0,f1,f2,f3,f4,f5⟩:=hf it (by simp);have hl:=rv.length;exact wpAny_pyNext_tuple_end (I.ok.hd hc) st (show s.heap.IsTuple a its.toArray from p) (by simp;omega) λh' eb=>⟨rfl,I.turned (t':=s.toks) (λb o hb e=>eb b o hb e) f0 f1 f3 f4 f5⟩
 self:=λ_ _ _ _ _ st h=>wpAny_pyIter_tupleiter st h
def zd1{P:Program}{w:World}{K:FG}(it:AD)(lo:Int)(n:Nat):Turn P w K tg (Itr lo n) [it] it (λi h=>IsRangeIter h it (lo+(i:Nat)*1) ((n:Int)-(i:Nat)) 1) where
 mem:=by simp
 obj:=λi h st b hb=>by
  have e:b=it:=by simpa using hb
  subst e;exact⟨_,st,λv z=>by
   have z' : Data.fields _=Data.cell v:=z;cases z'⟩
 keep:=λi h h' st k=>k it (by simp) _ st
 item:=by intro X hP hw hK hc i aa s σ H E I hf st hg;subst hP hw hK;obtain⟨f0,f1,f2,f3,f4,f5⟩:=hf it (by simp);have W:=Walks.range (prog:=X.prog) (w:=X.w) (I.ok.hd hc) it lo 1 n;refine W.item i s _ _ hg st λv h' tk hv st' kk=>?_;obtain⟨t,rfl⟩:=hv;have I1:Inv X aa σ H {s with heap:=h',toks:=tk}:=I.turned (λb o hb e=>kk b o (by simpa using hb) e) f0 f1 f3 f4 f5;refine⟨_,rfl,zgP (s:={s with heap:=h',toks:=tk}) (n:= "range_iterator") st' rfl rfl (by decide) ⟨.int (lo+i),H,I1,⟨t,?_⟩,⟨rfl,rfl⟩,st',λb hb=>(hf b hb).1⟩⟩;rw[Int.mul_one]
 done:=by intro X hP hw hK hc i aa s σ H E I hf st hg;subst hP hw hK;obtain⟨f0,f1,f2,f3,f4,f5⟩:=hf it (by simp);exact wpAny_pyNext_range_end (I.ok.hd hc) st (by have:n<=i:=hg;omega) λh' eb=>⟨rfl,I.turned (t':=s.toks) (λb o hb e=>eb b o hb e) f0 f1 f3 f4 f5⟩
 self:=λ_ _ _ _ _ st h=>wpAny_pyIter_rangeiter st h
section
variable {X:Cx}{tg:Expr}
def zjs(K:FG)(tl:TE):TI:=fun σ H R=>tl σ H λx H1=>∃ a,x = .ref a/\(∃ xs,SqL K H1 a xs)/\R (Itl K a) H1
def zlx(K:FG)(tl:TE):TI:=fun σ H R=>tl σ H λx H1=>∃ a,x = .ref a/\(∃ xs,SqT K H1 a xs)/\R (Itt K a) H1
def Vl{l:Expr}{tl:TE}(hl:PE X l tl):PI X tg l (zjs X.K tl):=by
 intro aa s σ H R I h;refine thn (hl aa s σ H _ I h) λv s1 ⟨x,H1,I1,r1,q1⟩=>?_;obtain⟨a,e,⟨xs,hq⟩,q⟩:=q1;subst e;cases r1;obtain⟨its,rv,p,hz⟩:=I1.list hq;refine wpAny_pyIter_list p.isList ?_;refine⟨s1.heap.objs.size,[s1.heap.objs.size],_,_,H1,rfl,I1.kept (t':=s1.toks) λb o e=>Ie _ e,zex a _,⟨_,Il _ rfl,rfl,rfl⟩,λb hb=>?_,q⟩;have e:b=s1.heap.objs.size:=by simpa using hb
 subst e;exact I1.zjW (Ih _) (I1.ac.fresh (Ih _))
def Ql{l:Expr}{tl:TE}(hl:PE X l tl):PI X tg l (zlx X.K tl):=by
 intro aa s σ H R I h;refine thn (hl aa s σ H _ I h) λv s1 ⟨x,H1,I1,r1,q1⟩=>?_;obtain⟨a,e,⟨xs,hq⟩,q⟩:=q1;subst e;cases r1;obtain⟨its,rv,p,hz⟩:=I1.tuple hq;refine wpAny_pyIter_tuple (show s1.heap.IsTuple a its.toArray from p) ?_;refine⟨s1.heap.objs.size,[s1.heap.objs.size],_,_,H1,rfl,I1.kept (t':=s1.toks) λb o e=>Ie _ e,zdH a _,⟨_,Il _ rfl,rfl,rfl⟩,λb hb=>?_,q⟩;have e:b=s1.heap.objs.size:=by simpa using hb
 subst e;exact I1.zjW (Ih _) (I1.ac.fresh (Ih _))
def zhn{σ:St}{H:Hp}{R:It->Hp->Prop}{lo hi:Int}{t u v:Tok}{tk:Nat}(I:Inv X aa σ H s)(h1:-(2^62)<=lo)(h2:lo<2^62)(h3:-(2^62)<=hi)(h4:hi<2^62)(q:R (Itr lo (hi-lo).toNat) H):wpAny (model X.prog X.w) X.A (pyIter (.ref s.heap.objs.size)) (PIE X aa σ tg R) E {s with heap:=s.heap.push {cls:=.type "range",data:=.fields #[.int lo t,.int hi u,.int 1 v]},toks:=tk}:=by
 refine wpAny_pyIter_range (IsRange.new ..) (small_one h1 h2 h3 h4) ?_;have I1:Inv X aa σ H {s with heap:=s.heap.push {cls:=.type "range",data:=.fields #[.int lo t,.int hi u,.int 1 v]},toks:=tk}:=I.kept λb o e=>Ie _ e;refine⟨(s.heap.push {cls:=.type "range",data:=.fields #[.int lo t,.int hi u,.int 1 v]}).objs.size,[(s.heap.push {cls:=.type "range",data:=.fields #[.int lo t,.int hi u,.int 1 v]}).objs.size],_,_,H,rfl,
  I1.kept (t':=tk) λb o e=>Ie _ e,zd1 _ lo (hi-lo).toNat,?_,λb hb=>?_,q⟩
 .have e1:lo+((0:Nat):Int)*1=lo:=by simp
  have e2:(((hi-lo).toNat:Nat):Int)-((0:Nat):Int)=Builtin.Range.rangeSize lo hi 1:=by rw[rangeSize_one];split <;> omega
  show IsRangeIter _ _ (lo+((0:Nat):Int)*1) ((((hi-lo).toNat:Nat):Int)-((0:Nat):Int)) 1;rw[e1,e2];exact Il _ rfl
 .have e:b=(s.heap.push {cls:=.type "range",data:=.fields #[.int lo t,.int hi u,.int 1 v]}).objs.size:=by simpa using hb
  subst e;exact I1.zjW (Ih _) (I1.ac.fresh (Ih _))
def ziC(ta:TA):TI:=fun σ H R=>ta σ H λvs H1=>∃ j:Int,vs=[.int j]/\-(2^62)<=j/\j<2^62/\R (Itr 0 j.toNat) H1
def Wt{a:Expr}{ta:TA}{p:Pos}(hg:Gl X "range")(hm:X.mg "range" = none)(ha:PA X [a] ta)(hs:starEach [a] X.env=[(false,eval a X.env)]:=by rfl):PI X tg (.Call (.Name "range" p) [a] [] pos) (ziC ta):=by
 intro aa s σ H R I h;refine Call_ (Qo I hg hm boot_range (IZ (thn (ha pos aa s σ H _ I h) λus s1 ⟨vs,H1,I1,r1,q1⟩=>?_) hs rfl));obtain⟨j,e,q1,q2,q⟩:=q1;subst e;cases r1 with
 |cons r rr=>cases rr;obtain⟨t,rfl⟩:=r;exact call_range_1 (zhn I1 (by omega) (by omega) q1 q2 (by simpa using q))
def znA(wi:TI)(g:TG)(tb:TS):TS:=λD σ H=>wi σ H λJ H1=>∃ W:Nat->Nat->St->Hp->Prop,(∃ m,W 0 m σ H1)/\∀ i m σ H,W i m σ H->
 (J.stop i H/\D.nx σ H)\/(J.go i H/\∃ N:St->Hp->Prop,(∀ σ' H',N σ' H' -> ∃ m',m'<m/\W (i+1) m' σ' H')/\∀ x H',J.yld i H x H' -> g x σ H' fun σ2 H2=>tb {D with nx:=N,ct:=N,bk:=D.nx} σ2 H2)
noncomputable def Vx(fp:LG)(h:Heap):List (Addr×Obj):=fp.filterMap λb=>(h.get? b).map λo=>(b,o)
def Vq{o:Obj}(hb:b∈fp)(e:h.get? b=some o):(b,o)∈Vx fp h:=OA.mpr ⟨b,hb,by rw[e];rfl⟩
def zca{p:AD×Obj}(hp:p∈Vx fp h):p.1∈fp/\h.get? p.1=some p.2:=by
 obtain⟨b,hb,e⟩:=OA.mp hp;cases q:h.get? b with
 |none=>rw[q]at e;cases e
 |some o=>rw[q]at e;have e' : (b,o)=p:=Ip e;subst e';exact⟨hb,q⟩
def Inv.pinned{σ:St}{H:Hp}(I:Inv X aa σ H s)(hf:∀ b∈fp,zep X aa H b)(ho:∀ b∈fp,∃ o,s.heap.get? b=some o/\∀ v,o.data≠.cell v):Inv X (aa++Vx fp s.heap) σ H s:=
 I.Q9 λp hp=>(NN.mp hp).elim (λz=>I.pin p (IH _ z)) λz=>by obtain⟨hb,e⟩:=zca z;obtain⟨f0,f1,f2,_⟩:=hf p.1 hb;obtain⟨o,e',d⟩:=ho p.1 hb;rw[e]at e';cases e';exact⟨e,f0,f1,f2,d⟩
def Inv.QS{pl:List (Addr×Obj)}{σ:St}{H:Hp}(I:Inv X (aa++pl) σ H s):Inv X aa σ H s:=I.Q9 λp hp=>I.pin p (IH _ (List.mem_append_left _ hp))
def JR{iter:Expr}{wi:TI}{g:TG}{tb:TS}(hp:PassesOwn (model X.prog X.w) X.A X.env X.xe)(hc:X.calm=true)(hi:PI X tg iter wi)(hg:PG X tg g)(hb:PSs X body tb)(hs:∀ x,foldedSetIterable iter X.env x=pure x:=by intro _;rfl):PS X (.For tg iter body [] pos) (znA wi g tb):=by
 intro aa s σ H D I h;refine wpAny_For (thn (hi aa s σ H _ I h) λv s1 h1=>thn h1 λitv s2 h2=>?_) hs;obtain⟨it,fp,tn,J,H2,e,I2,T,st2,f2,W,⟨m0,w0⟩,turn⟩:=h2;subst e;have stat:∀{H' : Hp},(∀ b∈fp,H' b=none)->∀ b∈fp,zep X aa H' b:=λhn b hb=>⟨hn b hb,(f2 b hb).2⟩
 refine codeAny_forLoop_any (λn s' => ∃ i σ' H',Inv X aa σ' H' s' /\ tn i s'.heap/\(∀ b∈fp,H' b=none)/\W i n σ' H') ?_ m0 ⟨0,σ,H2,I2,st2,λb hb=>(f2 b hb).1,w0⟩;rintro n s3 ⟨i,σ3,H3,I3,st3,fr3,w3⟩;rcases turn i n σ3 H3 w3 with⟨stop,qn⟩ | ⟨go,N,hN,step⟩
 .refine N5 hp (thn (T.done X rfl rfl rfl hc i aa s3 σ3 H3 X.xe I3 (stat fr3) st3 stop) λr s4 ⟨hr,I4⟩=>?_);subst hr;exact Oj ⟨σ3,H3,I4,qn⟩
 .refine N5 hp (thn (T.item X rfl rfl rfl hc i aa s3 σ3 H3 X.xe I3 (stat fr3) st3 go) λr s4 ⟨u,hr,h4⟩=>?_);subst hr;refine N5 hp (thn h4 λ_ s5 ⟨x,H5,I5,r5,y5,st5,fr5⟩=>?_);have I5':=I5.pinned (stat fr5) (T.obj _ _ st5);refine N5 hp (thn (hg _ s5 σ3 H5 x u _ I5' r5 (step x H5 y5)) λ_ s6 ⟨σ6,H6,I6,q6⟩=>?_);refine N5 hp (thn (hb _ s6 σ6 H6 _ I6 q6) λf s7 q7=>?_);have again:∀{σ7:St}{H7:Hp},Inv X (aa++Vx fp s5.heap) σ7 H7 s7->N σ7 H7->∃ m,m<n/\∃ i σ' H',Inv X aa σ' H' s7/\tn i s7.heap/\(∀ b∈fp,H' b=none)/\W i m σ' H':=λ{σ7 H7} I7 n7=>by obtain⟨m',hm,w7⟩:=hN σ7 H7 n7;refine⟨m',hm,i+1,σ7,H7,I7.QS,T.keep _ _ _ st5 λb hb o e=>(I7.pin (b,o) (IH _ (IH _ (Vq hb e)))).1,λb hb=>?_,w7⟩;obtain⟨o,e,d⟩:=T.obj _ _ st5 b hb;exact(I7.pin (b,o) (IH _ (IH _ (Vq hb e)))).2.1
  cases f with
  |next=>obtain⟨σ7,H7,I7,n7⟩:=q7;exact again I7 n7
  |cont=>obtain⟨σ7,H7,I7,n7⟩:=q7;exact again I7 n7
  |brk=>obtain⟨σ7,H7,I7,q7⟩:=q7;exact⟨σ7,H7,I7.QS,q7⟩
  |ret v=>obtain⟨x7,σ7,H7,I7,r7,q7⟩:=q7;exact⟨x7,σ7,H7,I7.QS,r7,q7⟩
end
def zhe{K:FG}{xs:LC}{g:TG}{tb:TS}{D:Ends}{σ:St}{H:Hp}(Pv:Nat->St->Hp->Prop)(h0:Pv 0 σ H)(hl:∀ i σ H,i<=xs.length->Pv i σ H->SqL K H a xs)(hs:∀ i x σ H,xs[i]?=some x->Pv i σ H->g x σ H fun σ2 H2=>tb {D with nx:=Pv (i+1),ct:=Pv (i+1),bk:=D.nx} σ2 H2)(hd:∀ σ H,Pv xs.length σ H->D.nx σ H):
  ∃ W:Nat->Nat->St->Hp->Prop,(∃ m,W 0 m σ H)/\∀ i m σ H,W i m σ H->
   ((Itl K a).stop i H/\D.nx σ H)\/((Itl K a).go i H/\∃ N:St->Hp->Prop,(∀ σ' H',N σ' H' -> ∃ m',m'<m/\W (i+1) m' σ' H')/\∀ x H',(Itl K a).yld i H x H' -> g x σ H' fun σ2 H2=>tb {D with nx:=N,ct:=N,bk:=D.nx} σ2 H2):=by
 refine⟨λi m σ H=>m=xs.length-i/\i<=xs.length/\Pv i σ H,⟨xs.length,(by simp),Nl _,h0⟩,?_⟩;rintro i m σ H ⟨rfl,hi,p⟩;have q:=hl i σ H hi p;by_cases hlt:i<xs.length
 .refine .inr ⟨⟨xs,xs[i],q,by simp[hlt]⟩,Pv (i+1),fun σ' H' p' => ⟨xs.length-(i+1),(by omega),rfl,hlt,p'⟩,λx H' y=>?_⟩;obtain⟨e,y⟩:=y;subst e;exact hs i x σ _ (y xs q) p
 .have e:i=xs.length:=by omega
  subst e;exact .inl ⟨⟨xs,q,Ih _⟩,hd σ H p⟩
def zjQ{K:FG}{xs:LC}{g:TG}{tb:TS}{D:Ends}{σ:St}{H:Hp}(Pv:Nat->St->Hp->Prop)(h0:Pv 0 σ H)(hl:∀ i σ H,i<=xs.length->Pv i σ H->SqT K H a xs)(hs:∀ i x σ H,xs[i]?=some x->Pv i σ H->g x σ H fun σ2 H2=>tb {D with nx:=Pv (i+1),ct:=Pv (i+1),bk:=D.nx} σ2 H2)(hd:∀ σ H,Pv xs.length σ H->D.nx σ H):
  ∃ W:Nat->Nat->St->Hp->Prop,(∃ m,W 0 m σ H)/\∀ i m σ H,W i m σ H->
   ((Itt K a).stop i H/\D.nx σ H)\/((Itt K a).go i H/\∃ N:St->Hp->Prop,(∀ σ' H',N σ' H' -> ∃ m',m'<m/\W (i+1) m' σ' H')/\∀ x H',(Itt K a).yld i H x H' -> g x σ H' fun σ2 H2=>tb {D with nx:=N,ct:=N,bk:=D.nx} σ2 H2):=by
 refine⟨λi m σ H=>m=xs.length-i/\i<=xs.length/\Pv i σ H,⟨xs.length,(by simp),Nl _,h0⟩,?_⟩;rintro i m σ H ⟨rfl,hi,p⟩;have q:=hl i σ H hi p;by_cases hlt:i<xs.length
 .refine .inr ⟨⟨xs,xs[i],q,by simp[hlt]⟩,Pv (i+1),fun σ' H' p' => ⟨xs.length-(i+1),(by omega),rfl,hlt,p'⟩,λx H' y=>?_⟩;obtain⟨e,y⟩:=y;subst e;exact hs i x σ _ (y xs q) p
 .have e:i=xs.length:=by omega
  subst e;exact .inl ⟨⟨xs,q,Ih _⟩,hd σ H p⟩
def J7{lo:Int}{n:Nat}{g:TG}{tb:TS}{D:Ends}{σ:St}{H:Hp}(Pv:Nat->St->Hp->Prop)(h0:Pv 0 σ H)(hs:∀ i σ H,i<n->Pv i σ H->g (.int (lo+i)) σ H fun σ2 H2=>tb {D with nx:=Pv (i+1),ct:=Pv (i+1),bk:=D.nx} σ2 H2)(hd:∀ σ H,Pv n σ H->D.nx σ H):
  ∃ W:Nat->Nat->St->Hp->Prop,(∃ m,W 0 m σ H)/\∀ i m σ H,W i m σ H->
   ((Itr lo n).stop i H/\D.nx σ H)\/((Itr lo n).go i H/\∃ N:St->Hp->Prop,(∀ σ' H',N σ' H' -> ∃ m',m'<m/\W (i+1) m' σ' H')/\∀ x H',(Itr lo n).yld i H x H' -> g x σ H' fun σ2 H2=>tb {D with nx:=N,ct:=N,bk:=D.nx} σ2 H2):=by
 refine⟨λi m σ H=>m=n-i/\i<=n/\Pv i σ H,⟨n,(by simp),Nl _,h0⟩,?_⟩;rintro i m σ H ⟨rfl,hi,p⟩;by_cases hlt:i<n
 .refine .inr ⟨hlt,Pv (i+1),fun σ' H' p' => ⟨n-(i+1),(by omega),rfl,hlt,p'⟩,λx H' y=>?_⟩;obtain⟨e,y⟩:=y;subst e y;exact hs i σ _ hlt p
 .have e:i=n:=by omega
  subst e;exact .inl ⟨Ih _,hd σ H p⟩
def zba{c:TT}{tb:TS}{D:Ends}{σ:St}{H:Hp}(Pv:St->Hp->Prop)(μ:St->Hp->Nat)(h0:Pv σ H)(hs:∀ σ H,Pv σ H->c σ H λb H1=>if b=true then tb {D with nx:=fun σ' H' => Pv σ' H' /\ μ σ' H'<μ σ H,ct:=fun σ' H' => Pv σ' H' /\ μ σ' H'<μ σ H,bk:=D.nx} σ H1 else D.nx σ H1)(mono:∀ σ H Q Q',(∀ b H1,Q b H1->Q' b H1)->c σ H Q->c σ H Q'):zhy c tb D σ H:=by
 refine⟨λm σ H=>m=μ σ H/\Pv σ H,⟨_,rfl,h0⟩,?_⟩;rintro m σ H ⟨rfl,p⟩;refine mono σ H _ _ (λb H1 q=>?_) (hs σ H p);cases b with
 |true=>exact⟨_,fun σ' H' ⟨p',l⟩=>⟨_,l,rfl,p'⟩,q⟩
 |false=>exact q
abbrev R2:=V->V->Hp->VK->Prop
def OpR(X:Cx)(f:Value->Value->Sem Value)(r:R2):Prop:=
 ∀(aa:List (Addr×Obj))(s:SH)(σ:St)(H:Hp)(x y:V)(v u:Value)(Q:VK),Inv X aa σ H s->RelV x v->RelV y u->r x y H Q->
  wpAny (model X.prog X.w) X.A (f v u) (EP X aa σ Q) X.xe s
def UnR(X:Cx)(f:Value->Sem Value)(r:V->Hp->VK->Prop):Prop:=
 ∀(aa:List (Addr×Obj))(s:SH)(σ:St)(H:Hp)(x:V)(v:Value)(Q:VK),Inv X aa σ H s->RelV x v->r x H Q->
  wpAny (model X.prog X.w) X.A (f v) (EP X aa σ Q) X.xe s
def zai(X:Cx)(f:Value)(r:LC->Hp->VK->Prop):Prop:=
 ∀(aa:List (Addr×Obj))(s:SH)(σ:St)(H:Hp)(xs:LC)(us:LD)(Q:VK),Inv X aa σ H s->Vals xs us->r xs H Q->
  wpAny (model X.prog X.w) X.A (call f us) (EP X aa σ Q) X.xe s
def tOp(r:R2)(ta tb:TE):TE:=fun σ H Q=>ta σ H λx H1=>tb σ H1 λy H2=>r x y H2 Q
def tUn(r:V->Hp->VK->Prop)(ta:TE):TE:=fun σ H Q=>ta σ H λx H1=>r x H1 Q
def rI(C:Int->Int->Prop)(g:Int->Int->V):R2:=λx y H Q=>∃ i j,x = .int i/\y = .int j/\C i j/\Q (g i j) H
def rI0(g:Int->Int->V):R2:=λx y H Q=>∃ i j,x = .int i/\y = .int j/\Q (g i j) H
def rU(g:Int->V):V->Hp->VK->Prop:=λx H Q=>∃ i,x = .int i/\Q (g i) H
section
variable {X:Cx}{a b c:Expr}{ta tb tc:TE}{pos:Pos}
def zmj(ha:PE X a ta)(hb:PE X b tb){σ:St}{H:Hp}{R:V->V->Hp->Prop}(I:Inv X aa σ H s)(h:ta σ H λx H1=>tb σ H1 λy H2=>R x y H2){Q:Value->SH->Prop}{f:Value->Value->Sem Value}(hf:∀ v u s2 x y H2,Inv X aa σ H2 s2->RelV x v->RelV y u->R x y H2->wpAny (model X.prog X.w) X.A (f v u) Q X.xe s2):
  wpAny (model X.prog X.w) X.A (eval a X.env) (λv s₁=>wpAny (model X.prog X.w) X.A (eval b X.env) (λu s₂=>wpAny (model X.prog X.w) X.A (f v u) Q X.xe s₂) X.xe s₁) X.xe s:=by
 refine thn (ha aa s σ H _ I h) λv s1 ⟨x,H1,I1,r1,q1⟩=>?_;refine thn (hb aa s1 σ H1 _ I1 q1) λu s2 ⟨y,H2,I2,r2,q2⟩=>?_;exact hf v u s2 x y H2 I2 r1 r2 q2
def Zu{op:Operator}{r:R2}(ho:OpR X (binaryOp op) r)(ha:PE X a ta)(hb:PE X b tb):PE X (.BinOp a op b pos) (tOp r ta tb):=by intro aa s σ H Q I h;exact wpAny_BinOp (zmj ha hb I h λv u s2 x y H2 I2 rx ry q=>ho aa s2 σ H2 x y v u Q I2 rx ry q)
def zjI{op:UnaryOp}{r:V->Hp->VK->Prop}(ho:UnR X (unaryOp op) r)(ha:PE X a ta):PE X (.UnaryOp op a pos) (tUn r ta):=by intro aa s σ H Q I h;exact UnaryOp_ (thn (ha aa s σ H _ I h) λv s1 ⟨x,H1,I1,r1,q1⟩=>ho aa s1 σ H1 x v Q I1 r1 q1)
def opI{f:Value->Value->Sem Value}{C:Int->Int->Prop}{g:Int->Int->Int}(rule:∀(i j:Int)(t u:Tok)(s:SH)(Q:Value->SH->Prop)(E:Value->SH->Prop),C i j->Q (.int (g i j) s.toks) {s with toks:=s.toks+1}->wpAny (model X.prog X.w) X.A (f (.int i t) (.int j u)) Q E s):
  OpR X f (rI C λi j=>.int (g i j)):=by
 intro aa s σ H x y v u Q I rx ry h;obtain⟨i,j,rfl,rfl,hc,q⟩:=h;obtain⟨t,rfl⟩:=rx;obtain⟨t',rfl⟩:=ry;exact rule i j t t' s _ _ hc ⟨.int (g i j),H,I.tok _,⟨_,rfl⟩,q⟩
def zm9{f:Value->Value->Sem Value}{g:Int->Int->Int}(rule:∀(i j:Int)(t u:Tok)(s:SH)(Q:Value->SH->Prop)(E:Value->SH->Prop),Q (.int (g i j) s.toks) {s with toks:=s.toks+1}->wpAny (model X.prog X.w) X.A (f (.int i t) (.int j u)) Q E s):
  OpR X f (rI0 λi j=>.int (g i j)):=by
 intro aa s σ H x y v u Q I rx ry h;obtain⟨i,j,rfl,rfl,q⟩:=h;obtain⟨t,rfl⟩:=rx;obtain⟨t',rfl⟩:=ry;exact rule i j t t' s _ _ ⟨.int (g i j),H,I.tok _,⟨_,rfl⟩,q⟩
def zmm{f:Value->Value->Sem Value}{g:Int->Int->Bool}(rule:∀(i j:Int)(t u:Tok)(s:SH)(Q:Value->SH->Prop)(E:Value->SH->Prop),Q (.bool (g i j)) s->wpAny (model X.prog X.w) X.A (f (.int i t) (.int j u)) Q E s):
  OpR X f (rI0 λi j=>.bl (g i j)):=by
 intro aa s σ H x y v u Q I rx ry h;obtain⟨i,j,rfl,rfl,q⟩:=h;obtain⟨t,rfl⟩:=rx;obtain⟨t',rfl⟩:=ry;exact rule i j t t' s _ _ ⟨.bl (g i j),H,I,rfl,q⟩
def zg2(i j:Int):Prop:=0<=j/\j<=1000000/\i.natAbs<2^64
def Jp:OpR X (binaryOp .Add) (rI0 λi j=>.int (i+j)):=zm9 λ_ _ _ _ _ _ _ q=>add_int q
def XR:OpR X (binaryOp .Sub) (rI0 λi j=>.int (i-j)):=zm9 λ_ _ _ _ _ _ _ q=>sub_int q
def ZV:OpR X (binaryOp .Mod) (rI (λ_ j=>0<j) λi j=>.int (i % j)):=opI λi j _ _ _ _ _ hc q=>by have h1:(0:Int)<j:=hc;exact mod_int' (by omega) (by rw[Int.fmod_eq_emod_of_nonneg i (by omega)];exact q)
def zav:OpR X (binaryOp .Pow) (rI zg2 λi j=>.int (i^j.toNat)):=opI λ_ _ _ _ _ _ _ hc q=>pow_int_small hc.1 hc.2.1 hc.2.2 q
def unI{f:Value->Sem Value}{g:Int->Int}(rule:∀(i:Int)(t:Tok)(s:SH)(Q:Value->SH->Prop)(E:Value->SH->Prop),Q (.int (g i) s.toks) {s with toks:=s.toks+1}->wpAny (model X.prog X.w) X.A (f (.int i t)) Q E s):
  UnR X f (rU λi=>.int (g i)):=by
 intro aa s σ H x v Q I rx h;obtain⟨i,rfl,q⟩:=h;obtain⟨t,rfl⟩:=rx;exact rule i t s _ _ ⟨.int (g i),H,I.tok _,⟨_,rfl⟩,q⟩
def zfc:UnR X (unaryOp .USub) (rU λi=>.int (-i)):=unI λ_ _ _ _ _ q=>neg_int q
end
noncomputable def zm5:V->V->Bool
 |.non,.non=>true | .non,.int _=>true | .int _,.non=>true | .non,.bl _=>true | .bl _,.non=>true | .non,.str _=>true | .str _,.non=>true
 |.int _,.int _=>true | .bl _,.bl _=>true | .str _,.str _=>true | .byt _,.byt _=>true
 |.int _,.str _=>true | .str _,.int _=>true | .bl _,.str _=>true | .str _,.bl _=>true
 |_,_=>false
def rEq:R2:=λx y H Q=>zm5 x y=true/\Q (.bl (decide (x=y))) H
def rNe:R2:=λx y H Q=>zm5 x y=true/\Q (.bl (!decide (x=y))) H
def zfR{i j:Int}:decide (V.int i=V.int j)=(i==j):=by rw[Bool.eq_iff_iff];simp
def zic{i j:Bool}:decide (V.bl i=V.bl j)=(i==j):=by rw[Bool.eq_iff_iff];simp
def ze5{i j:Str}:decide (V.str i=V.str j)=(i==j):=by rw[Bool.eq_iff_iff];simp
def zew{i j:Array UInt8}:decide (V.byt i=V.byt j)=(i.toList==j.toList):=by rw[Bool.eq_iff_iff];cases i;cases j;simp
section
variable {X:Cx}{a b c:Expr}{ta tb tc:TE}{pos:Pos}
def Yq{σ:St}{H:Hp}{Q:VK}{k k' : Bool}(I:Inv X aa σ H s)(q:Q (.bl k) H)(e:k=k'):EP X aa σ Q (.bool k') s:=by subst e;exact⟨.bl k,H,I,rfl,q⟩
def Wl:OpR X (compareOp .Eq) rEq:=by
 intro aa s σ H x y v u Q I rx ry h;obtain⟨hs,q⟩:=h;cases x with
 |non=>
  cases rx;cases y with
  |non=>cases ry;exact PySem.EqNone.eq_none_none (Yq I q (by simp))
  |bl j=>cases ry;exact PySem.EqNone.eq_none_bool (Yq I q (by simp))
  |int j=>obtain⟨t',rfl⟩:=ry;exact PySem.EqNone.eq_none_int (Yq I q (by simp))
  |str j=>obtain⟨t',rfl⟩:=ry;exact PySem.EqNone.eq_none_str (Yq I q (by simp))
  |_=>exact absurd (show false=true from hs) Ij
 |bl i=>
  cases rx;cases y with
  |non=>cases ry;exact PySem.EqNone.eq_bool_none (Yq I q (by simp))
  |bl j=>cases ry;exact eq_bool (Yq I q zic)
  |str j=>obtain⟨t',rfl⟩:=ry;exact PySem.EqMixed.eq_bool_str (Yq I q (by simp))
  |_=>exact absurd (show false=true from hs) Ij
 |int i=>
  obtain⟨t,rfl⟩:=rx;cases y with
  |non=>cases ry;exact PySem.EqNone.eq_int_none (Yq I q (by simp))
  |int j=>obtain⟨t',rfl⟩:=ry;exact eq_int (Yq I q zfR)
  |str j=>obtain⟨t',rfl⟩:=ry;exact PySem.EqMixed.eq_int_str (Yq I q (by simp))
  |_=>exact absurd (show false=true from hs) Ij
 |str i=>
  obtain⟨t,rfl⟩:=rx;cases y with
  |non=>cases ry;exact PySem.EqNone.eq_str_none (Yq I q (by simp))
  |bl j=>cases ry;exact PySem.EqMixed.eq_str_bool (Yq I q (by simp))
  |int j=>obtain⟨t',rfl⟩:=ry;exact PySem.EqMixed.eq_str_int (Yq I q (by simp))
  |str j=>obtain⟨t',rfl⟩:=ry;exact eq_str (Yq I q ze5)
  |_=>exact absurd (show false=true from hs) Ij
 |byt i=>
  obtain⟨t,rfl⟩:=rx;cases y with
  |byt j=>obtain⟨t',rfl⟩:=ry;exact PySem.W.eq_bytes (Yq I q zew)
  |_=>exact absurd (show false=true from hs) Ij
 |_=>cases y <;> exact absurd (show false=true from hs) Ij
def zmr:OpR X (compareOp .NotEq) rNe:=by
 intro aa s σ H x y v u Q I rx ry h;obtain⟨hs,q⟩:=h;cases x with
 |non=>
  cases rx;cases y with
  |non=>cases ry;exact PySem.EqNone.ne_none_none (Yq I q (by simp))
  |bl j=>cases ry;exact PySem.EqNone.ne_none_bool (Yq I q (by simp))
  |int j=>obtain⟨t',rfl⟩:=ry;exact PySem.EqNone.ne_none_int (Yq I q (by simp))
  |str j=>obtain⟨t',rfl⟩:=ry;exact PySem.EqNone.ne_none_str (Yq I q (by simp))
  |_=>exact absurd (show false=true from hs) Ij
 |bl i=>
  cases rx;cases y with
  |non=>cases ry;exact PySem.EqNone.ne_bool_none (Yq I q (by simp))
  |bl j=>cases ry;exact ne_bool (Yq I q (Na not zic))
  |str j=>obtain⟨t',rfl⟩:=ry;exact PySem.EqMixed.ne_bool_str (Yq I q (by simp))
  |_=>exact absurd (show false=true from hs) Ij
 |int i=>
  obtain⟨t,rfl⟩:=rx;cases y with
  |non=>cases ry;exact PySem.EqNone.ne_int_none (Yq I q (by simp))
  |int j=>obtain⟨t',rfl⟩:=ry;exact ne_int (Yq I q (Na not zfR))
  |str j=>obtain⟨t',rfl⟩:=ry;exact PySem.EqMixed.ne_int_str (Yq I q (by simp))
  |_=>exact absurd (show false=true from hs) Ij
 |str i=>
  obtain⟨t,rfl⟩:=rx;cases y with
  |non=>cases ry;exact PySem.EqNone.ne_str_none (Yq I q (by simp))
  |bl j=>cases ry;exact PySem.EqMixed.ne_str_bool (Yq I q (by simp))
  |int j=>obtain⟨t',rfl⟩:=ry;exact PySem.EqMixed.ne_str_int (Yq I q (by simp))
  |str j=>obtain⟨t',rfl⟩:=ry;exact ne_str (Yq I q (Na not ze5))
  |_=>exact absurd (show false=true from hs) Ij
 |byt i=>
  obtain⟨t,rfl⟩:=rx;cases y with
  |byt j=>obtain⟨t',rfl⟩:=ry;exact PySem.W.ne_bytes (Yq I q (Na not zew))
  |_=>exact absurd (show false=true from hs) Ij
 |_=>cases y <;> exact absurd (show false=true from hs) Ij
def zcV:OpR X (compareOp .Lt) (rI0 λi j=>.bl (decide (i<j))):=zmm λ_ _ _ _ _ _ _ q=>lt_int q
def zmC:OpR X (compareOp .LtE) (rI0 λi j=>.bl (decide (i<=j))):=zmm λ_ _ _ _ _ _ _ q=>le_int q
def zfV:OpR X (compareOp .Gt) (rI0 λi j=>.bl (decide (j<i))):=zmm λ_ _ _ _ _ _ _ q=>gt_int q
def zhH:OpR X (compareOp .Is) (λx y H Q=>y = .non/\Q (.bl (decide (x = .non))) H):=by
 intro aa s σ H x y v u Q I rx ry h;obtain⟨rfl,q⟩:=h;cases ry;refine is_none_gen (Yq I q ?_);cases x <;> first
  |(cases rx;rfl)
  |(obtain⟨t,rfl⟩:=rx;rfl)
def ze8:OpR X (compareOp .IsNot) (λx y H Q=>y = .non/\Q (.bl (!decide (x = .non))) H):=by
 intro aa s σ H x y v u Q I rx ry h;obtain⟨rfl,q⟩:=h;cases ry;refine isnot_none_gen (Yq I q ?_);cases x <;> first
  |(cases rx;rfl)
  |(obtain⟨t,rfl⟩:=rx;rfl)
def ZQ(b:Expr)(h:op≠.In:=by decide)(h2:op≠.NotIn:=by decide):behindInMarks op b=false:=by
 have e1:(op==CmpOp.In)=false:=by cases op <;> first | rfl | exact absurd rfl h
 have e2:(op==CmpOp.NotIn)=false:=by cases op <;> first | rfl | exact absurd rfl h2
 cases b <;> simp[behindInMarks,e1,e2]
def Ue{r:R2}(ho:OpR X (compareOp op) r)(ha:PE X a ta)(hb:PE X b tb)(hm:behindInMarks op b=false):PE X (.Compare a [op] [b] pos) (tOp r ta tb):=by intro aa s σ H Q I h;exact wpAny_Compare1 (zmj ha hb I h λv u s2 x y H2 I2 rx ry q=>ho aa s2 σ H2 x y v u Q I2 rx ry q) hm
def zeK(t:TE):TT:=fun σ H Q=>t σ H λx H' => ∃ k,x = .bl k/\Q k H'
def ZD{r:R2}(ho:OpR X (compareOp op) r)(ha:PE X a ta)(hb:PE X b tb)(hm:behindInMarks op b=false):PT X (.Compare a [op] [b] pos) (zeK (tOp r ta tb)):=by
 intro aa s σ H Q I h;refine wpAny_isTrue_Compare1 (thn (ha aa s σ H _ I h) λv s1 ⟨x,H1,I1,r1,q1⟩=>thn (hb aa s1 σ H1 _ I1 q1) λu s2 ⟨y,H2,I2,r2,q2⟩=>
  thn (ho aa s2 σ H2 x y v u _ I2 r1 r2 q2) λc s3 ⟨z,H3,I3,r3,k,e,q3⟩=>?_) hm
 subst e;cases r3;exact N6 ⟨H3,I3,q3⟩
def zbP:(sizeLine:Nat)<2^63:=by rw[sizeLine_eq];decide
def Vt:OpR X (binaryOp .Add) (λx y H Q=>∃ i j,x = .str i/\y = .str j/\i.length+j.length<=sizeLine/\Q (.str (i++j)) H):=by intro aa s σ H x y v u Q I rx ry h;obtain⟨i,j,rfl,rfl,hz,q⟩:=h;obtain⟨t,rfl⟩:=rx;obtain⟨t',rfl⟩:=ry;exact add_str (λt' tk=>⟨.str (i++j),H,I.tok _,⟨_,rfl⟩,q⟩) hz
def vals1{x:V}(r:Vals [x] us):∃ u,us=[u]/\RelV x u:=by
 cases r with
 |cons r1 r2=>cases r2;exact⟨_,rfl,r1⟩
def vals2{x y:V}(r:Vals [x,y] us):∃ u w',us=[u,w']/\RelV x u/\RelV y w':=by
 cases r with
 |cons r1 r2=>
  cases r2 with
  |cons r3 r4=>cases r4;exact⟨_,_,rfl,r1,r3⟩
end
structure zmS(h:Heap)(x dx C:AD)(mA:Str->LF):Prop where
 obj:h.get? x=some (instObj C dx)
 ns:h.Ns1 dx mA
 ne:dx≠x
def zbn{dx:AD}{mA:Str->LF}(n:h.Ns1 dx mA):∃ od,h.get? dx=some od/\∀ name,lookIn name od=some (mA name):=by
 obtain⟨o,es,ep,ho,hd,hk,_,hm⟩:=n;refine⟨o,ho,λname=>?_⟩;have e:=hm name;unfold nsFind findBy at e;rw[← Array.find?_toList]at e;unfold lookIn;rw[hd];dsimp only;split
 .rename_i y q
  rw[q]at e;exact Na some e
 .rename_i q
  rw[q]at e;have a:es.toList.any (·.refKey)=false:=by rw[List.any_eq_false];intro y hy;obtain⟨z,t,hkey⟩:=hk y (mem_toList_iff.mp hy);simp[DictEntry.refKey,hkey]
  have a' : ¬ es.toList.any (·.refKey)=true:=by rw[a];exact Ij
  rw[Iw a'];exact Na some e
def zmS.look{x dx:AD}{mA:Str->LF}(I:zmS h x dx C mA):∃ od,PySem.W.InstAt h x (instObj C dx) C (some od)/\∀ name,lookIn name od=some (mA name):=
 let ⟨od,ho,hl⟩:=zbn I.ns
 ⟨od,⟨I.obj,rfl,rfl,ho⟩,hl⟩
def zje.some_of{v:V}{o:LF}(r:zje (some v) o):∃ u,o=some u/\RelV v u:=by
 cases o with
 |none=>exact(show False from r).elim
 |some u=>exact⟨u,rfl,r⟩
def ze9{v:V}(r:RelV v u):handedIn u=true:=by
 cases v with
 |non=>cases(show u=Value.none from r);rfl
 |bl b=>cases(show u=Value.bool b from r);rfl
 |int i=>obtain⟨t,e⟩:=(show ∃ t,u=Value.int i t from r);cases e;rfl
 |str x=>obtain⟨t,e⟩:=(show ∃ t,u=Value.str x t from r);cases e;rfl
 |byt b=>obtain⟨t,e⟩:=(show ∃ t,u=Value.bytes b t from r);cases e;rfl
 |flt b=>obtain⟨t,e⟩:=(show ∃ t,u=Value.float b t from r);cases e;rfl
 |ref a=>cases(show u=Value.ref a from r);rfl
 |ty n=>cases(show u=Value.type n from r);rfl
section
variable {P:Program}{w:World}{H H' : Hp}{h h' : Heap}{a C dx:AD}{fs fs' : List (Str×V)}
def zjC(ac:HOk P w H h)(e:H a=some (.ins C dx fs)):∃ mA,zmS h a dx C mA/\(∀ f,zje (fs.lookup f) (mA f))/\PySem.Within mA (fs.map (·.1))/\fs.length<=1000/\H dx=some (.own a):=by
 obtain⟨d,z,ne,ob,mA,n,r,q⟩:=(show Yt P w H h a (.ins C dx fs)from ac a _ e)
 exact⟨mA,⟨ob,n,ne⟩,r,q,z,d⟩
end
structure Cls(K:FG)(C:AD):Prop where
 pg:plainGet K C Str.empty=true
 hd:hasDictIn K C=true
 po:PySem.W.plainOver K C=true
 sa:findIn K (.ref C) "__setattr__" = some (some (.builtin "object.__setattr__"))
def Cls.get{K:FG}(c:Cls K C)(f:Str):plainGet K C f=true:=c.pg
section
variable {X:Cx}{aa:List (Addr×Obj)}{σ:St}{H:Hp}{s:SH}{a C dx:AD}{fs:List (Str×V)}{f:Str}{v:V}{A:Around}{E:Value->SH->Prop}
def zix{prog:Program}{w:World}{env:Env}{f:Str}{Q:Value->SH->Prop}(hb:attributeBase e f env (eval e env)=eval e env)(h:wpAny (model prog w) A (eval e env) (λo s₁=>wpAny (model prog w) A (getAttr o f true) Q E s₁) E s):wpAny (model prog w) A (eval (.Attribute e f pos) env) Q E s:=
 Attribute_any_ h (by rw[arm_eval_Attribute,hb])
end
section
variable {X:Cx}{aa:List (Addr×Obj)}{σ:St}{H:Hp}{s:SH}{A:Around}{E:Value->SH->Prop}{Q:Value->SH->Prop}{c:Value}{b:Bool}
inductive zem(K:FG)(H:Hp):V->Value->Prop where
 |non:zem K H .non (.type "NoneType")
 |bl (x:Bool):zem K H (.bl x) (.type "bool")
 |int (i:Int):zem K H (.int i) (.type "int")
 |str (x:Str):zem K H (.str x) (.type "str")
 |flt (x:UInt64):zem K H (.flt x) (.type "float")
 |lst {a:AD}{xs:LC}(e:H a=some (.lst xs)):zem K H (.ref a) (.type "list")
 |frz {a:AD}{o:Obj}{xs:LC}(e:H a=some (.frz o (.lst xs))):zem K H (.ref a) (.type "list")
 |tup {a:AD}{xs:LC}(e:H a=some (.tup xs)):zem K H (.ref a) (.type "tuple")
 |dK {a:AD}{kvs:List (Key×V)}(e:H a=some (.dK kvs)):zem K H (.ref a) (.type "dict")
 |dT {a:AD}{kvs:List (List Key×V)}(e:H a=some (.dT kvs)):zem K H (.ref a) (.type "dict")
 |ins {a C dx:AD}{fs:List (Str×V)}(e:H a=some (.ins C dx fs)) (cl:Cls K C) (ha:findIn K (.ref C) "__class__" = some (some (.builtin "object.__class__")))
   (hn:specialIn K (.builtin "object.__class__") "__get__" = some (some (.builtin "getset_descriptor.__get__"))) (htk:PySem.W.takesIn K (.builtin "object.__class__")=some true)
   (hm:PySem.W.mroIn K C (.type "object")=some true):zem K H (.ref a) (.ref C)
def QK{x:V}{t:Value}(I:Inv X aa σ H s)(rx:RelV x u)(ty:zem X.K H x t)(e:kitOne X.K t c=some b)(h:∀ tk,Q (.bool b) {s with toks:=tk}):
  wpAny (model X.prog X.w) A (call (.builtin "isinstance") [u,c]) Q E s:=by
 cases ty with
 |non=>cases(show u=Value.none from rx);exact Ow kitx_none I.kIn True.intro e (λz=>nomatch z) h
 |bl y=>cases(show u=Value.bool y from rx);exact Ow PySem.W.kitx_bool I.kIn True.intro e (λz=>nomatch z) h
 |int i=>obtain⟨t,q⟩:=(show ∃ t,u=Value.int i t from rx);cases q;exact Ow PySem.W.kitx_int I.kIn True.intro e (λz=>nomatch z) h
 |str y=>obtain⟨t,q⟩:=(show ∃ t,u=Value.str y t from rx);cases q;exact Ow PySem.W.kitx_str I.kIn True.intro e (λz=>nomatch z) h
 |flt y=>obtain⟨t,q⟩:=(show ∃ t,u=Value.float y t from rx);cases q;exact Ow PySem.W.kitx_float I.kIn True.intro e (λz=>nomatch z) h
 |@lst a xs ea=>
  cases(show u=Value.ref a from rx);obtain⟨_,_,n,_,h1⟩:=(show Yt X.prog X.w H s.heap a (.lst xs)from I.ac a _ ea)
  exact Ow kitx_list I.kIn ⟨_,h1,rfl⟩ e (λz=>nomatch z) h
 |@frz a ob xs ea=>
  cases(show u=Value.ref a from rx);obtain⟨_,_,_,n,_,h1⟩:=(show Yt X.prog X.w H s.heap a (.frz ob (.lst xs))from I.ac a _ ea)
  exact Ow kitx_list I.kIn ⟨_,h1,rfl⟩ e (λz=>nomatch z) h
 |@tup a xs ea=>
  cases(show u=Value.ref a from rx);obtain⟨_,_,_,p,_⟩:=(show Yt X.prog X.w H s.heap a (.tup xs)from I.ac a _ ea)
  obtain⟨o,h1,h2,_⟩:=p;exact Ow kitx_tuple I.kIn ⟨o,h1,h2⟩ e (λz=>nomatch z) h
 |@dK a kvs ea=>
  cases(show u=Value.ref a from rx);obtain⟨_,_,vs,_,p⟩:=(show Yt X.prog X.w H s.heap a (.dK kvs)from I.ac a _ ea)
  obtain⟨o,es,ep,h1,h2,_⟩:=p;exact Ow kitx_dict I.kIn ⟨o,h1,h2.1⟩ e (λz=>nomatch z) h
 |@dT a kvs ea=>
  cases(show u=Value.ref a from rx);obtain⟨_,_,xs,_,o,es,ep,h1,h2,_⟩:=(show Yt X.prog X.w H s.heap a (.dT kvs)from I.ac a _ ea)
  exact Ow kitx_dict I.kIn ⟨o,h1,h2.1⟩ e (λz=>nomatch z) h
 |@ins a C dx fs ea cl ha hn htk hm=>cases(show u=Value.ref a from rx);obtain⟨mA,O,_⟩:=zjC I.ac ea;obtain⟨od,J,_⟩:=O.look;exact Ow (PySem.W.kitx_own (cl.get _) cl.hd ha hn htk hm) I.kIn J e (λz=>nomatch z) h
end
structure Wh(k:Nat)(A:Around):Prop where
 hd:A.handled=none
 dp:A.depth+3*k+5<recursionLimit
 un:A.units+16*k+200<cLine
def Wh.mono{j:Nat}(r:Wh k A)(h:j<=k):Wh j A:=⟨r.hd,by have:=r.dp;omega,by have:=r.un;omega⟩
theorem Wh.deeper(r:Wh (k+1) A)(env:Env):Wh k (A.deeper env):=⟨r.hd,by have:=r.dp;show A.depth+1+3*k+5<_;omega,by have:=r.un;show A.units+3+16*k+200<_;omega⟩
theorem Wh.in1(r:Wh (k+1) A):Wh k A.in1:=⟨r.hd,by have:=r.dp;show A.depth+3*k+5<_;omega,by have:=r.un;show A.units+1+16*k+200<_;omega⟩
def zee{kw:List (Str×Value)}:(A.under (.builtin "type.__call__" ⟨.ref C::us,kw⟩)).depth=A.depth+1:=by first | rfl | simp[Around.under,Code.weight,Code.isCreation,Code.isGuard,Code.isCaller,Code.frames,Code.isFrame,guardIds]
def zd8{kw:List (Str×Value)}:(A.under (.builtin "type.__call__" ⟨.ref C::us,kw⟩)).units=A.units+1:=by first | rfl | simp[Around.under,Code.cUnits,Code.frames,Code.isFrame]
def Wh.make(r:Wh (k+1) A)(C:AD)(us:LD)(kw:List (Str×Value)):Wh k (A.under (.builtin "type.__call__" ⟨.ref C::us,kw⟩)):=⟨r.hd,by have:=r.dp;rw[zee];omega,by have:=r.un;rw[zd8];omega⟩
theorem Wh.depth(r:Wh k A):A.depth<recursionLimit:=by have:=r.dp;omega
theorem Wh.units(r:Wh k A):A.units+64<cLine:=by have:=r.un;omega
def Qk:TA:=λ_ H Q=>Q [] H
def Z4(ta:TE)(tr:TA):TA:=fun σ H Q=>ta σ H λx H1=>tr σ H1 λxs H2=>Q (x::xs) H2
section
variable {X:Cx}{e:Expr}{es:List Expr}{te:TE}{t:TA}{pos:Pos}
def Zf:PA X [] Qk:=λ_ _ _ _ H Q I h=>spliced_nil ⟨[],H,I,.nil,h⟩
def Za(ha:PE X e te)(hr:PA X es t)(hs:starEach (e::es) X.env=(false,eval e X.env)::starEach es X.env:=by rfl):PA X (e::es) (Z4 te t):=by intro pos aa s σ H Q I h;rw[hs];show wpAny _ _ (spliced ((false,eval e X.env)::backTo pos (starEach es X.env))) _ _ s;refine spliced_cons (thn (ha aa s σ H _ I h) λu s1 ⟨x,H1,I1,r1,q1⟩=>?_);exact thn (hr pos aa s1 σ H1 _ I1 q1) λus s2 ⟨xs,H2,I2,r2,q2⟩=>⟨x::xs,H2,I2,.cons r1 r2,q2⟩
def zdN(t:TA):TE:=fun σ H Q=>t σ H λxs H1=>xs.length<=sizeLine/\∀ p,H1 p=none->Q (.ref p) (upd H1 p (.tup xs))
def zhB(t:TA):TE:=fun σ H Q=>t σ H λxs H1=>xs.length<=sizeLine/\∀ p,H1 p=none->Q (.ref p) (upd H1 p (.lst xs))
def Yg{x1}(h:PA X es t):PE X (.Tuple es x1 pos) (zdN t):=by intro aa s σ H Q I hq;refine wpAny_Tuple_spliced (thn (h pos aa s σ H _ I hq) λus s1 ⟨xs,H1,I1,r,z,q⟩=>⟨by rw[← r.length];exact z,?_⟩);have hf:H1 s1.heap.objs.size=none:=I1.ac.fresh (Ih _);refine⟨.ref s1.heap.objs.size,upd H1 s1.heap.objs.size (.tup xs),I1.laid (t':=s1.toks) (λb u e=>Ie _ e) (Ih _) ?_,rfl,q _ hf⟩;exact⟨z,us,r,⟨_,Il _ rfl,rfl,_,rfl⟩,_,Il _ rfl,rfl⟩
def Yv(h:PA X es t):PE X (.List es pos) (zhB t):=by intro aa s σ H Q I hq;refine wpAny_List_spliced (thn (h pos aa s σ H _ I hq) λus s1 ⟨xs,H1,I1,r,z,q⟩=>⟨by rw[← r.length];exact z,?_⟩);have hf:H1 s1.heap.objs.size=none:=I1.ac.fresh (Ih _);refine⟨.ref s1.heap.objs.size,upd H1 s1.heap.objs.size (.lst xs),I1.laid (t':=s1.toks) (λb u e=>Ie _ e) (Ih _) ?_,rfl,q _ hf⟩;exact⟨z,us,0,r,Il _ rfl⟩
end
abbrev Sp:=LC->Hp->VK->XK->Prop
abbrev CXT:=LI->Hp->SH->XK->Value->SH->Prop
structure zcD(P:Program)(w:World)(K:FG)(mg:Str->LF)(base:Heap)(A:Around)(outer:LI)(s:SH)(H:Hp):Prop where
 frames:A.frames=some outer
 mod:Mod K mg base
 bs:∀ b o,base.get? b=some o->s.heap.get? b=some o/\H b=none
 bsz:base.objs.size<=s.heap.objs.size
 zaY:s.heap.FunFrames base outer
 frf:∀ b∈frs outer,H b=none
 ac:HOk P w H s.heap
 bare:AllBare s.gens
def CE(outer:LI)(P:Program)(w:World)(H:Hp)(s:SH)(Q:VK)(u:Value)(s' : SH):Prop:=∃ v H',s'.os=s.os/\AllBare s'.gens/\Un (frs outer) [] H H' s.heap s'.heap/\HOk P w H' s'.heap/\RelV v u/\Q v H'
def CR(CX:CXT)(outer:LI)(P:Program)(w:World)(H:Hp)(s:SH)(Q:VK)(E:XK)(r:Result)(s' : SH):Prop:=
 match r with
 |.ok (.ret u)=>CE outer P w H s Q u s'
 |.ok _=>False
 |.error e=>CX outer H s E e s'
structure Ju(P:Program)(w:World)(K:FG)(mg:Str->LF)(base:Heap)(CX:CXT)(k:Nat)(f:AD)(fd:FuncData)(ps:LB)(sp:Sp):Prop where
 len:∀ vs H Q E,sp vs H Q E->vs.length=ps.length
 run:∀(A:Around)(outer:LI)(s:SH)(H:Hp)(args:Args)(us:LD)(vs:LC)(Q:VK)(E:XK),Wh k A->zcD P w K mg base A outer s H->BindsTo s fd args (ps.zip us)->Vals vs us->sp vs H Q E->
  codeAny (model P w) A (.call (.ref f) args) (CR CX outer P w H s Q E) s
theorem Ju.mono{P:Program}{w:World}{K:FG}{mg:Str->LF}{base:Heap}{CX:CXT}{j:Nat}{f:AD}{fd:FuncData}{sp:Sp}(F:Ju P w K mg base CX j f fd ps sp)(h:j<=k):
  Ju P w K mg base CX k f fd ps sp:=⟨F.len,λA outer s H args us vs Q E hr=>F.run A outer s H args us vs Q E (hr.mono h)⟩
def zcD.make{P:Program}{w:World}{K:FG}{mg:Str->LF}{base:Heap}{H:Hp}(e:zcD P w K mg base A outer s H)(C:AD)(us:LD)(kw:List (Str×Value)):
  zcD P w K mg base (A.under (.builtin "type.__call__" ⟨.ref C::us,kw⟩)) outer s H:=⟨by first | exact e.frames | (simpa [Around.under,Code.envs,Code.isFrame,pushEnvs]using e.frames),e.mod,e.bs,e.bsz,e.zaY,e.frf,e.ac,e.bare⟩
section
variable {X:Cx}{aa:List (Addr×Obj)}{σ:St}{H:Hp}{s s' : SH}
def Inv.env0(I:Inv X aa σ H s):zcD X.prog X.w X.K X.mg X.base X.A X.stack s H:=⟨I.ok.frames,I.ok.mod,I.bs,Nj I.ok.bsz I.sz,I.stack,I.zcT,I.ac,I.bare⟩
def Inv.after{Q:VK}(I:Inv X aa σ H s)(h:CE X.stack X.prog X.w H s Q u s'):EP X aa σ Q u s':=by obtain⟨v,H',os,bare,un,ac,r,q⟩:=h;obtain⟨hh,g,d,t,os'⟩:=s';obtain rfl:os'=s.os:=os;exact⟨v,H',I.call (h':=hh) (g':=g) (d':=d) (t':=t) (ch:=[]) un ac bare (λb z=>absurd z (by simp)),r,q⟩
end
def zaf(sp:Sp)(dvs:LC)(E:XK)(t:TA):TE:=fun σ H Q=>t σ H λvs H1=>sp (vs++dvs) H1 Q E
def Binds(K:FG)(fd:FuncData)(ps:LB)(ds:LD):Prop:=∀(s:SH)(us:LD),K.In s.heap->(us++ds).length=ps.length->BindsTo s fd ⟨us,[]⟩ (ps.zip (us++ds))
def Binds.all{K:FG}{fd:FuncData}(h:∀ us:LD,us.length=ps.length->bindArgs fd ⟨us,[]⟩=pure (ps.zip us)):Binds K fd ps []:=λs us _ hl=>by rw[Ng]at hl ⊢;exact .of_eq (h us hl)
def zbs(CX:CXT)(X:Cx)(E:XK):Prop:=∀(aa:List (Addr×Obj))(σ:St)(H:Hp)(s:SH)(e:Value)(s' : SH),Inv X aa σ H s->CX X.stack H s E e s' -> X.xe e s'
section
variable {X:Cx}{CX:CXT}{k:Nat}{f C:AD}{fd:FuncData}{ps:LB}{sp:Sp}{dvs:LC}{ds:LD}{E:XK}{x m:Str}{p pos apos:Pos}{e o:Expr}{es:List Expr}{ta:TE}{t:TA}
def zle{σ:St}{H:Hp}{Q:VK}{vs:LC}(F:Ju X.prog X.w X.K X.mg X.base CX k f fd ps sp)(hr:Wh k X.A)(hb:Binds X.K fd ps ds)(hd:Vals dvs ds)(hx:zbs CX X E)(I:Inv X aa σ H s)(r:Vals vs us)(h:sp (vs++dvs) H Q E):wpAny (model X.prog X.w) X.A (call (.ref f) us) (EP X aa σ Q) X.xe s:=by
 have r2:Vals (vs++dvs) (us++ds):=r.append hd;have hl:(us++ds).length=ps.length:=by rw[← r2.length];exact F.len _ _ _ _ h
 refine NZ (Nw (F.run X.A X.stack s H ⟨us,[]⟩ (us++ds) (vs++dvs) Q E hr I.env0 (hb s us I.kIn hl) r2 h) λr s' hq=>?_);cases r with
 |error e=>exact hx aa σ H s e s' I hq
 |ok fl=>
  cases fl with
  |ret u=>exact I.after hq
  |next=>exact False.elim hq
  |brk=>exact False.elim hq
  |cont=>exact False.elim hq
def zjt(F:Ju X.prog X.w X.K X.mg X.base CX k f fd ps sp)(hr:Wh k X.A)(hg:Gl X x)(hm:X.mg x=some (.ref f))(hk:keepIn X.K (.ref f)=true)(hb:Binds X.K fd ps ds)(hd:Vals dvs ds)(hx:zbs CX X E)(ha:PA X (e::es) t)(hdb:(x==("__debug__" : Str))=false:=by decide)(he:starEach (e::es) X.env=(false,eval e X.env)::starEach es X.env:=by rfl)(hpl:(backTo pos (starEach es X.env)).any (·.1)=false:=by rfl):
  PE X (.Call (.Name x p) (e::es) [] pos) (zaf sp dvs E t):=by
 intro aa s σ H Q I h;refine IU (JL I hg hm ?_ hdb);refine callWith_K (h₀:=X.base) I.ok.mod.kin hk (thn (ha pos aa s σ H _ I h) λus s1 ⟨vs,H1,I1,r,q⟩=>⟨I1.kIn,?_⟩) he hpl;exact zle F hr hb hd hx I1 r q
end
def PK(X:Cx)(kws:List Keyword)(t:TA):Prop:=∀(pos:Pos)(aa:List (Addr×Obj))(s:SH)(σ:St)(H:Hp)(Q:LC->Hp->Prop),Inv X aa σ H s->t σ H Q->wpAny (model X.prog X.w) X.A (evalAll ((backToKw pos (keywordEach kws X.env)).map (·.2))) (AP X aa σ Q) X.xe s
section
variable {X:Cx}{CX:CXT}{k:Nat}{f C:AD}{fd:FuncData}{ps ks:LB}{sp:Sp}{E:XK}{x m:Str}{p pos apos kpos:Pos}{e o:Expr}{es:List Expr}{kws:List Keyword}{te ta:TE}{t tk:TA}{nm:Option Str}
def zkI:PK X [] Qk:=λ_ _ _ _ H Q I h=>wpAny_evalAll_nil ⟨[],H,I,.nil,h⟩
def zjD(ha:PE X e te)(hr:PK X kws t):PK X (⟨nm,e,kpos⟩::kws) (Z4 te t):=by intro pos aa s σ H Q I h;show wpAny _ _ (evalAll ((do let v ← eval e X.env;standAt pos;pure v)::(backToKw pos (keywordEach kws X.env)).map (·.2))) _ _ s;refine wpAny_evalAll_cons (Ia (thn (ha aa s σ H _ I h) λu s1 ⟨x,H1,I1,r1,q1⟩=>Ia (N8 (Ic ?_))));exact thn (hr pos aa s1 σ H1 _ I1 q1) λus s2 ⟨xs,H2,I2,r2,q2⟩=>⟨x::xs,H2,I2,.cons r1 r2,q2⟩
variable {g:LD->LD->LD}{gV:LC->LC->LC}
end
structure ZG(N P:LB)(sc:Scope):Prop where
 kind:sc.kind = .function
 co:sc.isCoroutine=false
 gen:sc.isGenerator=false
 nd:N.Nodup
 pre:N.take P.length=P
 par:∀ x∈P,sc.names.lookup x=some .local\/sc.names.lookup x=some .cell
 nofree:∀ y∈sc.names,y.2≠.free
theorem zb7 :∀{binds:List (Str×Value)}{m:Str->LF},(∀ v,(x,v)∉binds)->bindL kindOf binds m x=m x
 |[],_,_=>rfl
 |(n,v)::r,m,h=>by
  unfold bindL;rw[zb7 λw hw=>h w (Iz _ hw)];split
  .have:x≠n:=by rintro rfl;exact h v IC
   simp[this]
  .rfl
theorem zbD :∀{binds:List (Str×Value)}{m:Str->LF},(∀ v,(x,v)∉binds)->bindC kindOf binds m x=m x
 |[],_,_=>rfl
 |(n,v)::r,m,h=>by
  unfold bindC;rw[zbD λw hw=>h w (Iz _ hw)];split
  .rfl
  .have:x≠n:=by rintro rfl;exact h v IC
   simp[this]
theorem Um{v:Value}:∀{P:LB}{vs:LD}{i:Nat}{m:Str->LF},P.Nodup->P[i]?=some x->vs[i]?=some v->kindOf x=some .local->
  bindL kindOf (P.zip vs) m x=some v
 |[],_,_,_,_,h,_,_=>by simp at h
 |_::_,[],_,_,_,_,h,_=>by simp at h
 |p::P,w::vs,0,m,nd,h1,h2,hk=>by simp at h1 h2;subst h1;subst h2;show bindL kindOf ((p,w)::P.zip vs) m p=_;unfold bindL;rw[zb7 λv hv=>(nodup_cons.mp nd).1 (of_mem_zip hv).1,IA hk];simp
 |p::P,w::vs,i+1,m,nd,h1,h2,hk=>by show bindL kindOf ((p,w)::P.zip vs) m x=_;unfold bindL;exact Um (i:=i) (nodup_cons.mp nd).2 (by simpa using h1) (by simpa using h2) hk
theorem U7{v:Value}:∀{P:LB}{vs:LD}{i:Nat}{m:Str->LF},P.Nodup->P[i]?=some x->vs[i]?=some v->kindOf x≠some .local->
  bindC kindOf (P.zip vs) m x=some v
 |[],_,_,_,_,h,_,_=>by simp at h
 |_::_,[],_,_,_,_,h,_=>by simp at h
 |p::P,w::vs,0,m,nd,h1,h2,hk=>by simp at h1 h2;subst h1;subst h2;show bindC kindOf ((p,w)::P.zip vs) m p=_;unfold bindC;rw[zbD λv hv=>(nodup_cons.mp nd).1 (of_mem_zip hv).1,Iw hk];simp
 |p::P,w::vs,i+1,m,nd,h1,h2,hk=>by show bindC kindOf ((p,w)::P.zip vs) m x=_;unfold bindC;exact U7 (i:=i) (nodup_cons.mp nd).2 (by simpa using h1) (by simpa using h2) hk
noncomputable def start(N:LB)(vs:LC):St:=vs.map some++List.replicate (N.length-vs.length) none
noncomputable def VD(CX:CXT)(P:Program)(w:World)(K:FG)(mg:Str->LF)(base:Heap)(N:LB)(qual:Str)(scope:Scope)(f:AD)(cd:Value)(A:Around)(outer:LI)(s:SH)(H:Hp)(E:XK):Cx where
 prog:=P
 w:=w
 K:=K
 mg:=mg
 base:=base
 A:=A.deeper (envOfC qual scope s.heap.objs.size f cd)
 N:=N
 s₀:=s
 H₀:=H
 env:=envOfC qual scope s.heap.objs.size f cd
 outer:=outer
 stack:=envOfC qual scope s.heap.objs.size f cd::outer
 ex:=[]
 calm:=true
 fn:=λ_=>true
 pn:=[]
 xe:=λe s' => wpAny (model P w) (A.deeper (envOfC qual scope s.heap.objs.size f cd)) (leaving (envOfC qual scope s.heap.objs.size f cd) e) (λ_ s'' => CX outer H s E e s'') (λe' s'' => CX outer H s E e' s'') s'
def V5{sc:Scope}{n:Nat}(h:sc.names.lookup x=some .cell):∃ c,(cellsFrom n sc.names []).lookup x=some c:=by have q:=cellsFrom_some sc.names n [] (.inl h);exact Ny.mp q
def zbk{CX:CXT}{P:Program}{w:World}{K:FG}{mg:Str->LF}{base:Heap}{N:LB}{qual:Str}{f:AD}{cd:Value}{s1:SH}{H:Hp}{E:XK}{vs:LC}(S:ZG N ps scope)(hd:A.handled=none)(e0:zcD P w K mg base A outer s H)(hl:vs.length=ps.length)(r:Vals vs us)(x:InCallC s s.heap.objs.size (bindL (envOfC qual scope s.heap.objs.size f cd).kindOf (ps.zip us) λ_=>none) (cellsFrom (s.heap.objs.size+1) scope.names []) (bindC (envOfC qual scope s.heap.objs.size f cd).kindOf (ps.zip us) λ_=>none) s1):
  Inv (VD CX P w K mg base N qual scope f cd A outer s H E) [] (start N vs) H s1:=by
 have hpl:ps.length<=N.length:=by have:=Na List.length S.pre;rw[NV]at this;omega
 obtain⟨h1,tk,rfl,hk⟩:=x.done;have noA:∀ b:AD,b∉(VD CX P w K mg base N qual scope f cd A outer s H E).ex:=λb z=>absurd (show b∈([]:LG)from z) (by simp);refine⟨⟨e0.mod,S.kind,rfl,rfl,Ih _,λy z c h1 h2=>?_,λy hy=>?_,λy c _ h=>?_,λ_=>hd,frames_deeper e0.frames,.inr ⟨rfl,rfl⟩,λb z=>absurd z (noA b),e0.bs,e0.bsz,λb _ _=>noA b,λb z=>absurd z (noA b),e0.zaY,e0.frf⟩,
  rfl,e0.bare,Un.kept hk,⟨_,x.toInCall.ns,λi y v h1 h2 h3=>?_⟩,λy c h=>⟨_,x.cell y c h⟩,e0.ac.fresh (Ih _),λy c h=>?_,λp hp=>absurd (show p∈([]:List (Addr×Obj))from hp) (by simp),e0.ac.kept hk,?_⟩
 .exact name_of_addr x.apart (IF h1) (IF h2)
 .have hy:scope.names.lookup y=some .cell\/scope.names.lookup y=some .free:=hy;rcases hy with hy | hy
  .exact V5 hy
  .exact absurd rfl (S.nofree _ (IF hy))
 .exact Od (x.above y c (IF h))
 .have hi:i<vs.length:=by
   unfold start at h2;by_cases hi:i<vs.length
   .exact hi
   .rw[Nq (by simpa using hi)]at h2;rw[List.getElem?_replicate]at h2;split at h2 <;> cases h2
  have ha:vs[i]?=some v:=by
   unfold start at h2;rw[NE (by simpa using hi),Io]at h2;cases e:vs[i]? with
   |none=>rw[e]at h2;cases h2
   |some a=>rw[e]at h2;cases h2;rfl
  obtain⟨u,hu,rv⟩:=r.get ha;have hp:ps[i]?=some y:=by rw[← S.pre,List.getElem?_take_of_lt (by omega)];exact h1
  have ndP:ps.Nodup:=by rw[← S.pre];exact S.nd.sublist (List.take_sublist _ _)
  refine⟨u,rv,?_⟩;rcases S.par y (Ii hp)with k | k
  .exact .inl ⟨k,Um ndP hp hu k⟩
  .obtain⟨c,e⟩:=V5 (n:=s.heap.objs.size+1) k;refine .inr ⟨.inl k,c,e,?_⟩;have q:=x.cell y c e;rw[U7 ndP hp hu (by show scope.names.lookup y≠_;rw[k];decide)]at q;exact q
 .exact e0.ac.fresh (Od (x.above y c (IF h)))
 .unfold start;show _=N.length;rw[Iv,Ig,Oe];omega
def ziy{CX:CXT}{P:Program}{w:World}{K:FG}{mg:Str->LF}{base:Heap}{f:AD}{name qual:Str}{params:Arguments}{dV kV doc pm cdv ct oc:Value}{an od:Option AD}{osl:Array (LF)}{N ps:LB}{sp:Sp}(lk:K.lookup f=some ⟨oc,od,.func (PySem.W.fnOf name qual params body scope dV kV doc pm an cdv ct),osl⟩)(hcd:codeIn K cdv qual=true)(S:ZG N ps scope)(len:∀ vs H Q E,sp vs H Q E->vs.length=ps.length)(hbody:∀(A:Around)(outer:LI)(s:SH)(H:Hp)(vs:LC)(Q:VK)(E:XK),Wh k (A.deeper (envOfC qual scope s.heap.objs.size f cdv))->sp vs H Q E->
   ∃ t,PSs (VD CX P w K mg base N qual scope f cdv A outer s H E) body t/\t {nx:=λ_ H' => Q .non H',rt:=Q} (start N vs) H):
  Ju P w K mg base CX (k+1) f (PySem.W.fnOf name qual params body scope dV kV doc pm an cdv ct) ps sp:=by
 refine⟨len,λA outer s H args us vs Q E hr e0 hb r hsp=>?_⟩;have hl:=len _ _ _ _ hsp;have KX:K.In s.heap:=e0.mod.kin.keeps λb o e=>(e0.bs b o e).1;have lim:s.heap.NoLimit:=e0.mod.nolimit.keeps λb o e=>(e0.bs b o e).1;have hkind:∀ y∈ps.zip us,scope.names.lookup y.1=some .local\/(scope.names.lookup y.1=some .cell/\((cellsFrom (s.heap.objs.size+1) scope.names []).lookup y.1).isSome=true):=λ⟨n,v⟩ hy=>by
  rcases S.par n (of_mem_zip hy).1 with q | q
  .exact .inl q
  .exact .inr ⟨q,cellsFrom_some _ _ _ (.inl q)⟩
 refine codeAny_call_function hr.depth (KX _ _ lk) rfl S.co S.gen rfl (codeRec_of KX hcd) (hb _ _ _ _ ?_);refine wpAny_newFunctionEnv_cells S.kind hkind λenv he s1 x=>?_;subst he;refine⟨lim.keeps x.toInCall.keep,codeAny_func ?_⟩;obtain⟨t,ht,hq⟩:=hbody A outer s H vs Q E (hr.deeper _) hsp;have I:Inv (VD CX P w K mg base N qual scope f cdv A outer s H E) [] (start N vs) H s1:=zbk S hr.hd e0 hl r x;refine IK (ht [] s1 (start N vs) H _ I hq) (λfl s' hs=>?_) λe s' hs=>hs;have fin:∀{σ' : St}{H' : Hp}{v:V}{u:Value},Inv (VD CX P w K mg base N qual scope f cdv A outer s H E) [] σ' H' s' -> RelV v u->Q v H' -> CE outer P w H s Q u s' :=λ{σ' H' v u} J rv q=>⟨v,H',J.os,J.bare,J.base,J.ac,rv,q⟩
 cases fl with
 |ret u=>obtain⟨v,σ',H',J,rv,q⟩:=hs;exact fin J rv q
 |next=>obtain⟨σ',H',J,q⟩:=hs;exact fin (v:=V.non) (u:=Value.none) J rfl q
 |brk=>obtain⟨_,_,_,q⟩:=hs;exact False.elim q
 |cont=>obtain⟨_,_,_,q⟩:=hs;exact False.elim q
section
variable {X:Cx}{x:Str}{p pos:Pos}{e:Expr}{es:List Expr}{t:TA}{id T:String}{r:LC->Hp->VK->Prop}
def tCB(r:LC->Hp->VK->Prop)(t:TA):TE:=fun σ H Q=>t σ H λvs H1=>r vs H1 Q
def Z6(hc:zai X (.builtin id) r)(hg:Gl X x)(hm:X.mg x=none)(hv:bootBuiltins x=some (.builtin id))(ha:PA X (e::es) t)(hn:x≠ "__name__" := by decide)(hdb:(x==("__debug__" : Str))=false:=by decide)(he:starEach (e::es) X.env=(false,eval e X.env)::starEach es X.env:=by rfl)(hpl:(backTo pos (starEach es X.env)).any (·.1)=false:=by rfl):PE X (.Call (.Name x p) (e::es) [] pos) (tCB r t):=by
 intro aa s σ H Q I h;refine IU (Qo I hg hm hv ?_ hn hdb);exact PyProof.Rows.callWith_builtin1 (thn (ha pos aa s σ H _ I h) λus s1 ⟨vs,H1,I1,r1,q1⟩=>hc aa s1 σ H1 vs us Q I1 r1 q1) he hpl
def Xk(hc:zai X (.type T) r)(hg:Gl X x)(hm:X.mg x=none)(hv:bootBuiltins x=some (.type T))(ha:PA X (e::es) t)(hn:x≠ "__name__" := by decide)(hdb:(x==("__debug__" : Str))=false:=by decide)(he:starEach (e::es) X.env=(false,eval e X.env)::starEach es X.env:=by rfl)(hpl:(backTo pos (starEach es X.env)).any (·.1)=false:=by rfl):PE X (.Call (.Name x p) (e::es) [] pos) (tCB r t):=by
 intro aa s σ H Q I h;refine IU (Qo I hg hm hv ?_ hn hdb);exact IZ (thn (ha pos aa s σ H _ I h) λus s1 ⟨vs,H1,I1,r1,q1⟩=>hc aa s1 σ H1 vs us Q I1 r1 q1) he hpl
end
end L2
namespace HT
open PySem PyProof.Rows
section
variable {prog:Program}{w:World}{A:Around}{E:Value->SH->Prop}{s:SH}
def zjy{t b:AD}{vs ws:LD}{Q:Value->SH->Prop}(ht:IsTup s.heap t vs.toArray)(hb:IsTup s.heap b ws.toArray)(hv:vs≠[])(h1:ws=[]->Q (.ref t) s)(h2:ws≠[]->Q (.ref s.heap.objs.size) {s with heap:=s.heap.push {cls:=.type "tuple",data:=.seq (vs++ws).toArray}})(hsz:vs.length+ws.length<=sizeLine):wpAny (model prog w) A (binaryOp .Add (.ref t) (.ref b)) Q E s:=by
 obtain⟨⟨cls,dd,data,sl⟩,ho,hc,n,hd⟩:=id ht;obtain⟨⟨cls2,dd2,data2,sl2⟩,ho2,hc2,n2,hd2⟩:=id hb;simp only at hc hd hc2 hd2;subst hc hd hc2 hd2;have e:vs.toArray++ws.toArray=(vs++ws).toArray:=by simp
 by_cases hw:ws=[]
 .exact concat_meets ⟨_,ho,rfl⟩ ⟨_,ho2,rfl⟩ noFill_tuple_add seq_tuple_add PySem.F.slot_tuple_add PySem.F.entry_tuple_add (PySem.F.args_tuple_add_2 _ _)
   (tuple_addW1 t b vs.toArray ws.toArray n n2 dd dd2 sl sl2 (by simpa using hv) (by simp[hw])) ⟨ho,ho2,h1 hw⟩
 .refine concat_meets ⟨_,ho,rfl⟩ ⟨_,ho2,rfl⟩ noFill_tuple_add seq_tuple_add PySem.F.slot_tuple_add PySem.F.entry_tuple_add (PySem.F.args_tuple_add_2 _ _)
   (tuple_addW2 t b vs.toArray ws.toArray n n2 dd dd2 sl sl2 (by simpa using hv) (by simpa using hw) (by rw[Ix,Ix];exact hsz)) ⟨ho,ho2,?_⟩
  rw[e];exact h2 hw
noncomputable def sIx(n d:Nat):LH->Nat
 |none=>d
 |some v=>if v<0 then(v+(n:Int)).toNat else min v.toNat n
def V3(n d:Nat):sIx n d none=d:=rfl
def zcA(n d k:Nat):sIx n d (some (k:Int))=min k n:=by show(if(k:Int)<0 then((k:Int)+(n:Int)).toNat else min (k:Int).toNat n)=min k n;rw[Iw (by omega),OB]
end
end HT
namespace L2
open PySem PySem.Spec PyProof.Rows
variable {xs:LC}{us its:LD}{α:Type}{aa:List (Addr×Obj)}{σ:St}{s:SH}{x:V}
abbrev TO:=St->Hp->(LH->Hp->Prop)->Prop
def PO(X:Cx)(e:Option Expr)(t:TO):Prop:=
 ∀(aa:List (Addr×Obj))(s:SH)(σ:St)(H:Hp)(Q:LH->Hp->Prop),Inv X aa σ H s->t σ H Q->
  wpAny (model X.prog X.w) X.A (evalPart e X.env) (λu s' => ∃ o H',Inv X aa σ H' s' /\ IsPart u o/\Q o H') X.xe s
def zcy:TO:=λ_ H Q=>Q none H
def zjX(t:TE):TO:=fun σ H Q=>t σ H λx H1=>∃ i,x = .int i/\Q (some i) H1
section
variable {X:Cx}{e:Expr}{te:TE}{lo hi:Option Expr}{tl th:TO}{pos p2:Pos}
def zbc:PO X none zcy:=by intro aa s σ H Q I h;rw[evalPart_none];exact Ic ⟨none,H,I,.none,h⟩
def zbf(h:PE X e te):PO X (some e) (zjX te):=by intro aa s σ H Q I hw;rw[evalPart_some];refine thn (h aa s σ H _ I hw) λu s1 ⟨x,H1,I1,r1,q1⟩=>?_;obtain⟨i,rfl,q⟩:=q1;obtain⟨t,rfl⟩:=r1;exact⟨some i,H1,I1,.int i t,q⟩
def SlR(X:Cx)(r:V->LH->LH->Hp->VK->Prop):Prop:=
 ∀(aa:List (Addr×Obj))(s:SH)(σ:St)(H:Hp)(x:V)(v vl vu:Value)(lo hi:LH)(sl:AD)(Q:VK),Inv X aa σ H s->RelV x v->s.heap.IsSliceOf sl vl vu .none->IsPart vl lo->IsPart vu hi->r x lo hi H Q->
  ∃ T id,typeLookup (.type T) "__getitem__" = pure (some (.builtin id))/\s.TypeIs v T/\wpAny (model X.prog X.w) X.A (getItem v (.ref sl)) (EP X aa σ Q) X.xe s
def tSl(r:V->LH->LH->Hp->VK->Prop)(te:TE)(tl th:TO):TE:=fun σ H Q=>te σ H λx H1=>tl σ H1 λl H2=>th σ H2 λu H3=>r x l u H3 Q
def V9{r:V->LH->LH->Hp->VK->Prop}(hr:SlR X r)(he:PE X e te)(hl:PO X lo tl)(hu:PO X hi th):PE X (.Subscript e (.Slice lo hi none p2) pos) (tSl r te tl th):=by intro aa s σ H Q I h;refine Subscript_ (thn (he aa s σ H _ I h) λv s1 ⟨x,H1,I1,r1,q1⟩=>?_);refine wpAny_Slice (thn (hl aa s1 σ H1 _ I1 q1) λvl s2 ⟨l,H2,I2,pl,q2⟩=>thn (hu aa s2 σ H2 _ I2 q2) λvu s3 ⟨u,H3,I3,pu,q3⟩=>?_);rw[evalPart_none];refine Ic ?_;have I4:Inv X aa σ H3 {s3 with heap:=s3.heap.push {cls:=.type "slice",data:=.fields #[vl,vu,.none]}}:=I3.kept (t':=s3.toks) λb ob q=>Ie _ q;obtain⟨T,id,hT,ht,hg⟩:=hr aa {s3 with heap:=s3.heap.push {cls:=.type "slice",data:=.fields #[vl,vu,.none]}} σ H3 x v vl vu l u s3.heap.objs.size Q I4 r1 (Heap.IsSliceOf.new ..) pl pu q3;show wpAny (model X.prog X.w) X.A (subscriptTail e (.Slice lo hi none p2) v (.ref s3.heap.objs.size)) (EP X aa σ Q) X.xe {s3 with heap:=s3.heap.push {cls:=.type "slice",data:=.fields #[vl,vu,.none]}};exact tail_any (ops:=[.ref s3.heap.objs.size,v]) ht hT hg (by with_unfolding_all rfl)
noncomputable def zjA(xs:LC)(lo hi:LH):LC:=(xs.drop (HT.sIx xs.length 0 lo)).take (HT.sIx xs.length xs.length hi-HT.sIx xs.length 0 lo)
def zcv(xs:LC)(lo hi:LH):(zjA xs lo hi).length<=xs.length:=by unfold zjA;rw[NV,Ot];omega
def zeZ(K:FG):R2:=λx y H Q=>∃ a b xs ys,x = .ref a/\y = .ref b/\SqT K H a xs/\SqT K H b ys/\xs≠[]/\xs.length+ys.length<=sizeLine/\
 (ys=[]->Q (.ref a) H)/\(ys≠[]->∀ p,H p=none->Q (.ref p) (upd H p (.tup (xs++ys))))
def Vals.zcu(r:Vals xs us):us=[]↔xs=[]:=by
 cases r with
 |nil=>simp
 |cons _ _=>simp
def zjw:OpR X (binaryOp .Add) (zeZ X.K):=by intro aa s σ H x y v u Q I rx ry h;obtain⟨a,b,xs,ys,rfl,rfl,ha,hb,hx,hz,q1,q2⟩:=h;cases rx;cases ry;obtain⟨its,r1,p1,_⟩:=I.tuple ha;obtain⟨its2,r2,p2,_⟩:=I.tuple hb;refine HT.zjy p1 p2 (λz=>hx (r1.zcu.mp z)) (λz=>⟨.ref a,H,I,rfl,q1 (r2.zcu.mp z)⟩) (λz=>?_) (by rw[← r1.length,← r2.length];exact hz);refine⟨.ref s.heap.objs.size,_,I.laid (t':=s.toks) (o:=.tup (xs++ys)) (λb ob q=>Ie _ q) (Ih _) ?_,rfl,q2 (λw=>z (r2.zcu.mpr w)) _ (I.ac.fresh (Ih _))⟩;exact⟨by rw[Iv];exact hz,_,r1.append r2,IsTup.new _ _,_,Il _ rfl,rfl⟩
end
noncomputable def ixN(n:Nat)(i:Int):Option Nat:=if 0<=i then(if i<n then some i.toNat else none)else if -(n:Int)<=i then some (i+n).toNat else none
noncomputable def atI{α:Type}(xs:List α)(i:Int):Option α:=(ixN xs.length i).bind λj=>xs[j]?
def zfa{n:Nat}{i:Int}{j:Nat}(h:ixN n i=some j):seqIndex? i n=some j/\j<n/\-(n:Int)<=i/\i<n:=by
 unfold ixN at h;by_cases h0:0<=i
 .rw[IA h0]at h;by_cases h1:i<n
  .rw[IA h1]at h;have e:i.toNat=j:=Ip h;exact⟨by rw[seqIndex_of h0 h1,e],(by omega),(by omega),h1⟩
  .rw[Iw h1]at h;cases h
 .rw[Iw h0]at h;by_cases h1:-(n:Int)<=i
  .rw[IA h1]at h;have e:(i+n).toNat=j:=Ip h;exact⟨by rw[seqIndex_neg (by omega) h1,e],(by omega),h1,(by omega)⟩
  .rw[Iw h1]at h;cases h
def zcM{xs:List α}{i:Int}{v:α}(h:atI xs i=some v):∃ j,seqIndex? i xs.length=some j/\xs[j]?=some v/\j<xs.length/\-(xs.length:Int)<=i/\i<xs.length:=by
 unfold atI at h;cases e:ixN xs.length i with
 |none=>rw[e]at h;cases h
 |some j=>rw[e]at h;obtain⟨h1,h2,h3,h4⟩:=zfa e;exact⟨j,h1,h,h2,h3,h4⟩
def zfb{xs:List α}{j:Nat}{v:α}(h:xs[j]?=some v):atI xs (j:Int)=some v:=by
 have hj:j<xs.length:=(Ik.mp h).1;have e:ixN xs.length (j:Int)=some j:=by unfold ixN;rw[IA (by omega),IA (by omega)];simp
 unfold atI;rw[e];exact h
def zjE(b:Expr):Prop:=∀ o i,subscripted b false o i=operate [o,i] (getItem o i)
def IxR(X:Cx)(r:R2):Prop:=
 ∀(value slice:Expr)(aa:List (Addr×Obj))(s:SH)(σ:St)(H:Hp)(x y:V)(v u:Value)(Q:VK),Inv X aa σ H s->RelV x v->RelV y u->r x y H Q->
  subscripted slice false v u=operate [v,u] (getItem v u)->wpAny (model X.prog X.w) X.A (subscriptTail value slice v u) (EP X aa σ Q) X.xe s
def MtR(X:Cx)(id:String)(r:V->LC->Hp->VK->Prop):Prop:=
 ∀(aa:List (Addr×Obj))(s:SH)(σ:St)(H:Hp)(x:V)(xs:LC)(v:Value)(us:LD)(Q:VK),Inv X aa σ H s->RelV x v->Vals xs us->r x xs H Q->
  wpAny (model X.prog X.w) X.A (call (.builtin id) (v::us)) (EP X aa σ Q) X.xe s
section
variable {X:Cx}{a b:Expr}{ta tb:TE}{pos:Pos}
def Z0{r:R2}(hr:IxR X r)(ha:PE X a ta)(hb:PE X b tb)(hs:zjE b):PE X (.Subscript a b pos) (tOp r ta tb):=by intro aa s σ H Q I h;exact Subscript_ (zmj ha hb I h λv u s2 x y H2 I2 rx ry q=>hr a b aa s2 σ H2 x y v u Q I2 rx ry q (hs _ _))
def zgt(K:FG):R2:=λx y H Q=>∃ p xs i v,x = .ref p/\y = .int i/\SqL K H p xs/\atI xs i=some v/\Q v H
def zmi(K:FG):R2:=λx y H Q=>∃ p xs i v,x = .ref p/\y = .int i/\SqT K H p xs/\atI xs i=some v/\Q v H
def znm:R2:=λx y H Q=>∃ z i c,x = .str z/\y = .int i/\z.length<=sizeLine/\atI z.cps.toList i=some c/\Q (.str ⟨#[c]⟩) H
def zi2:IxR X (zgt X.K):=by
 intro value slice aa s σ H x y v u Q I rx ry h hs;obtain⟨p,xs,i,z,rfl,rfl,hq,he,q⟩:=h;cases rx;obtain⟨t,rfl⟩:=ry;obtain⟨its,r,pl,hz⟩:=I.list hq;obtain⟨j,h1,h2,h3,h4,h5⟩:=zcM he;obtain⟨w,ew,rw'⟩:=r.get h2;have hl:=r.length;have hn:=zbP;have fin:EP X aa σ Q w s:=⟨z,H,I,rw',q⟩
 by_cases h0:0<=i
 .have hj:i.toNat=j:=by rw[seqIndex_of h0 h5]at h1;exact Ip h1
  exact item_listR pl.isList h0 (by omega) (by rw[hj];simpa using ew) fin hs
 .have hj:(i+(its.toArray.size:Int)).toNat=j:=by rw[seqIndex_neg (by omega) h4]at h1;rw[Ix,← hl];exact Ip h1
  exact subscriptTail_builtinR (x:=w) pl.isList.typeIs slot_list_getitem.lookup
   (wpAny_getItem_list_neg (Q:=λr s' => r=w/\EP X aa σ Q r s') pl.isList (by omega) (by rw[Ix] <;> omega) (by omega) (by rw[hj];simpa using ew) ⟨rfl,fin⟩) hs
def zkk:IxR X (zmi X.K):=by
 intro value slice aa s σ H x y v u Q I rx ry h hs;obtain⟨p,xs,i,z,rfl,rfl,hq,he,q⟩:=h;cases rx;obtain⟨t,rfl⟩:=ry;obtain⟨its,r,pl,hz⟩:=I.tuple hq;obtain⟨j,h1,h2,h3,h4,h5⟩:=zcM he;obtain⟨w,ew,rw'⟩:=r.get h2;have hl:=r.length;have hn:=zbP;have fin:EP X aa σ Q w s:=⟨z,H,I,rw',q⟩
 exact subscriptTail_builtinR (x:=w) pl.typeIs slot_tuple_getitem.lookup
  (getItem_tuple (j:=j) (Q:=λr s' => r=w/\EP X aa σ Q r s') pl (by omega) (by omega) (by rw[Ix,← hl];exact h1) (by simpa using ew) ⟨rfl,fin⟩) hs
def zh4:IxR X znm:=by
 intro value slice aa s σ H x y v u Q I rx ry h hs;obtain⟨z,i,c,rfl,rfl,hz,he,q⟩:=h;obtain⟨t,rfl⟩:=rx;obtain⟨t',rfl⟩:=ry;obtain⟨j,h1,h2,h3,h4,h5⟩:=zcM he;have hl:z.cps.toList.length=z.length:=by simp[Str.length]
 rw[hl]at h1 h4 h5;have hn:=zbP;exact tail_any (typeIs_str s z t) slot_str_getitem.lookup (getItem_str (c:=c) (by
  have e1:decide (i < -(2^63:Int))=false:=Iy (by omega);have e2:decide (i ≥ 2^63)=false:=Iy (by omega);rw[e1,e2,Bool.or_false]) (by rw[h1];simpa using h2) ⟨.str ⟨#[c]⟩,H,I.tok _,⟨_,rfl⟩,q⟩) hs
def zej(its:LD)(n j:Nat)(u:Value):Obj.mapSeq (·.setIfInBounds j u) {cls:=.type "list",data:=.seq its.toArray n}={cls:=.type "list",data:=.seq (its.set j u).toArray n}:=by simp[Obj.mapSeq]
theorem Inv.lst{H:Hp}{p:AD}(I:Inv X aa σ H s)(h:H p=some (.lst xs)):
  ∃(its:LD)(n:Nat),Vals xs its/\s.heap.get? p=some {cls:=.type "list",data:=.seq its.toArray n}/\xs.length<=sizeLine:=by
 obtain⟨z,its,n,r,e⟩:=I.ac p _ h;exact⟨its,n,r,e,z⟩
def Inv.zl7{H:Hp}{p:AD}{ys:LC}{its':LD}{n n' : Nat}{f:Obj->Obj}(I:Inv X aa σ H s)(h:H p=some (.lst xs))(ho:s.heap.get? p=some {cls:=.type "list",data:=.seq its.toArray n})(hf:f {cls:=.type "list",data:=.seq its.toArray n}={cls:=.type "list",data:=.seq its'.toArray n'})(r:Vals ys its')(hz:ys.length<=sizeLine)(t:Nat):
  Inv X aa σ (upd H p (.lst ys)) {s with heap:=s.heap.update p f,toks:=t}:=by
 have e:(s.heap.update p f).get? p=some {cls:=.type "list",data:=.seq its'.toArray n'}:=by rw[Nh f ho (by rw[hf] <;> rfl),hf]
 refine I.write (x:=p) (e:=p) (by rw[h];trivial) (.inl rfl) (λb u hb q=>(II _ _ (Ne.symm hb)).trans q) ⟨_,e⟩ ?_;exact⟨hz,its',n',r,e⟩
def zmk:V->V->V->Hp->(Hp->Prop)->Prop:=λo i v H Q=>∃ p xs k j,o = .ref p/\i = .int k/\H p=some (.lst xs)/\ixN xs.length k=some j/\Q (upd H p (.lst (xs.set j v)))
def set_list:znd X zmk:=by
 intro aa s σ H o i v ov iv u Q I ro ri rv h;obtain⟨p,xs,k,j,rfl,rfl,hp,hj,q⟩:=h;cases ro;obtain⟨t,rfl⟩:=ri;obtain⟨its,n,r,ho,hz⟩:=I.lst hp;obtain⟨h1,h2,h3,h4⟩:=zfa hj;have hl:=r.length;have hn:=zbP;have I' : Inv X aa σ (upd H p (.lst (xs.set j v))) {s with heap:=s.heap.update p (Obj.mapSeq (·.setIfInBounds j u))}:=I.zl7 hp ho (zej its n j u) (r.set rv j) (by rw[List.length_set];exact hz) s.toks
 by_cases h0:0<=k
 .have hk:k.toNat=j:=by rw[seqIndex_of h0 h4]at h1;exact Ip h1
  exact PySem.W.ki_setAt ho h0 (by omega) (by rw[Ix,← hl];exact h4) (by rw[hk];exact⟨_,I',q⟩)
 .have hk:(k+(its.toArray.size:Int)).toNat=j:=by rw[seqIndex_neg (by omega) h3]at h1;rw[Ix,← hl];exact Ip h1
  exact PySem.W.ki_setBack ho (by omega) (by rw[Ix,← hl];exact h3) (by omega) (by rw[hk];exact⟨_,I',q⟩)
def zbj(lo hi:LH)(n:Nat):(sliceBounds lo hi none n).1=((HT.sIx n 0 lo:Nat):Int)/\(sliceBounds lo hi none n).2.1=((HT.sIx n n hi:Nat):Int)/\(sliceBounds lo hi none n).2.2=1:=by
 refine⟨?_,?_,rfl⟩
 .cases lo with
  |none=>simp[sliceBounds,HT.sIx]
  |some i=>
   simp only[sliceBounds,HT.sIx,Option.getD_none,show(1:Int)>0 by decide,Ox];by_cases h:i<0
   .simp only[h,Ox] <;> omega
   .simp only[h,IW] <;> omega
 .cases hi with
  |none=>simp[sliceBounds,HT.sIx]
  |some i=>
   simp only[sliceBounds,HT.sIx,Option.getD_none,show(1:Int)>0 by decide,Ox];by_cases h:i<0
   .simp only[h,Ox] <;> omega
   .simp only[h,IW] <;> omega
def zaR(its:LD)(lo hi:LH):slicePick its.toArray lo hi none=((its.drop (HT.sIx its.length 0 lo)).take (HT.sIx its.length its.length hi-HT.sIx its.length 0 lo)).toArray:=by obtain⟨h1,h2,h3⟩:=zbj lo hi its.toArray.size;unfold slicePick;rw[h1,h2,h3];simp only[sliceRange_one,pick_run,Ix] <;> rfl
def zj7(K:FG):V->LH->LH->Hp->VK->Prop:=λx lo hi H Q=>∃ a xs,x = .ref a/\SqL K H a xs/\∀ p,H p=none->Q (.ref p) (upd H p (.lst (zjA xs lo hi)))
def ziA:SlR X (zj7 X.K):=by intro aa s σ H x v vl vu lo hi sl Q I rx hs pl pu h;obtain⟨a,xs,rfl,hx,q⟩:=h;cases rx;obtain⟨its,r,ht,hz⟩:=I.list hx;have hlen:=r.length;refine⟨"list",_,slot_list_getitem.lookup,ht.isList.typeIs,?_⟩;refine wpAny_getItem_list_slice ht.isList hs pl pu .none (by simp) ?_ (by rw[Ix] <;> omega);rw[zaR,← hlen];refine⟨.ref s.heap.objs.size,_,I.laid (t':=s.toks) (o:=.lst (zjA xs lo hi)) (λb ob q=>Ie _ q) (Ih _) ?_,rfl,q _ (I.ac.fresh (Ih _))⟩;exact⟨Nj (zcv xs lo hi) hz,_,0,(r.drop (HT.sIx xs.length 0 lo)).take (HT.sIx xs.length xs.length hi-HT.sIx xs.length 0 lo),Il _ rfl⟩
noncomputable def za9:V->Bool
 |.non=>true
 |.bl _=>true
 |.int _=>true
 |.str _=>true
 |_=>false
noncomputable def eqV:V->V->Bool
 |.non,.non=>true
 |.bl a,.bl b=>a==b
 |.bl a,.int b=>(if a then 1 else 0)==b
 |.int a,.bl b=>a==(if b then 1 else 0)
 |.int a,.int b=>a==b
 |.str a,.str b=>a==b
 |_,_=>false
def zlh{A:Around}{y:V}{u v:Value}(ry:RelV y u)(rx:RelV x v)(fy:za9 y=true)(fx:za9 x=true):SeqAt.EqAt A s u v (eqV y x):=by
 cases y with
 |non=>
  cases ry;cases x with
  |non=>cases rx;exact SeqAt.EqAt.same _
  |bl b=>cases rx;exact SeqAt.EqAt.none_bool b
  |int b=>obtain⟨t,rfl⟩:=rx;exact SeqAt.EqAt.none_int b t
  |str b=>obtain⟨t,rfl⟩:=rx;exact SeqAt.EqAt.none_str b t
  |_=>exact absurd (show false=true from fx) Ij
 |bl a=>
  cases ry;cases x with
  |non=>cases rx;exact SeqAt.EqAt.bool_none a
  |bl b=>cases rx;exact SeqAt.EqAt.bool_bool a b
  |int b=>obtain⟨t,rfl⟩:=rx;exact SeqAt.EqAt.bool_int a b t
  |str b=>obtain⟨t,rfl⟩:=rx;exact SeqAt.EqAt.bool_str a b t
  |_=>exact absurd (show false=true from fx) Ij
 |int a=>
  obtain⟨t',rfl⟩:=ry;cases x with
  |non=>cases rx;exact SeqAt.EqAt.int_none a t'
  |bl b=>cases rx;exact SeqAt.EqAt.int_bool a t' b
  |int b=>obtain⟨t,rfl⟩:=rx;exact SeqAt.EqAt.int_int a t' b t
  |str b=>obtain⟨t,rfl⟩:=rx;exact SeqAt.EqAt.int_str a t' b t
  |_=>exact absurd (show false=true from fx) Ij
 |str a=>
  obtain⟨t',rfl⟩:=ry;cases x with
  |non=>cases rx;exact SeqAt.EqAt.str_none a t'
  |bl b=>cases rx;exact SeqAt.EqAt.str_bool a t' b
  |int b=>obtain⟨t,rfl⟩:=rx;exact SeqAt.EqAt.str_int a t' b t
  |str b=>obtain⟨t,rfl⟩:=rx;exact SeqAt.EqAt.str_str a t' b t
  |_=>exact absurd (show false=true from fx) Ij
 |_=>exact absurd (show false=true from fy) Ij
noncomputable def eqU(x:V)(u:Value):Bool:=match u with
 |.none=>eqV .non x
 |.bool b=>eqV (.bl b) x
 |.int i _=>eqV (.int i) x
 |.str z _=>eqV (.str z) x
 |_=>false
def zhC{y:V}{u:Value}(r:RelV y u)(f:za9 y=true):eqU x u=eqV y x:=by
 cases y with
 |non=>cases r;rfl
 |bl b=>cases r;rfl
 |int i=>obtain⟨t,rfl⟩:=r;rfl
 |str z=>obtain⟨t,rfl⟩:=r;rfl
 |_=>exact absurd (show false=true from f) Ij
theorem U4 :∀{xs:LC}{us:LD},Vals xs us->xs.all za9=true->us.any (eqU x)=xs.any λy=>eqV y x
 |_,_,.nil,_=>rfl
 |y::xs,u::us,.cons r t,f=>by rw[List.all_cons,Nd]at f;rw[any_cons,any_cons,zhC r f.1,U4 t f.2]
theorem QT{A:Around}{v:Value}(rx:RelV x v)(fx:za9 x=true):∀{xs:LC}{us:LD},Vals xs us->xs.all za9=true->∀ u∈us,SeqAt.EqAt A s u v (eqU x u)
 |_,_,.nil,_=>λu hu=>by cases hu
 |y::xs,u::us,.cons r t,f=>λu' hu=>by
  rw[List.all_cons,Nd]at f;rcases ID.mp hu with rfl | hu
  .rw[zhC r f.1];exact zlh r rx f.1 fx
  .exact QT rx fx t f.2 u' hu
noncomputable def inV(x:V)(xs:LC):Bool:=xs.any λy=>eqV y x
def rIn(K:FG)(neg:Bool):R2:=λx y H Q=>∃ p xs,y = .ref p/\(SqL K H p xs\/SqT K H p xs)/\za9 x=true/\xs.all za9=true/\Q (.bl (if neg then !inV x xs else inV x xs)) H
def zbG:OpR X (compareOp .In) (rIn X.K false):=by
 intro aa s σ H x y v u Q I rx ry h;obtain⟨p,xs,rfl,hq,fx,fs,q⟩:=h;cases ry;rcases hq with hq | hq
 .obtain⟨its,r,pl,hz⟩:=I.list hq;refine SeqAt.in_listAt (eqU x) pl.isList (λw hw=>QT rx fx r fs w (by simpa using hw)) ⟨.bl _,H,I,rfl,?_⟩;rw[show its.toArray.any (eqU x)=its.any (eqU x)by simp,U4 r fs];exact q
 .obtain⟨its,r,pl,hz⟩:=I.tuple hq;refine SeqAt.in_tupleAt (eqU x) pl (λw hw=>QT rx fx r fs w (by simpa using hw)) ⟨.bl _,H,I,rfl,?_⟩;rw[show its.toArray.any (eqU x)=its.any (eqU x)by simp,U4 r fs];exact q
def zb9:OpR X (compareOp .NotIn) (rIn X.K true):=by
 intro aa s σ H x y v u Q I rx ry h;obtain⟨p,xs,rfl,hq,fx,fs,q⟩:=h;cases ry;rcases hq with hq | hq
 .obtain⟨its,r,pl,hz⟩:=I.list hq;refine SeqAt.notIn_listAt (eqU x) pl.isList (λw hw=>QT rx fx r fs w (by simpa using hw)) ⟨.bl _,H,I,rfl,?_⟩;rw[show its.toArray.any (eqU x)=its.any (eqU x)by simp,U4 r fs];exact q
 .obtain⟨its,r,pl,hz⟩:=I.tuple hq;refine SeqAt.notIn_tupleAt (eqU x) pl (λw hw=>QT rx fx r fs w (by simpa using hw)) ⟨.bl _,H,I,rfl,?_⟩;rw[show its.toArray.any (eqU x)=its.any (eqU x)by simp,U4 r fs];exact q
def zbq:zai X (.builtin "len") (λxs H Q=>∃ p ys,xs=[.ref p]/\(SqL X.K H p ys\/SqT X.K H p ys)/\Q (.int ys.length) H):=by
 intro aa s σ H xs us Q I r h;obtain⟨p,ys,rfl,hq,q⟩:=h;obtain⟨u,rfl,rx⟩:=vals1 r;cases rx;have hn:=zbP;rcases hq with hq | hq
 .obtain⟨its,r',pl,hz⟩:=I.list hq;have hlen:=r'.length;exact Calls.call_len_list pl.isList (by simp only[Ix] <;> omega) ⟨.int ys.length,H,I.tok _,⟨s.toks+1,by rw[Ix,hlen]⟩,q⟩
 .obtain⟨its,r',pl,hz⟩:=I.tuple hq;have hlen:=r'.length;exact len_tuple pl (by simp only[Ix] <;> omega) ⟨.int ys.length,H,I.tok _,⟨s.toks+1,by rw[Ix,hlen]⟩,q⟩
def zaD:zai X (.type "tuple") (λxs H Q=>∃ p ys,xs=[.ref p]/\((SqL X.K H p ys/\∀ l,H l=none->Q (.ref l) (upd H l (.tup ys)))\/(SqT X.K H p ys/\Q (.ref p) H))):=by
 intro aa s σ H xs us Q I r h;obtain⟨p,ys,rfl,h⟩:=h;obtain⟨u,rfl,rx⟩:=vals1 r;cases rx;rcases h with⟨hq,q⟩ | ⟨hq,q⟩
 .obtain⟨its,r',pl,hz⟩:=I.list hq;have hlen:=r'.length;refine call_tuple_list pl.isList (λh' kp=>?_) (by simp only[Ix] <;> omega);have I1:Inv X aa σ H {s with heap:=h'}:=I.kept (t':=s.toks) kp;have I2:Inv X aa σ (upd H h'.objs.size (.tup ys)) {s with heap:=h'.push {cls:=.type "tuple",data:=.seq its.toArray}}:=I1.laid (t':=s.toks) (λb o e=>Ie _ e) (Ih _) (show Yt X.prog X.w _ _ _ (.tup ys)from⟨hz,its,r',IsTup.new _ _,_,Il _ rfl,rfl⟩)
  exact⟨.ref h'.objs.size,_,I2,rfl,q _ (I1.ac.fresh (Ih _))⟩
 .obtain⟨its,r',pl,hz⟩:=I.tuple hq;exact call_tuple_same pl ⟨.ref p,H,I,rfl,q⟩
def tyV(K:FG)(T:String)(x:V)(H:Hp):Prop:=match x with
 |.str _=>T = "str"
 |.int _=>T = "int"
 |.ref p=>(T = "list" /\ ∃ xs,SqL K H p xs)\/(T = "tuple" /\ ∃ o,K.lookup p=some o/\o.cls = .type "tuple" /\ o.dict=none)\/
   (T = "dict" /\ ((∃ kvs,H p=some (.dK kvs))\/∃ kvs,H p=some (.dT kvs)))\/(T = "set" /\ ∃ S n,H p=some (.set S n))
 |_=>False
def zh6{H:Hp}{T:String}{v:Value}(I:Inv X aa σ H s)(r:RelV x v)(ty:tyV X.K T x H):
  s.TypeIs v T/\∀ a,v = .ref a->∃ ob,s.heap.get? a=some ob/\ob.dict=none:=by
 cases x with
 |str z=>obtain⟨t,rfl⟩:=r;cases(show T = "str" from ty);exact⟨typeIs_str s z t,λ_ e=>nomatch e⟩
 |int i=>obtain⟨t,rfl⟩:=r;cases(show T = "int" from ty);exact⟨typeIs_int s i t,λ_ e=>nomatch e⟩
 |ref p=>
  cases r;rcases ty with⟨rfl,xs,hq⟩ | ⟨rfl,o,hk,hc,hd⟩ | ⟨rfl,hk⟩ | ⟨rfl,S,n,hk⟩
  .obtain⟨its,_,pl,_⟩:=I.list hq;refine⟨pl.isList.typeIs,λa e=>?_⟩;cases e;obtain⟨o,n,e,c,hd,_⟩:=pl;exact⟨o,e,hd⟩
  .refine⟨⟨o,I.kIn p o hk,hc⟩,λa e=>?_⟩;cases e;exact⟨o,I.kIn _ o hk,hd⟩
  .have z:∃ o,s.heap.get? p=some o/\o.ExactDict:=by
    rcases hk with⟨kvs,hk⟩ | ⟨kvs,hk⟩
    .obtain⟨_,_,_,_,o,_,_,e,ex,_⟩:=I.ac p _ hk;exact⟨o,e,ex⟩
    .obtain⟨_,_,_,_,o,_,_,e,ex,_⟩:=I.ac p _ hk;exact⟨o,e,ex⟩
   obtain⟨o,e,ex⟩:=z;refine⟨⟨o,e,ex.1⟩,λa e2=>?_⟩;cases e2;exact⟨o,e,ex.2.1⟩
  .obtain⟨o,_,_,_,e,ex,_⟩:=I.ac p _ hk;refine⟨⟨o,e,ex.1⟩,λa e2=>?_⟩;cases e2;exact⟨o,e,ex.2.1⟩
 |_=>exact False.elim ty
def zns(K:FG)(T:String)(r:V->LC->Hp->VK->Prop)(to:TE):TE:=fun σ H Q=>to σ H λx H1=>tyV K T x H1/\r x [] H1 Q
def tBM(K:FG)(T:String)(r:V->LC->Hp->VK->Prop)(to:TE)(t:TA):TE:=fun σ H Q=>to σ H λx H1=>tyV K T x H1/\t σ H1 λxs H2=>r x xs H2 Q
variable {o e:Expr}{es:List Expr}{to:TE}{t:TA}{name:Str}{apos cpos:Pos}{T id:String}{r:V->LC->Hp->VK->Prop}
def zlU(pa:PlainAttrs T)(slot:Slot T name id)(hty:typeOf (.builtin id)=pure (.type "method_descriptor"))(hm:MtR X id r)(ho:PE X o to)(hbase:attributeBase o name X.env (eval o X.env)=eval o X.env:=by rfl)(hline:(apos.endLine==cpos.line)=true:=by rfl):PE X (.Call (.Attribute o name apos) [] [] cpos) (zns X.K T r to):=by
 intro aa s σ H Q I h;refine wpAny_Call_method0_late hbase hline (thn (ho aa s σ H _ I h) λv s1 ⟨x,H1,I1,r1,ty,q1⟩=>?_);obtain⟨h1,h2⟩:=zh6 I1 r1 ty;exact⟨T,id,pa,slot,hty,h1,h2,callWith_builtin rfl (PySem.evalArgs_none (hm aa s1 σ H1 x [] v [] Q I1 r1 .nil q1))⟩
def VL(pa:PlainAttrs T)(slot:Slot T name id)(hty:typeOf (.builtin id)=pure (.type "method_descriptor"))(hm:MtR X id r)(ho:PE X o to)(ha:PA X (e::es) t)(hbase:attributeBase o name X.env (eval o X.env)=eval o X.env:=by rfl)(hfew:((backTo cpos (starEach (e::es) X.env)).all (λx=>!x.1)&&(backToKw cpos (keywordEach [] X.env)).all (λx=>x.1.isSome)
   && decide ((e::es).length+([]:List Keyword).length+(if([]:List Keyword).isEmpty then 0 else 1)<30))=true:=by rfl)(hline:(apos.endLine==cpos.line)=true:=by rfl)(hs:starEach (e::es) X.env=(false,eval e X.env)::starEach es X.env:=by rfl)(hplain:(backTo cpos (starEach es X.env)).any (·.1)=false:=by rfl):
  PE X (.Call (.Attribute o name apos) (e::es) [] cpos) (tBM X.K T r to t):=by
 intro aa s σ H Q I h;refine wpAny_Call_method_late hbase hfew hline rfl (thn (ho aa s σ H _ I h) λv s1 ⟨x,H1,I1,r1,ty,q1⟩=>?_);obtain⟨h1,h2⟩:=zh6 I1 r1 ty;refine⟨T,id,pa,slot,hty,h1,h2,?_⟩;have hA:=ha cpos aa s1 σ H1 _ I1 q1;rw[hs]at hA ⊢;refine callWith_builtin (by show(false||(backTo cpos (starEach es X.env)).any (·.1))=false;rw[hplain] <;> rfl) (evalArgs_plain ?_);exact thn hA λus s2 ⟨vs,H2,I2,r2,q2⟩=>hm aa s2 σ H2 x vs v us Q I2 r1 r2 q2
end
def MtM(X:Cx)(id:String)(r:V->LC->Hp->VK->Prop):Prop:=
 ∀(aa:List (Addr×Obj))(s:SH)(σ:St)(H:Hp)(x:V)(xs:LC)(v:Value)(us:LD)(Q:VK),Inv X aa σ H s->RelV x v->Vals xs us->r x xs H Q->
  wpAny (model X.prog X.w) X.A (call (.builtin id) (v::us)) (EP X aa σ Q) X.xe s
theorem Vals.one:∀{x:V}{us:LD},Vals [x] us->∃ u,us=[u]/\RelV x u
 |_,_,.cons r .nil=>⟨_,rfl,r⟩
theorem Vals.two:∀{x y:V}{us:LD},Vals [x,y] us->∃ u v,us=[u,v]/\RelV x u/\RelV y v
 |_,_,_,.cons r (.cons q .nil)=>⟨_,_,rfl,r,q⟩
theorem Vals.zero:∀{us:LD},Vals [] us->us=[]
 |_,.nil=>rfl
theorem Vals.dropLast(h:Vals xs us):Vals xs.dropLast us.dropLast:=by
 induction h with
 |nil=>exact .nil
 |cons r t ih=>
  cases t with
  |nil=>exact .nil
  |cons q t' => exact .cons r ih
theorem Vals.eraseIdx:∀{xs:LC}{us:LD}(i:Nat),Vals xs us->Vals (xs.eraseIdx i) (us.eraseIdx i)
 |_,_,_,.nil=>.nil
 |_,_,0,.cons _ t=>t
 |_,_,i+1,.cons r t=>.cons r (Vals.eraseIdx i t)
theorem Vals.reverse(h:Vals xs us):Vals xs.reverse us.reverse:=by
 induction h with
 |nil=>exact .nil
 |cons r t ih=>rw[Oh,Oh];exact Vals.append ih (.cons r .nil)
def zd4(l:List α):l.eraseIdx (l.length-1)=l.dropLast:=by
 induction l with
 |nil=>rfl
 |cons a r ih=>
  cases r with
  |nil=>rfl
  |cons b r=>
   have e:(a::b::r).length-1=((b::r).length-1)+1:=by have h1:(a::b::r).length=r.length+2:=rfl;have h2:(b::r).length=r.length+1:=rfl;omega
   rw[e,List.eraseIdx_cons_succ,ih]
   all_goals rfl
theorem zbR :∀(l:List α)(i:Nat),(l.eraseIdx i).length<=l.length
 |[],_=>Ih _
 |_::_,0=>le_succ _
 |_::r,i+1=>Nat.succ_le_succ (zbR r i)
section
variable {X:Cx}{aa:List (Addr×Obj)}{σ:St}{H:Hp}{s:SH}{l b:AD}{xs ys zs:LC}
def Inv.zj2{its':LD}{n:Nat}{f:Array Value->Array Value}{t' : Nat}(I:Inv X aa σ H s)(hH:H l=some (.lst xs))(e:s.heap.get? l=some {cls:=.type "list",data:=.seq its.toArray n})(hf:f its.toArray=its'.toArray)(hv:Vals ys its')(hz:ys.length<=sizeLine):
  Inv X aa σ (upd H l (.lst ys)) {s with heap:=s.heap.update l (Obj.mapSeq f),toks:=t'}:=by
 have q:=PySem.IsL.update e f;rw[hf]at q;refine I.write (x:=l) (e:=l) (by rw[hH];exact trivial) (.inl rfl) (λb' u hb hu=>(II s.heap (Obj.mapSeq f) (Ne.symm hb)).trans hu) ⟨_,q⟩ ?_;exact⟨hz,its',_,hv,q⟩
def Inv.znk{t' : Nat}(I:Inv X aa σ H s)(hv:Vals ys its)(hz:ys.length<=sizeLine):
  Inv X aa σ (upd H s.heap.objs.size (.lst ys)) {s with heap:=s.heap.push {cls:=.type "list",data:=.seq its.toArray},toks:=t'}:=
 I.laid (λ_ _ q=>Ie _ q) (Ih _) ⟨hz,its,0,hv,Il _ rfl⟩
theorem Inv.fresh(I:Inv X aa σ H s):H s.heap.objs.size=none:=I.ac.fresh (Ih _)
def Inv.zh5(I:Inv X aa σ H s)(hH:H l=some (.lst xs)):xs.length<=sizeLine/\∃(its:LD)(n:Nat),Vals xs its/\xs.length=its.length/\s.heap.get? l=some {cls:=.type "list",data:=.seq its.toArray n}:=by obtain⟨z,its,n,r,e⟩:=I.ac l _ hH;exact⟨z,its,n,r,r.length,e⟩
end
section
variable {X:Cx}
def ziu:V->LC->Hp->VK->Prop:=λx vs H Q=>∃ l xs y,x = .ref l/\vs=[y]/\H l=some (.lst xs)/\xs.length<sizeLine/\Q .non (upd H l (.lst (xs++[y])))
def Wv:MtM X "list.append" ziu:=by intro aa s σ H x vs v us Q I rx rv h;obtain⟨l,xs,y,rfl,rfl,hH,hz,q⟩:=h;cases rx;obtain⟨u,rfl,ru⟩:=rv.one;obtain⟨z,its,n,r,hl,e⟩:=I.zh5 hH;refine call_meets F.slot_list_append ⟨_,e,rfl⟩ F.entry_list_append (F.args_list_append_2 _ _) (PySem.list_append l its.toArray n u (by rw[Ix];omega)) ⟨e,?_⟩;refine⟨.non,_,I.zj2 (its':=its++[u]) hH e (by simp) (r.append (.cons ru .nil)) ?_,rfl,q⟩;rw[Iv,List.length_singleton];omega
def znF:V->LC->Hp->VK->Prop:=λx vs H Q=>∃ l xs y,x = .ref l/\vs=[]/\H l=some (.lst xs)/\xs[xs.length-1]?=some y/\Q y (upd H l (.lst xs.dropLast))
def zld:MtM X "list.pop" znF:=by
 intro aa s σ H x vs v us Q I rx rv h;obtain⟨l,xs,y,rfl,rfl,hH,hy,q⟩:=h;cases rx;have hus:=rv.zero;subst hus;obtain⟨z,its,n,r,hl,e⟩:=I.zh5 hH;obtain⟨u,hu,ru⟩:=r.get hy;have hy' : its.toArray[its.toArray.size-1]?=some u:=by show its.toArray[its.length-1]?=some u;rw[← getElem?_toList,← hl];exact hu
 refine call_meets F.slot_list_pop ⟨_,e,rfl⟩ F.entry_list_pop (F.args_list_pop_1 _) (MeetsSeq.list_pop_last l its.toArray n u hy' (by rw[Ix];omega)) ⟨e,?_⟩;refine⟨y,_,I.zj2 (its':=its.dropLast) hH e ?_ r.dropLast ?_,ru,q⟩
 .show its.toArray.eraseIdxIfInBounds (its.toArray.size-1)=its.dropLast.toArray;rw[Ix,List.eraseIdxIfInBounds_toArray,zd4]
 .rw[List.length_dropLast];omega
def zhN:V->LC->Hp->VK->Prop:=λx vs H Q=>∃ l xs i k y,x = .ref l/\vs=[.int i]/\H l=some (.lst xs)/\-(2^63)<=i/\i<2^63/\seqIndex? i xs.length=some k/\xs[k]?=some y/\Q y (upd H l (.lst (xs.eraseIdx k)))
def zgF:MtM X "list.pop" zhN:=by
 intro aa s σ H x vs v us Q I rx rv h;obtain⟨l,xs,i,k,y,rfl,rfl,hH,h1,h2,hk,hy,q⟩:=h;cases rx;obtain⟨u,rfl,ru⟩:=rv.one;obtain⟨t,rfl⟩:=ru;obtain⟨z,its,n,r,hl,e⟩:=I.zh5 hH;obtain⟨w,hw,rw'⟩:=r.get hy;refine call_meets F.slot_list_pop ⟨_,e,rfl⟩ F.entry_list_pop (F.args_list_pop_2 _ _)
  (MeetsSeq.list_pop_at l its.toArray n i t k w (fitsIndex_both h1 h2) (by rw[Ix,← hl];exact hk) (by rw[← getElem?_toList];exact hw) (by rw[Ix];omega)) ⟨e,?_⟩
 refine⟨y,_,I.zj2 (its':=its.eraseIdx k) hH e ?_ (r.eraseIdx k) ?_,rw',q⟩
 .show its.toArray.eraseIdxIfInBounds k=(its.eraseIdx k).toArray;rw[List.eraseIdxIfInBounds_toArray]
 .have:=zbR xs k;omega
def zmY:R2:=λx y H Q=>∃ l b xs zs,x = .ref l/\y = .ref b/\H l=some (.lst xs)/\H b=some (.lst zs)/\xs.length+zs.length<=sizeLine/\∀ p,H p=none->Q (.ref p) (upd H p (.lst (xs++zs)))
def zeD:OpR X (binaryOp .Add) zmY:=by
 intro aa s σ H x y v u Q I rx ry h;obtain⟨l,b,xs,zs,rfl,rfl,hH,hB,hz,q⟩:=h;cases rx;cases ry;obtain⟨z,its,n,r,hl,e⟩:=I.zh5 hH;obtain⟨z2,its2,n2,r2,hl2,e2⟩:=I.zh5 hB;refine PySem.P.add_list e e2 ?_ (by rw[Ix,Ix];omega);have ea:its.toArray++its2.toArray=(its++its2).toArray:=by simp
 rw[ea];exact⟨.ref _,_,I.znk (t':=s.toks) (r.append r2) (by rw[Iv];omega),rfl,q _ I.fresh⟩
end
section
variable {prog:Program}{w:World}{A:Around}{E:Value->SH->Prop}{s:SH}
set_option maxRecDepth 100000 in
end
end L2
namespace Att
open PySem PySem.W PySem.Calls PyProof.Rows
def U8{P:Params}{h:Heap}:∀(ns:List Int)(vs:LD),WellAll P h vs (ns.map WData.int)->IntsAre vs ns:=by
 intro ns
 induction ns with
 |nil=>intro vs w;rw[map_nil]at w;cases w;exact .nil
 |cons n ns ih=>
  intro vs w;rw[Nb]at w;cases w with
  |cons a b=>cases a;exact .cons _ _ (ih _ b)
def zfW{l:OpenLaw}{n:Nat}(hn:l.most=some n){P:Params}{h:Heap}{args:List WData}{vals:LD}(hpre:l.row.toRowW.claim.pre args=true)(hwl:WellAll P h vals args):
  ∃ a vs ns,vals=[Value.ref a]/\args=[WData.list (ns.map WData.int)]/\h.get? a=some {cls:=.type "list",data:=.seq vs.toArray}/\IntsAre vs ns/\ns.length<=n:=by
 have hsh:WShape.hasAll [] args [.list .int]=true:=(pre_splitW hpre).1;have hc:l.pre.holds [] {args:=args}=true:=(pre_splitW hpre).2;obtain⟨d,r,rfl,h1,h2⟩:=hasAllW_cons hsh;obtain rfl:=hasAllW_nil h2;obtain⟨xs,rfl,h3⟩:=hasW_list h1;obtain⟨ns,rfl⟩:=items_int h3;have hlen:ns.length<=n:=by
  unfold OpenLaw.pre at hc;have h4:(WTm.not (.lt (.lit (.int (n:Int))) (.len (.arg 0)))).holds [] {args:=[.list (ns.map .int)]}=true:=by have h4:=(holds_andW hc).1;rw[hn]at h4;exact h4
  have h5:=condW_of h4 (w_not (w_lt w_lit (w_len_list (w_arg rfl))));rw[Ig]at h5;refine Nat.le_of_not_lt λq=>?_;have q' : (n:Int)<((ns.length:Nat):Int):=by omega
  first
   |(rw[Iq q']at h5;exact absurd h5 (by decide))
   |(simp at h5;omega)
 cases hwl with
 |cons w1 w2=>
  cases w2;cases w1 with
  |list ho hall=>exact⟨_,_,ns,rfl,rfl,ho,U8 ns _ hall,hlen⟩
def zfC(l:OpenLaw)(args:List WData):l.row.toRowW.claim.post args (.bool true) args=true:=
 postW_of (r:=l.row.toRowW) (X:=(true==true))
  (show WShape.has [] (.bool true) .bool=true by first | rfl | decide | simp[WShape.has,WShape.arms,WShape.armsAll])
  (show(WTm.eq .res (.lit (.bool true))).value [] {args:=args,res:=some (.bool true),after:=args}=some (.bool (true==true))from w_eq_bool (w_res rfl) w_lit) rfl
def zcI{l:OpenLaw}{n:Nat}{q:Program}{loose:LB}{XP:(Str->LF)->Heap->Prop}{YP:World->Heap->Prop}{d:DefRec}(hn:l.most=some n)(hdf:d.params.defaults=[])(call:∀(w:World)(s₀ s₁:SH)(mg mb:Str->LF)(fa:AD)(o:Obj)(pm cd doc:Value)(a:AD)(vs:LD)(ns:List Int),
   Ground q loose [] XP w s₀ mg mb s₁.heap->YP w s₁.heap->
   s₁.heap.get? fa=some o->o.data = .func (docDef d.name d.params d.body d.scope pm cd doc)->s₁.heap.CodeRec cd d.name->mg d.name=some (.ref fa)->
   s₁.heap.get? a=some {cls:=.type "list",data:=.seq vs.toArray}->IntsAre vs ns->ns.length<=n->s₁.gens = #[]->
   codeAny (model l.prog w) callerA (.call (.ref fa) ⟨[.ref a],[]⟩) (λr s' => r = .ok (.ret (.bool true))/\OldK s₁.heap s'.heap/\s'.os=s₁.os/\AllBare s'.gens) s₁):
  WalkO q loose XP YP l.row.toRowW d [] (λf vs=>PySem.call f vs):=by
 intro w s₀ s₁ mg mb G Y fa o pm cd doc dV kV ho hd hcd hD hmg hg args vals as hpre hlay hrd hwl hlo;obtain rfl:dV = .none:=Dflts.none hD hdf;obtain rfl:kV = .none:=Dflts.noKw hD;obtain⟨a,vs,ns,rfl,rfl,hobj,hints,hlen⟩:=zfW hn hpre hwl;refine enter_call (Nw (call w s₀ s₁ mg mb fa o pm cd doc a vs ns G Y ho (fd_plain hd) hcd hmg hobj hints hlen hg) λr s' hq=>?_);obtain⟨rfl,h2,h3,h4⟩:=hq;exact⟨.inl ⟨.bool true,.bool true,[],rfl,λ_=>rfl,.bool true,zfC l _,λ_=>⟨List.Pairwise.nil,λ_ hm=>(nomatch hm)⟩⟩,h2,h3,h4⟩
end Att
namespace L2
open PySem PySem.Spec PyProof.Rows
variable {x qual:Str}{st:Stmt}
theorem zbX:∀{vs:LD}{ns:List Int},IntsAre vs ns->Vals (ns.map V.int) vs
 |_,_,.nil=>.nil
 |_,_,.cons n t h=>.cons ⟨t,rfl⟩ (zbX h)
noncomputable def X6(s:Stmt):Arguments:=match s with
 |.FunctionDef _ a _ _ _ _ _ _ _ _=>a
 |_=>{posonlyargs:=[],args:=[],vararg:=none,kwonlyargs:=[],kw_defaults:=[],kwarg:=none,defaults:=[]}
noncomputable def Yo(s:Stmt):List Stmt:=match s with
 |.FunctionDef _ _ b _ _ _ _ _ _ _=>b
 |_=>[]
noncomputable def Zi(s:Stmt):Scope:=match s with
 |.FunctionDef _ _ _ _ _ _ sc _ _ _=>sc
 |_=>{kind:=.function,names:=[],isGenerator:=false,isCoroutine:=false}
abbrev CX0:CXT:=λ_ _ _ _ _ _=>False
abbrev E0:XK:=λ_ _ _=>False
def zmo{X:Cx}:zbs CX0 X E0:=λ_ _ _ _ _ _ _ h=>h.elim
structure Fun(K:FG)(x qual:Str)(st:Stmt)(f:AD)(fd:FuncData):Prop where
 ex:∃(oc:Value)(od:Option AD)(kV doc pm:Value)(an:Option AD)(cdv ct:Value)(osl:Array (LF)),
  fd=PySem.W.fnOf x qual (X6 st) (Yo st) (Zi st) .none kV doc pm an cdv ct/\K.lookup f=some ⟨oc,od,.func fd,osl⟩/\codeIn K cdv qual=true
 kp:keepIn K (.ref f)=true
section
variable {P:Program}{w:World}{K:FG}{mg:Str->LF}{base:Heap}
def Fun.ok{f:AD}{fd:FuncData}{N ps:LB}{k:Nat}{sp:Sp}(F:Fun K x qual st f fd)(S:ZG N ps (Zi st))(len:∀ vs H Q E,sp vs H Q E->vs.length=ps.length)(hbody:∀(cdv:Value)(A:Around)(outer:LI)(s:SH)(H:Hp)(vs:LC)(Q:VK)(E:XK),Wh k (A.deeper (envOfC qual (Zi st) s.heap.objs.size f cdv))->sp vs H Q E->
   ∃ t,PSs (VD CX0 P w K mg base N qual (Zi st) f cdv A outer s H E).nox (Yo st) t/\t {nx:=λ_ H' => Q .non H',rt:=Q} (start N vs) H):Ju P w K mg base CX0 (k+1) f fd ps sp:=by
 obtain⟨oc,od,kV,doc,pm,an,cdv,ct,osl,rfl,lk,hcd⟩:=F.ex;refine ziy lk hcd S len λA outer s H vs Q E hr hsp=>?_;obtain⟨t,h,q⟩:=hbody cdv A outer s H vs Q E hr hsp;exact⟨t,h.nox,q⟩
def Fun.binds{f:AD}{fd:FuncData}{ps:LB}(F:Fun K x qual st f fd)(h:∀(kV doc pm:Value)(an:Option AD)(cdv ct:Value)(us:LD),us.length=ps.length->bindArgs (PySem.W.fnOf x qual (X6 st) (Yo st) (Zi st) .none kV doc pm an cdv ct) ⟨us,[]⟩=pure (ps.zip us)):Binds K fd ps []:=by
 obtain⟨oc,od,kV,doc,pm,an,cdv,ct,osl,rfl,lk,hcd⟩:=F.ex;exact .all (h kV doc pm an cdv ct)
def JX{f:AD}{oc:Value}{od an:Option AD}{osl:Array (LF)}{kV doc pm cdv ct:Value}(l:K.lookup f=some ⟨oc,od,.func (PySem.W.fnOf x qual (X6 st) (Yo st) (Zi st) .none kV doc pm an cdv ct),osl⟩)(c:codeIn K cdv qual=true)(k:keepIn K (.ref f)=true):Fun K x qual st f (PySem.W.fnOf x qual (X6 st) (Yo st) (Zi st) .none kV doc pm an cdv ct):=⟨⟨oc,od,kV,doc,pm,an,cdv,ct,osl,rfl,l,c⟩,k⟩
end
section
variable {X:Cx}
def pv(i:Nat){pos:Pos}(hN:X.N[i]?=some x:=by rfl)(hv:Vis X.env.scope x:=by first | exact Or.inl rfl | exact Or.inr (Or.inl rfl) | exact Or.inr (Or.inr rfl))(hd:(x==("__debug__" : Str))=false:=by decide)(hcd:(x==("__classdict__" : Str))=false:=by decide):PE X (.Name x pos) (XH i):=zeV hN hv hd hcd
end
def zeO{A B:Prop}(h:B):if false=true then A else B:=by rw[Iw Ij];exact h
def zie{A B:Prop}(h:A):if true=true then A else B:=by rw[IA rfl];exact h
def zm2{c A B:Prop}[Decidable c](h1:c->A)(h2:¬ c->B):if c then A else B:=by
 by_cases h:c
 .rw[IA h];exact h1 h
 .rw[Iw h];exact h2 h
def ZF(H H' : Hp):Prop:=∀ b o,H b=some o->H' b=some o
def ZF.refl(H:Hp):ZF H H:=λ_ _ h=>h
def ZF.trans{H H1 H2:Hp}(a:ZF H H1)(b:ZF H1 H2):ZF H H2:=λc o h=>b c o (a c o h)
def ZF.free{H H' : Hp}(e:ZF H H'){l:AD}(h:H' l=Option.none):H l=Option.none:=by
 cases q:H l with
 |none=>rfl
 |some o=>rw[e l o q]at h;cases h
def ZF.seq{K:FG}{H H' : Hp}{a:AD}{xs:LC}(e:ZF H H')(h:SqL K H a xs):SqL K H' a xs:=by
 rcases h with(h | ⟨o,h⟩) | h
 .exact .inl (.inl (e _ _ h))
 .exact .inl (.inr ⟨o,e _ _ h⟩)
 .exact .inr h
end L2
set_option maxHeartbeats 4000000
namespace L2
open PySem PySem.Spec PyProof.Rows
variable {i j:Int}{env:Env}{scope:Scope}{y:Str}{c e:Bool}{a elt iter:Expr}{js:List Nat}{fp:LG}{σ' σ:St}{H' H G G':Hp}{ifs elts es as:List Expr}{pos px p tpos:Pos}{tt:TT}{te:TE}{xs:LC}{ds:LA}{v:V}{o:HO}{α:Type}{t' tk:Nat}{items:Array Value}
section
variable {X:Cx}
def VN(i j:Int):Prop:=i.natAbs<2^4000/\j.natAbs<2^4000
def VN.ok(h:VN i j):IntMulOk i j:=IntMulOk.of_le (m:=4000) (n:=4000) (intBits_le_iff.mpr h.1) (intBits_le_iff.mpr h.2) (by decide)
def Y4:OpR X (binaryOp .Mult) (rI VN λi j=>.int (i*j)):=opI λ_ _ _ _ _ _ _ hc q=>mul_int q hc.ok
def zmv(i j:Int):Prop:=j≠0/\j.natAbs<2^4000
def znq(h:zmv i j):Builtin.divisionGoesByPylong i j=false:=by
 refine PyProof.noPylong_of_log2 ?_;have h0:j.natAbs≠0:=by have:=h.1;omega
 have:=(Nat.log2_lt h0).mpr h.2;omega
def Vu(i j:Int):Prop:=0<j/\j.natAbs<2^4000
def Ym:OpR X (binaryOp .FloorDiv) (rI Vu λi j=>.int (i / j)):=opI λi j _ _ _ _ _ hc q=>by refine floordiv_int (by have:=hc.1;omega) ?_ (.inl (znq ⟨by have:=hc.1;omega,hc.2⟩));rw[Int.fdiv_eq_ediv_of_nonneg i (by have:=hc.1;omega)];exact q
end
noncomputable def JG(env:Env):List (Str×NameKind)->List (Str×AD)->List (Str×AD)
 |[],acc=>acc
 |(n,k)::r,acc=>JG env r (if(k==NameKind.free)=true then(n,(env.cells.lookup n).getD 0)::acc else acc)
def zea :∀(names:List (Str×NameKind))(acc:List (Str×AD)),(∀ p∈names,p.2 = .free->∃ c,env.cells.lookup p.1=some c)->
  (forIn names acc λ(x:Str×NameKind)(cs:List (Str×AD))=>(match x with
   |(name,kind)=>if(kind==NameKind.free)=true then(do let __do_lift ← cellOf env name;pure (ForInStep.yield ((name,__do_lift)::cs)))else pure (ForInStep.yield cs):Sem (ForInStep (List (Str×AD)))))=pure (JG env names acc):=by
 intro names
 induction names with
 |nil=>intro acc _;rfl
 |cons p r ih=>
  intro acc h;obtain⟨n,k⟩:=p;rw[forIn_cons];have hr:=λacc=>ih acc λq hq=>h q (Iz _ hq);by_cases hk:k = .free
  .subst hk;obtain⟨c,hc⟩:=h (n,.free) IC rfl;have e:cellOf env n=pure c:=by unfold cellOf;rw[hc]
   simp only[beq_self_eq_true,Ox,e,pure_bind];rw[hr];simp only[JG,beq_self_eq_true,Ox,hc,Option.getD_some]
  .have hb:(k==NameKind.free)=false:=by simpa using hk
   simp only[hb,IG,IW,pure_bind];rw[hr];simp only[JG,hb,IG,IW]
def X3(h:∀ p∈scope.names,p.2 = .free->∃ c,env.cells.lookup p.1=some c):closureFor scope env=pure (JG env scope.names []):=by unfold closureFor;have e:=zea (env:=env) scope.names [] h;simp only[e,pure_bind]
theorem VR{c:AD}:∀{names:List (Str×NameKind)}{acc:List (Str×AD)},(∀ p∈names,p.2 = .free->∃ c,env.cells.lookup p.1=some c)->(∀ y c,acc.lookup y=some c->env.cells.lookup y=some c)->
  (JG env names acc).lookup y=some c->env.cells.lookup y=some c
 |[],_,_,ha,e=>ha _ _ e
 |(n,k)::r,acc,h,ha,e=>by
  refine VR (names:=r) (λp hp=>h p (Iz _ hp)) (λy c q=>?_) e;by_cases hk:(k==NameKind.free)=true
  .rw[IA hk]at q;obtain⟨c',hc'⟩:=h (n,k) IC (by simpa using hk);rw[Og]at q;cases hy:y==n with
   |true=>
    rw[hy]at q;have hy' : y=n:=by simpa using hy
    subst hy';rw[hc']at q;cases q;exact hc'
   |false=>rw[hy]at q;exact ha y c q
  .rw[Iw hk]at q;exact ha y c q
theorem zcZ :∀{names:List (Str×NameKind)}{acc:List (Str×AD)},(acc.lookup y).isSome=true->((JG env names acc).lookup y).isSome=true
 |[],_,h=>h
 |(n,k)::r,acc,h=>by
  refine zcZ (names:=r) ?_;split
  .rw[Og];split
   .rfl
   .exact h
  .exact h
theorem WP :∀{names:List (Str×NameKind)}{acc:List (Str×AD)},(y,NameKind.free)∈names->((JG env names acc).lookup y).isSome=true
 |(n,k)::r,acc,h=>by
  rcases ID.mp h with e | h
  .cases e;refine zcZ (names:=r) ?_;rw[IA (by simp),Og];simp
  .exact WP (names:=r) h
abbrev Xe(X:Cx)(scope:Scope)(Nc:LB)(C:AD)(s0:SH)(H0:Hp)(ex:LG):Cx:={X with N:=Nc,s₀:=s0,H₀:=H0,env:=compEnvC scope (JG X.env scope.names []) C X.env,outer:=X.stack,ex:=ex,fn:=λ_=>false,pn:=[],xe:=λ_ _=>False}
structure Y8(fr sc:Scope)(xs cap:LB):Prop where
 kind:sc.kind = .function
 cell:∀ p∈sc.names,p.2≠.cell
 names:∀ p∈sc.names,p.2 = .local->sc.names.lookup p.1=some .local
 free:∀ p∈sc.names,p.2 = .free->fr.names.lookup p.1=some .cell
 caps:∀ y∈cap,(y,NameKind.free)∈sc.names
 noboth:∀ y∈cap,sc.names.lookup y≠some .local
structure Jh(fr sc:Scope)(x:Str)(cap:LB):Prop where
 kind:sc.kind = .function
 cell:∀ p∈sc.names,p.2≠.cell
 names:∀ p∈sc.names,p.2 = .local->sc.names.lookup p.1=some .local
 tgt:sc.names.lookup x=some .local
 free:∀ p∈sc.names,p.2 = .free->fr.names.lookup p.1=some .cell
 caps:∀ y∈cap,(y,NameKind.free)∈sc.names
 nd:(x::cap).Nodup
 noboth:∀ y∈cap,sc.names.lookup y≠some .local
def Uu{sc:Scope}{k:NameKind}(h:(y,k)∈(relabel sc env).names):∃ k',(y,k')∈sc.names/\(k=k' \/ (k' = .free/\k = .cell)):=by
 unfold relabel at h;obtain⟨⟨n,k'⟩,hm,e⟩:=NI.mp h;by_cases hc:(k'==NameKind.free&&env.scope.kind == .function&&env.kindOf n==some .cell)=true
 .have e:(n,NameKind.cell)=(y,k):=by simpa [hc]using e
  cases e;refine⟨k',hm,.inr ⟨?_,rfl⟩⟩;rw[Nd,Nd]at hc;simpa using hc.1.1
 .have e:(n,k')=(y,k):=by simpa [hc]using e
  cases e;exact⟨k,hm,.inl rfl⟩
section
variable {X:Cx}{aa:List (Addr×Obj)}{σ:St}{H:Hp}{s:SH}{sc:Scope}{xs cap:LB}
theorem Y8.cells(S:Y8 X.env.scope sc xs cap)(ok:X.Ok):∀ p∈sc.names,p.2 = .free->∃ c,X.env.cells.lookup p.1=some c:=λp hp e=>ok.has p.1 (.inl (S.free p hp e))
def Y8.sub(S:Y8 X.env.scope sc xs cap)(ok:X.Ok){c:AD}(h:(JG X.env sc.names []).lookup y=some c):X.env.cells.lookup y=some c:=VR (S.cells ok) (λ_ _ z=>by simp at z) h
def zeo{a b:AD}(h:a<b):a≠b:=IM h
def znr{a b:AD}(h:b<a):a≠b:=ne_of_gt h
noncomputable def WM(σ:St)(js:List Nat):St:=js.map λj=>(σ[j]?).join
def ze3(S:Y8 X.env.scope sc xs cap)(hjs:js.map (λj=>X.N[j]?)=cap.map some)(I:Inv X aa σ H s)(hf:∀ b∈fp,zep X aa H b)(hlt:∀ b∈fp,b<s.heap.objs.size){h1:Heap}{tk:Nat}{D C:AD}{oD:Obj}{m:Str->LF}(hD:D=s.heap.objs.size)(hC:C=s.heap.objs.size+1)(keep:∀ b o,s.heap.get? b=some o->h1.get? b=some o)(hoD:h1.get? D=some oD)(hnc:∀ v,oD.data≠.cell v)(hns:h1.Ns C m):
  Inv (Xe X sc (xs++cap) C s H fp) [(D,oD)] (xs.map (λ_=>none)++WM σ js) H {s with heap:=h1,toks:=tk}:=by
 subst hD hC;have lenJ:js.length=cap.length:=by have:=Na List.length hjs;simpa using this
 have ok:=I.ok;refine⟨⟨ok.mod,S.kind,ok.glob,ok.blt,?_,λy z c h1 h2=>ok.inj y z c (S.sub ok h1) (S.sub ok h2),λy hy=>?_,(λy c h=>Bool.noConfusion h),ok.hd,ok.frames,.inl rfl,λb hb=>⟨?_,λy c e=>(hf b hb).2.2.2.2.1 y c (S.sub ok e)⟩,I.bs,Nj ok.bsz I.sz,λb o e hb=>?_,λb hb hb' => ?_,I.stack,I.zcT⟩,
  rfl,I.bare,Un.kept keep,⟨m,hns,λi y v e1 e2 e3=>?_⟩,λy c e=>?_,I.ac.fresh (le_succ _),λy c e=>I.freeC y c (S.sub ok e),λp hp=>?_,I.ac.kept keep,?_⟩
 .exact le_succ _
 .have hy' : ∃ k,(y,k)∈(relabel sc X.env).names/\(k = .cell\/k = .free):=by
   rcases hy with hy | hy
   .exact⟨_,IF hy,.inl rfl⟩
   .exact⟨_,IF hy,.inr rfl⟩
  obtain⟨k,hm,hk⟩:=hy';obtain⟨k',hm',hk'⟩:=Uu hm;have hfree:k' = .free:=by
   rcases hk' with e | ⟨e,_⟩
   .subst e;rcases hk with e | e
    .exact absurd e (S.cell _ hm')
    .exact e
   .exact e
  subst hfree;exact Ny.mp (WP hm')
 .exact zeo (OD (hlt b hb))
 .obtain⟨_,_,_,z,_⟩:=hf b hb;rcases z with z | z
  .exact ok.noex b o e z
  .have:=IB (ok.bs b o e).1;exact absurd (Iu this z) (Oo _)
 .obtain⟨_,z1,z2,_⟩:=hf b hb;rcases ID.mp (I.zc9 b hb')with z | z
  .exact z1 z
  .exact z2 z
 .have e2:(xs.map (λ_=>(none:Option V))++WM σ js)[i]?=some (some v):=e2;have e1:(xs++cap)[i]?=some y:=e1;by_cases hi:i<xs.length
  .rw[NE (by rw[Ig];exact hi),Io,Ib hi]at e2;cases e2
  .obtain⟨i,rfl⟩:∃ i',i=xs.length+i':=⟨i-xs.length,(by omega)⟩
   rw[Nq (by rw[Ig];omega),Ig,Nat.add_sub_cancel_left]at e2;rw[Nq (by omega),Nat.add_sub_cancel_left]at e1;have e1':=e1;have e2':=e2;have hy:y∈cap:=Ii e1';unfold WM at e2';rw[Io]at e2';cases ej:js[i]? with
   |none=>rw[ej]at e2';cases e2'
   |some j=>
    rw[ej]at e2';have e2'' : (σ[j]?).join=some v:=Ip e2';have eN:X.N[j]?=some y:=by have:=Na (λl=>l[i]?) hjs;simp only[Io,ej,e1',OG]at this;exact Ip this
    have eσ:σ[j]?=some (some v):=by
     cases q:σ[j]? with
     |none=>rw[q]at e2'';cases e2''
     |some w' =>
      rw[q]at e2'';have:w'=some v:=by simpa using e2''
      rw[this]
    have kc:X.env.scope.names.lookup y=some .cell:=S.free (y,.free) (S.caps y hy) rfl;obtain⟨m0,hn0,hl0⟩:=I.loc;obtain⟨u,ru,lk⟩:=hl0 j y v eN eσ (.inr (.inl kc));refine⟨u,ru,?_⟩;rcases lk with⟨k,_⟩ | ⟨_,c,ec,hc⟩
    .have k' : X.env.scope.names.lookup y=some .local:=k;rw[kc]at k';cases k'
    .obtain⟨c',hc'⟩:=Ny.mp (WP (env:=X.env) (acc:=[]) (S.caps y hy));have hcc:c'=c:=Ip ((S.sub ok hc').symm.trans ec);subst hcc;refine .inr ⟨?_,c',hc',?_⟩
     .rcases e3 with e3 | e3 | e3
      .exfalso;have hm:=IF e3;obtain⟨k',hm',hk'⟩:=Uu hm;rcases hk' with e | ⟨_,e⟩
       .subst e;exact S.noboth y hy (S.names _ hm' rfl)
       .cases e
      .exact .inl e3
      .exact .inr e3
     .obtain⟨o,ho,hd⟩:=hc;exact⟨o,keep _ o ho,hd⟩
 .obtain⟨v,o,ho,hd⟩:=I.cell y c (S.sub ok e);exact⟨v,o,keep _ o ho,hd⟩
 .have hp' : p=(s.heap.objs.size,oD):=by simpa using hp
  subst hp';refine⟨hoD,I.ac.fresh (Ih _),zeo (Nat.lt_succ_self _),λhb=>?_,hnc⟩;obtain⟨_,o,ho,_⟩:=I.stack.mem hb;exact Oo _ (IB ho)
 .show(xs.map (λ_=>(none:Option V))++WM σ js).length=(xs++cap).length;unfold WM;simp[lenJ]
def Ul(S:Y8 X.env.scope sc xs cap)(I:Inv X aa σ H s)(hf:∀ b∈fp,zep X aa H b){D C:AD}{pn' : List (Addr×Obj)}{s' : SH}{ys:LC}{its:LD}{k:Nat}{h' : Heap}(hD:D=s.heap.objs.size)(hC:C=s.heap.objs.size+1)(J:Inv (Xe X sc (xs++cap) C s H fp) pn' σ' H' s')(hnD:H' D=none)(hoD:s'.heap.get? D=some {cls:=.type "list",data:=.seq its.toArray k})(rv:Vals ys its)(hz:ys.length<=sizeLine)(hs:SameBut C s'.heap h'):Inv X aa σ (upd H' D (.lst ys)) {s' with heap:=h'}:=by
 subst hD hC;have base:Un (frs X.stack) fp H H' s.heap s'.heap:=J.base;have hnC:H' (s.heap.objs.size+1)=none:=J.free;have neC:∀{b:AD}{o:Obj},s.heap.get? b=some o->b≠s.heap.objs.size+1:=λe=>zeo (OD (IB e));have neD:∀{b:AD}{o:Obj},s.heap.get? b=some o->b≠s.heap.objs.size:=λe=>zeo (IB e);have neDH:∀{b:AD}{o:HO},H b=some o->b≠s.heap.objs.size:=λe=>zeo (I.ac.lt e);refine I.call' (s':={s' with heap:=h'}) (ch:=fp) J.os ⟨λb o e n hb hx=>?_,λb o e n hb hx=>?_,λb o e n hx=>?_,λb o e hx=>?_,λb xs e=>?_,λb o u e=>?_,λb ps e=>?_⟩ (λb u e=>?_) J.bare λb hb=>?_
 .exact(hs.2 b (neC e)).trans (base.keep b o e n hb hx)
 .obtain⟨sl,q⟩:=base.slot b o e n hb hx;exact⟨sl,(hs.2 b (neC e)).trans q⟩
 .rw[Zm (neD e)];exact base.free b o e n hx
 .obtain⟨o',q⟩:=base.there b o e hx;exact⟨o',(hs.2 b (neC e)).trans q⟩
 .rw[Zm (neDH e)];exact base.tups b xs e
 .rw[Zm (neDH e)];exact base.frzs b o u e
 .rw[Zm (neDH e)];exact base.tbls b ps e
 .by_cases hb:b=s.heap.objs.size
  .subst hb;rw[Zh]at e;cases e;exact⟨hz,its,k,rv,(hs.2 _ (zeo (Nat.lt_succ_self _))).trans hoD⟩
  .rw[Zm hb]at e;have J' : Yt X.prog X.w H' s'.heap b u:=J.ac b u e;refine J'.stay (λc v hc q=>(hs.2 c ?_).trans q) (λc q=>?_) (λc xs q=>?_) λc o u q=>?_
   .rintro rfl;rcases hc with rfl | hc
    .rw[hnC]at e;cases e
    .rw[hnC]at hc;cases hc
   .rw[Zm (Zk q hnD)];exact q
   .rw[Zm (Zk q hnD)];exact q
   .rw[Zm (Zk q hnD)];exact q
 .obtain⟨_,z1,_,z3,z4,z5⟩:=hf b hb;exact⟨z3,z1,z4,z5⟩
end
section
variable {X:Cx}{aa:List (Addr×Obj)}{σ:St}{H:Hp}{s:SH}{sc:Scope}{x:Str}{cap:LB}
def PIf(X:Cx)(ifs:List Expr)(t:TT):Prop:=
 ∀(aa:List (Addr×Obj))(s:SH)(σ:St)(H:Hp)(Q:Bool->Hp->Prop),Inv X aa σ H s->t σ H Q->
  wpAny (model X.prog X.w) X.A (forIn ifs true λc r=>if r=true then do let ok ← isTrue c X.env (eval c X.env);pure (ForInStep.yield ok)else pure (ForInStep.yield r)) (TP X aa σ Q) X.xe s
def zaM:TT:=λ_ H Q=>Q true H
def zc2{A B:Hp->Prop}(h:A H):zaM σ H (λb H2=>if b=true then A H2 else B H2):=by unfold zaM;exact zie h
def XJ{X:Cx}:PIf X [] zaM:=λ_ _ _ H _ I h=>wpAny_tests_nil ⟨H,I,h⟩
def zft{X:Cx}{c:Expr}{t:TT}(h:PT X c t):PIf X [c] t:=λaa s σ H Q I q=>wpAny_tests_one (h aa s σ H Q I q)
end
section
variable {prog:Program}{w:World}{A:Around}{R:Result->SH->Prop}{s:SH}
def zeb{target:Expr}{it acc:Value}(J:Nat->SH->Prop)(turn:∀ n s,J n s->wpAny (model prog w) A (pyNext it) (λr s₁=>match r with
   |none=>R (.ok .next) s₁
   |some v=>wpAny (model prog w) A (letOwnedTupleGo target it v) (λ_ s₂=>wpAny (model prog w) A (assign target env v) (λ_ s₃=>
     wpAny (model prog w) A (forIn ifs true λc r=>if r=true then do let ok ← isTrue c env (eval c env);pure (ForInStep.yield ok)else pure (ForInStep.yield r)) (λok s₄=>
      if ok=true then wpAny (model prog w) A (eval elt env) (λx s₅=>
       wpAny (model prog w) A (call (.builtin "list.append") [acc,x]) (λ_ s₆=>∃ m,m<n/\J m s₆) (λ_ _=>False) s₅) (λ_ _=>False) s₄
      else ∃ m,m<n/\J m s₄) (λ_ _=>False) s₃) (λ_ _=>False) s₂) (λ_ _=>False) s₁) (λ_ _=>False) s)(n:Nat)(h:J n s):codeAny (model prog w) A (.compLoop (.ListComp elt [⟨target,iter,ifs,0⟩] scope pos) 0 it acc env) R s:=by
 refine codeAny_loop rfl J (λn s hJ=>?_) n h;show wpAny _ A ((compTurn (.ListComp elt [⟨target,iter,ifs,0⟩] scope pos) 0 it acc env).onRaise (λx=>do noteFrame x env;theTreesLotGoes x)) _ _ s;refine wpAny_noted ?_;rw[compTurn_list];refine Ia (N8 (Ia (IK (turn n s hJ) (λr s₁ h₁=>?_) λ_ _ z=>z.elim)));cases r with
 |none=>exact Ic h₁
 |some v=>
  refine Ia (IK h₁ (λ_ s₂ h₂=>?_) λ_ _ z=>z.elim);refine Ia (IK h₂ (λ_ s₃ h₃=>Ia (IK h₃ (λok s₄ h₄=>?_) λ_ _ z=>z.elim)) λ_ _ z=>z.elim);cases ok with
  |false=>exact Ic ⟨rfl,h₄⟩
  |true=>exact Ia (Ia (IK h₄ (λx s₅ h₅=>Ia (IK h₅ (λ_ s₆ h₆=>Ic (Ic ⟨rfl,h₆⟩)) λ_ _ z=>z.elim)) λ_ _ z=>z.elim))
end
section
variable {X:Cx}{aa:List (Addr×Obj)}{σ:St}{H:Hp}{s:SH}{sc:Scope}{x:Str}{cap:LB}
def LCw(J:It)(js:List Nat)(σ:St)(tt:TT)(te:TE)(Q:VK)(W:Nat->Nat->LC->Hp->Prop):Prop:=
 ∀ i m ys H,W i m ys H->ys.length<sizeLine/\
  ((J.stop i H/\∀ p,H p=none->Q (.ref p) (upd H p (.lst ys)))\/
   (J.go i H/\∀ x H',J.yld i H x H' -> tt (some x::WM σ js) H' λb H2=>if b=true then te (some x::WM σ js) H2 λv H3=>∃ m',m'<m/\W (i+1) m' (ys++[v]) H3 else ∃ m',m'<m/\W (i+1) m' ys H2))
def tLC(wi:TI)(js:List Nat)(tt:TT)(te:TE):TE:=fun σ H Q=>wi σ H λJ H1=>∃ W:Nat->Nat->LC->Hp->Prop,(∃ m,W 0 m [] H1)/\LCw J js σ tt te Q W
def zms(n:Nat)(J:It)(js:List Nat)(σ:St)(g:TG)(tt:TT)(te:TE)(Q:VK)(W:Nat->Nat->LC->Hp->Prop):Prop:=
 ∀ i m ys H,W i m ys H->ys.length<sizeLine/\
  ((J.stop i H/\∀ p,H p=none->Q (.ref p) (upd H p (.lst ys)))\/
   (J.go i H/\∀ x H',J.yld i H x H' -> ∀ ws:List (Option V),ws.length=n->g x (ws++WM σ js) H' fun σ2 H2=>∃ ws',σ2=ws'++WM σ js/\ws'.length=n/\tt σ2 H2 λb H3=>if b=true then te σ2 H3 λv H4=>∃ m',m'<m/\W (i+1) m' (ys++[v]) H4 else ∃ m',m'<m/\W (i+1) m' ys H3))
end
section
variable {X:Cx}{aa:List (Addr×Obj)}{σ:St}{H:Hp}{s:SH}{sc:Scope}{xs cap:LB}
def UV(S:Y8 X.env.scope sc xs cap)(hjs:js.map (λj=>X.N[j]?)=cap.map some)(hc:X.calm=true){tg:Expr}{g:TG}(hg:∀ C s0 H0 ex,PG (Xe X sc (xs++cap) C s0 H0 ex) tg g){fp:LG}(hb:∀ C,PIf (Xe X sc (xs++cap) C s H fp) ifs tt/\PE (Xe X sc (xs++cap) C s H fp) elt te)(I:Inv X aa σ H s){J:It}{it:AD}{tn:Nat->Heap->Prop}(T:Turn X.prog X.w X.K tg J fp it tn)(st:tn 0 s.heap)(hf:∀ b∈fp,zep X aa H b){Q:VK}{W:Nat->Nat->LC->Hp->Prop}(w0:∃ m,W 0 m [] H)(turn:zms xs.length J js σ g tt te Q W){RR:Value->AD->Result->SH->Prop}{E:Value->SH->Prop}(hR:∀ D C s' σ' H' ys its k,D=s.heap.objs.size->C=s.heap.objs.size+1->Inv (Xe X sc (xs++cap) C s H fp) [(D,{cls:=.type "list",data:=.seq its.toArray k})] σ' H' s' -> Vals ys its->ys.length<=sizeLine->(∀ p,H' p=none->Q (.ref p) (upd H' p (.lst ys)))->RR (.ref D) C (.ok .next) s'):
  wpAny (model X.prog X.w) X.A (newList []) (λacc s₃=>wpAny (model X.prog X.w) X.A (newFunctionEnv sc X.env.globals (JG X.env sc.names []) [] X.env.qual none .none (some X.env)) (λcenv s₄=>
   codeAny (model X.prog X.w) X.A (.compStart (.ListComp elt [⟨tg,iter,ifs,0⟩] sc pos) 0 (.ref it) acc {cenv with scope:=relabel sc X.env}) (RR acc cenv.locals) s₄) E s₃) E s:=by
 refine Nt (wpAny_newFunctionEnv S.cell (by intro y hy;simp at hy) (λh₁ hns₁ hsb₁=>?_) S.kind);dsimp only at hns₁ hsb₁ ⊢;have hlt:∀ b∈fp,b<s.heap.objs.size:=λb hb' => by obtain⟨o,e,_⟩:=T.obj 0 _ st b hb';exact IB e
 generalize hH2:s.heap.push {cls:=.type "list",dict:=none,data:=.seq ([]:LD).toArray}=H2 at hns₁ hsb₁ ⊢;have hC:H2.objs.size=s.heap.objs.size+1:=by rw[← hH2,NA]
 have old:∀ b o,s.heap.get? b=some o->h₁.get? b=some o:=λb o e=>hsb₁.extBut b o (by rw[hC];exact zeo (OD (IB e))) (Ie _ (hH2 ▸ Ie _ e))
 have hacc:h₁.get? s.heap.objs.size=some {cls:=.type "list",data:=.seq ([]:LD).toArray}:=hsb₁.extBut _ _ (by rw[hC];exact zeo (Nat.lt_succ_self _)) (Ie _ (hH2 ▸ Il _ rfl))
 have st₁:tn 0 h₁:=T.keep _ _ _ st λb _ o e=>old b o e;obtain⟨m0,w0⟩:=w0;rw[hC]at hns₁ hsb₁ ⊢;generalize hCe:s.heap.objs.size+1=C at hns₁ hsb₁ hR ⊢;generalize hDe:s.heap.objs.size=D at hacc hR ⊢;have hDe':=hDe.symm;have hC' : C=s.heap.objs.size+1:=hCe.symm;have ltD:∀{b:AD},b<s.heap.objs.size->b≠D:=λh=>by rw[← hDe];exact zeo h
 have loop:∀ s₃:SH,s₃={s with heap:=h₁,toks:=s.toks+([]:List (Str×Value)).length}->
   codeAny (model X.prog X.w) X.A (.compLoop (.ListComp elt [⟨tg,iter,ifs,0⟩] sc pos) 0 (.ref it) (.ref D) (compEnvC sc (JG X.env sc.names []) C X.env)) (RR (.ref D) C) s₃:=by
  rintro s₃ rfl;have I0:Inv (Xe X sc (xs++cap) C s H fp) [(D,{cls:=.type "list",data:=.seq ([]:LD).toArray})] (xs.map (λ_=>none)++WM σ js) H {s with heap:=h₁,toks:=s.toks+([]:List (Str×Value)).length}:=ze3 S hjs I hf hlt hDe' hC' old hacc (λv z=>by cases z) hns₁
  have fpD:∀ b∈fp,b≠D:=λb hb' => ltD (hlt b hb');refine zeb (λn s' => ∃ i ws H' ys its k,ws.length=xs.length/\Inv (Xe X sc (xs++cap) C s H fp) [(D,{cls:=.type "list",data:=.seq its.toArray k})] (ws++WM σ js) H' s' /\ tn i s'.heap/\(∀ b∈fp,H' b=none)/\Vals ys its/\W i n ys H')
   ?_ m0 ⟨0,xs.map (λ_=>none),H,[],[],0,Ig _,I0,st₁,λb hb' => (hf b hb').1,.nil,w0⟩
  rintro n s3 ⟨i,ws,H3,ys,its,k,hws,I3,st3,fr3,rv,w3⟩;obtain⟨hlen,hor⟩:=turn i n ys H3 w3;have stat:∀{H' : Hp}{o:Obj},(∀ b∈fp,H' b=none)->∀ b∈fp,zep (Xe X sc (xs++cap) C s H fp) [(D,o)] H' b:=λ{H' o} hn b hb' =>
   ⟨hn b hb',(I3.ok.exf b hb').1,I3.ok.exfs b hb',.inl hb',(I3.ok.exf b hb').2,λp hp=>by
    have hp' : p=(D,o):=by simpa using hp
    rw[hp'];exact Ne.symm (fpD b hb')⟩
  rcases hor with⟨stop,qn⟩ | ⟨go,step⟩
  .refine thn (T.done (Xe X sc (xs++cap) C s H fp) rfl rfl rfl hc i _ s3 _ H3 _ I3 (stat fr3) st3 stop) λr s4 ⟨hr,I4⟩=>?_;subst hr;exact hR D C s4 _ H3 ys its k rfl rfl I4 rv (Od hlen) qn
  .refine thn (T.item (Xe X sc (xs++cap) C s H fp) rfl rfl rfl hc i _ s3 _ H3 _ I3 (stat fr3) st3 go) λr s4 ⟨u,hr,h4⟩=>?_;subst hr;refine thn h4 λ_ s5 ⟨xv,H5,I5,r5,y5,st5,fr5⟩=>?_;have I5':=I5.pinned (stat fr5) (T.obj _ _ st5);refine thn (hg C s H fp _ s5 _ H5 xv u _ I5' r5 (step xv H5 y5 ws hws)) λ_ s6 ⟨σ6,H6,I6,ws',e6,hws',q6⟩=>?_;subst e6;refine thn ((hb C).1 _ s6 _ H6 _ I6 q6) λok s7 ⟨H7,I7,q7⟩=>?_;have fin:∀{s8:SH}{H8:Hp}{σ8:St},Inv (Xe X sc (xs++cap) C s H fp) ([(D,{cls:=.type "list",data:=.seq its.toArray k})]++Vx fp s5.heap) σ8 H8 s8->tn (i+1) s8.heap/\(∀ b∈fp,H8 b=none)/\s8.heap.get? D=some {cls:=.type "list",data:=.seq its.toArray k}/\H8 D=none/\D≠C:=λ{s8 H8 σ8} I8=>by
    have pinD:=I8.pin (D,{cls:=.type "list",data:=.seq its.toArray k}) (IH _ (List.mem_append_left _ (IN.mpr rfl)));have pinF:∀ b∈fp,∀ o,s5.heap.get? b=some o->s8.heap.get? b=some o/\H8 b=none:=λb hb' o e=>
     have z:=I8.pin (b,o) (IH _ (IH _ (Vq hb' e)))
     ⟨z.1,z.2.1⟩
    refine⟨T.keep _ _ _ st5 λb hb' o e=>(pinF b hb' o e).1,λb hb' => ?_,pinD.1,pinD.2.1,pinD.2.2.1⟩;obtain⟨o,e,_⟩:=T.obj _ _ st5 b hb';exact(pinF b hb' o e).2
   cases ok with
   |false=>rw[Iw Ij]at q7 ⊢;obtain⟨m',hm,w7⟩:=q7;obtain⟨f1,f2,_⟩:=fin I7;exact⟨m',hm,i+1,ws',H7,ys,its,k,hws',I7.QS,f1,f2,rv,w7⟩
   |true=>
    rw[IA rfl]at q7 ⊢;refine thn ((hb C).2 _ s7 _ H7 _ I7 q7) λu8 s8 ⟨v,H8,I8,r8,q8⟩=>?_;obtain⟨f1,f2,f3,f4,f5⟩:=fin I8;obtain⟨m',hm,w8⟩:=q8;have rv' : Vals (ys++[v]) (its++[u8]):=rv.append (.cons r8 .nil);refine wpAny_list_append_plain ⟨k,f3⟩ (λh9 hl9 hs9=>?_) (by rw[Ix,← rv.length];exact Od hlen);obtain⟨k9,e9⟩:=hl9;have e9' : h9.get? D=some {cls:=.type "list",data:=.seq (its++[u8]).toArray k9}:=by rw[e9];simp
    have In:Inv (Xe X sc (xs++cap) C s H fp) (Vx fp s5.heap) (ws'++WM σ js) H8 s8:=I8.Q9 λp hp=>I8.pin p (IH _ (IH _ hp));have It' : Inv (Xe X sc (xs++cap) C s H fp) (Vx fp s5.heap) (ws'++WM σ js) H8 {s8 with heap:=h9}:=
     In.turned (it:=D) (h':=h9) (t':=s8.toks) (λb o hb' e=>hs9.extBut b o hb' e) f4 f5 (.inr (Nat.le_of_eq hDe)) (λy c e z=>by
      obtain⟨v',o,ho,_⟩:=I.cell y c (S.sub I.ok e);exact ltD (IB ho) z) λp hp z=>by
      have hp' : p∈Vx fp s5.heap:=by simpa using hp
      exact fpD p.1 (zca hp').1 z
    refine⟨m',hm,i+1,ws',H8,ys++[v],its++[u8],k9,hws',It'.Q9 λp hp=>?_,T.keep _ _ _ f1 λb hb' o e=>hs9.extBut b o (fpD b hb') e,f2,rv',w8⟩;have hp' : p=(D,{cls:=.type "list",data:=.seq (its++[u8]).toArray k9}):=by simpa using hp
    subst hp';refine⟨e9',f4,f5,λhb' => ?_,λv z=>by cases z⟩;obtain⟨_,o,ho,_⟩:=I.stack.mem hb';exact ltD (IB ho) rfl
 exact codeAny_compStart_list (loop _ rfl) (T.self X.A 0 _ _ _ st₁ (loop _ rfl))
def zk6{J:It}{Q:VK}{W:Nat->Nat->LC->Hp->Prop}(h:LCw J js σ tt te Q W):zms 1 J js σ (VP 0) tt te Q W:=λi m ys H w=>by
 obtain⟨a,b⟩:=h i m ys H w;refine⟨a,b.imp id λ⟨go,st⟩=>⟨go,λx H' y ws hw=>?_⟩⟩
 match ws,hw with
 |[v],_=>exact⟨[some x],rfl,rfl,st x H' y⟩
end
section
variable {X:Cx}{aa:List (Addr×Obj)}{σ:St}{H:Hp}{s:SH}{sc:Scope}{x:Str}{cap:LB}
def Jh.n{fr:Scope}(S:Jh fr sc x cap):Y8 fr sc [x] cap:=⟨S.kind,S.cell,S.names,S.free,S.caps,S.noboth⟩
def Jh.pg(S:Jh X.env.scope sc x cap)(C:AD)(s0:SH)(H0:Hp)(ex:LG):PG (Xe X sc ([x]++cap) C s0 H0 ex) (.Name x px) (VP 0):=YD S.nd rfl (.inl (NQ S.tgt)) (.inr (NQ S.tgt))
def UL(S:Jh X.env.scope sc x cap)(hjs:js.map (λj=>X.N[j]?)=cap.map some)(hc:X.calm=true)(hxe:∀ e s,¬ X.xe e s){wi:TI}(hi:PI X (.Name x px) iter wi)(hb:∀ C s0 H0 ex,PIf (Xe X sc (x::cap) C s0 H0 ex) ifs tt/\PE (Xe X sc (x::cap) C s0 H0 ex) elt te)(hs:∀ x,foldedSetIterable iter X.env x=pure x:=by intro _;rfl):PE X (.ListComp elt [⟨.Name x px,iter,ifs,0⟩] sc pos) (tLC wi js tt te):=by
 intro aa s σ H Q I h;rw[eval_ListComp];refine wpAny_comprehension_free (use:=none) rfl hs (X3 (S.n.cells I.ok)) S.kind S.names (thn (hi aa s σ H _ I h) λxv s₁ h₁=>thn h₁ λitv s₂ h₂=>?_);obtain⟨it,fp,tn,J,H2,e,I2,T,st2,f2,W,w0,turn⟩:=h₂;subst e;refine UV (xs:=[x]) (Q:=Q) (RR:=λacc C=>compPost (model X.prog X.w) X.A X.xe none (EP X aa σ Q) acc C) S.n hjs hc S.pg (λC=>hb C _ _ _) I2 T st2 f2 w0 (zk6 turn) ?_;intro D C s' σ' H' ys its k hD hC J' rv hz q;obtain⟨m,hn,_⟩:=J'.loc;have pinD:=J'.pin (D,{cls:=.type "list",data:=.seq its.toArray k}) (IH _ (IN.mpr rfl));exact⟨m,hn,λh' hs' => ⟨.ref D,_,Ul (xs:=[x]) S.n I2 f2 hD hC J' pinD.2.1 pinD.1 rv hz hs',rfl,q D pinD.2.1⟩⟩
def znB(i:Nat)(wi:TI)(js:List Nat)(tt:TT)(te:TE):TS:=λD σ H=>tLC wi js tt te σ H λv H' => D.nx (σ.set i (some v)) H'
def zg6(S:Jh X.env.scope sc x cap)(hjs:js.map (λj=>X.N[j]?)=cap.map some)(hc:X.calm=true)(hxe:∀ e s,¬ X.xe e s){py spos:Pos}{wi:TI}{i:Nat}(hN:X.N.Nodup)(hi' : X.N[i]?=some y)(hy:X.env.scope.names.lookup y=some .local)(hi:PI X (.Name x px) iter wi)(hb:∀ C s0 H0 ex,PIf (Xe X sc (x::cap) C s0 H0 ex) ifs tt/\PE (Xe X sc (x::cap) C s0 H0 ex) elt te)(hsw:swapsWith (.ListComp elt [⟨.Name x px,iter,ifs,0⟩] sc pos) (some (.Name y py)) spos.line X.env=pure true:=by rfl)(hs:∀ x,foldedSetIterable iter X.env x=pure x:=by intro _;rfl):PS X (.Assign [.Name y py] (.ListComp elt [⟨.Name x px,iter,ifs,0⟩] sc pos) spos) (znB i wi js tt te):=by
 intro aa s σ H D0 I h;rw[exec_Assign_Name_used _ _ _ _ hsw];refine Ia (N8 (Ia ?_));show wpAny _ X.A (do let _ ← comprehension (.ListComp elt [⟨.Name x px,iter,ifs,0⟩] sc pos) sc X.env _ (newList []) false (eval iter X.env) (some (assign (.Name y py) X.env))) _ _ s;refine Ia (IK (wpAny_comprehension_free (use:=some (assign (.Name y py) X.env)) (Q:=λ_ s' => SP X aa D0 .next s') rfl hs (X3 (S.n.cells I.ok)) S.kind S.names
  (thn (hi aa s σ H _ I h) λxv s₁ h₁=>thn h₁ λitv s₂ h₂=>?_)) (λ_ s' hq=>Ic (Ic hq)) λ_ _ e=>e)
 obtain⟨it,fp,tn,J,H2,e,I2,T,st2,f2,W,w0,turn⟩:=h₂;subst e;refine UV (xs:=[x]) (Q:=λv H' => D0.nx (σ.set i (some v)) H') (RR:=λacc C=>compPost (model X.prog X.w) X.A X.xe (some (assign (.Name y py) X.env)) (λ_ s' => SP X aa D0 .next s') acc C) S.n hjs hc S.pg (λC=>hb C _ _ _) I2 T st2 f2 w0 (zk6 turn) ?_;intro D C s' σ' H' ys its k hD hC J' rv hz q;have gtC:∀{b:AD},b<s₂.heap.objs.size->b≠C:=λh=>by rw[hC];exact zeo (OD h)
 have pinD:=J'.pin (D,{cls:=.type "list",data:=.seq its.toArray k}) (IH _ (IN.mpr rfl));obtain⟨m,hn,_⟩:=id J'.loc;have hn:s'.heap.Ns C m:=hn;obtain⟨oC,es,ep,hoC,hdC,rest⟩:=id hn;have hCn:C∉X.fs/\C≠X.env.locals:=by
  constructor
  .intro hb';obtain⟨_,o,ho,_⟩:=I2.zaY.mem hb';exact gtC (IB ho) rfl
  .exact λz=>gtC I2.lt z.symm
 have I3:Inv X aa σ (upd H' D (.lst ys)) s':=Ul (xs:=[x]) (h':=s'.heap) S.n I2 f2 hD hC J' pinD.2.1 pinD.1 rv hz (.refl ..);have hDC:C≠D:=by rw[hC,hD];exact znr (Nat.lt_succ_self _)
 have hH'C:H' C=none:=J'.free;have I4:Inv X [(C,oC)] σ (upd H' D (.lst ys)) s':=I3.Q9 λp hp=>by
  have hp' : p=(C,oC):=by simpa using hp
  subst hp';exact⟨hoC,by rw[Zm hDC];exact hH'C,hCn.2,hCn.1,λv z=>by rw[hdC]at z;cases z⟩
 have I5:Inv X (aa++[(C,oC)]) σ (upd H' D (.lst ys)) s':=I3.Q9 λp hp=>by
  rcases NN.mp hp with hp | hp
  .exact I3.pin p (IH _ hp)
  .exact I4.pin p (IH _ hp)
 show wpAny _ X.A (assign (.Name y py) X.env (.ref D)) _ _ _;refine wpAny_assign_Name (Qi I5 hN hi' (.inl hy) (v:=.ref D) rfl (λs6 I6=>?_) (.inr hy));have pinC:=I6.pin (C,oC) (IH _ (IH _ (IN.mpr rfl)));refine⟨m,⟨oC,es,ep,pinC.1,hdC,rest⟩,λh' hs' => ⟨_,_,?_,q D pinD.2.1⟩⟩;refine I6.QS.turned (it:=C) (h':=h') (t':=s6.toks) (λb o hb' e=>hs'.extBut b o hb' e) pinC.2.1 hCn.2 (.inr ?_) (λy' c e z=>?_) λp hp z=>?_
 .rw[hC];exact Nat.le_succ_of_le I2.sz
 .obtain⟨v',o,ho,_⟩:=I2.cell y' c e;exact gtC (IB ho) z
 .exact gtC (IB (I2.pin p hp).1) z
end
mutual
def Dat(K:FG)(G:Hp):V->PD->Prop
 |v,.none=>v = .non
 |v,.bool b=>v = .bl b
 |v,.int i=>v = .int i
 |v,.str x=>v = .str x
 |v,.list ds=>∃ p xs,v = .ref p/\G p=some (.lst xs)/\Yl K G xs ds
 |v,.tuple ds=>∃ p xs,v = .ref p/\SqT K G p xs/\Yl K G xs ds
 |_,.dict _=>False
def Yl(K:FG)(G:Hp):LC->LA->Prop
 |xs,[]=>xs=[]
 |xs,d::ds=>∃ y ys,xs=y::ys/\Dat K G y d/\Yl K G ys ds
end
def ZF.tup{K:FG}{a:AD}(e:ZF H H')(h:SqT K H a xs):SqT K H' a xs:=by
 rcases h with(h | ⟨o,h⟩) | h
 .exact .inl (.inl (e _ _ h))
 .exact .inl (.inr ⟨o,e _ _ h⟩)
 .exact .inr h
section
variable {K:FG}{G G' : Hp}
def Zr(i:Int):Dat K G (.int i) (.int i):=by unfold Dat;rfl
def Z5(x:Str):Dat K G (.str x) (.str x):=by unfold Dat;rfl
def Yu(b:Bool):Dat K G (.bl b) (.bool b):=by unfold Dat;rfl
def zcH:Dat K G .non .none:=by unfold Dat;rfl
def Xy{p:AD}(h:SqT K G p xs)(r:Yl K G xs ds):Dat K G (.ref p) (.tuple ds):=by unfold Dat;exact⟨p,xs,rfl,h,r⟩
def YJ{p:AD}(h:G p=some (.lst xs))(r:Yl K G xs ds):Dat K G (.ref p) (.list ds):=by unfold Dat;exact⟨p,xs,rfl,h,r⟩
def ZC:Yl K G [] []:=by unfold Yl;rfl
def Zv{x:V}{d:PD}(h:Dat K G x d)(r:Yl K G xs ds):Yl K G (x::xs) (d::ds):=by unfold Yl;exact⟨x,xs,rfl,h,r⟩
theorem Dat.int(h:Dat K G v (.int i)):v = .int i:=by unfold Dat at h;exact h
theorem Dat.str{x:Str}(h:Dat K G v (.str x)):v = .str x:=by unfold Dat at h;exact h
theorem Dat.bl{x:Bool}(h:Dat K G v (.bool x)):v = .bl x:=by unfold Dat at h;exact h
theorem Dat.non(h:Dat K G v .none):v = .non:=by unfold Dat at h;exact h
def Dat.tup(h:Dat K G v (.tuple ds)):∃ p xs,v = .ref p/\SqT K G p xs/\Yl K G xs ds:=by unfold Dat at h;exact h
theorem Dat.lst(h:Dat K G v (.list ds)):∃ p xs,v = .ref p/\G p=some (.lst xs)/\Yl K G xs ds:=by unfold Dat at h;exact h
def Yl.nil(h:Yl K G xs []):xs=[]:=by unfold Yl at h;exact h
def Yl.cons{d:PD}(h:Yl K G xs (d::ds)):∃ y ys,xs=y::ys/\Dat K G y d/\Yl K G ys ds:=by unfold Yl at h;exact h
theorem Yl.length:∀{ds:LA}{xs:LC},Yl K G xs ds->xs.length=ds.length
 |[],_,h=>by rw[h.nil];rfl
 |d::ds,_,h=>by obtain⟨y,ys,rfl,_,r⟩:=h.cons;show ys.length+1=ds.length+1;rw[r.length]
theorem Yl.get:∀{ds:LA}{xs:LC}{i:Nat}{d:PD},Yl K G xs ds->ds[i]?=some d->∃ x,xs[i]?=some x/\Dat K G x d
 |[],_,_,_,_,e=>by simp at e
 |d::ds,_,0,_,h,e=>by obtain⟨y,ys,rfl,hd,r⟩:=h.cons;simp at e;subst e;exact⟨y,rfl,hd⟩
 |d::ds,_,i+1,d',h,e=>by obtain⟨y,ys,rfl,hd,r⟩:=h.cons;obtain⟨x,h1,h2⟩:=Yl.get (i:=i) (d:=d') r (by simpa using e);exact⟨x,by simpa using h1,h2⟩
def Yl.zel{i:Nat}{x:V}(h:Yl K G xs ds)(e:xs[i]?=some x):∃ d,ds[i]?=some d/\Dat K G x d:=by have hl:=h.length;have hi:i<xs.length:=(Ik.mp e).1;obtain⟨y,h1,h2⟩:=h.get (Ib (show i<ds.length by omega));rw[e]at h1;cases h1;exact⟨_,Ib (by omega),h2⟩
theorem Xv:∀{ds es:LA}{xs ys:LC},Yl K G xs ds->Yl K G ys es->Yl K G (xs++ys) (ds++es)
 |[],_,_,_,h,r=>by rw[h.nil];exact r
 |d::ds,_,_,_,h,r=>by obtain⟨y,ys,rfl,hd,r'⟩:=h.cons;exact Zv hd (Xv r' r)
def Wi{d:PD}{x:V}(h:Yl K G xs ds)(r:Dat K G x d):Yl K G (xs++[x]) (ds++[d]):=Xv h (Zv r ZC)
theorem Uj:∀{ds:LA}{xs:LC}(n:Nat),Yl K G xs ds->Yl K G (xs.take n) (ds.take n)
 |_,_,0,_=>ZC
 |[],_,n+1,h=>by rw[h.nil];exact ZC
 |d::ds,_,n+1,h=>by obtain⟨y,ys,rfl,hd,r⟩:=h.cons;exact Zv hd (Uj n r)
theorem UJ:∀{ds:LA}{xs:LC}(n:Nat),Yl K G xs ds->Yl K G (xs.drop n) (ds.drop n)
 |_,_,0,h=>h
 |[],_,n+1,h=>by rw[h.nil];exact ZC
 |d::ds,_,n+1,h=>by obtain⟨y,ys,rfl,hd,r⟩:=h.cons;exact UJ n r
theorem za3:∀{ds:LA}{xs:LC},Yl K G xs ds->Yl K G xs.reverse ds.reverse
 |[],_,h=>by rw[h.nil];exact ZC
 |d::ds,_,h=>by obtain⟨y,ys,rfl,hd,r⟩:=h.cons;rw[Oh,Oh];exact Wi (za3 r) hd
end
mutual
theorem Dat.same{K:FG}(e:ZF G G'):∀{d:PD}{v:V},Dat K G v d->Dat K G' v d
 |.none,_,h=>by rw[h.non];exact zcH
 |.bool b,_,h=>by rw[h.bl];exact Yu b
 |.int i,_,h=>by rw[h.int];exact Zr i
 |.str x,_,h=>by rw[h.str];exact Z5 x
 |.list ds,_,h=>by obtain⟨p,xs,rfl,h1,h2⟩:=h.lst;exact YJ (e _ _ h1) (Yl.same e h2)
 |.tuple ds,_,h=>by obtain⟨p,xs,rfl,h1,h2⟩:=h.tup;exact Xy (e.tup h1) (Yl.same e h2)
 |.dict _,_,h=>by unfold Dat at h;exact h.elim
theorem Yl.same{K:FG}(e:ZF G G'):∀{ds:LA}{xs:LC},Yl K G xs ds->Yl K G' xs ds
 |[],_,h=>by rw[h.nil];exact ZC
 |d::ds,_,h=>by obtain⟨y,ys,rfl,hd,r⟩:=h.cons;exact Zv (Dat.same e hd) (Yl.same e r)
end
section
variable {X:Cx}{aa:List (Addr×Obj)}{σ:St}{H G:Hp}{s:SH}
mutual
theorem Dat.reads(I:Inv X aa σ H s)(e:ZF G H):∀{d:PD}{v:V}{u:Value},Dat X.K G v d->RelV v u->∃ as,Reads s.heap u d as
 |.none,_,u,h,r=>by rw[h.non]at r;cases(show u=Value.none from r);exact⟨_,.none⟩
 |.bool b,_,u,h,r=>by rw[h.bl]at r;cases(show u=Value.bool b from r);exact⟨_,.bool b⟩
 |.int i,_,u,h,r=>by
  rw[h.int]at r;obtain⟨t,q⟩:=(show ∃ t,u=Value.int i t from r)
  subst q;exact⟨_,.int i t⟩
 |.str x,_,u,h,r=>by
  rw[h.str]at r;obtain⟨t,q⟩:=(show ∃ t,u=Value.str x t from r)
  subst q;exact⟨_,.str x t⟩
 |.list ds,_,u,h,r=>by obtain⟨p,xs,rfl,h1,h2⟩:=h.lst;cases(show u=Value.ref p from r);obtain⟨its,rv,⟨o,n,e1,c,_,d1⟩,_⟩:=I.list (SqL.of (e _ _ h1));obtain⟨as,ra⟩:=Yl.reads I e h2 rv;exact⟨_,Reads.list e1 c d1 (by simpa using ra)⟩
 |.tuple ds,_,u,h,r=>by obtain⟨p,xs,rfl,h1,h2⟩:=h.tup;cases(show u=Value.ref p from r);obtain⟨its,rv,⟨o,e1,c,n,d1⟩,_⟩:=I.tuple (e.tup h1);obtain⟨as,ra⟩:=Yl.reads I e h2 rv;exact⟨_,Reads.tuple e1 c d1 (by simpa using ra)⟩
 |.dict _,_,_,h,_=>by unfold Dat at h;exact h.elim
theorem Yl.reads(I:Inv X aa σ H s)(e:ZF G H):∀{ds:LA}{xs:LC}{us:LD},Yl X.K G xs ds->Vals xs us->∃ as,ReadsAll s.heap us ds as
 |[],_,us,h,r=>by rw[h.nil]at r;cases r;exact⟨_,.nil⟩
 |d::ds,_,us,h,r=>by
  obtain⟨y,ys,rfl,hd,hr⟩:=h.cons;cases r with
  |cons r1 r2=>obtain⟨as,ra⟩:=Dat.reads I e hd r1;obtain⟨bs,rb⟩:=Yl.reads I e hr r2;exact⟨_,.cons ra rb⟩
end
end
mutual
noncomputable def noBool:PD->Bool
 |.bool _=>false
 |.dict _=>false
 |.list xs=>WK xs
 |.tuple xs=>WK xs
 |.none | .int _ | .str _=>true
noncomputable def WK:LA->Bool
 |[]=>true
 |x::xs=>noBool x&&WK xs
end
mutual
theorem zc8:∀ a b:PD,noBool a=true->noBool b=true->SeqAt.noMix a b=true
 |.list xs,.list ys,h,k=>by rw[SeqAt.noMix];exact U3 xs ys (by simpa [noBool]using h) (by simpa [noBool]using k)
 |.tuple xs,.tuple ys,h,k=>by rw[SeqAt.noMix];exact U3 xs ys (by simpa [noBool]using h) (by simpa [noBool]using k)
 |.bool _,_,h,_=>by simp[noBool]at h
 |.dict _,_,h,_=>by simp[noBool]at h
 |.none,.bool _,_,k | .int _,.bool _,_,k | .str _,.bool _,_,k | .list _,.bool _,_,k | .tuple _,.bool _,_,k=>by simp[noBool]at k
 |.none,.dict _,_,k | .int _,.dict _,_,k | .str _,.dict _,_,k | .list _,.dict _,_,k | .tuple _,.dict _,_,k=>by simp[noBool]at k
 |.none,.none,_,_ | .none,.int _,_,_ | .none,.str _,_,_ | .none,.list _,_,_ | .none,.tuple _,_,_=>by simp[SeqAt.noMix]
 |.int _,.none,_,_ | .int _,.int _,_,_ | .int _,.str _,_,_ | .int _,.list _,_,_ | .int _,.tuple _,_,_=>by simp[SeqAt.noMix]
 |.str _,.none,_,_ | .str _,.int _,_,_ | .str _,.str _,_,_ | .str _,.list _,_,_ | .str _,.tuple _,_,_=>by simp[SeqAt.noMix]
 |.list _,.none,_,_ | .list _,.int _,_,_ | .list _,.str _,_,_ | .list _,.tuple _,_,_=>by simp[SeqAt.noMix]
 |.tuple _,.none,_,_ | .tuple _,.int _,_,_ | .tuple _,.str _,_,_ | .tuple _,.list _,_,_=>by simp[SeqAt.noMix]
theorem U3:∀ a b:LA,WK a=true->WK b=true->SeqAt.noMixAll a b=true
 |[],[],_,_ | [],_::_,_,_ | _::_,[],_,_=>by simp[SeqAt.noMixAll]
 |x::xs,y::ys,h,k=>by
  have h' : noBool x=true/\WK xs=true:=by simpa [WK]using h
  have k' : noBool y=true/\WK ys=true:=by simpa [WK]using k
  rw[SeqAt.noMixAll,zc8 x y h'.1 k'.1,U3 xs ys h'.2 k'.2];rfl
end
structure Pl(n:Nat)(d:PD):Prop where
 lay:d.canLay0=true
 dep:d.depth<=n
 nb:noBool d=true
theorem Pl.shaped{n:Nat}{d:PD}(h:Pl n d)(k:n<=64):SeqAt.shaped d=true:=by show(PyData.canLay0 d&&decide (PyData.depth d<=64))=true;rw[Nd];exact⟨h.lay,Iq (Nj h.dep k)⟩
def Pl.mix{n:Nat}{a b:PD}(h:Pl n a)(k:Pl n b):SeqAt.noMix a b=true:=zc8 a b h.nb k.nb
mutual
theorem za6:∀{a b:PD},PySem.Spec.same a b=true->a=b
 |.none,b,h=>by cases b <;> first | rfl | simp[PySem.Spec.same]at h
 |.bool x,b,h=>by cases b <;> simp[PySem.Spec.same]at h <;> rw[h]
 |.int x,b,h=>by cases b <;> simp[PySem.Spec.same]at h <;> rw[h]
 |.str x,b,h=>by cases b <;> simp[PySem.Spec.same]at h <;> rw[h]
 |.list x,b,h=>by
  cases b <;> simp[PySem.Spec.same]at h
  rw[Vn h]
 |.tuple x,b,h=>by
  cases b <;> simp[PySem.Spec.same]at h
  rw[Vn h]
 |.dict x,b,h=>by
  cases b <;> simp[PySem.Spec.same]at h
  rw[VJ h]
theorem Vn:∀{a b:LA},sameAll a b=true->a=b
 |[],[],_=>rfl
 |[],_::_,h=>by simp[sameAll]at h
 |_::_,[],h=>by simp[sameAll]at h
 |x::xs,y::ys,h=>by
  have h' : PySem.Spec.same x y=true/\sameAll xs ys=true:=by simpa [sameAll]using h
  rw[za6 h'.1,Vn h'.2]
theorem VJ:∀{a b:List (PD×PD)},samePairs a b=true->a=b
 |[],[],_=>rfl
 |[],_::_,h=>by simp[samePairs]at h
 |_::_,[],h=>by simp[samePairs]at h
 |(x,z)::xs,(y,w)::ys,h=>by
  have h' : (PySem.Spec.same x y=true/\PySem.Spec.same z w=true)/\samePairs xs ys=true:=by simpa [samePairs]using h
  rw[za6 h'.1.1,za6 h'.1.2,VJ h'.2]
end
def zi0{a b:PD}(h:a≠b):PySem.Spec.same a b=false:=by
 cases e:PySem.Spec.same a b with
 |false=>rfl
 |true=>exact absurd (za6 e) h
section
variable {X:Cx}
def zl4(K:FG)(g:Bool->Bool):R2:=λx y H Q=>∃(G:Hp)(a b:PD),ZF G H/\Dat K G x a/\Dat K G y b/\(SeqAt.shaped a=true/\SeqAt.shaped b=true/\SeqAt.noMix a b=true)/\Q (.bl (g (PySem.Spec.same a b))) H
def zkp(hu:X.A.units+64<cLine):OpR X (compareOp .Eq) (zl4 X.K λb=>b):=by intro aa s σ H x y v u Q I rx ry h;obtain⟨G,a,b,e,ha,hb,⟨sa,sb,nm⟩,q⟩:=h;obtain⟨as,ra⟩:=Dat.reads I e ha rx;obtain⟨bs,rb⟩:=Dat.reads I e hb ry;exact eq_dataH_same ra rb sa sb hu nm ⟨.bl (PySem.Spec.same a b),H,I,rfl,q⟩
def zkt(hu:X.A.units+64<cLine):OpR X (compareOp .NotEq) (zl4 X.K λb=>!b):=by intro aa s σ H x y v u Q I rx ry h;obtain⟨G,a,b,e,ha,hb,⟨sa,sb,nm⟩,q⟩:=h;obtain⟨as,ra⟩:=Dat.reads I e ha rx;obtain⟨bs,rb⟩:=Dat.reads I e hb ry;exact ne_dataH_same ra rb sa sb hu nm ⟨.bl (!PySem.Spec.same a b),H,I,rfl,q⟩
end
def zf2(i:Int){n:Nat}:Pl n (.int i):=⟨by unfold PyData.canLay0;rfl,by unfold PyData.depth;omega,by unfold noBool;rfl⟩
theorem JP:∀{ds:LA},(∀ d∈ds,d.canLay0=true)->PyData.canLayAll0 ds=true
 |[],_=>rfl
 |d::ds,h=>by unfold PyData.canLayAll0;rw[h d (by simp),JP λe he=>h e (by simp[he])];rfl
theorem Qs:∀{ds:LA}{n:Nat},(∀ d∈ds,d.depth<=n)->PyData.depthAll ds<=n
 |[],_,_=>by unfold PyData.depthAll;omega
 |d::ds,n,h=>by have h1:=h d (by simp);have h2:=Qs (ds:=ds) (n:=n) λe he=>h e (by simp[he]);unfold PyData.depthAll;omega
theorem Vi:∀{ds:LA},(∀ d∈ds,noBool d=true)->WK ds=true
 |[],_=>rfl
 |d::ds,h=>by unfold WK;rw[h d (by simp),Vi λe he=>h e (by simp[he])];rfl
def ze0{n:Nat}(h:∀ d∈ds,Pl n d):Pl (n+1) (.tuple ds):=by
 refine⟨?_,?_,?_⟩
 .unfold PyData.canLay0;exact JP λd hd=>(h d hd).lay
 .have:=Qs λd hd=>(h d hd).dep;unfold PyData.depth;omega
 .unfold noBool;exact Vi λd hd=>(h d hd).nb
def zaC{n:Nat}(h:∀ d∈ds,Pl n d):Pl (n+1) (.list ds):=by
 refine⟨?_,?_,?_⟩
 .unfold PyData.canLay0;exact JP λd hd=>(h d hd).lay
 .have:=Qs λd hd=>(h d hd).dep;unfold PyData.depth;omega
 .unfold noBool;exact Vi λd hd=>(h d hd).nb
def zeF{n:Nat}(ns:List Int):Pl (n+1) (.tuple (ns.map PyData.int)):=ze0 λd hd=>by obtain⟨i,_,rfl⟩:=NI.mp hd;exact zf2 i
structure Yi(G H G' H' : Hp):Prop where
 gg:ZF G G'
 gh:ZF G' H'
 hh:ZF H H'
 fr:∀ b o,G' b=some o->G b=some o\/H b=none
theorem Yi.refl(s:ZF G H):Yi G H G H:=⟨ZF.refl _,s,ZF.refl _,λ_ _ h=>.inl h⟩
theorem Yi.trans{G1 H1 G2 H2:Hp}(a:Yi G H G1 H1)(b:Yi G1 H1 G2 H2):Yi G H G2 H2:=
 ⟨a.gg.trans b.gg,b.gh,a.hh.trans b.hh,λx o h=>by
  rcases b.fr x o h with h | h
  .exact a.fr x o h
  .exact .inr (a.hh.free h)⟩
def Yd{p:AD}(s:ZF G H)(hp:H p=none):Yi G H (upd G p o) (upd H p o):=by
 have hg:G p=none:=s.free hp;refine⟨λb u e=>?_,λb u e=>?_,λb u e=>?_,λb u e=>?_⟩
 .rw[Zm (Zk e hg)];exact e
 .by_cases h:b=p
  .subst h;rw[Zh]at e ⊢;exact e
  .rw[Zm h]at e ⊢;exact s b u e
 .rw[Zm (Zk e hp)];exact e
 .by_cases h:b=p
  .subst h;exact .inr hp
  .rw[Zm h]at e;exact .inl e
def Vy(s:ZF G H)(h:ZF H H'):Yi G H G H':=⟨ZF.refl _,s.trans h,h,λ_ _ e=>.inl e⟩
def Yi.out(a:Yi G H G' H'){p:AD}(hp:H p=some o)(hg:G p=none):G' p=none:=by
 cases e:G' p with
 |none=>rfl
 |some u=>
  rcases a.fr p u e with h | h
  .rw[hg]at h;cases h
  .rw[hp]at h;cases h
def Ev(K:FG)(t:TE)(σ:St)(G:Hp)(d:PD):Prop:=∀ G1 H,ZF G G1->ZF G1 H->∀ Q:VK,(∀ v G' H',Yi G1 H G' H' -> Dat K G' v d->Q v H')->t σ H Q
def EvT(t:TT)(σ:St)(G:Hp)(b:Bool):Prop:=∀ G1 H,ZF G G1->ZF G1 H->∀ Q:Bool->Hp->Prop,(∀ G' H',Yi G1 H G' H' -> Q b H')->t σ H Q
def EvA(K:FG)(t:TA)(σ:St)(G:Hp)(ds:LA):Prop:=∀ G1 H,ZF G G1->ZF G1 H->∀ Q:LC->Hp->Prop,(∀ vs G' H',Yi G1 H G' H' -> Yl K G' vs ds->Q vs H')->t σ H Q
section
variable {K:FG}{σ:St}{G:Hp}{ta tb tc:TE}{a b d:PD}
def Ev.mono{t:TE}(h:Ev K t σ G d)(s:ZF G G'):Ev K t σ G' d:=λG1 H s1 s2 Q k=>h G1 H (s.trans s1) s2 Q k
def Ev.use{t:TE}{Q:VK}(h:Ev K t σ G d)(s:ZF G H)(k:∀ v G' H',Yi G H G' H' -> Dat K G' v d->Q v H'):t σ H Q:=h G H (ZF.refl _) s Q k
def EvT.use{t:TT}{Q:Bool->Hp->Prop}(h:EvT t σ G c)(s:ZF G H)(k:∀ G' H',Yi G H G' H' -> Q c H'):t σ H Q:=h G H (ZF.refl _) s Q k
def Zc{i:Nat}(h:σ[i]?=some (some v))(hd:Dat K G v d):Ev K (XH i) σ G d:=λG1 H s1 s2 Q k=>⟨v,h,k v G1 H (Yi.refl s2) (hd.same s1)⟩
def zgI(hd:Dat K G v d):Ev K (tC v) σ G d:=λG1 H s1 s2 Q k=>k v G1 H (Yi.refl s2) (hd.same s1)
def Zq :Ev K (tC (.int i)) σ G (.int i):=zgI (Zr i)
def ZJ{x:Str}:Ev K (tC (.str x)) σ G (.str x):=zgI (Z5 x)
def zkE{x:Bool}:Ev K (tC (.bl x)) σ G (.bool x):=zgI (Yu x)
def J4{r:R2}(ha:Ev K ta σ G a)(hb:Ev K tb σ G b)(hr:∀ G1 H x y (Q:VK),ZF G G1->ZF G1 H->Dat K G1 x a->Dat K G1 y b->(∀ v G' H',Yi G1 H G' H' -> Dat K G' v d->Q v H')->r x y H Q):Ev K (tOp r ta tb) σ G d:=
 λG1 H s1 s2 Q k=>ha G1 H s1 s2 _ λx G2 H2 g2 hx=>hb G2 H2 (s1.trans g2.gg) g2.gh _ λy G3 H3 g3 hy=>hr G3 H3 x y Q ((s1.trans g2.gg).trans g3.gg) g3.gh (hx.same g3.gg) hy λv G' H' g hv=>k v G' H' ((g2.trans g3).trans g) hv
def Q3{g:Int->Int->V}(ha:Ev K ta σ G (.int i))(hb:Ev K tb σ G (.int j))(hg:Dat K G (g i j) d):Ev K (tOp (rI0 g) ta tb) σ G d:=
 J4 ha hb λG1 H x y Q s1 s2 hx hy k=>by rw[hx.int,hy.int];exact⟨i,j,rfl,rfl,k _ G1 H (Yi.refl s2) (hg.same s1)⟩
def zcX{C:Int->Int->Prop}{g:Int->Int->V}(ha:Ev K ta σ G (.int i))(hb:Ev K tb σ G (.int j))(hc:C i j)(hg:Dat K G (g i j) d):Ev K (tOp (rI C g) ta tb) σ G d:=
 J4 ha hb λG1 H x y Q s1 s2 hx hy k=>by rw[hx.int,hy.int];exact⟨i,j,rfl,rfl,hc,k _ G1 H (Yi.refl s2) (hg.same s1)⟩
def JS{n:Nat}(ha:Ev K ta σ G (.tuple ds))(hb:Ev K tb σ G (.int i))(hn:ixN ds.length i=some n)(hd:ds[n]?=some d):Ev K (tOp (zmi K) ta tb) σ G d:=
 J4 ha hb λG1 H x y Q s1 s2 hx hy k=>by obtain⟨p,xs,rfl,hp,hxs⟩:=hx.tup;obtain⟨z,hz,hzd⟩:=hxs.get hd;rw[hy.int];exact⟨p,xs,i,z,rfl,rfl,s2.tup hp,by unfold atI;rw[hxs.length,hn];exact hz,k z G1 H (Yi.refl s2) hzd⟩
def YG{n:Nat}(ha:Ev K ta σ G (.list ds))(hb:Ev K tb σ G (.int i))(hn:ixN ds.length i=some n)(hd:ds[n]?=some d):Ev K (tOp (zgt K) ta tb) σ G d:=
 J4 ha hb λG1 H x y Q s1 s2 hx hy k=>by obtain⟨p,xs,rfl,hp,hxs⟩:=hx.lst;obtain⟨z,hz,hzd⟩:=hxs.get hd;rw[hy.int];exact⟨p,xs,i,z,rfl,rfl,SqL.of (s2 _ _ hp),by unfold atI;rw[hxs.length,hn];exact hz,k z G1 H (Yi.refl s2) hzd⟩
def zbS{g:Bool->Bool}{n:Nat}(ha:Ev K ta σ G a)(hb:Ev K tb σ G b)(pa:Pl n a)(pb:Pl n b)(hn:n<=64):Ev K (tOp (zl4 K g) ta tb) σ G (.bool (g (PySem.Spec.same a b))):=J4 ha hb λG1 H x y Q s1 s2 hx hy k=>⟨G1,a,b,s2,hx,hy,⟨pa.shaped hn,pb.shaped hn,pa.mix pb⟩,k _ G1 H (Yi.refl s2) (Yu _)⟩
def Zn:EvA K Qk σ G []:=λG1 H s1 s2 Q k=>k [] G1 H (Yi.refl s2) ZC
def Zb{t:TA}(ha:Ev K ta σ G a)(hb:EvA K t σ G ds):EvA K (Z4 ta t) σ G (a::ds):=λG1 H s1 s2 Q k=>ha G1 H s1 s2 _ λx G2 H2 g2 hx=>hb G2 H2 (s1.trans g2.gg) g2.gh _ λys G3 H3 g3 hy=>k (x::ys) G3 H3 (g2.trans g3) (Zv (hx.same g3.gg) hy)
def Xf{t:TA}(h:EvA K t σ G ds)(hl:ds.length<=sizeLine):Ev K (zdN t) σ G (.tuple ds):=
 λG1 H s1 s2 Q k=>h G1 H s1 s2 _ λvs G2 H2 g2 hv=>⟨by rw[hv.length];exact hl,λp hp=>by
  have g:=Yd (o:=.tup vs) g2.gh hp;exact k _ _ _ (g2.trans g) (Xy (SqT.of Zh) (hv.same g.gg))⟩
def Wx{t:TA}(h:EvA K t σ G ds)(hl:ds.length<=sizeLine):Ev K (zhB t) σ G (.list ds):=
 λG1 H s1 s2 Q k=>h G1 H s1 s2 _ λvs G2 H2 g2 hv=>⟨by rw[hv.length];exact hl,λp hp=>by
  have g:=Yd (o:=.lst vs) g2.gh hp;exact k _ _ _ (g2.trans g) (YJ Zh (hv.same g.gg))⟩
def zhs{r:LC->Hp->VK->Prop}{t:TA}(h:EvA K t σ G ds)(hr:∀ G1 H xs (Q:VK),ZF G G1->ZF G1 H->Yl K G1 xs ds->(∀ v G' H',Yi G1 H G' H' -> Dat K G' v d->Q v H')->r xs H Q):Ev K (tCB r t) σ G d:=λG1 H s1 s2 Q k=>h G1 H s1 s2 _ λvs G2 H2 g2 hv=>hr G2 H2 vs Q (s1.trans g2.gg) g2.gh hv λv G' H' g hd=>k v G' H' (g2.trans g) hd
def Ur{t:TA}(h:EvA K t σ G [.list ds]):Ev K (tCB (λxs H Q=>∃ p ys,xs=[.ref p]/\(SqL K H p ys\/SqT K H p ys)/\Q (.int ys.length) H) t) σ G (.int ds.length):=
 zhs h λG1 H xs Q s1 s2 hx k=>by obtain⟨y,ys,rfl,hy,r⟩:=hx.cons;rw[r.nil];obtain⟨p,zs,rfl,hp,hz⟩:=hy.lst;refine⟨p,zs,rfl,.inl (SqL.of (s2 _ _ hp)),?_⟩;rw[hz.length];exact k _ G1 H (Yi.refl s2) (Zr _)
def Qq{t:TA}(h:EvA K t σ G [.tuple ds]):Ev K (tCB (λxs H Q=>∃ p ys,xs=[.ref p]/\(SqL K H p ys\/SqT K H p ys)/\Q (.int ys.length) H) t) σ G (.int ds.length):=
 zhs h λG1 H xs Q s1 s2 hx k=>by obtain⟨y,ys,rfl,hy,r⟩:=hx.cons;rw[r.nil];obtain⟨p,zs,rfl,hp,hz⟩:=hy.tup;refine⟨p,zs,rfl,.inr (s2.tup hp),?_⟩;rw[hz.length];exact k _ G1 H (Yi.refl s2) (Zr _)
def QV{t:TA}(h:EvA K t σ G [.list ds]):Ev K (tCB (λxs H Q=>∃ p ys,xs=[.ref p]/\((SqL K H p ys/\∀ l,H l=none->Q (.ref l) (upd H l (.tup ys)))\/(SqT K H p ys/\Q (.ref p) H))) t) σ G (.tuple ds):=
 zhs h λG1 H xs Q s1 s2 hx k=>by obtain⟨y,ys,rfl,hy,r⟩:=hx.cons;rw[r.nil];obtain⟨p,zs,rfl,hp,hz⟩:=hy.lst;refine⟨p,zs,rfl,.inl ⟨SqL.of (s2 _ _ hp),λl hl=>?_⟩⟩;have g:=Yd (o:=.tup zs) s2 hl;exact k _ _ _ g (Xy (SqT.of Zh) (hz.same g.gg))
def ZM{t:TE}(h:Ev K t σ G (.bool c)):EvT (zeK t) σ G c:=λG1 H s1 s2 Q k=>h G1 H s1 s2 _ λv G' H' g hv=>⟨c,hv.bl,k G' H' g⟩
def zaG{t:TE}(h:Ev K t σ G (.bool c)):EvT (tB t) σ G c:=λG1 H s1 s2 Q k=>h G1 H s1 s2 _ λv G' H' g hv=>⟨c,hv.bl,k G' H' g⟩
def zcL{t:TT}(h:EvT t σ G c):EvT (zm6 t) σ G (!c):=λG1 H s1 s2 Q k=>h G1 H s1 s2 _ λG' H' g=>k G' H' g
def zfo{t u:TT}(h:EvT t σ G c)(h' : c=false->EvT u σ G e):EvT (tOr t u) σ G (c||e):=λG1 H s1 s2 Q k=>h G1 H s1 s2 _ λG' H' g=>by
 cases c with
 |true=>rw[IA rfl];exact k G' H' g
 |false=>rw[Iw Ij];exact h' rfl G' H' (s1.trans g.gg) g.gh _ λG2 H2 g2=>k G2 H2 (g.trans g2)
def zes{t u:TT}(h:EvT t σ G c)(h' : c=true->EvT u σ G e):EvT (zno t u) σ G (c&&e):=λG1 H s1 s2 Q k=>h G1 H s1 s2 _ λG' H' g=>by
 cases c with
 |false=>rw[Iw Ij];exact k G' H' g
 |true=>rw[IA rfl];exact h' rfl G' H' (s1.trans g.gg) g.gh _ λG2 H2 g2=>k G2 H2 (g.trans g2)
def zaV{t:TT}(h:EvT t σ G c)(q:c=e):EvT t σ G e:=q ▸ h
def JT{t:TE}{e:PD}(h:Ev K t σ G d)(q:d=e):Ev K t σ G e:=q ▸ h
def VF{t:TT}(h:EvT t σ G c)(h1:c=true->Ev K ta σ G d)(h2:c=false->Ev K tb σ G d):Ev K (tIf t ta tb) σ G d:=λG1 H s1 s2 Q k=>h G1 H s1 s2 _ λG' H' g=>by
 cases c with
 |true=>rw[IA rfl];exact h1 rfl G' H' (s1.trans g.gg) g.gh _ λv G2 H2 g2 hv=>k v G2 H2 (g.trans g2) hv
 |false=>rw[Iw Ij];exact h2 rfl G' H' (s1.trans g.gg) g.gh _ λv G2 H2 g2 hv=>k v G2 H2 (g.trans g2) hv
def zlL(h:Ev K ta σ G (.bool c))(h' : c=true->Ev K tb σ G (.bool e)):Ev K (zlI ta tb) σ G (.bool (c&&e)):=λG1 H s1 s2 Q k=>h G1 H s1 s2 _ λv G' H' g hv=>⟨c,hv.bl,by
 cases c with
 |false=>rw[Iw Ij];exact k _ G' H' g (Yu _)
 |true=>rw[IA rfl];exact h' rfl G' H' (s1.trans g.gg) g.gh _ λw G2 H2 g2 hw=>k w G2 H2 (g.trans g2) hw⟩
def spP(K:FG)(R:LA->PD->Prop):Sp:=λvs H Q _=>∃(G:Hp)(ds:LA)(d:PD),ZF G H/\Yl K G vs ds/\R ds d/\∀ v G' H',Yi G H G' H' -> Dat K G' v d->Q v H'
def Yk{R:LA->PD->Prop}{E:XK}{t:TA}(h:EvA K t σ G ds)(hR:R ds d):Ev K (zaf (spP K R) [] E t) σ G d:=
 λG1 H s1 s2 Q k=>h G1 H s1 s2 _ λvs G2 H2 g2 hv=>by refine⟨G2,ds,d,g2.gh,?_,hR,λv G' H' g hd=>k v G' H' (g2.trans g) hd⟩;rw[Ng];exact hv
theorem J9{β:Type}(f:α->Option β):∀ ds:List α,(List.range ds.length).filterMap (λi=>(ds[i]?).bind f)=ds.filterMap f
 |[]=>rfl
 |d::ds=>by
  rw[IE,List.range_succ_eq_map,NH,List.filterMap_map];have e:(λi=>((d::ds)[i]?).bind f)∘Nat.succ=λi=>(ds[i]?).bind f:=by funext i;simp
  rw[e,J9 f ds];rw[NH];simp
structure Walk(J:It)(n:Nat)(H:Hp)(items:Nat->V->Prop):Prop where
 go:∀ i H',ZF H H' -> i<n->J.go i H'
 stop:∀ i H',ZF H H' -> n<=i->J.stop i H'
 yld:∀ i H' x H'',ZF H H' -> J.yld i H' x H'' -> H''=H' /\ items i x
def zdJ(lo:Int)(n:Nat)(H:Hp):Walk (Itr lo n) n H (λi x=>x = .int (lo+i)):=⟨λ_ _ _ h=>h,λ_ _ _ h=>h,λ_ _ _ _ _ h=>h⟩
def zdd{a:AD}(h:SqT K H a xs):Walk (Itt K a) xs.length H (λi x=>xs[i]?=some x):=⟨λi H' s hi=>⟨xs,_,s.tup h,Ib hi⟩,λi H' s hi=>⟨xs,s.tup h,hi⟩,λi H' x H'' s y=>⟨y.1,y.2 xs (s.tup h)⟩⟩
def zgy{a:AD}(h:SqL K H a xs):Walk (Itl K a) xs.length H (λi x=>xs[i]?=some x):=⟨λi H' s hi=>⟨xs,_,s.seq h,Ib hi⟩,λi H' s hi=>⟨xs,s.seq h,hi⟩,λi H' x H'' s y=>⟨y.1,y.2 xs (s.seq h)⟩⟩
def zlc{wi:TI}{Q:VK}{n:Nat}(f:Nat->Option PD)(items:Hp->Nat->V->Prop){G1:Hp}(s2:ZF G1 H)(hw:∀ R:It->Hp->Prop,(∀ J G2 H2,Yi G1 H G2 H2->Walk J n H2 (items G2)->R J H2)->wi σ H R)(hn:n<sizeLine)(hc:∀ G2 i x,ZF G1 G2->i<n->items G2 i x->(∃ d,f i=some d/\EvT tt (some x::WM σ js) G2 true/\Ev K te (some x::WM σ js) G2 d)\/(f i=none/\EvT tt (some x::WM σ js) G2 false))(k:∀ v G' H',Yi G1 H G' H' -> Dat K G' v (.list ((List.range n).filterMap f))->Q v H'):tLC wi js tt te σ H Q:=by
 refine hw _ λJ G2 H2 g2 W=>?_;refine⟨λi m ys H' => m=n-i/\i<=n/\ys.length<=i/\∃ G',Yi G2 H2 G' H' /\ Yl K G' ys ((List.range i).filterMap f),⟨n,(by omega),(by omega),(by simp),G2,Yi.refl g2.gh,by simpa using ZC⟩,?_⟩;rintro i m ys H' ⟨rfl,hi,hl,G',g',hys⟩;refine⟨(by omega),?_⟩;by_cases h:i=n
 .subst h;refine .inl ⟨W.stop i H' g'.hh (Ih _),λp hp=>?_⟩;have g3:=Yd (o:=.lst ys) g'.gh hp;exact k _ _ _ ((g2.trans g').trans g3) (YJ Zh (hys.same g3.gg))
 .refine .inr ⟨W.go i H' g'.hh (by omega),λx H'' hy=>?_⟩;obtain⟨rfl,hit⟩:=W.yld i H' x H'' g'.hh hy;rcases hc G2 i x g2.gg (by omega) hit with⟨d,hf,ht,he⟩ | ⟨hf,ht⟩
  .refine ht G' H'' g'.gg g'.gh _ λG4 H4 g4=>?_;rw[IA rfl];refine he G4 H4 (g'.gg.trans g4.gg) g4.gh _ λv G5 H5 g5 hv=>⟨n-(i+1),(by omega),rfl,(by omega),by rw[Iv];show ys.length+1<=i+1;omega,G5,(g'.trans g4).trans g5,?_⟩
   rw[OE,Op];simp only[NH,hf,filterMap_nil];exact Wi (hys.same (g4.gg.trans g5.gg)) hv
  .refine ht G' H'' g'.gg g'.gh _ λG4 H4 g4=>?_;rw[Iw Ij];refine⟨n-(i+1),(by omega),rfl,(by omega),(by omega),G4,g'.trans g4,?_⟩;rw[OE,Op];simp only[NH,hf,filterMap_nil,Ng];exact hys.same g4.gg
def Lc1(K:FG)(tt:TT)(te:TE)(σ' : St)(G:Hp)(o:Option PD):Prop:=(∃ d,o=some d/\EvT tt σ' G true/\Ev K te σ' G d)\/(o=none/\EvT tt σ' G false)
def Ui{tl:TE}(as:List α)(enc:α->PD)(f:α->Option PD)(h:Ev K tl σ G (.tuple (as.map enc)))(hj:as.length<sizeLine)(hc:∀ G2 (i:Nat) (a:α) x,ZF G G2->as[i]?=some a->Dat K G2 x (enc a)->Lc1 K tt te (some x::WM σ js) G2 (f a)):Ev K (tLC (zlx K tl) js tt te) σ G (.list (as.filterMap f)):=
 λG1 H s1 s2 Q k=>zlc (n:=as.length) (λi=>(as[i]?).bind f) (λG2 i x=>∃ a,as[i]?=some a/\Dat K G2 x (enc a)) s2 (λR hR=>h G1 H s1 s2 _ λv G2 H2 g2 hv=>by
  obtain⟨p,xs,rfl,hp,hxs⟩:=hv.tup;refine⟨p,rfl,⟨xs,g2.gh.tup hp⟩,hR _ G2 H2 g2 ?_⟩;have W:=zdd (K:=K) (H:=H2) (g2.gh.tup hp);rw[hxs.length,Ig]at W;refine⟨W.go,W.stop,λi H' x H'' s y=>⟨(W.yld i H' x H'' s y).1,?_⟩⟩;obtain⟨d,hd,hx⟩:=hxs.zel (W.yld i H' x H'' s y).2;rw[Io]at hd;cases e:as[i]? with
  |none=>rw[e]at hd;cases hd
  |some a=>rw[e]at hd;cases hd;exact⟨a,rfl,hx⟩) hj
  (λG2 i x s3 hi ⟨a,ha,hx⟩=>by
   show Lc1 K tt te (some x::WM σ js) G2 ((as[i]?).bind f);rw[ha];exact hc G2 i a x (s1.trans s3) ha hx) (by rw[J9];exact k)
def zda{tl:TE}(as:List α)(enc:α->PD)(f:α->Option PD)(h:Ev K tl σ G (.list (as.map enc)))(hj:as.length<sizeLine)(hc:∀ G2 (i:Nat) (a:α) x,ZF G G2->as[i]?=some a->Dat K G2 x (enc a)->Lc1 K tt te (some x::WM σ js) G2 (f a)):Ev K (tLC (zjs K tl) js tt te) σ G (.list (as.filterMap f)):=
 λG1 H s1 s2 Q k=>zlc (n:=as.length) (λi=>(as[i]?).bind f) (λG2 i x=>∃ a,as[i]?=some a/\Dat K G2 x (enc a)) s2 (λR hR=>h G1 H s1 s2 _ λv G2 H2 g2 hv=>by
  obtain⟨p,xs,rfl,hp,hxs⟩:=hv.lst;refine⟨p,rfl,⟨xs,SqL.of (g2.gh _ _ hp)⟩,hR _ G2 H2 g2 ?_⟩;have W:=zgy (K:=K) (H:=H2) (SqL.of (g2.gh _ _ hp));rw[hxs.length,Ig]at W;refine⟨W.go,W.stop,λi H' x H'' s y=>⟨(W.yld i H' x H'' s y).1,?_⟩⟩;obtain⟨d,hd,hx⟩:=hxs.zel (W.yld i H' x H'' s y).2;rw[Io]at hd;cases e:as[i]? with
  |none=>rw[e]at hd;cases hd
  |some a=>rw[e]at hd;cases hd;exact⟨a,rfl,hx⟩) hj
  (λG2 i x s3 hi ⟨a,ha,hx⟩=>by
   show Lc1 K tt te (some x::WM σ js) G2 ((as[i]?).bind f);rw[ha];exact hc G2 i a x (s1.trans s3) ha hx) (by rw[J9];exact k)
def lc1(ht:EvT tt σ' G true)(he:Ev K te σ' G d):Lc1 K tt te σ' G (some d):=.inl ⟨d,rfl,ht,he⟩
def lc0(ht:EvT tt σ' G false):Lc1 K tt te σ' G none:=.inr ⟨rfl,ht⟩
def X7:EvT zaM σ G true:=λG1 H s1 s2 Q k=>k G1 H (Yi.refl s2)
end
section
variable {K:FG}{σ:St}{G H:Hp}{te:TE}{d:PD}{D:Ends}
def ZX(h:Ev K te σ G d)(s:ZF G H)(k:∀ v G' H',Yi G H G' H' -> Dat K G' v d->D.rt v H'):zmg te D σ H:=h.use s k
def Jt{i:Nat}(h:Ev K te σ G d)(s:ZF G H)(k:∀ v G' H',Yi G H G' H' -> Dat K G' v d->D.nx (σ.set i (some v)) H'):zjZ te (VP i) D σ H:=h.use s k
def QQ{tc:TT}{t u:TS}(h:EvT tc σ G c)(s:ZF G H)(k1:c=true->∀ G' H',Yi G H G' H' -> t D σ H')(k2:c=false->∀ G' H',Yi G H G' H' -> u D σ H'):zjK tc t u D σ H:=
 h.use s λG' H' g=>by
  cases c with
  |true=>rw[IA rfl];exact k1 rfl G' H' g
  |false=>rw[Iw Ij];exact k2 rfl G' H' g
def Jx{tc:TT}{t u:TS}(h:EvT tc σ G false)(s:ZF G H)(k:∀ G' H',Yi G H G' H' -> u D σ H'):zjK tc t u D σ H:=QQ h s (λz=>nomatch z) λ_=>k
theorem Wz{β:Type}(f:α->β):∀ l:List α,l.filterMap (λx=>some (f x))=l.map f
 |[]=>rfl
 |x::l=>by rw[NH,Nb,Wz f l]
abbrev dN(ns:List Nat):PD:=.tuple (ns.map λn=>PyData.int (n:Nat))
theorem Uz:∀ ns:List Nat,Yl K G (ns.map λn=>V.int (n:Nat)) (ns.map λn=>PyData.int (n:Nat))
 |[]=>ZC
 |n::ns=>Zv (Zr _) (Uz ns)
theorem Yl.nats:∀{ns:List Nat}{xs:LC},Yl K G xs (ns.map λn=>PyData.int (n:Nat))->xs=ns.map λn=>V.int (n:Nat)
 |[],_,h=>h.nil
 |n::ns,_,h=>by obtain⟨y,ys,rfl,hd,r⟩:=h.cons;rw[hd.int,Yl.nats r];rfl
def zjc{n:Nat}(ns:List Nat):Pl (n+1) (dN ns):=ze0 λd hd=>by obtain⟨i,_,rfl⟩:=NI.mp hd;exact zf2 _
def XN{n i:Nat}(h:i<n):ixN n (i:Int)=some i:=by unfold ixN;rw[IA (by omega),IA (by omega)];simp
end
section
variable {K:FG}{σ:St}{G H:Hp}{ta tb:TE}
def VB(ha:Ev K ta σ G (.int i))(hb:Ev K tb σ G (.int j)):Ev K (tOp rEq ta tb) σ G (.bool (decide (i=j))):=
 J4 ha hb λG1 H x y Q s1 s2 hx hy k=>by
  rw[hx.int,hy.int];refine⟨rfl,?_⟩;have e:decide (V.int i=V.int j)=decide (i=j):=by
   by_cases h:i=j
   .rw[Iq h,Iq (by rw[h])]
   .rw[Iy h,Iy λz=>h (by injection z)]
  rw[e];exact k _ G1 H (Yi.refl s2) (Yu _)
def JD{d:AD}(s:ZF G H)(n:G d=none):ZF G (upd H d o):=λb u e=>by rw[Zm (Zk e n)];exact s b u e
end
section
variable {X:Cx}{aa:List (Addr×Obj)}{σ:St}{H:Hp}{s:SH}{h' : Heap}
def Inv.zbd{T:AD}(I:Inv X aa σ H s)(k:∀ b u,b∉fp->s.heap.get? b=some u->h'.get? b=some u)(hf:∀ b∈fp,zep X aa H b)(hT:s.heap.objs.size<=T)(new:Yt X.prog X.w (upd H T o) h' T o):Inv X aa σ (upd H T o) {s with heap:=h',toks:=t'}:=by
 have nfp:∀ b u,H b=some u->b∉fp:=λb u e z=>by rw[(hf b z).1]at e;cases e
 have nT:∀ b u,H b=some u->b≠T:=λb u e=>IM (Iu (I.ac.lt e) hT);have nT' : ∀ b u,s.heap.get? b=some u->b≠T:=λb u e=>IM (Iu (IB e) hT);refine I.step (g':=s.gens) (d':=s.drawn) (ch:=fp) (λb hb=>?_) (λb u _ _ hc e _=>k b u hc e) (λb u _ _ hc e _=>⟨u.slots,k b u hc e⟩) (λb u _ e n=>by rw[Zm (nT' b u e)];exact n)
  (λb u hc e=>⟨u,k b u hc e⟩) (λb xs e=>by rw[Zm (nT b _ e)];exact e) (λb u v e=>by rw[Zm (nT b _ e)];exact e) (λb cr e=>by rw[Zm (nT b _ e)];exact e) (λm hm=>?_) (λb u e=>?_) I.bare
 .obtain⟨f0,f1,f2,f3,f4,f5⟩:=hf b hb;exact⟨f3,f1,f4,f5⟩
 .obtain⟨ob,es,ep,ho,r⟩:=hm;exact⟨ob,es,ep,k _ ob (λz=>(hf _ z).2.1 rfl) ho,r⟩
 .by_cases hb:b=T
  .subst hb;rw[Zh]at e;cases e;exact new
  .rw[Zm hb]at e;refine(I.ac b u e).stay (λc v hc q=>k c v ?_ q) (λc q=>by rw[Zm (nT c _ q)];exact q) (λc xs q=>by rw[Zm (nT c _ q)];exact q) λc o u q=>by rw[Zm (nT c _ q)];exact q
   rcases hc with z | z
   .rw[z];exact nfp b u e
   .exact nfp c _ z
def Inv.turns(I:Inv X aa σ H s)(k:∀ b u,b∉fp->s.heap.get? b=some u->h'.get? b=some u)(hf:∀ b∈fp,zep X aa H b):Inv X aa σ H {s with heap:=h',toks:=t'}:=by
 have nfp:∀ b u,H b=some u->b∉fp:=λb u e z=>by rw[(hf b z).1]at e;cases e
 refine I.step (g':=s.gens) (d':=s.drawn) (ch:=fp) (λb hb=>?_) (λb u _ _ hc e _=>k b u hc e) (λb u _ _ hc e _=>⟨u.slots,k b u hc e⟩) (λb u _ e n=>n)
  (λb u hc e=>⟨u,k b u hc e⟩) (λb xs e=>e) (λb u v e=>e) (λ_ _ e=>e) (λm hm=>?_) (λb u e=>?_) I.bare
 .obtain⟨f0,f1,f2,f3,f4,f5⟩:=hf b hb;exact⟨f3,f1,f4,f5⟩
 .obtain⟨ob,es,ep,ho,r⟩:=hm;exact⟨ob,es,ep,k _ ob (λz=>(hf _ z).2.1 rfl) ho,r⟩
 .refine(I.ac b u e).stay (λc v hc q=>k c v ?_ q) (λc q=>q) (λc xs q=>q) λc o u q=>q;rcases hc with z | z
  .rw[z];exact nfp b u e
  .exact nfp c _ z
end
section
variable {prog:Program}{w:World}{A:Around}{E:Value->SH->Prop}{s:SH}
def zdV{it t:AD}{i:Nat}{x:Value}{Q:Value->SH->Prop}(q1:s.heap.IsTupleIter it t i)(q2:s.heap.IsTuple t items)(q3:items[i]?=some x)(k:∀ h',h'.IsTupleIter it t (i+1)->SameBut it s.heap h' -> Q x {s with heap:=h'}):wpAny (model prog w) A (Builtin.SmallTypes.nextOf (.ref it)) Q E s:=by
 obtain⟨oi,e1,e2,e3⟩:=id q1;obtain⟨ot,e4,_,nt,e5⟩:=q2;unfold Builtin.SmallTypes.nextOf;refine Ia (IP (name:=Str.ofString "__next__") q1.typeIs N0 (IL N0 q1.typeIs F.entry_tuple_iterator_next ?_ (F.args_tuple_iterator_next_1 _)));show wpAny (model prog w) _ (field (.ref it) 0 >>= _) _ _ s;refine Ia (IR e1 e3 (x:=.ref t) rfl ?_);rw[Iw (show ¬ ((Value.ref t==Value.none)=true)from Ij)];refine Ia (IR e1 e3 (x:=.int i 0) rfl ?_);refine Ia (NB e4 e5 ?_);simp only[OB,q3];refine Ia (NJ e1 e3 (by simp) (Ic ⟨x,rfl,Ic (k _ ⟨_,Nh _ e1 (Nr (IQ e3 _)),(Os ..).trans e2,by rw[IQ e3];simp[rawInt]⟩ (SameBut.update ..))⟩))
def Qm{it t:AD}{i:Nat}{Q:Value->SH->Prop}(q0:A.handled=none)(q1:s.heap.IsTupleIter it t i)(q2:s.heap.IsTuple t items)(q3:items[i]?=none)(k:∀ h' e,ExtBut it s.heap h' -> (∃ o,h'.get? e=some o/\o.cls = .type "StopIteration")->E (.ref e) {s with heap:=h'}):wpAny (model prog w) A (Builtin.SmallTypes.nextOf (.ref it)) Q E s:=by
 obtain⟨oi,e1,e2,e3⟩:=id q1;obtain⟨ot,e4,_,nt,e5⟩:=q2;unfold Builtin.SmallTypes.nextOf;refine Ia (IP (name:=Str.ofString "__next__") q1.typeIs N0 (IL N0 q1.typeIs F.entry_tuple_iterator_next ?_ (F.args_tuple_iterator_next_1 _)));show wpAny (model prog w) _ (field (.ref it) 0 >>= _) _ _ s;refine Ia (IR e1 e3 (x:=.ref t) rfl ?_);rw[Iw (show ¬ ((Value.ref t==Value.none)=true)from Ij)];refine Ia (IR e1 e3 (x:=.int i 0) rfl ?_);refine Ia (NB e4 e5 ?_);simp only[OB,q3];refine Ia (N9 (Ia (NJ e1 e3 (by simp) (Ia ?_))));simp only[newExc,newTuple];refine Ia (Nt (Ia (m:=firstArgMember _ _) (Ou (a:=Value.none) (by first | rfl | (simp only[firstArgMember];rfl)) (Nt ?_ (by size_fits)))) (by size_fits));simp only[raiseNew];refine Ia (wpAny_handled (?_:wpAny _ _ _ _ _ _))
 first | rw[show A.in1.handled=none from q0] | rw[q0]
 exact Ia (Ic (wpAny_throw (k _ _ (((SameBut.update ..).extBut.push _).push _) ⟨_,Il _ rfl,rfl⟩)))
def zfg(hh:A.handled=none)(it l:AD)(hne:l≠it)(items:Array Value):
  Draws prog w A it [it,l] items.size (λi v=>items[i]?=some v) (λi h=>h.IsTupleIter it l i/\h.IsTuple l items) where
 live:=λ_ _ st=>let ⟨o,ho,_⟩:=st.1;⟨o,ho⟩
 frame:=λ_ _ _ st hk=>⟨let ⟨o,ho,r⟩:=st.1;⟨o,hk it (by simp) o ho,r⟩,let ⟨o,ho,r⟩:=st.2;⟨o,hk l (by simp) o ho,r⟩⟩
 item:=λi s Q E hi st hQ=>zdV st.1 st.2 (x:=items[i]) (by simp[hi]) λh' hit' hs' => hQ _ h' s.toks (by simp[hi]) ⟨hit',let ⟨o,ho,r⟩:=st.2;⟨o,(hs'.2 l hne).trans ho,r⟩⟩ hs'
 done:=λs Q E st hE=>Qm hh st.1 st.2 (by simp) hE
end
noncomputable def zkV(K:FG)(a:AD):It:=⟨λi H=>∃ xs x,SqT K H a xs/\xs[i]?=some x,λi H v H' => ∃ p x,H p=none/\v = .ref p/\H'=upd H p (.tup [.int i,x])/\∀ xs,SqT K H a xs->xs[i]?=some x,λi H=>∃ xs,SqT K H a xs/\xs.length<=i⟩
noncomputable def zk4(K:FG)(a:AD):It:=⟨λi H=>∃ xs x,SqL K H a xs/\xs[i]?=some x,λi H v H' => ∃ p x,H p=none/\v = .ref p/\H'=upd H p (.tup [.int i,x])/\∀ xs,SqL K H a xs->xs[i]?=some x,λi H=>∃ xs,SqL K H a xs/\xs.length<=i⟩
def U0{h:Heap}{a b:AD}{o u:Obj}(e:h.get? a=some o)(e' : h.get? b=some u)(n:o.cls≠u.cls):a≠b:=by rintro rfl;rw[e]at e';cases e';exact n rfl
def zdQ{P:Program}{w:World}{K:FG}(a e it:AD):Turn P w K (.Tuple elts tk tpos) (zkV K a) [e,it] e (λi h=>(∃ old,IsEnum h e it i old)/\h.IsTupleIter it a i) where
 mem:=by simp
 obj:=λi h st b hb=>by
  obtain⟨⟨old,he⟩,o,ho,hc,hd⟩:=st;rcases ID.mp hb with rfl | hb
  .exact⟨_,he,λv z=>by cases z⟩
  .have eb:b=it:=by simpa using hb
   subst eb;exact⟨o,ho,λv z=>by rw[hd]at z;cases z⟩
 keep:=λi h h' st k=>by obtain⟨⟨old,he⟩,o,ho,r⟩:=st;exact⟨⟨old,k e (by simp) _ he⟩,o,k it (by simp) o ho,r⟩
 item:=by
  intro X hP hw hK hc i aa s σ H E I hf st hg;subst hP hw hK;obtain⟨xs,x,hq,hx⟩:=hg;obtain⟨its,rv,p,hz⟩:=I.tuple hq;obtain⟨u,hu,ru⟩:=rv.get hx;obtain⟨⟨old,he⟩,hit⟩:=st;obtain⟨oi,hoi,hci,hdi⟩:=id hit;obtain⟨ot,hot,hct,nt,hdt⟩:=id p;have hei:e≠it:=U0 he hoi (by rw[hci];show Value.type "enumerate" ≠ Value.type "tuple_iterator";decide);have hea:e≠a:=U0 he hot (by rw[hct];show Value.type "enumerate" ≠ Value.type "tuple";decide);have hai:a≠it:=U0 hot hoi (by rw[hci,hct];decide);have hlt:i<its.toArray.size:=by have:=(Ik.mp hu).1;simpa using this
  refine wpAny_pyNext_enum_itemD (zfg (show X.A.in1.handled=none from I.ok.hd hc) it a hai its.toArray) he ⟨hit,p⟩ hlt hei (by simp[hei,hea]) λx' h' tk' hP ho hs' hT hsz hk=>?_;have ex:x'=u:=by
   have hP' : its.toArray[i]?=some x':=hP;have:its[i]?=some x':=by simpa using hP'
   rw[hu]at this;exact(Ip this).symm
  subst ex;refine⟨_,rfl,wpAny_letOwnedTupleGo_enum ho λh2 he2 hs2=>?_⟩;have het:e≠s.heap.objs.size:=IM (IB he);have new:Yt X.prog X.w (upd H s.heap.objs.size (.tup [.int i,x])) h2 s.heap.objs.size (.tup [.int i,x]):=⟨by show 2<=sizeLine;decide,[.int i tk',x'],.cons ⟨tk',rfl⟩ (.cons ru .nil),⟨_,(hs2.2 _ (Ne.symm het)).trans hT,rfl,_,rfl⟩,_,(hs2.2 _ (Ne.symm het)).trans hT,rfl⟩
  have kk:∀ b o,b∉[e,it]->s.heap.get? b=some o->h2.get? b=some o:=λb o hb q=>by have h1:b≠e:=λz=>hb (by simp[z]);have h2' : b≠it:=λz=>hb (by simp[z]);exact(hs2.2 b h1).trans (hk b o h1 h2' q)
  have fresh:=I.ac.fresh (Ih s.heap.objs.size);refine⟨.ref s.heap.objs.size,_,I.zbd (t':=tk'+1) kk hf (Ih _) new,rfl,⟨_,x,fresh,rfl,rfl,λys hy=>by rw[I.Uw hy hq];exact hx⟩,⟨⟨_,he2⟩,?_⟩,λb hb=>?_⟩
  .obtain⟨o3,g1,g2,g3⟩:=hs'.1;exact⟨o3,(hs2.2 it (Ne.symm hei)).trans g1,g2,g3⟩
  .have hb' : b≠s.heap.objs.size:=by
    rcases ID.mp hb with rfl | hb
    .exact het
    .rw[IN.mp hb];exact IM (IB hoi)
   rw[Zm hb'];exact(hf b hb).1
 done:=by
  intro X hP hw hK hc i aa s σ H E I hf st hg;subst hP hw hK;obtain⟨xs,hq,hx⟩:=hg;obtain⟨its,rv,p,hz⟩:=I.tuple hq;obtain⟨⟨old,he⟩,hit⟩:=st;obtain⟨oi,hoi,hci,hdi⟩:=id hit;obtain⟨ot,hot,hct,nt,hdt⟩:=id p;have hai:a≠it:=U0 hot hoi (by rw[hci,hct];decide);have hl:=rv.length;unfold pyNext;have hTy:s.TypeIs (.ref e) "enumerate" := ⟨_,he,rfl⟩
  refine Ia (NG (IP (name:=Str.ofString "__next__") hTy Oq (IL Oq hTy F.entry_enumerate_next ?_ (F.args_enumerate_next_1 _))));show wpAny (model X.prog X.w) X.A.in1 (field (.ref e) 2 >>= _) _ _ s;refine Ia (IR he rfl (x:=.ref it) rfl (Ia (Qm (I.ok.hd hc) hit p (by simp;omega) λh' y g1 g2=>?_)));obtain⟨o,ho,hcl⟩:=g2;refine Ia (Nx (T:= "StopIteration") (b:=true) ⟨o,ho,hcl⟩ isSubtype_stop (Ic ?_));exact⟨rfl,I.turns (t':=s.toks) (λb u hb q=>g1 b u (λz=>hb (by simp[z])) q) hf⟩
 self:=λ_ _ _ _ _ st h=>by obtain⟨⟨old,he⟩,_⟩:=st;exact wpAny_pyIter_enum he h
def zd5{P:Program}{w:World}{K:FG}(a e it:AD):Turn P w K (.Tuple elts tk tpos) (zk4 K a) [e,it] e (λi h=>(∃ old,IsEnum h e it i old)/\h.IsListIter it a i) where
 mem:=by simp
 obj:=λi h st b hb=>by
  obtain⟨⟨old,he⟩,o,ho,hc,hd⟩:=st;rcases ID.mp hb with rfl | hb
  .exact⟨_,he,λv z=>by cases z⟩
  .have eb:b=it:=by simpa using hb
   subst eb;exact⟨o,ho,λv z=>by rw[hd]at z;cases z⟩
 keep:=λi h h' st k=>by obtain⟨⟨old,he⟩,o,ho,r⟩:=st;exact⟨⟨old,k e (by simp) _ he⟩,o,k it (by simp) o ho,r⟩
 item:=by
  intro X hP hw hK hc i aa s σ H E I hf st hg;subst hP hw hK;obtain⟨xs,x,hq,hx⟩:=hg;obtain⟨its,rv,pl,hz⟩:=I.list hq;obtain⟨u,hu,ru⟩:=rv.get hx;obtain⟨⟨old,he⟩,hit⟩:=st;obtain⟨oi,hoi,hci,hdi⟩:=id hit;have p:s.heap.IsList a its.toArray:=pl.isList;obtain⟨ot,hot,hct,nt,hdt⟩:=id p;have hei:e≠it:=U0 he hoi (by rw[hci];show Value.type "enumerate" ≠ Value.type "list_iterator";decide);have hea:e≠a:=U0 he hot (by rw[hct];show Value.type "enumerate" ≠ Value.type "list";decide);have hai:a≠it:=U0 hot hoi (by rw[hci,hct];decide);have hlt:i<its.toArray.size:=by have:=(Ik.mp hu).1;simpa using this
  refine wpAny_pyNext_enum_itemD (Draws.list (show X.A.in1.handled=none from I.ok.hd hc) it a hai its.toArray) he ⟨hit,p⟩ hlt hei (by simp[hei,hea]) λx' h' tk' hP ho hs' hT hsz hk=>?_;have ex:x'=u:=by
   have hP' : its.toArray[i]?=some x':=hP;have:its[i]?=some x':=by simpa using hP'
   rw[hu]at this;exact(Ip this).symm
  subst ex;refine⟨_,rfl,wpAny_letOwnedTupleGo_enum ho λh2 he2 hs2=>?_⟩;have het:e≠s.heap.objs.size:=IM (IB he);have new:Yt X.prog X.w (upd H s.heap.objs.size (.tup [.int i,x])) h2 s.heap.objs.size (.tup [.int i,x]):=⟨by show 2<=sizeLine;decide,[.int i tk',x'],.cons ⟨tk',rfl⟩ (.cons ru .nil),⟨_,(hs2.2 _ (Ne.symm het)).trans hT,rfl,_,rfl⟩,_,(hs2.2 _ (Ne.symm het)).trans hT,rfl⟩
  have kk:∀ b o,b∉[e,it]->s.heap.get? b=some o->h2.get? b=some o:=λb o hb q=>by have h1:b≠e:=λz=>hb (by simp[z]);have h2' : b≠it:=λz=>hb (by simp[z]);exact(hs2.2 b h1).trans (hk b o h1 h2' q)
  have fresh:=I.ac.fresh (Ih s.heap.objs.size);refine⟨.ref s.heap.objs.size,_,I.zbd (t':=tk'+1) kk hf (Ih _) new,rfl,⟨_,x,fresh,rfl,rfl,λys hy=>by rw[I.V8 hy hq];exact hx⟩,⟨⟨_,he2⟩,?_⟩,λb hb=>?_⟩
  .obtain⟨o3,g1,g2,g3⟩:=hs'.1;exact⟨o3,(hs2.2 it (Ne.symm hei)).trans g1,g2,g3⟩
  .have hb' : b≠s.heap.objs.size:=by
    rcases ID.mp hb with rfl | hb
    .exact het
    .rw[IN.mp hb];exact IM (IB hoi)
   rw[Zm hb'];exact(hf b hb).1
 done:=by
  intro X hP hw hK hc i aa s σ H E I hf st hg;subst hP hw hK;obtain⟨xs,hq,hx⟩:=hg;obtain⟨its,rv,pl,hz⟩:=I.list hq;obtain⟨⟨old,he⟩,hit⟩:=st;have p:s.heap.IsList a its.toArray:=pl.isList;have hl:=rv.length;unfold pyNext;have hTy:s.TypeIs (.ref e) "enumerate" := ⟨_,he,rfl⟩
  refine Ia (NG (IP (name:=Str.ofString "__next__") hTy Oq (IL Oq hTy F.entry_enumerate_next ?_ (F.args_enumerate_next_1 _))));show wpAny (model X.prog X.w) X.A.in1 (field (.ref e) 2 >>= _) _ _ s;refine Ia (IR he rfl (x:=.ref it) rfl (Ia (wpAny_nextOf_list_end (I.ok.hd hc) hit p (by simp;omega) λh' y g1 g2=>?_)));obtain⟨o,ho,hcl⟩:=g2;refine Ia (Nx (T:= "StopIteration") (b:=true) ⟨o,ho,hcl⟩ isSubtype_stop (Ic ?_));exact⟨rfl,I.turns (t':=s.toks) (λb u hb q=>g1 b u (λz=>hb (by simp[z])) q) hf⟩
 self:=λ_ _ _ _ _ st h=>by obtain⟨⟨old,he⟩,_⟩:=st;exact wpAny_pyIter_enum he h
def zf7(l:AD)(items:Array Value)(n:Nat)(dct:Option AD)(sl:Array (LF)):
  Meets (Builtin.«enumerate.__new__» ⟨[.type "enumerate",.ref l],[]⟩) (λ_ R s=>s.heap.get? l=some {cls:=.type "tuple",dict:=dct,data:=.seq items n,slots:=sl}/\
   R (.ok (.ret (.ref (s.heap.push {cls:=.type "tuple_iterator",data:=.fields #[.ref l,.int 0 0]}).objs.size)))
    {s with heap:=(s.heap.push {cls:=.type "tuple_iterator",data:=.fields #[.ref l,.int 0 0]}).push {cls:=.type "enumerate",data:=.fields #[.none,.bool false,.ref s.heap.objs.size,rawInt 0,.none,.none]}}):=
 .of_wp λprog w A R s h=>by
  obtain⟨hp,g,d,tk,os⟩:=s;obtain⟨q1,h⟩:=h;have q0:=sub_enumerate;have q2:Heap.IsTuple (Shared.heap ⟨hp,g,d,tk,os⟩) l items:=⟨_,q1,rfl,n,rfl⟩
  wp_walk using AutoSeq1.wpAny_loadPart' q1
  refine wpAny_stack_any λst0=>Ic ?_;split
  .rename_i c0 _ _ _ _ _
   cases(c0==Value.type "enumerate") <;> (wp_walk using AutoSeq1.wpAny_loadPart' q1,wpAny_pyIter_tuple q2;exact⟨_,rfl,h⟩)
  .wp_walk using AutoSeq1.wpAny_loadPart' q1,wpAny_pyIter_tuple q2
   exact⟨_,rfl,h⟩
section
variable {prog:Program}{w:World}{A:Around}{E:Value->SH->Prop}{s:SH}
def zei{l:AD}{Q:Value->SH->Prop}(q2:s.heap.IsTuple l items)(h:∀ h',IsEnum h' (s.heap.objs.size+1) s.heap.objs.size 0 .none->h'.IsTupleIter s.heap.objs.size l 0->(∀ b o,s.heap.get? b=some o->h'.get? b=some o)->Q (.ref (s.heap.objs.size+1)) {s with heap:=h'}):
  wpAny (model prog w) A (call (.type "enumerate") [.ref l]) Q E s:=by
 obtain⟨⟨c,dct,dt,sl⟩,q1,e1,n,e2⟩:=q2
 replace e1:c = .type "tuple" := e1
 replace e2:dt = .seq items n:=e2
 subst e1 e2;refine callType_new F.called_enumerate (by decide) (F.typeCall_enumerate_1 _) (F.newCall_enumerate_1 _) (λobj=>F.args_object_init_2 obj _) F.entry_enumerate_new (zf7 l items n dct sl) ⟨q1,?_⟩;have z1:(s.heap.push {cls:=.type "tuple_iterator",data:=.fields #[.ref l,.int 0 0]}).objs.size=s.heap.objs.size+1:=NA ..;show _/\_;rw[z1];have q3:IsEnum ((s.heap.push {cls:=.type "tuple_iterator",data:=.fields #[.ref l,.int 0 0]}).push {cls:=.type "enumerate",data:=.fields #[.none,.bool false,.ref s.heap.objs.size,rawInt 0,.none,.none]}) (s.heap.objs.size+1) s.heap.objs.size 0 .none:=by have:=Il (s.heap.push {cls:=.type "tuple_iterator",data:=.fields #[.ref l,.int 0 0]}) (o:={cls:=.type "enumerate",data:=.fields #[.none,.bool false,.ref s.heap.objs.size,rawInt 0,.none,.none]}) rfl;rw[z1]at this;exact this
 exact⟨⟨_,q3,rfl⟩,h _ q3 ⟨_,Ie _ (Il _ rfl),rfl,rfl⟩ λb o x=>Ie _ (Ie _ x)⟩
end
section
variable {X:Cx}
def znH(K:FG)(ta:TA):TI:=fun σ H R=>ta σ H λvs H1=>∃ a,vs=[.ref a]/\(∃ xs,SqT K H1 a xs)/\R (zkV K a) H1
def znO(K:FG)(ta:TA):TI:=fun σ H R=>ta σ H λvs H1=>∃ a,vs=[.ref a]/\(∃ xs,SqL K H1 a xs)/\R (zk4 K a) H1
def zcd:bootBuiltins "enumerate" = some (.type "enumerate"):=by decide +kernel
def zhg{ta:TA}(hg:Gl X "enumerate")(hm:X.mg "enumerate" = none)(ha:PA X [a] ta)(hs:starEach [a] X.env=[(false,eval a X.env)]:=by rfl):PI X (.Tuple elts tk tpos) (.Call (.Name "enumerate" p) [a] [] pos) (znH X.K ta):=by
 intro aa s σ H R I h;refine Call_ (Qo I hg hm zcd (IZ (thn (ha pos aa s σ H _ I h) λus s1 ⟨vs,H1,I1,r1,q1⟩=>?_) hs rfl));obtain⟨l,e,⟨xs,hq⟩,q⟩:=q1;subst e;obtain⟨u,rfl,r⟩:=Vals.one r1;cases(show u=Value.ref l from r);obtain⟨its,rv,pt,hz⟩:=I1.tuple hq;refine zei (show s1.heap.IsTuple l its.toArray from pt) λh' he hi hk=>?_;refine wpAny_pyIter_enum he ⟨s1.heap.objs.size+1,[s1.heap.objs.size+1,s1.heap.objs.size],_,_,H1,rfl,I1.kept (t':=s1.toks) hk,zdQ l _ _,⟨⟨_,he⟩,hi⟩,λb hb=>?_,q⟩;have hb' : s1.heap.objs.size<=b:=by
  rcases ID.mp hb with rfl | hb
  .exact le_succ _
  .rw[IN.mp hb];exact Ih _
 exact I1.zjW hb' (I1.ac.fresh hb')
def zds{ta:TA}(hg:Gl X "enumerate")(hm:X.mg "enumerate" = none)(ha:PA X [a] ta)(hs:starEach [a] X.env=[(false,eval a X.env)]:=by rfl):PI X (.Tuple elts tk tpos) (.Call (.Name "enumerate" p) [a] [] pos) (znO X.K ta):=by
 intro aa s σ H R I h;refine Call_ (Qo I hg hm zcd (IZ (thn (ha pos aa s σ H _ I h) λus s1 ⟨vs,H1,I1,r1,q1⟩=>?_) hs rfl));obtain⟨l,e,⟨xs,hq⟩,q⟩:=q1;subst e;obtain⟨u,rfl,r⟩:=Vals.one r1;cases(show u=Value.ref l from r);obtain⟨its,rv,pt,hz⟩:=I1.list hq;refine call_enumerate_list pt.isList λh' he hi _ hk=>?_;refine wpAny_pyIter_enum he ⟨s1.heap.objs.size+1,[s1.heap.objs.size+1,s1.heap.objs.size],_,_,H1,rfl,I1.kept (t':=s1.toks) hk,zd5 l _ _,⟨⟨_,he⟩,hi⟩,λb hb=>?_,q⟩;have hb' : s1.heap.objs.size<=b:=by
  rcases ID.mp hb with rfl | hb
  .exact le_succ _
  .rw[IN.mp hb];exact Ih _
 exact I1.zjW hb' (I1.ac.fresh hb')
def zd9{ys:LB}:∀{us:LD},Vals (ys.map V.str) us->StrsAre us ys:=by
 induction ys with
 |nil=>intro us r;rw[map_nil]at r;cases r;exact .nil
 |cons n ns ih=>
  intro us r;rw[Nb]at r;cases r with
  |cons r1 r2=>obtain⟨t,e⟩:=r1;subst e;exact .cons n t (ih r2)
def zgn:bootBuiltins "reversed" = some (.type "reversed"):=by decide +kernel
def zhf:bootBuiltins "list" = some (.type "list"):=by decide +kernel
end
section
variable {X:Cx}{K:FG}
def X8(e:X.K=K):IxR X (zmi K):=by subst e;exact zkk
def Zw(e:X.K=K):IxR X (zgt K):=by subst e;exact zi2
def Ua(e:X.K=K):SlR X (zj7 K):=by subst e;exact ziA
def zeU(e:X.K=K)(hu:X.A.units+64<cLine):OpR X (compareOp .Eq) (zl4 K λb=>b):=by subst e;exact zkp hu
def zcj(e:X.K=K)(hu:X.A.units+64<cLine):OpR X (compareOp .NotEq) (zl4 K λb=>!b):=by subst e;exact zkt hu
def Ye(e:X.K=K):zai X (.builtin "len") (λxs H Q=>∃ p ys,xs=[.ref p]/\(SqL K H p ys\/SqT K H p ys)/\Q (.int ys.length) H):=by subst e;exact zbq
def Xp(e:X.K=K):OpR X (binaryOp .Add) (zeZ K):=by subst e;exact zjw
def YL(e:X.K=K):zai X (.type "tuple") (λxs H Q=>∃ p ys,xs=[.ref p]/\((SqL K H p ys/\∀ l,H l=none->Q (.ref l) (upd H l (.tup ys)))\/(SqT K H p ys/\Q (.ref p) H))):=by subst e;exact zaD
end
def Z7{op:Operator}{b:Expr}:starEach (.BinOp a op b p::es) env=(false,eval (.BinOp a op b p) env)::starEach es env:=rfl
def JF{g:List Comprehension}{sc:Scope}:starEach (.ListComp a g sc p::es) env=(false,eval (.ListComp a g sc p) env)::starEach es env:=rfl
def zdL{ops:List CmpOp}{cs:List Expr}:starEach (.Compare a ops cs p::es) env=(false,eval (.Compare a ops cs p) env)::starEach es env:=rfl
def YT{f:Expr}{kw:List Keyword}:starEach (.Call f as kw p::es) env=(false,eval (.Call f as kw p) env)::starEach es env:=rfl
def Zj{c:Const}{k:Nat}:starEach (.Constant c k p::es) env=(false,eval (.Constant c k p) env)::starEach es env:=rfl
def zcb{n:Str}:starEach (.Attribute a n p::es) env=(false,eval (.Attribute a n p) env)::starEach es env:=rfl
def Zt{b:Expr}:starEach (.Subscript a b p::es) env=(false,eval (.Subscript a b p) env)::starEach es env:=rfl
def Zd{n:Str}:starEach (.Name n p::es) env=(false,eval (.Name n p) env)::starEach es env:=rfl
def zjB :starEach (.List as p::es) env=(false,eval (.List as p) env)::starEach es env:=rfl
def Yz{k:Nat}:starEach (.Tuple as k p::es) env=(false,eval (.Tuple as k p) env)::starEach es env:=rfl
noncomputable def tyN:PD->String
 |.none=> "NoneType"
 |.bool _=> "bool"
 |.int _=> "int"
 |.str _=> "str"
 |.list _=> "list"
 |.tuple _=> "tuple"
 |.dict _=> "dict"
def znj(K:FG):LC->Hp->VK->Prop:=λxs H Q=>∃ G x d n b,xs=[x,.ty n]/\ZF G H/\Dat K G x d/\kitOne K (.type (tyN d)) (.type n)=some b/\Q (.bl b) H
def zdh{X:Cx}{K:FG}(eK:X.K=K):zai X (.builtin "isinstance") (znj K):=by
 subst eK;intro aa s σ H xs us Q I r h;obtain⟨G,x,d,n,b,rfl,sg,hd,e,q⟩:=h;obtain⟨u,w',rfl,rx,ry⟩:=vals2 r;cases(show w'=Value.type n from ry);have fin:∀ tk,EP X aa σ Q (.bool b) {s with toks:=tk}:=λtk=>⟨.bl b,H,I.tok _,rfl,q⟩
 cases d with
 |none=>rw[hd.non]at rx;exact QK I rx .non e fin
 |bool y=>rw[hd.bl]at rx;exact QK I rx (.bl y) e fin
 |int i=>rw[hd.int]at rx;exact QK I rx (.int i) e fin
 |str y=>rw[hd.str]at rx;exact QK I rx (.str y) e fin
 |list ds=>obtain⟨p,ys,rfl,hp,_⟩:=hd.lst;cases(show u=Value.ref p from rx);obtain⟨its,_,⟨o,n',e1,c,_⟩,_⟩:=I.list (SqL.of (sg _ _ hp));exact Ow kitx_list I.kIn ⟨o,e1,c⟩ e (λz=>nomatch z) fin
 |tuple ds=>obtain⟨p,ys,rfl,hp,_⟩:=hd.tup;cases(show u=Value.ref p from rx);obtain⟨its,_,⟨o,e1,c,_⟩,_⟩:=I.tuple (sg.tup hp);exact Ow kitx_tuple I.kIn ⟨o,e1,c⟩ e (λz=>nomatch z) fin
 |dict _=>unfold Dat at hd;exact hd.elim
def zfZ{K:FG}{ta:TE}{d:PD}{n:String}{b:Bool}(ha:Ev K ta σ G d)(e:kitOne K (.type (tyN d)) (.type n)=some b):Ev K (tCB (znj K) (Z4 ta (Z4 (tC (.ty n)) Qk))) σ G (.bool b):=λG1 H s1 s2 Q k=>ha G1 H s1 s2 _ λx G2 H2 g2 hx=>⟨G2,x,d,n,b,rfl,g2.gh,hx,e,k _ G2 H2 g2 (Yu b)⟩
section
variable {X:Cx}
def ziW:V->LC->Hp->VK->Prop:=λx vs H Q=>∃ l xs i y,x = .ref l/\vs=[.int i,y]/\H l=some (.lst xs)/\0<=i/\i<=xs.length/\xs.length+1<=sizeLine/\Q .non (upd H l (.lst (xs.take i.toNat++y::xs.drop i.toNat)))
def zfN:MtM X "list.insert" ziW:=by
 intro aa s σ H x vs v us Q I rx rv h;obtain⟨l,xs,i,y,rfl,rfl,hH,h0,h1,hz,q⟩:=h;cases rx;obtain⟨u,w,rfl,ru,rw'⟩:=rv.two;obtain⟨t,rfl⟩:=ru;obtain⟨z,its,n,r,hl,e⟩:=I.zh5 hH;have hs:xs.length<=16777216:=by have:=sizeLine_eq;omega
 have hlen:=r.length;refine call_meets F.slot_list_insert ⟨_,e,rfl⟩ F.entry_list_insert (F.args_list_insert_3 _ _ _)
  (AutoListH.list_insert_list_int_val_1 l its.toArray n i t w (by rw[fitsIndex_both (by omega) (by omega)];exact Ij) (by rw[Ix];omega)) ⟨e,?_⟩
 refine⟨.non,_,I.zj2 (its':=its.take i.toNat++w::its.drop i.toNat) hH e ?_ ((r.take _).append (.cons rw' (r.drop _))) ?_,rfl,q⟩
 .have hk:(if i<0 then(i+((its.toArray.size:Nat):Int)).toNat else min i.toNat its.toArray.size)=i.toNat:=by rw[Iw (by omega),Ix];omega
  show(its.toArray.extract 0 _).push w++its.toArray.extract _=_;rw[hk];apply Array.ext';simp[Oi]
 .simp only[Iv,IE,NV,Ot];omega
end
def zjj{P:Program}{w:World}{k:Key}{u:Value}(r:RelV (kV k) u):(Xh P w).is k u=true:=by
 cases k with
 |inl i=>obtain⟨t,e⟩:=(show ∃ t,u=Value.int i t from r);subst e;exact zci P w i t
 |inr x=>obtain⟨t,e⟩:=(show ∃ t,u=Value.str x t from r);subst e;exact zcU P w x t
theorem zbY{P:Program}{w:World}:∀{ks:List Key}{us:LD},Vals (ks.map kV) us->ItemsAre (Xh P w) ks us
 |[],_,r=>by rw[map_nil]at r;cases r;exact .nil
 |k::ks,_,r=>by
  rw[Nb]at r;cases r with
  |cons h t=>exact .cons (zjj h) (zbY t)
section
variable {X:Cx}{aa:List (Addr×Obj)}{σ:St}{H:Hp}{s:SH}{a:AD}{y v:V}{u r:Value}{o:Option V}{A:Around}{E:Value->SH->Prop}
def Inv.big(I:Inv X aa σ H s):sysModules<s.heap.objs.size:=by have h:mainGlobals<s.heap.objs.size:=(I.mod.glob.keeps I.bk).lt;exact lt_trans (by decide) h
def zfz{h' : Heap}{ob:HO}(I:Inv X aa σ H s)(mu:Mut (H a))(hs:SameBut a s.heap h')(he:∃ q,h'.get? a=some q)(new:Yt X.prog X.w (upd H a ob) h' a ob):
  Inv X aa σ (upd H a ob) {s with heap:=h',toks:=t'}:=
 I.write (x:=a) (e:=a) mu (.inl rfl) (λb q hb z=>(hs.2 b hb).trans z) he new
end
open PySem PySem.Spec PyProof.Rows MeetsSeq
def Vf(t:AD)(items:Array Value)(n:Nat)(dct:Option AD)(sl:Array (LF))(x:Value)(e:Value->Bool)(he:∀ y,y∈items->EqGives y x (e y))(j:Nat)(hj:j<items.size)(hit:e items[j]=true)(hno:∀ m (hm:m<items.size),m<j->e items[m]=false):
  Meets (Builtin.«tuple.index» ⟨[.ref t,x],[]⟩) (λ_ R s=>s.heap.get? t=some {cls:=.type "tuple",dict:=dct,data:=.seq items n,slots:=sl}/\R (.ok (.ret (.int j s.toks))) {s with toks:=s.toks+1}):=
 .of_wp λprog w A R s h=>by
  obtain⟨hp,g,d,tk,os⟩:=s;obtain⟨q1,h⟩:=h
  wp_walk using wpAny_loadPart' q1
  show wpAny (model prog w) A.in1 (forIn ([:min items.size items.size]:Std.Legacy.Range) ((none:Option Fin),()) _) _ _ _;rw[Std.Legacy.Range.forIn_eq_forIn_range'];have hz:[:min items.size items.size].size=items.size:=by simp[Std.Legacy.Range.size]
  rw[hz];refine NX _ (λrest b s' => s'=⟨hp,g,d,tk,os⟩/\b=(none,())/\∃ i,i<=j/\rest=List.range' i (items.size-i)) _ ?_ ?_ _ _ ⟨rfl,rfl,0,Nl _,rfl⟩
  .rintro i rest b s' ⟨rfl,rfl,k,hk,hr⟩;have hlt:k<items.size:=by omega
   have hr' : i=k/\rest=List.range' (k+1) (items.size-(k+1)):=by rw[show items.size-k=(items.size-(k+1))+1 by omega,List.range'_succ]at hr;injection hr with e1 e2;exact⟨e1,e2⟩
   obtain⟨rfl,rfl⟩:=hr';have hi:items[i]?=some items[i]:=by simp[hlt]
   rw[hi];dsimp only;refine Ia (he _ (Array.getElem_mem hlt) prog w _ _ _ _ ?_);by_cases hij:i=j
   .subst hij;rw[hit,IA rfl]
    wp_walk
    exact⟨_,rfl,h⟩
   .rw[hno i hlt (by omega)];exact Ic ⟨rfl,rfl,i+1,(by omega),rfl⟩
  .rintro b s' ⟨rfl,rfl,k,hk,hr⟩;have:items.size-k=0:=by have:=Na List.length hr;simpa using this.symm
   omega
noncomputable def znD(z:Str):Value->Bool
 |.str a _=>a==z
 |_=>false
section
variable {X:Cx}
def ze2(K:FG):V->LC->Hp->VK->Prop:=λx vs H Q=>∃(p:AD)(ws:LB)(z:Str),x = .ref p/\vs=[.str z]/\SqT K H p (ws.map V.str)/\z∈ws/\Q (.int (ws.idxOf z:Nat)) H
def zbH{K:FG}(eK:X.K=K):MtM X "tuple.index" (ze2 K):=by
 subst eK;intro aa s σ H x vs v us Q I rx rv h;obtain⟨p,ws,z,rfl,rfl,hp,hz,q⟩:=h;cases rx;obtain⟨u,rfl,ru⟩:=vals1 rv;obtain⟨t,rfl⟩:=ru;obtain⟨its,r,pt,hl⟩:=I.tuple hp;obtain⟨⟨c,dct,dt,sl⟩,e1,e2,n,e3⟩:=pt
 replace e2:c = .type "tuple" := e2
 replace e3:dt = .seq its.toArray n:=e3
 subst e2 e3;have hlen:its.length=ws.length:=by rw[← r.length,Ig]
 have el:∀(i:Nat)(hi:i<its.toArray.size),∃ t',its.toArray[i]=Value.str (ws.getD i z) t':=λi hi=>by
  have hi' : i<its.length:=by simpa using hi
  obtain⟨u,hu,ru⟩:=r.get (i:=i) (x:=V.str (ws.getD i z)) (by rw[Io,Im,Ib (by omega)];rfl);obtain⟨t',rfl⟩:=ru;refine⟨t',?_⟩;have:its[i]=Value.str (ws.getD i z) t':=by rw[Ib hi']at hu;exact Ip hu
  simpa using this
 have hjl:ws.idxOf z<its.length:=by rw[hlen];exact List.idxOf_lt_length_of_mem hz
 refine call_meets F.slot_tuple_index ⟨_,e1,rfl⟩ F.entry_tuple_index (F.args_tuple_index_2 _ _)
  (Vf p its.toArray n dct sl (.str z t) (znD z) (λy hy=>?_) (ws.idxOf z) (by simpa using hjl) ?_ λm hm hlt=>?_) ⟨e1,?_⟩
 .obtain⟨i,hi,rfl⟩:=Array.mem_iff_getElem.mp hy;obtain⟨t',e⟩:=el i hi;rw[e];exact eqGives_str _ _ _ _
 .obtain⟨t',e⟩:=el _ (by simpa using hjl);rw[e];have:ws.getD (ws.idxOf z) z=z:=by rw[Im,Ib (by omega)];exact List.getElem_idxOf (by omega)
  rw[this];show(z==z)=true;exact beq_self_eq_true z
 .obtain⟨t',e⟩:=el m hm;rw[e];show(ws.getD m z==z)=false;have hm' : m<ws.length:=by have:m<its.length:=(by simpa using hm);omega
  have hne:(ws[m]==z)=false:=List.not_of_lt_findIdx (p:=(· == z)) (xs:=ws) hlt;rw[Im,Ib hm'];exact hne
 .exact⟨.int _,H,I.tok _,⟨_,rfl⟩,q⟩
end
section
variable {X:Cx}{o e:Expr}{es:List Expr}{to:TE}{t:TA}{name:Str}{apos cpos:Pos}{id:String}{r:V->LC->Hp->VK->Prop}
def tTM(r:V->LC->Hp->VK->Prop)(to:TE)(t:TA):TE:=fun σ H Q=>to σ H λx H1=>(∃ p xs,x = .ref p/\H1 p=some (.tup xs))/\t σ H1 λvs H2=>r x vs H2 Q
def zlC(slot:Slot "tuple" name id)(hty:typeOf (.builtin id)=pure (.type "method_descriptor"))(hm:MtR X id r)(ho:PE X o to)(ha:PA X (e::es) t)(hbase:attributeBase o name X.env (eval o X.env)=eval o X.env:=by rfl)(hfew:((backTo cpos (starEach (e::es) X.env)).all (λx=>!x.1)&&(backToKw cpos (keywordEach [] X.env)).all (λx=>x.1.isSome)
   && decide ((e::es).length+([]:List Keyword).length+(if([]:List Keyword).isEmpty then 0 else 1)<30))=true:=by rfl)(hline:(apos.endLine==cpos.line)=true:=by rfl)(hs:starEach (e::es) X.env=(false,eval e X.env)::starEach es X.env:=by rfl)(hplain:(backTo cpos (starEach es X.env)).any (·.1)=false:=by rfl):
  PE X (.Call (.Attribute o name apos) (e::es) [] cpos) (tTM r to t):=by
 intro aa s σ H Q I h;refine wpAny_Call_method_late hbase hfew hline rfl (thn (ho aa s σ H _ I h) λv s1 ⟨x,H1,I1,r1,⟨p,xs,ex,hp⟩,q1⟩=>?_);subst ex;cases(show v=Value.ref p from r1);obtain⟨_,its,_,pt,nd⟩:=I1.ac p _ hp;refine⟨"tuple",id,PySem.F.plainAttrs_tuple,slot,hty,pt.typeIs,λa ea=>?_,?_⟩
 .cases ea;exact nd
 have hA:=ha cpos aa s1 σ H1 _ I1 q1;rw[hs]at hA ⊢;refine callWith_builtin (by show(false||(backTo cpos (starEach es X.env)).any (·.1))=false;rw[hplain] <;> rfl) (evalArgs_plain ?_);exact thn hA λus s2 ⟨vs,H2,I2,r2,q2⟩=>hm aa s2 σ H2 (.ref p) vs (.ref p) us Q I2 (show RelV (.ref p) (.ref p)from rfl) r2 q2
end
noncomputable def znc:Const->Option PD
 |.int i=>some (.int i)
 |.str x=>some (.str x)
 |.bool b=>some (.bool b)
 |.none=>some .none
 |_=>none
noncomputable def lits(f:Expr->Option PD):Nat->List Expr->Option (LA)
 |_,[]=>some []
 |0,_::_=>none
 |k+1,e::es=>match f e with
  |some d=>match lits f k es with
   |some ds=>some (d::ds)
   |none=>none
  |none=>none
noncomputable def zdY:Nat->Expr->Option PD
 |0,_=>none
 |n+1,e=>match e with
  |.Constant c _ _=>znc c
  |.List es _=>match lits (zdY n) 60 es with
   |some ds=>some (.list ds)
   |none=>none
  |.Tuple es _ _=>match lits (zdY n) 60 es with
   |some ds=>some (.tuple ds)
   |none=>none
  |_=>none
theorem zaN{f:Expr->Option PD}:∀{k:Nat}{es:List Expr}{ds:LA},lits f k es=some ds->ds.length<=k
 |_,[],_,h=>by unfold lits at h;cases h;exact Nl _
 |0,_::_,_,h=>by unfold lits at h;cases h
 |k+1,e::es,ds,h=>by
  unfold lits at h;cases h1:f e with
  |none=>rw[h1]at h;cases h
  |some d=>
   rw[h1]at h;cases h2:lits f k es with
   |none=>rw[h2]at h;cases h
   |some ds' =>rw[h2]at h;cases h;have:=zaN h2;show ds'.length+1<=k+1;omega
def zl9(K:FG)(d:PD):TE:=λ_ H Q=>∃ G,ZF G H/\∀ v G' H',Yi G H G' H' -> Dat K G' v d->Q v H'
def zmy(K:FG)(ds:LA):TA:=λ_ H Q=>∃ G,ZF G H/\∀ vs G' H',Yi G H G' H' -> Yl K G' vs ds->Q vs H'
section
variable {X:Cx}
def PE.imp{e:Expr}{t t' : TE}(h:PE X e t)(i:∀ σ H Q,t' σ H Q->t σ H Q):PE X e t':=λaa s σ H Q I q=>h aa s σ H Q I (i σ H Q q)
def PA.imp{t t' : TA}(h:PA X es t)(i:∀ σ H Q,t' σ H Q->t σ H Q):PA X es t':=λpos aa s σ H Q I q=>h pos aa s σ H Q I (i σ H Q q)
def zfH{n:Nat}{e:Expr}{d:PD}(h:zdY n e=some d)(es:List Expr)(env:Env):starEach (e::es) env=(false,eval e env)::starEach es env:=by
 cases n with
 |zero=>cases h
 |succ n=>
  cases e with
  |Constant c k p=>exact Zj
  |List as p=>exact zjB
  |Tuple as k p=>exact Yz
  |_=>cases h
theorem zcq{n:Nat}(ih:∀ e d,zdY n e=some d->PE X e (zl9 X.K d)):∀(k:Nat)(es:List Expr)(ds:LA),lits (zdY n) k es=some ds->PA X es (zmy X.K ds)
 |_,[],ds,h=>by unfold lits at h;cases h;exact PA.imp Zf fun σ H Q ⟨G,s,k⟩=>k [] G H (Yi.refl s) ZC
 |0,_::_,_,h=>by unfold lits at h;cases h
 |k+1,e::es,ds,h=>by
  unfold lits at h;cases h1:zdY n e with
  |none=>rw[h1]at h;cases h
  |some d=>
   rw[h1]at h;cases h2:lits (zdY n) k es with
   |none=>rw[h2]at h;cases h
   |some ds' =>
    rw[h2]at h;cases h;refine PA.imp (Za (ih e d h1) (zcq ih k es ds' h2) (zfH h1 es X.env)) fun σ H Q ⟨G,s,k⟩=>?_
    exact⟨G,s,λv G1 H1 g1 hv=>⟨G1,g1.gh,λvs G2 H2 g2 hvs=>k (v::vs) G2 H2 (g1.trans g2) (Zv (hv.same g2.gg) hvs)⟩⟩
theorem zcJ:∀(n:Nat)(e:Expr)(d:PD),zdY n e=some d->PE X e (zl9 X.K d)
 |0,_,_,h=>by cases h
 |n+1,e,d,h=>by
  have z:(60:Nat)<=sizeLine:=by decide
  cases e with
  |Constant c k p=>
   have h' : znc c=some d:=h;cases c with
   |int i=>cases h';exact PE.imp Zg fun σ H Q ⟨G,s,k⟩=>k _ G H (Yi.refl s) (Zr i)
   |str x=>cases h';exact PE.imp Zz fun σ H Q ⟨G,s,k⟩=>k _ G H (Yi.refl s) (Z5 x)
   |bool b=>cases h';exact PE.imp zby fun σ H Q ⟨G,s,k⟩=>k _ G H (Yi.refl s) (Yu b)
   |none=>cases h';exact PE.imp QH fun σ H Q ⟨G,s,k⟩=>k _ G H (Yi.refl s) zcH
   |_=>cases h'
  |List as p=>
   have h' : (match lits (zdY n) 60 as with | some ds=>some (PyData.list ds) | none=>none)=some d:=h;cases h1:lits (zdY n) 60 as with
   |none=>rw[h1]at h';cases h'
   |some ds=>
    rw[h1]at h';cases h';have hl:=zaN h1;refine PE.imp (Yv (zcq (zcJ n) 60 as ds h1)) fun σ H Q ⟨G,s,k⟩=>⟨G,s,λvs G1 H1 g1 hv=>⟨by rw[hv.length];omega,λp hp=>?_⟩⟩
    have g:=Yd (o:=.lst vs) g1.gh hp;exact k _ _ _ (g1.trans g) (YJ Zh (hv.same g.gg))
  |Tuple as kk p=>
   have h' : (match lits (zdY n) 60 as with | some ds=>some (PyData.tuple ds) | none=>none)=some d:=h;cases h1:lits (zdY n) 60 as with
   |none=>rw[h1]at h';cases h'
   |some ds=>
    rw[h1]at h';cases h';have hl:=zaN h1;refine PE.imp (Yg (zcq (zcJ n) 60 as ds h1)) fun σ H Q ⟨G,s,k⟩=>⟨G,s,λvs G1 H1 g1 hv=>⟨by rw[hv.length];omega,λp hp=>?_⟩⟩
    have g:=Yd (o:=.tup vs) g1.gh hp;exact k _ _ _ (g1.trans g) (Xy (SqT.of Zh) (hv.same g.gg))
  |_=>cases h
def zhT{e:Expr}{d:PD}(h:zdY 6 e=some d):PE X e (zl9 X.K d):=zcJ 6 e d h
def zh2{K:FG}{d:PD}:Ev K (zl9 K d) σ G d:=λG1 H s1 s2 Q k=>⟨G1,s2,k⟩
end
section
variable {X:Cx}{K:FG}
def ziU{ta tb:TE}{es:LA}(ha:Ev K ta σ G (.tuple ds))(hb:Ev K tb σ G (.tuple es))(hne:ds≠[])(hz:ds.length+es.length<=sizeLine):Ev K (tOp (zeZ K) ta tb) σ G (.tuple (ds++es)):=
 J4 ha hb λG1 H u v Q s1 s2 hu hv k=>by
  obtain⟨p,xs,rfl,hp,hxs⟩:=hu.tup;obtain⟨q,ys,rfl,hq,hys⟩:=hv.tup;have l1:=hxs.length;have l2:=hys.length;refine⟨p,q,xs,ys,rfl,rfl,s2.tup hp,s2.tup hq,λe=>hne (by subst e;exact List.length_eq_zero_iff.mp l1.symm),(by omega),λe=>?_,λe r hr=>?_⟩
  .refine k _ G1 H (Yi.refl s2) ?_;subst e;have:es=[]:=List.length_eq_zero_iff.mp l2.symm;subst this;rw[Ng];exact Xy hp hxs
  .have g:=Yd (o:=.tup (xs++ys)) s2 hr;exact k _ _ _ g (Xy (SqT.of Zh) (Xv (hxs.same g.gg) (hys.same g.gg)))
def zfS{tl th:TO}{lo hi:LH}(h:Ev K te σ G (.list ds))(hl:∀ H (Q:LH->Hp->Prop),Q lo H->tl σ H Q)(hh:∀ H (Q:LH->Hp->Prop),Q hi H->th σ H Q):
  Ev K (tSl (zj7 K) te tl th) σ G (.list ((ds.drop (HT.sIx ds.length 0 lo)).take (HT.sIx ds.length ds.length hi-HT.sIx ds.length 0 lo))):=
 λG1 H s1 s2 Q k=>h G1 H s1 s2 _ λv G2 H2 g2 hv=>by obtain⟨p,xs,rfl,hp,hxs⟩:=hv.lst;have hlen:=hxs.length;refine hl _ _ (hh _ _ ⟨p,xs,rfl,SqL.of (g2.gh _ _ hp),λq hq=>?_⟩);have g:=Yd (o:=.lst (zjA xs lo hi)) g2.gh hq;refine k _ _ _ (g2.trans g) (YJ Zh ?_);have q:=Uj (HT.sIx ds.length ds.length hi-HT.sIx ds.length 0 lo) (UJ (HT.sIx ds.length 0 lo) (hxs.same g.gg));rw[← hlen]at q ⊢;exact q
end
end L2
namespace Frac
noncomputable def cmp(a b:Int×Int):Int:=if a.1*b.2<b.1*a.2 then -1 else if a.1*b.2>b.1*a.2 then 1 else 0
end Frac
namespace Dig
open PySem PySem.NumText PySem.Builtin.Str
def Q7(x:Str):x.length=x.cps.toList.length:=by simp[Str.length]
end Dig
namespace Lw
open PySem L2 Frac
def zj5:bootBuiltins "isinstance" = some (.builtin "isinstance"):=by decide +kernel
def zfx:bootBuiltins "tuple" = some (.type "tuple"):=by decide +kernel
def w0{i:Int}(h:i.natAbs<10^100):i.natAbs<2^4000:=Iu h (by decide +kernel)
def mw{i j:Int}(h:i.natAbs<10^100)(h' : j.natAbs<10^100):VN i j:=⟨w0 h,w0 h'⟩
def znK{i j:Int}{a b:Nat}(h:i.natAbs<=a)(h' : j.natAbs<=b):(i*j).natAbs<=a*b:=by rw[Int.natAbs_mul];exact Nat.mul_le_mul h h'
def J1(d c:AD)(H H' : Hp):Prop:=∀ b o,H b=some o->b≠d->b≠c->H' b=some o
def J1.trans{d c:AD}{H H1 H2:Hp}(a:J1 d c H H1)(b:J1 d c H1 H2):J1 d c H H2:=λx o e h1 h2=>b x o (a x o e h1 h2) h1 h2
def ZF.but{d c:AD}{H H' : Hp}(h:ZF H H'):J1 d c H H':=λb o e _ _=>h b o e
def ZZ{H:Hp}{p:AD}{o:HO}(hp:H p=none):ZF H (upd H p o):=λb u e=>by rw[Zm (Zk e hp)];exact e
def zdC{ns:List Int}{i:Int}(h0:0<=i)(h1:i<ns.length):∃ z j,atI (ns.map V.int) i=some (V.int z)/\ixN (ns.map V.int).length i=some j/\j<ns.length:=by
 have hj:i.toNat<ns.length:=by omega
 have e:i=(i.toNat:Int):=by omega
 refine⟨ns[i.toNat],i.toNat,?_,?_,hj⟩
 .have q:=zfb (xs:=ns.map V.int) (j:=i.toNat) (v:=V.int ns[i.toNat]) (by rw[Io,Ib hj];rfl);rw[← e]at q;exact q
 .unfold ixN;rw[IA h0,IA (by rw[Ig];exact h1)]
end Lw
namespace Nm
open PySem L2 Lw Dig
abbrev letters:Str:=Str.ofString "abcdefghijklmnopqrstuvwxyz"
def zfK:letters.cps.toList=(List.range 26).map (97 + ·):=by decide +kernel
def zfs:letters.length=26:=by decide +kernel
def zh0{i:Int}(h0:0<=i)(h1:i<26):atI letters.cps.toList i=some (97+i.toNat):=by
 have e:i=(i.toNat:Int):=by omega
 have q:=zfb (xs:=letters.cps.toList) (j:=i.toNat) (v:=97+i.toNat) (by
  rw[zfK,Io,List.getElem?_range (by omega)];rfl)
 rw[← e]at q;exact q
def zhi(x:Str)(xs:LB):inV (.str x) (xs.map V.str)=decide (x∈xs):=by
 unfold inV
 induction xs with
 |nil=>simp
 |cons y r ih=>
  rw[Nb,any_cons,ih];by_cases h:y=x
  .subst h;simp[eqV]
  .have h2:¬ x=y:=λe=>h e.symm;simp[eqV,h,h2]
end Nm
namespace Ord
open PySem
abbrev S(x:String):Str:=Str.ofString x
noncomputable def zbF(want:Str):List (LB):=
 if want=S "order" then[[S "like"],[S "up",S "field"],[S "down",S "field"],[S "then",S "order",S "order"],[S "turn",S "order"],[S "pick",S "case",S "order",S "order"]]
 else if want=S "case" then[[S "same",S "field"],[S "both",S "mark"],[S "either",S "mark"],[S "not",S "case"],[S "and",S "case",S "case"],[S "or",S "case",S "case"]]
 else[[S "under",S "field",S "number"],[S "is",S "field",S "number"]]
inductive Wd where
 |t (x:Str)
 |n (a b:Int)
noncomputable def Wd.d:Wd->PD
 |.t x=>.str x
 |.n a b=>.tuple [.int a,.int b]
inductive Step(ad:Str->Prop)(num:Int->Int->Prop):LB->Wd->LB->Prop
 |field {x:Str}{st:LB}:ad x->Step ad num (S "field" :: st) (.t x) st
 |number {a b:Int}{st:LB}:num a b->Step ad num (S "number" :: st) (.n a b) st
 |word {want x:Str}{ps st:LB}:want≠S "field" -> want≠S "number" -> (x::ps)∈zbF want->Step ad num (want::st) (.t x) (ps++st)
inductive Run(ad:Str->Prop)(num:Int->Int->Prop):LB->List Wd->LB->Prop
 |nil {st:LB}:Run ad num st [] st
 |cons {st st1 st2:LB}{w:Wd}{ws:List Wd}:Step ad num st w st1->Run ad num st1 ws st2->Run ad num st (w::ws) st2
def Jd(ad:Str->Prop)(num:Int->Int->Prop)(ws:List Wd):Prop:=Run ad num [S "order"] ws []
def zfI(want:Str):∀ o∈zbF want,∃ x ps,o=x::ps/\ps.length<=3/\∀ p∈ps,p=S "order" \/ p=S "case" \/ p=S "mark" \/ p=S "field" \/ p=S "number" := by
 unfold zbF;intro o ho;have:o.length<=4/\o≠[]/\∀ p∈o.drop 1,p=S "order" \/ p=S "case" \/ p=S "mark" \/ p=S "field" \/ p=S "number" := by
  split at ho
  .revert o;decide +kernel
  .split at ho
   .revert o;decide +kernel
   .revert o;decide +kernel
 cases o with
 |nil=>exact absurd rfl this.2.1
 |cons x ps=>exact⟨x,ps,rfl,by have:=this.1;simp at this;omega,this.2.2⟩
end Ord
namespace L2
open PySem PySem.Spec PyProof.Rows
section
variable {X:Cx}{aa:List (Addr×Obj)}{σ:St}{H G:Hp}{s:SH}
open Classical in
noncomputable def QC(s:SH)(d:PD)(u:Value):Bool:=decide (∃ as,Reads s.heap u d as)
def zho{a b:PD}(ha:Pl 60 a)(hb:Pl 60 b):PyData.eqv a b=PySem.Spec.same a b:=(SeqAt.same_eq_eqv a b (ha.mix hb)).symm
theorem zbl(I:Inv X aa σ H s)(e:ZF G H)(hu:X.A.units+64<cLine){d:PD}{v:Value}{as:LG}(rd:Reads s.heap v d as)(pd:Pl 60 d):∀{ds:LA}{xs:LC}{its:LD},Yl X.K G xs ds->Vals xs its->(∀ e∈ds,Pl 60 e)->
  (∀ y∈its,SeqAt.EqAt X.A.in1 s y v (QC s d y))/\its.any (QC s d)=ds.any λe=>PySem.Spec.same e d
 |[],_,its,h,r,_=>by rw[h.nil]at r;cases r;exact⟨λy hy=>(by cases hy),rfl⟩
 |a::ds,_,its,h,r,hp=>by
  obtain⟨y,ys,rfl,hd,hr⟩:=h.cons;cases r with
  |@cons _ u _ us r1 r2=>
   obtain⟨h1,h2⟩:=zbl I e hu rd pd hr r2 λx hx=>hp x (Iz _ hx);obtain⟨bs,ra⟩:=Dat.reads I e hd r1;have pa:=hp a IC;have key:QC s d u=PySem.Spec.same a d:=by
    unfold QC;by_cases h:a=d
    .subst h;rw[same_self];exact @Iq _ (Classical.propDecidable _) ⟨_,ra⟩
    .rw[zi0 h];exact @Iy _ (Classical.propDecidable _) λ⟨cs,rc⟩=>h (SeqAt.Reads.unique a d u _ _ pa.lay ra rc)
   refine⟨λz hz=>?_,by rw[any_cons,any_cons,key,h2]⟩;rcases ID.mp hz with rfl | hz
   .rw[key,← zho pa pd];exact SeqAt.eqAt_reads a d X.A.in1 s z v bs as ra rd pa.lay pd.lay (by
     have:=pa.dep;show X.A.units+1+min a.depth d.depth<cLine;omega)
   .exact h1 z hz
end
structure zb0(K:FG)(P:Params)(a:AD)(g:Str->Option (V×Value)):Prop where
 ex:∃(es:Array DictEntry)(n:Nat),K.lookup a=some ⟨.type "dict",none,.dict es n,#[]⟩/\KeysLit P es.toList
 lo:(a==sysModules)=false
 at_:∀ x,PySem.W.nsIn K a x=some ((g x).map (·.2))
 rel:∀ x v u,g x=some (v,u)->RelV v u
section
variable {X:Cx}
def zlg:OpR X (compareOp .In) (λx y H Q=>∃ z a g,x = .str z/\y = .ref a/\zb0 X.K X.w.params a g/\Q (.bl (g z).isSome) H):=by intro aa s σ H x y v u Q I rx ry h;obtain⟨z,a,g,rfl,rfl,D,q⟩:=h;obtain⟨t,rfl⟩:=rx;cases ry;obtain⟨es,n,hl,hk⟩:=D.ex;obtain⟨m,F⟩:=I.fr;refine PySem.W.topIn_K F I.mod.kin hl hk (D.at_ z) D.lo ⟨.bl _,H,I.tok _,rfl,?_⟩;rw[Option.isSome_map];exact q
def zbb:IxR X (λx y H Q=>∃ z a g v u,x = .ref a/\y = .str z/\zb0 X.K X.w.params a g/\g z=some (v,u)/\Q v H):=by intro value slice aa s σ H x y v u Q I rx ry h hs;obtain⟨z,a,g,v',u',rfl,rfl,D,e,q⟩:=h;cases rx;obtain⟨t,rfl⟩:=ry;obtain⟨es,n,hl,hk⟩:=D.ex;obtain⟨m,F⟩:=I.fr;exact PySem.W.topItem_K F I.mod.kin hl hk (by rw[D.at_ z,e];rfl) ⟨v',H,I.tok _,D.rel z v' u' e,q⟩ hs
end
def zeB:typeLookup (.type "tuple") "__reversed__" = pure none:=by rw[Ol,NM];kernel_rfl
def zfO:typeLookup (.type "tuple") "__getitem__" = pure (some (.builtin "tuple.__getitem__")):=by rw[Ol,NM];kernel_rfl
def zdK:isSubtype (.type "tuple") (.type "dict")=pure false:=by rw[Ov];kernel_rfl
def zbg(t:AD)(items:Array Value)(n:Nat)(dct:Option AD)(sl:Array (LF))(hsz:items.size<=sizeLine):
  Meets (Builtin.«reversed.__new__» ⟨[.type "reversed",.ref t],[]⟩) (λ_ R s=>s.heap.get? t=some {cls:=.type "tuple",dict:=dct,data:=.seq items n,slots:=sl}/\
   R (.ok (.ret (Value.ref s.heap.objs.size))) {s with heap:=s.heap.push {cls:=.type "reversed",data:=.fields #[.ref t,rawInt ((items.size:Int)-1)]},toks:=s.toks+1+1}):=
 .of_wp λprog w A R s h=>by
  obtain⟨hp,g,d,tk,os⟩:=s;obtain⟨q1,h⟩:=h;have hT:TypeIs ⟨hp,g,d,tk,os⟩ (.ref t) "tuple" := ⟨_,q1,rfl⟩
  unfold Builtin.«reversed.__new__»;refine Ia (Ou (newClass_reversed _) ?_)
  try dsimp only
  refine Ia (Ou (a:=()) (by first | rfl | kernel_rfl) ?_);refine Ia (Ou (a:=()) (by first | rfl | kernel_rfl) ?_)
  try dsimp only
  refine Ia (NC hT zeB ?_)
  try dsimp only
  have hz:IsTup hp t items:=⟨_,q1,rfl,n,rfl⟩
  have z62:sizeLine<2^62:=by decide
  have hf:(items.size:Int)<2^63:=by omega
  wp_walk using Nx (b:=false) hT zdK,NC hT zfO,len_tuple (s:=⟨hp,g,d,tk,os⟩) hz hf
  exact⟨_,rfl,h⟩
def zgs:Slot "reversed" "__init__" "object.__init__" :=
 .of (owner:= "object") (n:= "__init__") (by rw[Ol,NM];kernel_rfl) (by decide +kernel) (by decide +kernel) (by decide +kernel)
  (by first | exact .inl (by decide +kernel) | exact .inr (by decide +kernel)) (by rw[Ov];kernel_rfl)
def zec:TypeCalled "reversed" "reversed.__new__" "object.__init__" :=⟨(by decide +kernel),(by decide +kernel),⟨_,_,F.mro_reversed⟩,F.made_reversed,(by decide +kernel),by rw[Ov];kernel_rfl,zgs⟩
noncomputable def zjq(t:AD)(i:Int):Obj:={cls:=.type "reversed",data:=.fields #[.ref t,rawInt i]}
section
variable {prog:Program}{w:World}{A:Around}{E:Value->SH->Prop}{s:SH}
def zb8{t:AD}{items:Array Value}{Q:Value->SH->Prop}(ht:IsTup s.heap t items)(hsz:items.size<=sizeLine)(h:Q (.ref s.heap.objs.size) {s with heap:=s.heap.push (zjq t ((items.size:Int)-1)),toks:=s.toks+1+1}):wpAny (model prog w) A (call (.type "reversed") [.ref t]) Q E s:=by
 obtain⟨⟨c,dct,dt,sl⟩,e1,e2,n,e3⟩:=ht
 replace e2:c = .type "tuple" := e2
 replace e3:dt = .seq items n:=e3
 subst e2 e3;exact callType_new zec (by decide) (F.typeCall_reversed_1 _) (F.newCall_reversed_1 _) (λobj=>F.args_object_init_2 obj _) F.entry_reversed_new (zbg t items n dct sl hsz) ⟨e1,⟨_,Il _ rfl,rfl⟩,h⟩
end
def zdc:Manifest.owners.lookup (String.ofList ['d', 'e', 's', 'r', 'e', 'v', 'e', 'r'].reverse)=some Manifest.sig_reversed:=by kernel_rfl
def Ug:Slot "reversed" "__next__" "reversed.__next__" :=
 .of (owner:= "reversed") (n:= "__next__") (by rw[Ol,NM];kernel_rfl) (by decide +kernel) (by decide +kernel) (by decide +kernel)
  (by first | exact .inl (by decide +kernel) | exact .inr (by decide +kernel)) (by rw[Ov];kernel_rfl)
def zc6:entryFor table "reversed.__next__" = some Builtin.«reversed.__next__» := entryFor_of_tree (by kernel_rfl)
def zfu(a:Value):argsOk "reversed.__next__" ⟨[a],[]⟩:=by unfold argsOk;rw[signature?_of (id:= "reversed.__next__") (n:=['_', '_', 't', 'x', 'e', 'n', '_', '_']) (o:=['d', 'e', 's', 'r', 'e', 'v', 'e', 'r']) (by kernel_rfl) zdc];kernel_rfl
def zdt:Slot "reversed" "__iter__" "reversed.__iter__" :=
 .of (owner:= "reversed") (n:= "__iter__") (by rw[Ol,NM];kernel_rfl) (by decide +kernel) (by decide +kernel) (by decide +kernel)
  (by first | exact .inl (by decide +kernel) | exact .inr (by decide +kernel)) (by rw[Ov];kernel_rfl)
def zgS(a:Value):argsOk "reversed.__iter__" ⟨[a],[]⟩:=by unfold argsOk;rw[signature?_of (id:= "reversed.__iter__") (n:=['_', '_', 'r', 'e', 't', 'i', '_', '_']) (o:=['d', 'e', 's', 'r', 'e', 'v', 'e', 'r']) (by kernel_rfl) zdc];kernel_rfl
def zeW:entryFor table "reversed.__iter__" = some Builtin.«dict_keyiterator.__iter__» :=entryFor_alias (id' := "dict_keyiterator.__iter__") (by kernel_rfl) (by first | rfl | decide +kernel | (unfold String.splitOn;simp +decide [String.splitOnAux])) (by decide +kernel) (by kernel_rfl)
def zer(h:Heap)(a t:AD)(i:Int):Prop:=∃ o,h.get? a=some o/\o.cls = .type "reversed" /\ o.data = .fields #[.ref t,rawInt i]
def zer.ty{s:SH}{a t:AD}{i:Int}(x:zer s.heap a t i):s.TypeIs (.ref a) "reversed" := let ⟨o,ho,hc,_⟩:=x;⟨o,ho,hc⟩
section
variable {prog:Program}{w:World}{A:Around}{E:Value->SH->Prop}{s:SH}
def zjM{it t:AD}{i:Nat}{items:Array Value}{x:Value}{Q:LF->SH->Prop}(hit:zer s.heap it t (i:Int))(ht:IsTup s.heap t items)(hx:items[i]?=some x)(hi:(i:Int)<2^62)(hQ:∀ h' tk,zer h' it t ((i:Int)-1)->SameBut it s.heap h' -> Q (some x) {s with heap:=h',toks:=tk}):wpAny (model prog w) A (pyNext (.ref it)) Q E s:=by
 obtain⟨o,ho,hc,hd⟩:=id hit;have hlt:i<items.size:=by
  rcases Nat.lt_or_ge i items.size with z | z
  .exact z
  .rw[Array.getElem?_eq_none z]at hx;cases hx
 unfold pyNext;refine Ia (NG (IP (name:=Str.ofString "__next__") hit.ty Ug (IL Ug hit.ty zc6 ?_ (zfu _))));unfold Builtin.«reversed.__next__»;refine Ia (Ou (a:=(Value.ref it,[])) rfl ?_)
 try dsimp only
 refine Ia (IR ho hd (x:=.ref t) rfl ?_);refine Ia (IR ho hd (x:=rawInt (i:Int)) rfl ?_);show wpAny _ _ (if(i:Int)<0 then _ else _) _ _ s;rw[Iw (by omega)];refine Ia (NC ht.typeIs zfO ?_);show wpAny _ _ (if(some (Value.builtin "tuple.__getitem__")).isNone=true then _ else _) _ _ _;rw[Iw (by decide)];refine Ia (wpAny_mkInt ?_);refine Ia (NG (getItem_tuple (s:={s with toks:=s.toks+1}) ht (by omega) (by omega) (j:=i) (by unfold seqIndex?;simp;omega) hx ?_));refine Ia (IR (s:={s with toks:=s.toks+1}) ho hd (x:=rawInt (i:Int)) rfl ?_)
 try dsimp only
 refine Ia (NJ (s:={s with toks:=s.toks+1}) ho hd (by simp) ?_);refine Ic ⟨x,rfl,Ic (hQ _ _ ?_ (SameBut.update ..))⟩;exact⟨_,Nh _ ho (Nr (IQ hd _)),(Os ..).trans hc,by
  rw[IQ hd];simp⟩
def zlF{it t:AD}{Q:LF->SH->Prop}(hh:A.handled=none)(hit:zer s.heap it t (-1))(hQ:∀ h',ExtBut it s.heap h' -> Q none {s with heap:=h'}):wpAny (model prog w) A (pyNext (.ref it)) Q E s:=by
 obtain⟨o,ho,hc,hd⟩:=id hit;unfold pyNext;refine Ia (NG (IP (name:=Str.ofString "__next__") hit.ty Ug (IL Ug hit.ty zc6 ?_ (zfu _))));unfold Builtin.«reversed.__next__»;refine Ia (Ou (a:=(Value.ref it,[])) rfl ?_)
 try dsimp only
 refine Ia (IR ho hd (x:=.ref t) rfl ?_);refine Ia (IR ho hd (x:=rawInt (-1)) rfl ?_);show wpAny _ _ (if(-1:Int)<0 then _ else _) _ _ s;rw[IA (by decide)];refine Ia (N9 ?_);refine Ia ?_;show wpAny _ _ (setField (.ref it) 1 (rawInt (-1)) >>= λ_=>setField (.ref it) 0 .none) _ _ s;refine Ia (NJ ho hd (by simp) ?_);have ho2:=Nh (Obj.mapFields λf=>f.setIfInBounds 1 (rawInt (-1))) ho (Nr (IQ hd _));refine NJ ho2 (IQ hd _) (by simp) ?_;refine Ia ?_;show wpAny _ _ (newExc (.type "StopIteration") [] >>= _) _ _ _;refine Ia ?_;simp only[newExc,newTuple];refine Ia (Nt ?_ (by size_fits));refine Ia (m:=firstArgMember _ _) (Ou (a:=Value.none) (by first | rfl | (simp only[firstArgMember];rfl)) ?_);refine Nt ?_ (by size_fits);simp only[raiseNew];refine Ia (wpAny_handled ?_);rw[show A.in1.handled=none from hh];refine Ia (Ic (wpAny_throw ?_));refine Ia (Nx (T:= "StopIteration") (b:=true) ⟨_,Il _ rfl,rfl⟩ isSubtype_stop ?_);refine Ic (hQ _ ((ExtBut.push (ExtBut.push (λb o hb e=>?_) _) _)));exact(II _ _ (Ne.symm hb)).trans ((II _ _ (Ne.symm hb)).trans e)
def zga{it t:AD}{i:Int}{Q:Value->SH->Prop}(hit:zer s.heap it t i)(h:Q (.ref it) s):wpAny (model prog w) A (pyIter (.ref it)) Q E s:=by refine wpAny_pyIter_slot hit.ty zdt (IL zdt hit.ty zeW ?_ (zgS _));show wpAny _ _ (ret (.ref it)) _ _ s;exact Ic ⟨_,rfl, "reversed",_,hit.ty,Ug.lookup,h⟩
end
def zer.at{h h' : Heap}{a l:AD}{i:Int}(x:zer h a l i)(e:∀ o,h.get? a=some o->h'.get? a=some o):zer h' a l i:=let ⟨o,ho,r⟩:=x;⟨o,e _ ho,r⟩
section
variable {X:Cx}
noncomputable def Itv(K:FG)(a:AD)(n:Nat):It:=⟨λi H=>i<n/\∃ xs,SqT K H a xs/\xs.length=n,λi H x H' => H'=H/\∀ xs,SqT K H a xs->xs.reverse[i]?=some x,λi H=>i=n/\∃ xs,SqT K H a xs⟩
def zgO{P:Program}{w:World}{K:FG}{tg:Expr}(a it:AD)(n:Nat):Turn P w K tg (Itv K a n) [it] it (λi h=>zer h it a ((n:Int)-1-(i:Int))) where
 mem:=by simp
 obj:=λi h st b hb=>by
  have e:b=it:=by simpa using hb
  subst e;obtain⟨o,e,c,d⟩:=st;exact⟨o,e,λv z=>by rw[d]at z;cases z⟩
 keep:=λi h h' st k=>st.at λo e=>k it (by simp) o e
 item:=by
  intro X hP hw hK hc i aa s σ H E I hf st hg;subst hP hw hK;obtain⟨hi,xs,hq,hl⟩:=hg;obtain⟨its,rv,p,hz⟩:=I.tuple hq;have z62:sizeLine<2^62:=by decide
  have hx:xs.reverse[i]?=some (xs.reverse[i]'(by rw[length_reverse];omega)):=Ib _;obtain⟨u,hu,ru⟩:=rv.reverse.get hx;obtain⟨f0,f1,f2,f3,f4,f5⟩:=hf it (by simp);have e1:(n:Int)-1-(i:Int)=((n-1-i:Nat):Int):=by omega
  have st1:=st;rw[e1]at st1;have hl' : its.length=n:=by rw[← rv.length];exact hl
  have hu' : its.toArray[n-1-i]?=some u:=by rw[List.getElem?_reverse (by omega)]at hu;simpa [hl']using hu
  refine zjM st1 p hu' (by omega) λh' tk st' sb=>?_;have I1:Inv X aa σ H {s with heap:=h',toks:=tk}:=I.turned (λb o hb e=>(sb.2 b hb).trans e) f0 f1 f3 f4 f5;have e2:((n-1-i:Nat):Int)-1=(n:Int)-1-((i+1:Nat):Int):=by omega
  rw[e2]at st';obtain⟨o,e,c,d⟩:=id st';exact⟨u,rfl,zgP (s:={s with heap:=h',toks:=tk}) e c d (by decide) ⟨_,H,I1,ru,⟨rfl,λys hy=>by rw[I.Uw hy hq];exact hx⟩,st',λb hb=>(hf b hb).1⟩⟩
 done:=by
  intro X hP hw hK hc i aa s σ H E I hf st hg;subst hP hw hK;obtain⟨rfl,xs,hq⟩:=hg;obtain⟨f0,f1,f2,f3,f4,f5⟩:=hf it (by simp);have e1:(i:Int)-1-(i:Int) = -1:=by omega
  rw[e1]at st;exact zlF (I.ok.hd hc) st λh' eb=>⟨rfl,I.turned (t':=s.toks) (λb o hb e=>eb b o hb e) f0 f1 f3 f4 f5⟩
 self:=λ_ _ _ _ _ st h=>zga st h
def znu(K:FG)(tl:TE):TI:=fun σ H R=>tl σ H λx H1=>∃ a xs,x = .ref a/\SqT K H1 a xs/\R (Itv K a xs.length) H1
def zkL{tg l:Expr}{tl:TE}{p2 q2:Pos}(hg2:Gl X "reversed")(hm2:X.mg "reversed" = none)(hl:PE X l tl)(hs2:starEach [l] X.env=[(false,eval l X.env)]:=by rfl):PI X tg (.Call (.Name "reversed" p2) [l] [] q2) (znu X.K tl):=by
 intro aa s σ H R I h;refine IU (Qo I hg2 hm2 zgn (IZ ?_ hs2 rfl));rw[hs2];show wpAny _ _ (spliced [(false,eval l X.env)]) _ _ s;refine spliced_cons (thn (hl aa s σ H _ I h) λv s1 ⟨x,H1,I1,r1,q1⟩=>spliced_nil ?_);obtain⟨a,xs,e,hq,q⟩:=q1;subst e;cases r1;obtain⟨its,rv,p,hz⟩:=I1.tuple hq;have hsz:its.toArray.size<=sizeLine:=by rw[Ix,← rv.length];exact hz
 refine zb8 p hsz ?_;have it1:zer (s1.heap.push (zjq a ((its.toArray.size:Int)-1))) s1.heap.objs.size a ((xs.length:Int)-1-((0:Nat):Int)):=by refine⟨_,Il _ rfl,rfl,?_⟩;show Data.fields #[.ref a,rawInt ((its.toArray.size:Int)-1)]=_;rw[Ix,← rv.length];simp
 refine zga (s:={s1 with heap:=s1.heap.push (zjq a ((its.toArray.size:Int)-1)),toks:=s1.toks+1+1}) it1 ?_;refine⟨s1.heap.objs.size,[s1.heap.objs.size],_,_,H1,rfl,I1.kept (t':=s1.toks+1+1) λb o e=>Ie _ e,zgO a _ xs.length,it1,λb hb=>?_,q⟩;have e:b=s1.heap.objs.size:=by simpa using hb
 subst e;exact I1.zjW (Ih _) (I1.ac.fresh (Ih _))
end
noncomputable def zg9(K:FG):Value->Option (LD)
 |.ref a=>(match K.lookup a with
  |some o=>(match o.cls,o.data with
   |.type n,.seq its _=>if n == "tuple" && its.size<=8 then some its.toList else none
   |_,_=>none)
  |none=>none)
 |_=>none
noncomputable def zar:LD->Option (LB)
 |[]=>some []
 |.str x _::r=>(zar r).map (x :: ·)
 |_=>none
noncomputable def zmf(K:FG)(e:DictEntry)(r:Str×Str×LB):Bool:=
 match e.key with
 |.str x _=>x==r.1&&(match zg9 K e.val with
  |some [.str k _,v2]=>k==r.2.1&&(match zg9 K v2 with
   |some its=>zar its==some r.2.2
   |none=>false)
  |_=>false)
 |_=>false
noncomputable def zbo(K:FG):List DictEntry->List (Str×Str×LB)->Bool
 |[],[]=>true
 |e::es,r::rs=>zmf K e r&&zbo K es rs
 |_,_=>false
noncomputable def gOf(es:List DictEntry)(z:Str):Option (V×Value):=(es.find? (·.key.isStr z)).map λe=>((zm7 e.val).getD .non,e.val)
def zbT{K:FG}{v:Value}{its:LD}(h:zg9 K v=some its):∃ a,v = .ref a/\∀(H:Hp)(xs:LC),Vals xs its->SqT K H a xs:=by
 unfold zg9 at h;cases v with
 |ref a=>
  dsimp only at h;refine⟨a,rfl,λH xs hv=>?_⟩;cases hk:K.lookup a with
  |none=>rw[hk]at h;cases h
  |some o=>
   rw[hk]at h;dsimp only at h;split at h
   .rename_i n its' m hc hd
    split at h
    .rename_i hz
     injection h with h;subst h;simp only[Nd,Oa,decide_eq_true_eq]at hz;exact .inr ⟨o,its',m,hk,by rw[hc,hz.1],hd,Nj hz.2 (by decide),hv⟩
    .cases h
   .cases h
 |_=>cases h
theorem UT:∀{l:LD}{xs:LB},zar l=some xs->Vals (xs.map V.str) l
 |[],xs,h=>by unfold zar at h;injection h with h;subst h;exact .nil
 |v::r,xs,h=>by
  unfold zar at h;split at h
  .rename_i e;cases e
  .rename_i x t r' e
   injection e with e1 e2;subst e1 e2;cases hr:zar r with
   |none=>rw[hr]at h;cases h
   |some ys=>rw[hr]at h;injection h with h;subst h;exact .cons ⟨_,rfl⟩ (UT hr)
  .cases h
def V6{K:FG}{e:DictEntry}{r:Str×Str×LB}(h:zmf K e r=true):(∃ t,e.key = .str r.1 t)/\∃ a,e.val = .ref a/\∀ G:Hp,Dat K G (.ref a) (.tuple [.str r.2.1,.tuple (r.2.2.map PyData.str)]):=by
 unfold zmf at h;split at h
 .rename_i x t hk
  rw[Nd,Oa]at h;obtain⟨rfl,h⟩:=h;refine⟨⟨t,hk⟩,?_⟩;split at h
  .rename_i k t2 v2 ht
   rw[Nd,Oa]at h;obtain⟨rfl,h⟩:=h;split at h
   .rename_i its hi
    rw[Oa]at h;obtain⟨a,ha,sa⟩:=zbT ht;obtain⟨b,hb,sb⟩:=zbT hi;refine⟨a,ha,λG=>Xy (sa G [.str r.2.1,.ref b] (.cons ⟨_,rfl⟩ (.cons (by rw[hb];rfl) .nil))) (Zv (Z5 _) (Zv (Xy (sb G _ (UT h)) ?_) ZC))⟩;exact dats_strs' _
   .cases h
  .cases h
 .cases h
where
 dats_strs' {K:FG}{G:Hp}:∀ ws:LB,Yl K G (ws.map V.str) (ws.map PyData.str)
  |[]=>ZC
  |w::ws=>Zv (Z5 w) (dats_strs' ws)
def zbp{x z:Str}{t:Tok}:(Value.str x t).isStr z=decide (x=z):=by
 unfold Value.isStr;by_cases h:x=z
 .subst h;simp
 .simp[h]
theorem V0{K:FG}(z:Str):∀{es:List DictEntry}{rs:List (Str×Str×LB)},zbo K es rs=true->
  (es.find? (·.key.isStr z)=none/\rs.find? (λr=>decide (r.1=z))=none)\/∃ e r,es.find? (·.key.isStr z)=some e/\rs.find? (λr=>decide (r.1=z))=some r/\zmf K e r=true
 |[],[],_=>.inl ⟨rfl,rfl⟩
 |[],_::_,h=>by cases h
 |_::_,[],h=>by cases h
 |e::es,r::rs,h=>by
  unfold zbo at h;rw[Nd]at h;obtain⟨⟨t,hk⟩,_⟩:=V6 h.1;have q:e.key.isStr z=decide (r.1=z):=by rw[hk];exact zbp
  rw[OF,OF,q];by_cases hz:r.1=z
  .rw[Iq hz];exact .inr ⟨e,r,rfl,rfl,h.1⟩
  .rw[Iy hz];exact V0 z h.2
theorem zbW{K:FG}:∀{es:List DictEntry}{rs:List (Str×Str×LB)},zbo K es rs=true->es.any (·.refKey)=false
 |[],[],_=>rfl
 |[],_::_,h=>by cases h
 |_::_,[],h=>by cases h
 |e::es,r::rs,h=>by unfold zbo at h;rw[Nd]at h;obtain⟨⟨t,hk⟩,_⟩:=V6 h.1;rw[any_cons,zbW h.2,Bool.or_false];unfold DictEntry.refKey;rw[hk]
def zgN{K:FG}{P:Params}{a:AD}{es:Array DictEntry}{n:Nat}{rs:List (Str×Str×LB)}(hl:K.lookup a=some ⟨.type "dict",none,.dict es n,#[]⟩)(hk:KeysLit P es.toList)(lo:(a==sysModules)=false)(h:zbo K es.toList rs=true):zb0 K P a (gOf es.toList)/\∀ z,(rs.find? (λr=>decide (r.1=z))=none/\gOf es.toList z=none)\/∃ r v u,rs.find? (λr=>decide (r.1=z))=some r/\gOf es.toList z=some (v,u)/\∀ G:Hp,Dat K G v (.tuple [.str r.2.1,.tuple (r.2.2.map PyData.str)]):=by
 refine⟨⟨⟨es,n,hl,hk⟩,lo,λx=>?_,λx v u e=>?_⟩,λz=>?_⟩
 .unfold PySem.W.nsIn;rw[hl];dsimp only;unfold gOf;rcases V0 x h with⟨e1,_⟩ | ⟨e,r,e1,_,_⟩
  .rw[e1,zbW h];rfl
  .rw[e1];rfl
 .unfold gOf at e;rcases V0 x h with⟨e1,_⟩ | ⟨e',r,e1,_,ok⟩
  .rw[e1]at e;cases e
  .rw[e1]at e;obtain⟨_,a',ha,_⟩:=V6 ok;rw[OG]at e;injection e with e;injection e with e1 e2;subst e1 e2;rw[ha];rfl
 .rcases V0 z h with⟨e1,e2⟩ | ⟨e,r,e1,e2,ok⟩
  .exact .inl ⟨e2,by unfold gOf;rw[e1];rfl⟩
  .obtain⟨_,a',ha,hd⟩:=V6 ok;refine .inr ⟨r,.ref a',e.val,e2,?_,hd⟩;unfold gOf;rw[e1,OG,ha];rfl
end L2
namespace Ord
open PySem L2
noncomputable def zae:List (Str×Str×LB):=
 [(S "like",S "order",[]),(S "up",S "order",[S "field"]),(S "down",S "order",[S "field"]),(S "then",S "order",[S "order",S "order"]),(S "turn",S "order",[S "order"]),(S "pick",S "order",[S "case",S "order",S "order"]),
  (S "same",S "case",[S "field"]),(S "both",S "case",[S "mark"]),(S "either",S "case",[S "mark"]),(S "not",S "case",[S "case"]),(S "and",S "case",[S "case",S "case"]),(S "or",S "case",[S "case",S "case"]),
  (S "under",S "mark",[S "field",S "number"]),(S "is",S "mark",[S "field",S "number"])]
noncomputable def YM(z:Str):Option (Str×Str×LB):=zae.find? (λr=>decide (r.1=z))
structure Wds(K:FG)(P:Params)(mg:Str->LF) where
 a:AD
 g:Str->Option (V×Value)
 m:mg "WORDS" = some (.ref a)
 D:zb0 K P a g
 no:∀ z,YM z=none->g z=none
 yes:∀ z r,YM z=some r->∃ v u,g z=some (v,u)/\∀ G:Hp,Dat K G v (.tuple [.str r.2.1,.tuple (r.2.2.map PyData.str)])
def zk1{K:FG}{P:Params}{mg:Str->LF}{a:AD}{es:Array DictEntry}{n:Nat}(hm:mg "WORDS" = some (.ref a))(hl:K.lookup a=some ⟨.type "dict",none,.dict es n,#[]⟩)(hk:KeysLit P es.toList)(lo:(a==sysModules)=false)(h:zbo K es.toList zae=true):Nonempty (Wds K P mg):=by
 obtain⟨D,q⟩:=zgN hl hk lo h;refine⟨⟨a,_,hm,D,λz e=>?_,λz r e=>?_⟩⟩
 .rcases q z with⟨_,e1⟩ | ⟨r,v,u,e1,_⟩
  .exact e1
  .rw[show YM z=_ from e1]at e;cases e
 .rcases q z with⟨e1,_⟩ | ⟨r',v,u,e1,e2,hd⟩
  .rw[show YM z=_ from e1]at e;cases e
  .rw[show YM z=_ from e1]at e;injection e with e;subst e;exact⟨v,u,e2,hd⟩
def zeh:∀ want∈[S "order",S "case",S "mark"],∀ o∈zbF want,∃ x ps,o=x::ps/\YM x=some (x,want,ps):=by
 intro want hw;simp only[ID,IX,NK]at hw;have key:∀ want∈[S "order",S "case",S "mark"],∀ o∈zbF want,o≠[]/\YM (o.headD (S ""))=some (o.headD (S ""),want,o.tail):=by decide +kernel
 intro o ho;have q:=key want (by simpa using hw) o ho;cases o with
 |nil=>exact absurd rfl q.1
 |cons x ps=>exact⟨x,ps,rfl,q.2⟩
def zap{z:Str}(h:z∉["like", "up", "down", "then", "turn", "pick", "same", "both", "either", "not", "and", "or", "under", "is"].map Str.ofString):YM z=none:=by unfold YM;rw[List.find?_eq_none];intro r hr;simp only[decide_eq_true_eq];intro e;subst e;apply h;revert r;decide +kernel
end Ord
namespace Rdo
open PySem Dig Ord Nm L2 Frac
def zbI{z:Str}{r:Str×Str×LB}(h:YM z=some r):r∈zae/\r.1=z:=by unfold YM at h;exact⟨List.mem_of_find?_eq_some h,by have:=List.find?_some h;simpa using this⟩
def Uc{ad:Str->Prop}{num:Int->Int->Prop}{st st1:LB}{w:Wd}(h:Step ad num st w st1)(hs:∀ x∈st,x∈[S "order",S "case",S "mark",S "field",S "number"]):
  (∃ x st0,st=S "field" :: st0/\w = .t x/\ad x/\st1=st0)\/(∃ a b st0,st=S "number" :: st0/\w = .n a b/\num a b/\st1=st0)\/
  ∃ want x ps st0,st=want::st0/\w = .t x/\want≠S "field" /\ want≠S "number" /\ YM x=some (x,want,ps)/\ps.length<=3/\st1=ps++st0:=by
 cases h with
 |field hx=>exact .inl ⟨_,_,rfl,rfl,hx,rfl⟩
 |number hx=>exact .inr (.inl ⟨_,_,_,rfl,rfl,hx,rfl⟩)
 |@word want x ps st0 n1 n2 ho=>
  have hw:=hs want IC;have hw3:want∈[S "order",S "case",S "mark"]:=by
   simp only[ID,IX,NK]at hw ⊢;rcases hw with z | z | z | z | z
   .exact .inl z
   .exact .inr (.inl z)
   .exact .inr (.inr z)
   .exact absurd z n1
   .exact absurd z n2
  obtain⟨y,qs,e,hy⟩:=zeh want hw3 _ ho;injection e with e1 e2;subst e1 e2;obtain⟨x',ps',e,hl,_⟩:=zfI want _ ho;injection e with e1 e2;subst e1 e2;exact .inr (.inr ⟨want,x,ps,st0,rfl,rfl,n1,n2,hy,hl,rfl⟩)
end Rdo
namespace L2
open PySem PySem.Spec PyProof.Rows
variable {x y qual:Str}{k ep tk:Nat}{Q:Value->SH->Prop}{a c f i1 i2:AD}{h h':Heap}{es:Array DictEntry}{H:Hp}{pos tpos:Pos}{js:List Nat}{te:TE}{vals:St}{params:Arguments}{α β:Type}{ps:LB}{fd:FuncData}
section
variable {K:FG}{σ:St}{G:Hp}{ta tb:TE}
def zcQ(ha:Ev K ta σ G (.str x))(hb:Ev K tb σ G (.str y))(hz:x.length+y.length<=sizeLine):
  Ev K (tOp (λx y H Q=>∃ i j,x = .str i/\y = .str j/\i.length+j.length<=sizeLine/\Q (.str (i++j)) H) ta tb) σ G (.str (x++y)):=
 J4 ha hb λG1 H u v Q s1 s2 hu hv k=>⟨x,y,hu.str,hv.str,hz,k _ G1 H (Yi.refl s2) (Z5 _)⟩
end
def zg1(h:∀ c∈x.cps.toList,c<128):PyData.canLay0 (.str x)=true:=by unfold PyData.canLay0 PyData.strOk;rw[Array.all_eq_true'];intro c hc;have:=h c (mem_toList_iff.mpr hc);simp;omega
def zh9{n:Nat}(h:∀ c∈x.cps.toList,c<128):Pl n (.str x):=⟨zg1 h,by unfold PyData.depth;omega,by unfold noBool;rfl⟩
section
variable {K:FG}{σ:St}{G:Hp}{ta tb:TE}{a b d:PD}
noncomputable def kD:Key->PD
 |.inl i=>.int i
 |.inr x=>.str x
def znw{v:V}{k:Key}(h:Dat K G v (kD k)):v=kV k:=by
 cases k with
 |inl i=>exact h.int
 |inr x=>exact h.str
end
section
variable {prog:Program}{w:World}{A:Around}{E:Value->SH->Prop}{s:SH}
def zck{Q:LD->SH->Prop}{r:AD}{a b c:Int}{t u v:Tok}{n:Nat}(hh:A.handled=none)(hr:IsRange s.heap r a b c t u v)(hsmall:Builtin.Range.small a b c=true)(hn:Builtin.Range.rangeSize a b c=n)(hlen:n<=2^24)(hQ:∀(h' : Heap)(tk:Nat)(acc:Array Value),(∀ b o,s.heap.get? b=some o->h'.get? b=some o)->ItemsOf (λi v=>∃ t,v = .int (a+i*c) t) acc n->Q acc.toList {s with heap:=h',toks:=tk}):wpAny (model prog w) A (collect (.ref r)) Q E s:=by
 have e1:=F.entry_proto_collect;have e2:=F.entry_list_iadd;have p1:=F.plain_proto_collect;have p2:=F.plain_list_iadd;unfold collect;refine Ia (wpAny_runValue (codeAny_builtin e1 ?_));rw[Around.under_plainId p1 _];show wpAny _ A.in1 (newList [] >>= λz=>again (.builtin "list.__iadd__" ⟨[z,.ref r],[]⟩)) _ _ s;refine Ia (Nt (Ic ⟨plainId_quiet p2 _,codeAny_builtin e2 ?_⟩));rw[Around.under_plainId p2 _];show wpAny (model prog w) A.in1 (Builtin.List.listExtendWith (.ref s.heap.objs.size) (.ref r) (.ref s.heap.objs.size)) _ _ _;have hS:(s.heap.push {cls:=.type "list",data:=.seq ([]:LD).toArray}).get? s.heap.objs.size=some {cls:=.type "list",data:=.seq #[] 0}:=Il _ rfl
 have fin' : ∀(h' : Heap)(tk:Nat)(acc:Array Value)(c' : Nat),(∀ b o,s.heap.get? b=some o->h'.get? b=some o)->h'.get? s.heap.objs.size=some {cls:=.type "list",dict:=none,data:=.seq acc c',slots:=#[]}->ItemsOf (λi v=>∃ t,v = .int (a+i*c) t) acc n->
   wpAny (model prog w) A (match Value.ref s.heap.objs.size with
   |Value.ref a=>do
    match (← load a).data with
     |Data.seq xs _=>pure xs.toList | _=>unsupported "internal:collect"
   |_=>unsupported "internal:collect") Q E {s with heap:=h',toks:=tk}:=λh' tk acc c' hk hS' hacc=>by
  show wpAny (model prog w) A (load s.heap.objs.size >>= _) Q E _;exact Ia (wpAny_load hS' (Ic (hQ h' tk acc hk hacc)))
 refine IK (wpAny_extend_range (A:=A) (R:=λrs s' => ∃(h' : Heap)(tk:Nat)(acc:Array Value)(c' : Nat),rs = .ok (.ret (.ref s.heap.objs.size))/\s'={s with heap:=h',toks:=tk}/\(∀ b o,s.heap.get? b=some o->h'.get? b=some o)/\h'.get? s.heap.objs.size=some {cls:=.type "list",dict:=none,data:=.seq acc c',slots:=#[]}/\ItemsOf (λi v=>∃ t,v = .int (a+i*c) t) acc n)
  (s:={s with heap:=s.heap.push {cls:=.type "list",data:=.seq ([]:LD).toArray}}) hh (Ie _ hr) hsmall hn hlen _ _ 0 hS λh' tk acc' c' hk hS' hacc=>⟨h',tk,acc',c',rfl,rfl,λb o e=>hk b o (IM (IB e)) (Ie _ e),hS',hacc⟩) (λfin s' h=>?_) (λe s' h=>?_)
 .cases fin with
  |done f=>obtain⟨h',tk,acc,c',e,rfl,k1,k2,k3⟩:=h;cases e;exact fin' h' tk acc c' k1 k2 k3
  |again cc=>exact⟨h.1,Nw h.2 λrs s'' hr' => by
    obtain⟨h',tk,acc,c',rfl,rfl,k1,k2,k3⟩:=hr';exact fin' h' tk acc c' k1 k2 k3⟩
 .obtain⟨_,_,_,_,z,_⟩:=h;cases z
end
def zg3{lo:Int}{n:Nat}{acc:Array Value}(h:ItemsOf (λi v=>∃ t,v = .int (lo+i*1) t) acc n):Vals ((List.range n).map λ(i:Nat)=>V.int (lo+i)) acc.toList:=by
 obtain⟨z1,z2⟩:=h;have key:∀(n:Nat)(l:LD),l.length=n->(∀(i:Nat) v,l[i]?=some v->∃ t,v=Value.int (lo+i) t)->Vals ((List.range n).map λ(i:Nat)=>V.int (lo+i)) l:=by
  intro n
  induction n with
  |zero=>intro l hl _;cases l with
   |nil=>exact .nil
   |cons _ _=>cases hl
  |succ n ih=>
   intro l hl hi;have e1:l=l.dropLast++[l[n]'(by omega)]:=by
    have hne:l≠[]:=by intro z;subst z;cases hl
    have:=(List.dropLast_concat_getLast hne).symm;rw[List.getLast_eq_getElem]at this;simpa [hl]using this
   rw[e1,OE,Ni];refine Vals.append (ih l.dropLast (by simp[hl]) λi v hv=>?_) ?_
   .refine hi i v ?_;rw[List.getElem?_dropLast]at hv;split at hv
    .exact hv
    .cases hv
   .obtain⟨t,e⟩:=hi n (l[n]'(by omega)) (Ib (by omega));exact .cons ⟨t,e⟩ .nil
 refine key n acc.toList (by simp[z1]) λi v hv=>?_;obtain⟨t,e⟩:=z2 i v (by simpa using hv);exact⟨t,by rw[e];congr 1;omega⟩
def zeG(h:Heap)(d:AD)(es:Array DictEntry)(ep:Nat):Prop:=∃ o,h.get? d=some o/\o.ExactDict/\o.data = .dict es ep
def zeG.keep{d:AD}(x:zeG h d es ep)(k:∀ o,h.get? d=some o->h'.get? d=some o):zeG h' d es ep:=let ⟨o,e,r⟩:=x;⟨o,k o e,r⟩
section
variable {prog:Program}{w:World}{A:Around}{E:Value->SH->Prop}{s:SH}
def zeG.ty{d:AD}(x:zeG s.heap d es ep):s.TypeIs (.ref d) "dict" := let ⟨o,e,c,_⟩:=x;⟨o,e,c.1⟩
abbrev kIt(d:AD)(n ep:Nat):Obj:={cls:=.type "dict_keyiterator",data:=.fields #[.ref d,.int 0 0,.int n 0,.int ep 0]}
def zjT{d:AD}(hd:(d==sysModules)=false)(x:zeG s.heap d es ep)(q:Q (.ref s.heap.objs.size) {s with heap:=s.heap.push (kIt d es.size ep)}):wpAny (model prog w) A (pyIter (.ref d)) Q E s:=by have hT:=x.ty;obtain⟨o,e,_,hdat⟩:=x;refine wpAny_pyIter_slot hT F.slot_dict_iter (IL F.slot_dict_iter hT F.entry_dict_iter ?_ (F.args_dict_iter_1 _));unfold Builtin.«dict.__iter__»;refine Ia ?_;unfold Builtin.Dict.dictSlotNone;refine Ia (wpAny_notOrdered_dict hT (Ic (a:=Value.ref d) ?_));refine Ia (m:=Builtin.Dict.showsAll d) ?_;unfold Builtin.Dict.showsAll;rw[Iw (by rw[hd];exact Ij)];exact Ic (Ia (wpAny_dictEntries e hdat (Ia (wpAny_dictEpoch e hdat (Ia (Nt (Ic ⟨_,rfl, "dict_keyiterator",_,⟨_,Il _ rfl,rfl⟩,F.slot_dict_keyiterator_next.lookup,q⟩)))))))
def zim{it d:AD}{i:Nat}{en:DictEntry}{Q:LF->SH->Prop}(hit:s.heap.IsKeyIter it d i es.size ep)(x:zeG s.heap d es ep)(hx:es[i]?=some en)(q:∀ h',h'.IsKeyIter it d (i+1) es.size ep->SameBut it s.heap h' -> Q (some en.key) {s with heap:=h'}):wpAny (model prog w) A (pyNext (.ref it)) Q E s:=by
 obtain⟨o,ho,hc,hd⟩:=id hit;obtain⟨od,hod,_,hdd⟩:=x;have ty:=hit.typeIs;unfold pyNext;refine Ia (NG (IP (name:=Str.ofString "__next__") ty NU (IL NU ty F.entry_dict_keyiterator_next (Ia (Ic (Ia (Ia ?_)))) (F.args_dict_keyiterator_next_1 _))))
 first | refine Ia (NR ty (Ic (Ia (wpAny_fieldsOf ho hd ?_)))) | refine Ia (Ob ty (Ic (Ia (wpAny_fieldsOf ho hd ?_))))
 have own:Builtin.Dict_items.ownsTuple "dict_keyiterator" = false:=by decide
 simp only[own,IW,IG];show wpAny _ _ (if(Value.ref d==Value.none)=true then _ else _) _ _ s;rw[Iw (λz:(Value.ref d==Value.none)=true=>Ij z)];refine Ia (Ic (Ia (wpAny_dictEntries hod hdd ?_)));rw[Iw (by simp)];refine Ia (Ic (Ia (wpAny_dictEpoch hod hdd ?_)));rw[Iw (by simp)];refine Ic ?_;have lt:i<es.size:=by
  rcases Nat.lt_or_ge i es.size with h | h
  .exact h
  .rw[Array.getElem?_eq_none h]at hx;cases hx
 have ee:es[i]=en:=by rw[IS lt]at hx;exact Ip hx
 simp only[show ¬ ((i:Int)<0)by omega,IW,OB,IS lt];refine Ia ?_
 first | refine Ia (NR ty (Ic (Ia (wpAny_isOneOf_keyiter ty ?_)))) | refine Ia (Ob ty (Ic (Ia (wpAny_isOneOf_keyiter ty ?_))))
 refine Ia (m:=setField (.ref it) 1 (rawInt ((i:Int)+1))) (NJ ho hd (by simp) ?_);have hit' : (s.heap.update it (Obj.mapFields (·.setIfInBounds 1 (rawInt ((i:Int)+1))))).IsKeyIter it d (i+1) es.size ep:=⟨_,Nh _ ho (Nr (IQ hd _)),(Os ..).trans hc,by rw[IQ hd];simp[rawInt]⟩
 refine Ia (IV (Ia (wpAny_isOneOf_keyiter (s:={s with heap:=s.heap.update it (Obj.mapFields (·.setIfInBounds 1 (rawInt ((i:Int)+1))))}) hit'.typeIs ?_)));show wpAny _ _ (pure es[i].key) _ _ _;rw[ee];exact Ic (Ic ⟨_,rfl,Ic (q _ hit' (SameBut.update ..))⟩)
def zkc{it d:AD}{i:Nat}{Q:LF->SH->Prop}(hh:A.handled=none)(hit:s.heap.IsKeyIter it d i es.size ep)(x:zeG s.heap d es ep)(hx:es.size<=i)(q:∀ h',ExtBut it s.heap h' -> Q none {s with heap:=h'}):wpAny (model prog w) A (pyNext (.ref it)) Q E s:=by
 obtain⟨o,ho,hc,hd⟩:=id hit;obtain⟨od,hod,_,hdd⟩:=x;have ty:=hit.typeIs;unfold pyNext;refine Ia (NG (IP (name:=Str.ofString "__next__") ty NU (IL NU ty F.entry_dict_keyiterator_next (Ia (Ic (Ia (Ia ?_)))) (F.args_dict_keyiterator_next_1 _))))
 first | refine Ia (NR ty (Ic (Ia (wpAny_fieldsOf ho hd ?_)))) | refine Ia (Ob ty (Ic (Ia (wpAny_fieldsOf ho hd ?_))))
 have own:Builtin.Dict_items.ownsTuple "dict_keyiterator" = false:=by decide
 simp only[own,IW,IG];show wpAny _ _ (if(Value.ref d==Value.none)=true then _ else _) _ _ s;rw[Iw (λz:(Value.ref d==Value.none)=true=>Ij z)];refine Ia (Ic (Ia (wpAny_dictEntries hod hdd ?_)));rw[Iw (by simp)];refine Ia (Ic (Ia (wpAny_dictEpoch hod hdd ?_)));rw[Iw (by simp)];refine Ic ?_;simp only[show ¬ ((i:Int)<0)by omega,IW,OB,Array.getElem?_eq_none hx];refine Ia ?_
 first | refine Ia (NR ty (Ic ?_)) | refine Ia (Ob ty (Ic ?_))
 refine Ia (m:=setField (.ref it) 0 .none) (NJ ho hd (by simp) (Ia (m:=newExc (.type "StopIteration") []) ?_));simp only[newTuple,newExc];refine Ia (Nt (Ia (m:=firstArgMember _ _) (Ou (a:=Value.none) (by first | rfl | (simp only[firstArgMember];rfl)) (Nt ?_ (by size_fits)))) (by size_fits));simp only[raiseNew];refine Ia (wpAny_handled ?_);rw[show A.in1.handled=none from hh];refine Ia (Ic (wpAny_throw ?_));exact Ia (Nx (T:= "StopIteration") (b:=true) ⟨_,Il _ rfl,rfl⟩ isSubtype_stop (Ic (q _ (((SameBut.update ..).extBut.push _).push _))))
def zjJ(hh:A.handled=none)(I d:AD)(hne:d≠I)(es:Array DictEntry)(ep:Nat):Walks prog w A I [I,d] [I] es.size (λi v=>∃ en,es[i]?=some en/\v=en.key) (λi h=>h.IsKeyIter I d i es.size ep/\zeG h d es ep) where
 sub:=λb hb=>by simp at hb;simp[hb]
 frame:=λ_ _ _ st hk=>⟨st.1.at λo e=>hk I (by simp) o e,st.2.keep λo e=>hk d (by simp) o e⟩
 item:=λi s Q E hi st hQ=>zim st.1 st.2 (IS hi) λh' hit' hs' => hQ _ h' s.toks ⟨_,IS hi,rfl⟩ ⟨hit',st.2.keep λo e=>hs'.extBut d o hne e⟩ λb o hb e=>hs'.extBut b o (λh=>hb (by simp[h])) e
 done:=λs Q E st hQ=>zkc hh st.1 st.2 (Ih _) λh' he' => hQ h' s.toks λb o hb e=>he' b o (λh=>hb (by simp[h])) e
 self:=λ_ _ _ _ st hQ=>wpAny_pyIter_keyiter st.1 hQ
def za4:typeLookup (.type "dict") "__len__" = pure (some (.builtin "dict.__len__")):=by rw[Ol,NM];kernel_rfl
def zcw{R:Result->SH->Prop}(hh:A.handled=none)(S d:AD)(res:Value)(c0:Nat)(hd:(d==sysModules)=false)(x:zeG s.heap d es ep)(hSd:S≠d)(hS:s.heap.get? S=some {cls:=.type "list",data:=.seq #[] c0})(hn:es.size<=sizeLine)(hR:∀ s' acc' c',Moved [S,s.heap.objs.size] (λa b=>b=a) {s with heap:=s.heap.push (kIt d es.size ep)} s' -> s'.heap.get? S=some {cls:=.type "list",dict:=none,data:=.seq acc' c',slots:=#[]}->ItemsOf (λi v=>∃ en,es[i]?=some en/\v=en.key) acc' es.size->R (.ok (.ret res)) s'):
  wpAny (model prog w) A.in1 (Builtin.List.listExtendWith (.ref S) (.ref d) res)
   (λfin s' => match fin with | .done f=>R (.ok f) s' | .again c' => c'.quiet=true/\codeAny (model prog w) A c' R s') (λe s' => R (.error e) s') s:=by
 have hT:=x.ty;have ltS:=IB hS;have ltd:d<s.heap.objs.size:=by obtain⟨o,e,_⟩:=id x;exact IB e
 unfold Builtin.List.listExtendWith;refine Ia (wpAny_typeOf hT ?_);have z1:Builtin.List.listSameRef (.ref S) (.ref d)=false:=by simp[Builtin.List.listSameRef,hSd]
 rw[Iw (by rw[z1];decide)];refine Ia (zjT hd x (Ia (IV ?_)));have hT1:TypeIs {s with heap:=s.heap.push (kIt d es.size ep)} (.ref d) "dict" := by obtain⟨o,e,c,_⟩:=id x;exact⟨o,Ie _ e,c.1⟩
 unfold Builtin.List.listLengthHint;refine Ia (NC hT1 za4 ?_);generalize hid:("dict.__len__" : String)=id0
 wp_delta
 rw[show splitId id0=some ("dict", "__len__")from by subst hid;decide +kernel];subst hid;refine Ia (Nx (b:=true) hT1 (by rw[Ov];kernel_rfl) ?_);rw[Iw (show ¬ ((!true)=true)by decide)];dsimp only;rw[IA (by decide +kernel)];refine Ia (wpAny_typeOf hT1 (Ic ?_));rw[IA (by decide +kernel)];refine Ia (N9 (Ia ?_));have hSp:(s.heap.push (kIt d es.size ep)).get? S=some {cls:=.type "list",data:=.seq #[] c0}:=Ie _ hS;show wpAny _ A.in1 (updateSeq S (·.push .none) >>= λ_=>updateSeq S (·.pop)) _ _ _;refine Ia (wpAny_updateSeq (s:={s with heap:=s.heap.push (kIt d es.size ep)}) hSp rfl ?_);have q2:=Nh (Obj.mapSeq (·.push Value.none)) hSp rfl;refine wpAny_updateSeq (hz:=by seq_fits) q2 rfl ?_;have q3:=Nh (Obj.mapSeq (·.pop)) q2 rfl;have oth:∀ b o,b≠S->(s.heap.push (kIt d es.size ep)).get? b=some o->(((s.heap.push (kIt d es.size ep)).update S (Obj.mapSeq (·.push Value.none))).update S (Obj.mapSeq (·.pop))).get? b=some o:=λb o hb e=>(II _ _ (Ne.symm hb)).trans ((II _ _ (Ne.symm hb)).trans e)
 have ndI:d≠s.heap.objs.size:=IM ltd;have nSI:S≠s.heap.objs.size:=IM ltS;have W:=(zjJ (prog:=prog) (w:=w) (A:=A.in1) (show A.in1.handled=none from hh) s.heap.objs.size d ndI es ep).toS;have hSf:S∉[s.heap.objs.size,d]:=λhm=>by
  rcases ID.mp hm with z | z
  .exact nSI z
  .exact hSd (IN.mp z)
 refine Ic ⟨plainId_quiet F.plain_extend_loop _,codeAny_extend_loopS W hn S hSf _ es.size 0 _ _ _ rfl (Nl _) ⟨?_,?_⟩ q3 (ItemsOf.nil _) λs' acc' c' hm hS' hacc=>?_⟩
 .exact⟨_,oth _ _ (Ne.symm nSI) (Il _ rfl),rfl,rfl⟩
 .exact x.keep λo e=>oth d o (Ne.symm hSd) (Ie _ e)
 .exact hR s' acc' c' ⟨λb o hb e=>hm.heap b o hb (oth b o (λh=>hb (by simp[h])) e),hm.gens,hm.drawn,hm.os,hm.toks⟩ hS' hacc
def zah(hh:A.handled=none){d:AD}(hd:(d==sysModules)=false)(x:zeG s.heap d es ep)(hn:es.size<=sizeLine)(q:∀ s' acc' c',(∀ b o,s.heap.get? b=some o->s'.heap.get? b=some o)->s'={s with heap:=s'.heap,toks:=s'.toks}->s'.heap.get? s.heap.objs.size=some {cls:=.type "list",dict:=none,data:=.seq acc' c',slots:=#[]}->ItemsOf (λi v=>∃ en,es[i]?=some en/\v=en.key) acc' es.size->Q (.ref s.heap.objs.size) s'):
  wpAny (model prog w) A (call (.type "list") [.ref d]) Q E s:=by
 have ltd:d<s.heap.objs.size:=by obtain⟨o,e,_⟩:=id x;exact IB e
 refine callType_codes (Q₁:=λobj s₁=>obj = .ref s.heap.objs.size/\s₁={s with heap:=s.heap.push {cls:=.type "list",data:=.seq #[]}}) F.called_list (F.typeCall_list_1 _) F.entry_list_init (code_list_new _ ⟨rfl,rfl⟩) λobj s1 h1=>?_;obtain⟨rfl,rfl⟩:=h1;have hS:(s.heap.push {cls:=.type "list",data:=.seq #[]}).get? s.heap.objs.size=some {cls:=.type "list",data:=.seq #[]}:=Il _ rfl;refine⟨⟨_,hS,rfl⟩,F.args_list_init_2 _ _,?_⟩;refine Ia (m:=Builtin.List.listItems (.ref s.heap.objs.size)) ?_;unfold Builtin.List.listItems;refine Ia (NB hS rfl (Ic ?_));refine Ia (m:=updateSeq s.heap.objs.size (λ_=>#[])) (wpAny_updateSeq hS rfl ?_);have hS2:=Nh (Obj.mapSeq (λ_=>(#[]:Array Value))) hS rfl;have oth:∀ b o,b≠s.heap.objs.size->(s.heap.push {cls:=.type "list",data:=.seq #[]}).get? b=some o->((s.heap.push {cls:=.type "list",data:=.seq #[]}).update s.heap.objs.size (Obj.mapSeq (λ_=>(#[]:Array Value)))).get? b=some o:=λb o hb e=>(II _ _ (Ne.symm hb)).trans e;have old:∀ b o,s.heap.get? b=some o->((s.heap.push {cls:=.type "list",data:=.seq #[]}).update s.heap.objs.size (Obj.mapSeq (λ_=>(#[]:Array Value)))).get? b=some o:=λb o e=>oth b o (IM (IB e)) (Ie _ e);refine Ia (wpAny_letGo ?_);refine zcw (A:=A.in1) (prog:=prog) (w:=w) (s:={s with heap:=(s.heap.push {cls:=.type "list",data:=.seq #[]}).update s.heap.objs.size (Obj.mapSeq (λ_=>(#[]:Array Value)))}) (show A.in1.handled=none from hh) s.heap.objs.size d .none _ hd (x.keep λo e=>old d o e) (ne_of_gt ltd) hS2 hn λs' acc' c' hm hS' hacc=>?_;refine⟨rfl,q s' acc' c' (λb o e=>?_) ?_ hS' hacc⟩
 .have hb:=IB e;refine hm.heap b o (λhmem=>?_) (Ie _ (old b o e));have hsz:((s.heap.push {cls:=.type "list",data:=.seq #[]}).update s.heap.objs.size (Obj.mapSeq (λ_=>(#[]:Array Value)))).objs.size=s.heap.objs.size+1:=by rw[Heap.size_update,NA]
  rcases ID.mp hmem with z | z
  .exact zeo hb z
  .have z':=IN.mp z;rw[show(Shared.heap {s with heap:=(s.heap.push {cls:=.type "list",data:=.seq #[]}).update s.heap.objs.size (Obj.mapSeq (λ_=>(#[]:Array Value)))}).objs.size=s.heap.objs.size+1 from hsz]at z';exact zeo (OD hb) z'
 .obtain⟨h1,h2,h3,h4,h5⟩:=s';have e1:h2=s.gens:=hm.gens;have e2:h3=s.drawn:=hm.drawn;have e3:h5=s.os:=hm.os;subst e1 e2 e3;rfl
end
section
variable {prog:Program}{w:World}{K:Type}[DecidableEq K](knd:KeyKind prog w K)
def It2(h:Heap):List (List K)->LD->Prop:=Paired λk v=>∃ b,v = .ref b/\IsTupleKey knd h k b
def Wr(h:Heap)(ks:List (List K))(a:AD):Prop:=∃ o items n,h.get? a=some o/\o.cls = .type "tuple" /\ o.data = .seq items n/\It2 knd h ks items.toList
variable {knd}
theorem It2.inj :∀{x y:List (List K)}{vs:LD},It2 knd h x vs->It2 knd h y vs->x=y
 |_,_,_,.nil,.nil=>rfl
 |_,_,_,.cons ⟨b,e,i⟩ r,.cons ⟨b',e',i'⟩ r' => by have z:Value.ref b=Value.ref b':=e.symm.trans e';cases z;rw[i.inj i',It2.inj r r']
def Wr.ty{s:SH}{ks:List (List K)}(x:Wr knd s.heap ks a):s.TypeIs (.ref a) "tuple" := let ⟨o,_,_,ho,hc,_⟩:=x;⟨o,ho,hc⟩
theorem Wr.inj{x y:List (List K)}(hx:Wr knd h x a)(hy:Wr knd h y a):x=y:=by obtain⟨o,its,n,ho,_,hd,hi⟩:=hx;obtain⟨o',its',n',ho',_,hd',hi'⟩:=hy;rw[ho]at ho';cases ho';rw[hd]at hd';cases hd';exact hi.inj hi'
theorem It2.map(f:∀ k b,IsTupleKey knd h k b->IsTupleKey knd h' k b):∀{ks:List (List K)}{vs:LD},It2 knd h ks vs->It2 knd h' ks vs
 |_,_,.nil=>.nil
 |_,_,.cons ⟨b,e,i⟩ r=>.cons ⟨b,e,f _ _ i⟩ (It2.map f r)
theorem Wr.keeps{ks:List (List K)}{d:AD}{o:Obj}{es ep}(x:Wr knd h ks a)(ho:h.get? d=some o)(hd:o.data = .dict es ep)(hs:SameBut d h h'):Wr knd h' ks a:=by
 obtain⟨o',its,n,ho',hc,hd',hi⟩:=x;have ne:a≠d:=by rintro rfl;rw[ho]at ho';cases ho';rw[hd]at hd';cases hd'
 exact⟨o',its,n,(hs.2 a ne).trans ho',hc,hd',hi.map λk b i=>i.keeps ho hd hs⟩
noncomputable def zjR(knd:KeyKind prog w K)(ks:List (List K)):Int:=reduceHash (Builtin.Tuple.tupleHashOf (ks.map (tupleKeyHash knd)))
noncomputable def Q0(ks:List (List K)):Nat:=(ks.map λk=>k.length+1).sum
variable {A:Around}{E:Value->SH->Prop}{s:SH}
def zfE{ks:List (List K)}{Q:Int->SH->Prop}(hu:A.units+1<cLine)(hk:Wr knd s.heap ks a)(h:Q (zjR knd ks) {s with toks:=s.toks+(Q0 ks+1)}):wpAny (model prog w) A (pyHash (.ref a)) Q E s:=by
 have hT:=hk.ty;obtain⟨o,items,n,ho,_,hd,hi⟩:=hk;unfold pyHash
 first | unfold pyHashByItsType | skip
 first | refine Ia (wpAny_cRoomFor_or (.inr (by omega)) ?_) | skip
 refine Ia (NC hT F.slot_tuple_hash.lookup ?_);rw[Iw (by rw[beq_builtin_none];exact Ij)];refine Ia (NC hT F.slot_tuple_hash.lookup ?_);refine Ia (m:=callSpecialIfBoundUnlessNone? (.ref a) "__hash__" _) (wpAny_callSpecialIfBoundUnlessNone?_slot hT F.slot_tuple_hash (IL F.slot_tuple_hash hT F.entry_tuple_hash (Ia (m:=Builtin.Tuple.tupleItemsOf (.ref a)) (wpAny_tupleItemsOf ho hd (Ia ?_))) (F.args_tuple_hash_1 _)));rw[← forIn_toList];refine NX _ (λrest (b:Array Int) s' => ∃ done left,ks=done++left/\It2 knd s.heap left rest/\b.toList=done.map (tupleKeyHash knd)/\s'={s with toks:=s.toks+Q0 done}) _ ?_ ?_ _ _ ⟨[],ks,rfl,hi,rfl,rfl⟩
 .rintro x rest b s' ⟨done,left,rfl,hl,hb,rfl⟩;cases hl with
  |@cons k _ ks' _ h1 hl' =>
   obtain⟨c,rfl,hc⟩:=h1;have hdr:Q0 (done++[k])=Q0 done+(k.length+1):=by simp[Q0]
   refine Ia (wpAny_pyHash_tuple (s:={s with toks:=s.toks+Q0 done}) (by show A.units+1<cLine;exact hu) hc ?_);have fin:({s with toks:=s.toks+Q0 done+(k.length+1)}:SH)={s with toks:=s.toks+Q0 (done++[k])}:=by rw[hdr,add_assoc]
   first
    |exact Ic ⟨done++[k],ks',(by simp),hl',by simp[hb],fin⟩
    |exact Ia (Ic (Ic ⟨done++[k],ks',(by simp),hl',by simp[hb],fin⟩))
 .rintro b s' ⟨done,left,rfl,hl,hb,rfl⟩;cases hl;rw[Ng]at h;show wpAny _ _ (retInt (Builtin.Tuple.tupleHashOf b.toList)) _ _ _;rw[hb];refine wpAny_ret_mkInt ?_;unfold zjR at h;generalize Builtin.Tuple.tupleHashOf (done.map (tupleKeyHash knd))=x at h;show wpAny _ _ (if(decide (-(2:Int)^63<=x)&&decide (x<2^63))=true then _ else _) Q E _;unfold reduceHash at h;by_cases hr:(decide (-(2:Int)^63<=x)&&decide (x<2^63))=true
  .rw[IA hr];rw[IA hr]at h;exact Ic (by simpa [add_assoc]using h)
  .rw[Iw hr];rw[Iw hr]at h;exact Ia (N9 (Ic (by simpa [add_assoc]using h)))
def zgV{x y:List (List K)}{b:AD}{P:Fin->SH->Prop}(hu:A.units<cLine)(hx:Wr knd s.heap x a)(hy:Wr knd s.heap y b)(h:P (.done (.ret (.bool (decide (x=y))))) s):wpAny (model prog w) A (Builtin.«tuple.__eq__» ⟨[.ref a,.ref b],[]⟩) P E s:=by
 have hTb:=hy.ty;obtain⟨oa,xs,na,hoa,_,hda,hia⟩:=hx;obtain⟨ob,ys,nb,hob,_,hdb,hib⟩:=hy;refine Ia (m:=isInstance (.ref b) (.type "tuple")) (Nx hTb isSubtype_tuple_tuple ?_);simp only[NW,IW,IG];refine Ia (wpAny_tupleItemsOf hoa hda (Ia (wpAny_tupleItemsOf hob hdb (Ia ?_))));refine NX _ (λrest r s' => r.1=none/\s'=s/\∃ x' y' xs' ys',rest=List.zip xs' ys' /\ It2 knd s.heap x' xs' /\ It2 knd s.heap y' ys' /\ decide (x'=y')=decide (x=y)/\(xs'.length==ys'.length)=(xs.size==ys.size)) _ ?_ ?_ _ _ ⟨rfl,rfl,x,y,xs.toList,ys.toList,rfl,hia,hib,rfl,(by simp)⟩
 .rintro⟨u,v⟩ rest r s' ⟨hr,rfl,x',y',xs',ys',hz,hx',hy',hdec,hlen⟩;cases hx' with
  |nil=>simp at hz
  |@cons k1 u' x'' xs'' h1 hx'' =>
   cases hy' with
   |nil=>simp at hz
   |@cons k2 v' y'' ys'' h2 hy'' =>
    simp only[List.cons.injEq,List.zip_cons_cons,Prod.mk.injEq]at hz;obtain⟨⟨rfl,rfl⟩,rfl⟩:=hz;obtain⟨c1,rfl,i1⟩:=h1;obtain⟨c2,rfl,i2⟩:=h2;refine Ia (wpAny_eqBool_tuple hu i1 i2 ?_);by_cases hk:k1=k2
    .subst hk;rw[Iq rfl];simp only[NW,IW,IG];refine Ic ⟨rfl,rfl,x'',y'',xs'',ys'',rfl,hx'',hy'',?_,by simpa using hlen⟩;rw[← hdec];by_cases hxy:x''=y'' <;> simp[hxy]
    .rw[Iy hk];simp only[Bool.not_false,Ox];have hf:decide (x=y)=false:=by rw[← hdec];simp[hk]
     rw[hf]at h;exact Ia (Ic (Ic (Ic h)))
 .rintro⟨r1,r2⟩ s' ⟨hr,rfl,x',y',xs',ys',hz,hx',hy',hdec,hlen⟩;simp only at hr;subst hr;refine Ic ?_;have e:(xs.size==ys.size)=decide (x=y):=by
   rw[← hdec,← hlen];cases hx' with
   |nil=>cases hy' with
    |nil=>simp
    |cons _ _=>simp
   |cons _ _=>cases hy' with
    |nil=>simp
    |cons _ _=>simp at hz
  show P (.done (.ret (.bool (xs.size==ys.size)))) s';rw[e];exact h
def ziV{x y:List (List K)}{b:AD}{Q:Bool->SH->Prop}(hu:A.units+1<cLine)(hx:Wr knd s.heap x a)(hy:Wr knd s.heap y b)(h:Q (decide (x=y)) s):wpAny (model prog w) A (eqBool (.ref a) (.ref b)) Q E s:=by
 unfold eqBool
 try with_reducible refine IV ?_
 by_cases hab:(Value.ref a==Value.ref b)=true
 .rw[IA hab];have e:a=b:=by have:=eq_of_beq hab;injection this
  subst e;obtain rfl:=hx.inj hy;exact Ia (N9 (Ic (by simpa using h)))
 .rw[Iw hab];exact Ia (wpAny_richCompare_same_room (op:=.Eq) hx.ty hy.ty F.slot_tuple_eq (IL F.slot_tuple_eq hx.ty F.entry_tuple_eq (zgV (by show A.units+1<cLine;exact hu) hx hy ⟨_,rfl,(λe=>nomatch e),N6 h⟩) (F.args_tuple_eq_2 _ _)) (by omega))
def zj9{ks:List K}{m:Nat}{Q:Bool->SH->Prop}(hk:IsTupleKey knd s.heap ks a)(h:Q true s):wpAny (model prog w) A (eqIsQuiet (m+1) (.ref a)) Q E s:=by
 have hT:=hk.typeIs;obtain⟨o,items,n,ho,_,hd,hi⟩:=hk;unfold eqIsQuiet;refine Ia (NC hT F.slot_tuple_eq.lookup (Ia (m:=isInstance (.ref a) (.type "tuple")) (Nx hT isSubtype_tuple_tuple ?_)));simp only[NW,IW,IG];refine Ia (NB ho hd (Ia (m:=forIn items _ _) ?_));rw[← forIn_toList];refine NX _ (λrest r s' => r.1=none/\s'=s/\∀ v∈rest,carriedByValue v=true) _ ?_ ?_ _ _ ⟨rfl,rfl,hi.byValue⟩
 .rintro v rest r s' ⟨hr,rfl,hall⟩;rw[eqIsQuiet_byValue _ (hall v IC)];refine Ia (Ic ?_);simp only[NW,IW,IG];exact Ic ⟨rfl,rfl,λu hu' => hall u (Iz _ hu')⟩
 .rintro⟨r1,r2⟩ s' ⟨hr,rfl,_⟩;simp only at hr;subst hr;exact Ic h
def zkr{ks:List (List K)}{Q:Bool->SH->Prop}(hk:Wr knd s.heap ks a)(h:Q true s):wpAny (model prog w) A (eqIsQuiet 8 (.ref a)) Q E s:=by
 have hT:=hk.ty;obtain⟨o,items,n,ho,_,hd,hi⟩:=hk;unfold eqIsQuiet;refine Ia (NC hT F.slot_tuple_eq.lookup (Ia (m:=isInstance (.ref a) (.type "tuple")) (Nx hT isSubtype_tuple_tuple ?_)));simp only[NW,IW,IG];refine Ia (NB ho hd (Ia (m:=forIn items _ _) ?_));rw[← forIn_toList];refine NX _ (λrest r s' => r.1=none/\s'=s/\∃ left,It2 knd s.heap left rest) _ ?_ ?_ _ _ ⟨rfl,rfl,ks,hi⟩
 .rintro v rest r s' ⟨hr,rfl,left,hl⟩;cases hl with
  |@cons k _ ks' _ h1 hl' =>obtain⟨c,rfl,hc⟩:=h1;refine Ia (zj9 (m:=6) hc ?_);simp only[NW,IW,IG];exact Ic ⟨rfl,rfl,ks',hl'⟩
 .rintro⟨r1,r2⟩ s' ⟨hr,rfl,_⟩;simp only at hr;subst hr;exact Ic h
end
noncomputable def zgr{prog:Program}{w:World}{K:Type}[DecidableEq K](knd:KeyKind prog w K):HeapKind prog w (List (List K)) where
 is:=Wr knd
 hash:=zjR knd
 draws:=λks=>Q0 ks+1
 room:=λA=>A.units+1<cLine
 inj:=λhx hy=>hx.inj hy
 keeps:=λx ho hd hs=>x.keeps ho hd hs
 pyHash:=λhu hk h=>zfE hu hk h
 eqBool:=λhu hx hy h=>ziV hu hx hy h
 quiet:=λhk h=>zkr hk h
abbrev KX:=List (List Key)
noncomputable def zbm(k:KX):PD:=.tuple (k.map λl=>.tuple (l.map kD))
def zni(P:Program)(w:World)(a:AD)(xs:List (KX×AD))(h:Heap):Prop:=(a==sysModules)=false/\xs.length<=sizeLine/\∃ o es ep,h.get? a=some o/\o.ExactDict/\o.data = .dict es ep/\es.toList=xs.map (λx=>entryOfKey (zgr (Xh P w)) (x.1,x.2,.bool true))/\(xs.map (·.1)).Nodup
noncomputable def dX(P:Program)(w:World)(a:AD)(xs:List (KX×AD)):HO:=.ext (zni P w a xs)
noncomputable def zlT(xs:List (KX×AD))(k:KX):Bool:=xs.any λx=>decide (x.1=k)
def zaK{xs:List (KX×AD)}{k:KX}:zlT xs k=true↔k∈xs.map (·.1):=by
 unfold zlT;rw[any_eq_true];constructor
 .rintro⟨x,hx,e⟩;exact NI.mpr ⟨x,hx,Ir e⟩
 .intro h;obtain⟨x,hx,e⟩:=NI.mp h;exact⟨x,hx,Iq e⟩
noncomputable def zhk(xs:List (KX×AD))(k:KX)(b:AD):List (KX×AD):=if zlT xs k=true then xs else xs++[(k,b)]
def zhw{P:Program}{w:World}{xs:List (KX×AD)}(x:zni P w a xs h):Yt P w H h a (dX P w a xs):=by
 refine⟨x,?_,λh1 h2 y k=>?_⟩
 .obtain⟨_,_,o,_,_,e,_⟩:=x;exact⟨o,e⟩
 .obtain⟨z1,z2,o,es,ep,e,r⟩:=y;exact⟨z1,z2,o,es,ep,k o e,r⟩
section
variable {X:Cx}{aa:List (Addr×Obj)}{σ:St}{H G:Hp}{s:SH}
theorem zhA(I:Inv X aa σ H s)(sg:ZF G H):∀{k:KX}{xs:LC}{its:LD},Vals xs its->Yl X.K G xs (k.map λl=>.tuple (l.map kD))->It2 (Xh X.prog X.w) s.heap k its
 |[],_,_,r,h=>by have e:=h.nil;subst e;cases r;exact .nil
 |l::k,_,_,r,h=>by
  obtain⟨y,ys,rfl,hy,hr⟩:=h.cons;cases r with
  |cons r1 r2=>
   obtain⟨p,zs,rfl,hp,hz⟩:=Dat.tup hy;cases r1;obtain⟨jts,rj,⟨o,h1,h2,n,h3⟩,zz⟩:=I.tuple (sg.tup hp);clear zz;have e:zs=l.map kV:=by
    clear rj hp hr r2 hy h
    induction l generalizing zs with
    |nil=>exact hz.nil
    |cons q l ih=>obtain⟨u,us,rfl,hu,hus⟩:=hz.cons;rw[znw hu,ih us hus];rfl
   subst e;exact .cons ⟨p,rfl,o,jts.toArray,n,h1,h2,h3,by simpa using zbY rj⟩ (zhA I sg r2 hr)
def zb1(I:Inv X aa σ H s)(sg:ZF G H){k:KX}{b:AD}(h:Dat X.K G (.ref b) (zbm k)):Wr (Xh X.prog X.w) s.heap k b:=by obtain⟨p,xs,e,hp,hx⟩:=Dat.tup h;cases e;obtain⟨its,r,⟨o,h1,h2,n,h3⟩,_⟩:=I.tuple (sg.tup hp);exact⟨o,its.toArray,n,h1,h2,h3,by simpa using zhA I sg r hx⟩
def zkS(P:Program)(w:World):TE:=λ_ H Q=>∀ p,H p=none->Q (.ref p) (upd H p (dX P w p []))
def zgE{P:Program}{w:World}(eP:X.prog=P)(ew:X.w=w):PE X (.Dict [] [] pos) (zkS P w):=by
 subst eP ew;exact λaa s σ H Q I h=>
 wpAny_Dict_empty ⟨.ref s.heap.objs.size,_,I.laid (a:=s.heap.objs.size) (o:=dX X.prog X.w s.heap.objs.size []) (t':=s.toks) (λ_ _ q=>Ie _ q) (Ih _)
  (zhw ⟨beq_eq_false_iff_ne.mpr (Ne.symm (IM I.big)),Nl _,_,#[],0,Il _ rfl,⟨rfl,rfl,rfl⟩,rfl,rfl,nodup_nil⟩),rfl,h _ (I.ac.fresh (Ih _))⟩
def zkW(P:Program)(w:World)(K:FG)(td ty tv:TE):TS:=λD σ H=>tv σ H λv H1=>td σ H1 λx H2=>ty σ H2 λy H3=>∃(a b:AD)(k:KX)(xs:List (KX×AD))(G:Hp),v = .bl true/\x = .ref a/\y = .ref b/\H3 a=some (dX P w a xs)/\ZF G H3/\Dat K G (.ref b) (zbm k)/\(∀ z∈xs,Dat K G (.ref z.2) (zbm z.1))/\xs.length<sizeLine/\D.nx σ (upd H3 a (dX P w a (zhk xs k b)))
theorem zac{P:Program}{w:World}:∀(xs:List (KX×AD))(k:KX),(atKey (xs.map λx=>(x.1,x.2,Value.bool true)) k=none↔k∉xs.map (·.1))
 |[],k=>by simp[atKey]
 |x::r,k=>by
  have ih:=zac (P:=P) (w:=w) r k;unfold atKey at ih ⊢;by_cases h:x.1=k
  .simp[OF,h]
  .have h' : ¬ k=x.1:=λe=>h e.symm;simp only[Nb,OF,h,decide_false,ID,h',false_or];exact ih
def zdM{P:Program}{w:World}(xs:List (KX×AD))(k:KX)(b:AD):storedH (xs.map λx=>(x.1,x.2,Value.bool true)) k b (.bool true)=(zhk xs k b).map λx=>(x.1,x.2,Value.bool true):=by
 by_cases h:k∈xs.map (·.1)
 .have hn:atKey (xs.map λx=>(x.1,x.2,Value.bool true)) k≠none:=λe=>((zac (P:=P) (w:=w) xs k).mp e) h;obtain⟨p,hp⟩:=Option.ne_none_iff_exists'.mp hn;rw[storedH_old hp,zhk,IA (zaK.mpr h),Oy];refine List.map_congr_left λx _=>?_;show putAt k (.bool true) (x.1,x.2,.bool true)=_;unfold putAt;split <;> rfl
 .rw[storedH_new ((zac (P:=P) (w:=w) xs k).mpr h),zhk,Iw (λz=>h (zaK.mp z)),Ni];rfl
def zgp{P:Program}{w:World}{K:FG}(eP:X.prog=P)(ew:X.w=w)(eK:X.K=K){o i value:Expr}{pos':Pos}{td ty tv:TE}(hu:X.A.units+64<cLine)(ho:PE X o td)(hi:PE X i ty)(hv:PE X value tv)(hs:swapsWith value (some (.Subscript o i pos')) pos.line X.env=pure false):
  PS X (.Assign [.Subscript o i pos'] value pos) (zkW P w K td ty tv):=by
 subst eP ew eK;intro aa s σ H D I h;refine wpAny_Assign_Subscript (thn (hv aa s σ H _ I h) λr s1 ⟨v,H1,I1,rv,q1⟩=>thn (ho aa s1 σ H1 _ I1 q1) λu s2 ⟨x,H2,I2,rx,q2⟩=>thn (hi aa s2 σ H2 _ I2 q2) λiv s3 ⟨y,H3,I3,ry,a,b,k,xs,G,ev,ex,ey,ha,sg,hb,hxs,hl,q3⟩=>?_) hs;subst ev ex ey;obtain rfl:r=Value.bool true:=rv;obtain rfl:u=Value.ref a:=rx;obtain rfl:iv=Value.ref b:=ry;obtain⟨⟨hsm,_,o',es,ep,h1,h2,h3,h4,h5⟩,_⟩:=(show Yt X.prog X.w H3 s3.heap a (dX X.prog X.w a xs)from I3.ac a _ ha)
 have dd:s3.heap.DictOfH (zgr (Xh X.prog X.w)) a (xs.map λx=>(x.1,x.2,Value.bool true)):=⟨o',es,ep,h1,h2,h3,by rw[h4,Oy];rfl,λz hz=>by
  obtain⟨x,hx,rfl⟩:=NI.mp hz;exact zb1 I3 sg (hxs x hx),by rw[Oy];exact h5⟩
 refine wpAny_setItem_heap (hsz:=by rw[Ig];omega) (show X.A.units+1+1<cLine by omega) (zb1 I3 sg hb) dd λh' dd' hs=>?_;rw[zdM (P:=X.prog) (w:=X.w)]at dd';obtain⟨q,es',ep',hq,g2,g3,g4,_,g5⟩:=dd';have hlen:(zhk xs k b).length<=sizeLine:=by
  unfold zhk;split
  .omega
  .rw[Iv];show xs.length+1<=sizeLine;omega
 exact⟨σ,_,zfz I3 (by rw[ha];exact True.intro) hs ⟨q,hq⟩ (zhw ⟨hsm,hlen,q,es',ep',hq,g2,g3,by rw[g4,Oy];rfl,by rw[Oy]at g5;exact g5⟩),q3⟩
def zmx(P:Program)(w:World):LC->Hp->VK->Prop:=λvs H Q=>∃(a:AD)(xs:List (KX×AD)),vs=[.ref a]/\H a=some (dX P w a xs)/\∀ l,H l=none->Q (.ref l) (upd H l (.lst (xs.map λx=>V.ref x.2)))
def zd6{P:Program}{w:World}(eP:X.prog=P)(ew:X.w=w)(hc:X.calm=true):zai X (.type "list") (zmx P w):=by
 subst eP ew;intro aa s σ H xs us Q I r h;obtain⟨a,ks,rfl,ha,q⟩:=h;obtain⟨u,rfl,rx⟩:=vals1 r;cases rx;obtain⟨⟨hsm,hl,o',es,ep,h1,h2,h3,h4,h5⟩,_⟩:=(show Yt X.prog X.w H s.heap a (dX X.prog X.w a ks)from I.ac a _ ha)
 have hsz:es.size=ks.length:=by rw[← length_toList,h4,Ig]
 refine zah (I.ok.hd hc) hsm ⟨o',h1,h2,h3⟩ (by omega) λs' acc c' hk hs' hS hacc=>?_;have hv:Vals (ks.map λx=>V.ref x.2) acc.toList:=by
  have e:acc.toList=ks.map λx=>Value.ref x.2:=by
   refine List.ext_getElem? λj=>?_;rw[Io,getElem?_toList];cases ev:acc[j]? with
   |none=>
    have hj:acc.size<=j:=by simpa using ev
    rw[List.getElem?_eq_none (by rw[← hsz,← hacc.1];exact hj)];rfl
   |some v=>
    obtain⟨en,he,rfl⟩:=hacc.2 j v ev;rw[← getElem?_toList,h4,Io]at he;cases ek:ks[j]? with
    |none=>rw[ek]at he;cases he
    |some x=>rw[ek]at he;cases he;rfl
  rw[e];have key:∀ l:List (KX×AD),Vals (l.map λx=>V.ref x.2) (l.map λx=>Value.ref x.2):=λl=>by
   induction l with
   |nil=>exact .nil
   |cons x r ih=>exact .cons rfl ih
  exact key ks
 rw[hs'];exact⟨.ref s.heap.objs.size,_,I.laid (t':=s'.toks) hk (Ih _) (show Yt X.prog X.w _ s'.heap _ (.lst (ks.map λx=>V.ref x.2))from⟨by rw[Ig];exact hl,acc.toList,c',hv,by rw[hS]⟩),rfl,q _ (I.ac.fresh (Ih _))⟩
end
structure Zap(z TI TO i1 i2:AD)(f1 f2:LG):Prop where
 iz:TI≠z
 oz:TO≠z
 az:i1≠z
 bz:i2≠z
 io:TI≠TO
 ia:TI≠i1
 ib:TI≠i2
 oa:TO≠i1
 ob:TO≠i2
 ab:i1≠i2
 z1:z∉f1
 z2:z∉f2
 o1:TO∉f1
 o2:TO∉f2
 b1:i2∉f1
 a2:i1∉f2
section
variable {prog:Program}{w:World}{A:Around}{E:Value->SH->Prop}{s:SH}{z TI TO i1 i2:AD}{f1 f2:LG}{n1 n2 k:Nat}{P1 P2:Nat->Value->Prop}{S1 S2:Nat->Heap->Prop}{a b:Value}
def W5{d:AD}{f:LG}(h:d∉f)(hc:c∈f):c≠d:=λe=>h (e ▸ hc)
def zjH(Z:Zap z TI TO i1 i2 f1 f2)(D1:Draws prog w A i1 f1 n1 P1 S1)(D2:Draws prog w A i2 f2 n2 P2 S2)(hz:IsZip s.heap z TI TO .none)(ht:IsPair s.heap TI (.ref i1) (.ref i2))(ho:IsPair s.heap TO a b)(t1:S1 k s.heap)(t2:S2 k s.heap)(k1:k<n1)(k2:k<n2)(q:∀ x y h' tk,P1 k x->P2 k y->IsZip h' z TI TO (rawInt s.heap.objs.size)->IsPair h' TO x y->S1 (k+1) h' -> S2 (k+1) h' -> IsPair h' s.heap.objs.size x y->
   (∀ c o,c≠z->c≠TO->c≠i1->c≠i2->s.heap.get? c=some o->h'.get? c=some o)->Q (.ref s.heap.objs.size) {s with heap:=h',toks:=tk}):
  wpAny (model prog w) A (Builtin.«zip.__next__» ⟨[.ref z],[]⟩) (λfin s' => ∃ v,fin = .done (.ret v)/\Q v s') E s:=by
 refine Ia (m:=field (.ref z) 2) (IR hz rfl (x:=.bool false) rfl (Ia (m:=field (.ref z) 3) (IR hz rfl (x:=.ref TI) rfl (Ia (NB ht rfl ?_)))));refine Ia (m:=Builtin.SmallTypes.ownedTupleIsFree (.ref z)) ?_;unfold Builtin.SmallTypes.ownedTupleIsFree;refine Ia (IR hz rfl (x:=.none) rfl (Ic ?_));rw[IA (by simp)];refine Ia (N9 (Ia (IR hz rfl (x:=.ref TO) rfl (Ia (N1 hz (by simp) λg1 (z1:IsZip g1 z TI TO .ellipsis) e1=>Ia ?_)))));simp only[List.zipIdx_cons,forIn_cons,List.zipIdx_nil,List.forIn_nil];refine Ia (Ia (wpAny_onRaise (Ia (m:=Builtin.SmallTypes.nextOf (.ref i1)) ?_)));refine D1.item k _ _ _ k1 (D1.frame _ _ _ t1 λc hc o e=>e1.extBut _ _ (W5 Z.z1 hc) e) λx g2 tk2 px u1 e2=>Ic ?_;dsimp only at e2 ⊢;have o2:IsPair g2 TO a b:=e2.extBut _ _ Z.oa (e1.extBut _ _ Z.oz ho);refine Ia (NB o2 rfl (Ia (wpAny_updateSeq_pair o2 λg3 (o3:IsPair g3 TO x b) e3=>Ia (wpAny_letGo (Ic ?_)))));refine Ia (Ia (wpAny_onRaise (Ia (m:=Builtin.SmallTypes.nextOf (.ref i2)) ?_)));refine D2.item k _ _ _ k2 (D2.frame _ _ _ t2 λc hc o e=>e3.extBut _ _ (W5 Z.o2 hc) (e2.extBut _ _ (W5 Z.a2 hc) (e1.extBut _ _ (W5 Z.z2 hc) e))) λy g4 tk4 py u2 e4=>Ic ?_;dsimp only at e4 ⊢;have o4:IsPair g4 TO x b:=e4.extBut _ _ Z.ob o3;refine Ia (NB o4 rfl (Ia (wpAny_updateSeq_pair o4 λg5 (o5:IsPair g5 TO x y) e5=>Ia (wpAny_letGo (Ic (Ic (Ia (NB o5 rfl (Ia (wpAny_newTuple ?_))))))))));have z5:IsZip g5 z TI TO .ellipsis:=e5.extBut _ _ Z.oz.symm (e4.extBut _ _ Z.bz.symm (e3.extBut _ _ Z.oz.symm (e2.extBut _ _ Z.az.symm z1)));have sz:g5.objs.size=s.heap.objs.size:=by rw[e5.1,e4.1,e3.1,e2.1,e1.1]
 have kp:∀ c o,c≠z->c≠TO->c≠i1->c≠i2->s.heap.get? c=some o->g5.get? c=some o:=λc o c1 c2 c3 c4 e=>e5.extBut _ _ c2 (e4.extBut _ _ c4 (e3.extBut _ _ c2 (e2.extBut _ _ c3 (e1.extBut _ _ c1 e))));have u15:S1 (k+1) g5:=D1.frame _ _ _ u1 λc hc o e=>e5.extBut _ _ (W5 Z.o1 hc) (e4.extBut _ _ (W5 Z.b1 hc) (e3.extBut _ _ (W5 Z.o1 hc) e));have u25:S2 (k+1) g5:=D2.frame _ _ _ u2 λc hc o e=>e5.extBut _ _ (W5 Z.o2 hc) e;have lz:=IB z5;refine Ia (m:=Builtin.SmallTypes.ownedTupleHandOut (.ref z) (.ref g5.objs.size)) ?_;unfold Builtin.SmallTypes.ownedTupleHandOut;have z6:IsZip (g5.push {cls:=.type "tuple",data:=.seq #[x,y]}) z TI TO .ellipsis:=Ie _ z5;refine Ia (N1 z6 (by simp) λg7 (z7:IsZip g7 z TI TO (rawInt g5.objs.size)) e7=>N1 z7 (by simp) λg8 (z8:IsZip g8 z TI TO (rawInt g5.objs.size)) e8=>?_);have up:∀ c o,c≠z->g5.get? c=some o->g8.get? c=some o:=λc o c1 e=>e8.extBut _ _ c1 (e7.extBut _ _ c1 (Ie _ e));have t8:IsPair g8 g5.objs.size x y:=e8.extBut _ _ (ne_of_gt lz) (e7.extBut _ _ (ne_of_gt lz) (Il _ rfl));refine Ic ⟨.ref g5.objs.size,rfl,?_⟩;rw[sz]at z8 t8 ⊢;exact q x y g8 _ px py z8 (up _ _ Z.oz o5) (D1.frame _ _ _ u15 λc hc o e=>up c o (W5 Z.z1 hc) e) (D2.frame _ _ _ u25 λc hc o e=>up c o (W5 Z.z2 hc) e) t8 λc o c1 c2 c3 c4 e=>up c o c1 (kp c o c1 c2 c3 c4 e)
def zka{Q:Fin->SH->Prop}(Z:Zap z TI TO i1 i2 f1 f2)(D1:Draws prog w A i1 f1 n1 P1 S1)(D2:Draws prog w A i2 f2 n2 P2 S2)(hz:IsZip s.heap z TI TO .none)(ht:IsPair s.heap TI (.ref i1) (.ref i2))(ho:IsPair s.heap TO a b)(t1:S1 k s.heap)(t2:S2 k s.heap)(hk:k=n1\/(k<n1/\k=n2))(q:∀ h' e tk,(∀ c o,c≠z->c≠TO->c≠i1->c≠i2->s.heap.get? c=some o->h'.get? c=some o)->(∃ o,h'.get? e=some o/\o.cls = .type "StopIteration")->E (.ref e) {s with heap:=h',toks:=tk}):
  wpAny (model prog w) A (Builtin.«zip.__next__» ⟨[.ref z],[]⟩) Q E s:=by
 refine Ia (m:=field (.ref z) 2) (IR hz rfl (x:=.bool false) rfl (Ia (m:=field (.ref z) 3) (IR hz rfl (x:=.ref TI) rfl (Ia (NB ht rfl ?_)))));refine Ia (m:=Builtin.SmallTypes.ownedTupleIsFree (.ref z)) ?_;unfold Builtin.SmallTypes.ownedTupleIsFree;refine Ia (IR hz rfl (x:=.none) rfl (Ic ?_));rw[IA (by simp)];refine Ia (N9 (Ia (IR hz rfl (x:=.ref TO) rfl (Ia (N1 hz (by simp) λg1 (z1:IsZip g1 z TI TO .ellipsis) e1=>Ia ?_)))));simp only[List.zipIdx_cons,forIn_cons,List.zipIdx_nil,List.forIn_nil];refine Ia (Ia (wpAny_onRaise (Ia (m:=Builtin.SmallTypes.nextOf (.ref i1)) ?_)));have fr1:S1 k g1:=D1.frame _ _ _ t1 λc hc o e=>e1.extBut _ _ (W5 Z.z1 hc) e;rcases hk with rfl | ⟨k1,rfl⟩
 .refine D1.done _ _ _ fr1 λg2 e e2 he=>?_;obtain⟨oe,hoe,hce⟩:=he;have z2:IsZip g2 z TI TO .ellipsis:=e2 _ _ Z.az.symm z1;have ez:e≠z:=λx=>by subst x;rw[z2]at hoe;cases hoe;simp at hce
  exact N1 z2 (by simp) λg3 _ e3=>q g3 e _ (λc o c1 _ c3 _ x=>e3.extBut _ _ c1 (e2 _ _ c3 (e1.extBut _ _ c1 x))) ⟨oe,e3.extBut _ _ ez hoe,hce⟩
 .refine D1.item k _ _ _ k1 fr1 λx g2 tk2 px u1 e2=>Ic ?_;dsimp only at e2 ⊢;have o2:IsPair g2 TO a b:=e2.extBut _ _ Z.oa (e1.extBut _ _ Z.oz ho);refine Ia (NB o2 rfl (Ia (wpAny_updateSeq_pair o2 λg3 (o3:IsPair g3 TO x b) e3=>Ia (wpAny_letGo (Ic ?_)))));refine Ia (Ia (wpAny_onRaise (Ia (m:=Builtin.SmallTypes.nextOf (.ref i2)) ?_)));refine D2.done _ _ _ (D2.frame _ _ _ t2 λc hc o e=>e3.extBut _ _ (W5 Z.o2 hc) (e2.extBut _ _ (W5 Z.a2 hc) (e1.extBut _ _ (W5 Z.z2 hc) e))) λg4 e e4 he=>?_;dsimp only at e4 ⊢;obtain⟨oe,hoe,hce⟩:=he;have z4:IsZip g4 z TI TO .ellipsis:=e4 _ _ Z.bz.symm (e3.extBut _ _ Z.oz.symm (e2.extBut _ _ Z.az.symm z1));have ez:e≠z:=λx=>by subst x;rw[z4]at hoe;cases hoe;simp at hce
  exact N1 z4 (by simp) λg5 _ e5=>q g5 e _ (λc o c1 c2 c3 c4 x=>e5.extBut _ _ c1 (e4 _ _ c4 (e3.extBut _ _ c2 (e2.extBut _ _ c3 (e1.extBut _ _ c1 x))))) ⟨oe,e5.extBut _ _ ez hoe,hce⟩
end
abbrev lIt(l:AD):Obj:={cls:=.type "list_iterator",data:=.fields #[.ref l,.int 0 0]}
abbrev yq2(h:Heap)(l1 l2:AD):Heap:=(h.push (lIt l1)).push (lIt l2)
abbrev yq4(h:Heap)(l1 l2:AD):Heap:=((yq2 h l1 l2).push {cls:=.type "tuple",data:=.seq #[.ref h.objs.size,.ref (h.push (lIt l1)).objs.size]}).push {cls:=.type "tuple",data:=.seq #[.none,.none]}
abbrev yq5(h:Heap)(l1 l2:AD):Heap:=(yq4 h l1 l2).push {cls:=.type "zip",data:=.fields #[.none,.bool false,.bool false,.ref (yq2 h l1 l2).objs.size,.ref ((yq2 h l1 l2).push {cls:=.type "tuple",data:=.seq #[.ref h.objs.size,.ref (h.push (lIt l1)).objs.size]}).objs.size]}
def IsList.zml{l:AD}{xs:Array Value}(hl:h.IsList l xs)(o:Obj):(h.push o).IsList l xs:=by obtain⟨ob,e,r⟩:=hl;exact⟨ob,Ie _ e,r⟩
def zgW(l1 l2:AD)(xs ys:Array Value):
  Meets (Builtin.«zip.__new__» ⟨[.type "zip",.ref l1,.ref l2],[]⟩) (λ_ R s=>s.heap.IsList l1 xs/\s.heap.IsList l2 ys/\R (.ok (.ret (.ref (yq4 s.heap l1 l2).objs.size))) {s with heap:=yq5 s.heap l1 l2}):=
 .of_wp λprog w A R s h=>by
  obtain⟨hp,g,d,tk,os⟩:=s;obtain⟨t1,t2,h⟩:=h;have q0:=sub_zip;have q1:Heap.IsList (Shared.heap ⟨hp,g,d,tk,os⟩) l1 xs:=t1;have q2:Heap.IsList (Shared.heap ⟨hp.push (lIt l1),g,d,tk,os⟩) l2 ys:=IsList.zml t2 _
  wp_walk using wpAny_pyIter_list q1,wpAny_pyIter_list q2
  exact⟨_,rfl,h⟩
section
variable {prog:Program}{w:World}{A:Around}{E:Value->SH->Prop}{s:SH}
def zet{l1 l2:AD}{xs ys:Array Value}(q1:s.heap.IsList l1 xs)(q2:s.heap.IsList l2 ys)(h:∀ h',IsZip h' (s.heap.objs.size+4) (s.heap.objs.size+2) (s.heap.objs.size+3) .none->IsPair h' (s.heap.objs.size+2) (.ref s.heap.objs.size) (.ref (s.heap.objs.size+1))->IsPair h' (s.heap.objs.size+3) .none .none->
   h'.IsListIter s.heap.objs.size l1 0->h'.IsListIter (s.heap.objs.size+1) l2 0->(∀ c o,s.heap.get? c=some o->h'.get? c=some o)->Q (.ref (s.heap.objs.size+4)) {s with heap:=h'}):
  wpAny (model prog w) A (call (.type "zip") [.ref l1,.ref l2]) Q E s:=by
 refine callType_new F.called_zip (by decide) (F.typeCall_zip_2 _ _) (F.newCall_zip_2 _ _) (λobj=>F.args_object_init_3 obj _ _) F.entry_zip_new (zgW l1 l2 xs ys) ⟨q1,q2,?_⟩;have a1:(s.heap.push (lIt l1)).objs.size=s.heap.objs.size+1:=NA ..;have a2:(yq2 s.heap l1 l2).objs.size=s.heap.objs.size+2:=by rw[NA,a1]
 have a3:((yq2 s.heap l1 l2).push {cls:=.type "tuple",data:=.seq #[.ref s.heap.objs.size,.ref (s.heap.push (lIt l1)).objs.size]}).objs.size=s.heap.objs.size+3:=by rw[NA,a2]
 have a4:(yq4 s.heap l1 l2).objs.size=s.heap.objs.size+4:=by rw[NA,a3]
 have u:∀{hh:Heap}{o:Obj}{c:AD}{ob:Obj},hh.get? c=some ob->(hh.push o).get? c=some ob:=λe=>Ie _ e;have g5:(yq5 s.heap l1 l2).get? (yq4 s.heap l1 l2).objs.size=some _:=Il _ rfl;have g4:(yq5 s.heap l1 l2).get? ((yq2 s.heap l1 l2).push {cls:=.type "tuple",data:=.seq #[.ref s.heap.objs.size,.ref (s.heap.push (lIt l1)).objs.size]}).objs.size=some _:=u (Il _ rfl);have g3:(yq5 s.heap l1 l2).get? (yq2 s.heap l1 l2).objs.size=some _:=u (u (Il _ rfl));have g2:(yq5 s.heap l1 l2).get? (s.heap.push (lIt l1)).objs.size=some (lIt l2):=u (u (u (Il _ rfl)));have g1:(yq5 s.heap l1 l2).get? s.heap.objs.size=some (lIt l1):=u (u (u (u (Il _ rfl))));rw[a2,a3,a4]at g5;rw[a1,a2]at g3;rw[a3]at g4;rw[a1]at g2;show _/\_;rw[a4];exact⟨⟨_,g5,rfl⟩,h _ g5 g3 g4 ⟨_,g1,rfl,rfl⟩ ⟨_,g2,rfl,rfl⟩ λc o x=>u (u (u (u (u x))))⟩
def zjz{z TI TO:AD}{f1 f2:LG}{n1 n2:Nat}{P1 P2:Nat->Value->Prop}{S1 S2:Nat->Heap->Prop}{a b:Value}{Q:LF->SH->Prop}(Z:Zap z TI TO i1 i2 f1 f2)(D1:Draws prog w A.in1 i1 f1 n1 P1 S1)(D2:Draws prog w A.in1 i2 f2 n2 P2 S2)(hz:IsZip s.heap z TI TO .none)(ht:IsPair s.heap TI (.ref i1) (.ref i2))(ho:IsPair s.heap TO a b)(t1:S1 k s.heap)(t2:S2 k s.heap)(k1:k<n1)(k2:k<n2)(q:∀ x y h' tk,P1 k x->P2 k y->IsZip h' z TI TO (rawInt s.heap.objs.size)->IsPair h' TO x y->S1 (k+1) h' -> S2 (k+1) h' -> IsPair h' s.heap.objs.size x y->
   (∀ c o,c≠z->c≠TO->c≠i1->c≠i2->s.heap.get? c=some o->h'.get? c=some o)->Q (some (.ref s.heap.objs.size)) {s with heap:=h',toks:=tk}):wpAny (model prog w) A (pyNext (.ref z)) Q E s:=by
 have hT:s.TypeIs (.ref z) "zip" := ⟨_,hz,rfl⟩
 unfold pyNext;exact Ia (NG (IP (name:=Str.ofString "__next__") hT F.slot_zip_next (IL F.slot_zip_next hT F.entry_zip_next (zjH Z D1 D2 hz ht ho t1 t2 k1 k2 λx y h' tk p1 p2 b1 b2 b3 b4 b5 b6=>Ic (q x y h' tk p1 p2 b1 b2 b3 b4 b5 b6)) (F.args_zip_next_1 _))))
def zjp{z TI TO:AD}{f1 f2:LG}{n1 n2:Nat}{P1 P2:Nat->Value->Prop}{S1 S2:Nat->Heap->Prop}{a b:Value}{Q:LF->SH->Prop}(Z:Zap z TI TO i1 i2 f1 f2)(D1:Draws prog w A.in1 i1 f1 n1 P1 S1)(D2:Draws prog w A.in1 i2 f2 n2 P2 S2)(hz:IsZip s.heap z TI TO .none)(ht:IsPair s.heap TI (.ref i1) (.ref i2))(ho:IsPair s.heap TO a b)(t1:S1 k s.heap)(t2:S2 k s.heap)(hk:k=n1\/(k<n1/\k=n2))(q:∀ h' tk,(∀ c o,c≠z->c≠TO->c≠i1->c≠i2->s.heap.get? c=some o->h'.get? c=some o)->Q none {s with heap:=h',toks:=tk}):wpAny (model prog w) A (pyNext (.ref z)) Q E s:=by
 have hT:s.TypeIs (.ref z) "zip" := ⟨_,hz,rfl⟩
 unfold pyNext;refine Ia (NG (IP (name:=Str.ofString "__next__") hT F.slot_zip_next (IL F.slot_zip_next hT F.entry_zip_next (zka Z D1 D2 hz ht ho t1 t2 hk λh' e tk hk' he=>?_) (F.args_zip_next_1 _))));obtain⟨o,ho',hc⟩:=he;exact Ia (Nx (T:= "StopIteration") (b:=true) ⟨o,ho',hc⟩ isSubtype_stop (Ic (q _ _ hk')))
end
noncomputable def zkR(K:FG)(a1 a2:AD):It:=
 ⟨λi H=>∃ xs x ys y,SqL K H a1 xs/\xs[i]?=some x/\SqL K H a2 ys/\ys[i]?=some y,λi H v H' => ∃ p x y,H p=none/\v = .ref p/\H'=upd H p (.tup [x,y])/\(∀ xs,SqL K H a1 xs->xs[i]?=some x)/\∀ ys,SqL K H a2 ys->ys[i]?=some y,
  λi H=>∃ xs ys,SqL K H a1 xs/\SqL K H a2 ys/\(i=xs.length\/(i<xs.length/\i=ys.length))⟩
def zfB{P:Program}{w:World}{K:FG}{elts:List Expr}{a1 a2 z TI TO:AD}(Z:Zap z TI TO i1 i2 [i1,a1] [i2,a2])(n1:a1≠i1)(n2:a2≠i2):Turn P w K (.Tuple elts tk tpos) (zkR K a1 a2) [z,TI,TO,i1,i2] z (λi h=>IsZip h z TI TO .none/\IsPair h TI (.ref i1) (.ref i2)/\(∃ a b,IsPair h TO a b)/\h.IsListIter i1 a1 i/\h.IsListIter i2 a2 i) where
 mem:=by simp
 obj:=λi h st c hc=>by
  obtain⟨hz,ht,⟨a,b,ho⟩,⟨o1,e1,_,d1⟩,⟨o2,e2,_,d2⟩⟩:=st;simp only[ID,IX,NK]at hc;rcases hc with rfl | rfl | rfl | rfl | rfl
  .exact⟨_,hz,λv q=>by cases q⟩
  .exact⟨_,ht,λv q=>by cases q⟩
  .exact⟨_,ho,λv q=>by cases q⟩
  .exact⟨o1,e1,λv q=>by rw[d1]at q;cases q⟩
  .exact⟨o2,e2,λv q=>by rw[d2]at q;cases q⟩
 keep:=λi h h' st k=>by obtain⟨hz,ht,⟨a,b,ho⟩,⟨o1,e1,r1⟩,⟨o2,e2,r2⟩⟩:=st;exact⟨k z (by simp) _ hz,k TI (by simp) _ ht,⟨a,b,k TO (by simp) _ ho⟩,⟨o1,k i1 (by simp) _ e1,r1⟩,⟨o2,k i2 (by simp) _ e2,r2⟩⟩
 item:=by
  intro X hP hw hK hc i aa s σ H E I hf st hg;subst hP hw hK;obtain⟨xs,x,ys,y,hq1,hx,hq2,hy⟩:=hg;obtain⟨its1,rv1,p1,_⟩:=I.list hq1;obtain⟨its2,rv2,p2,_⟩:=I.list hq2;obtain⟨u1,hu1,ru1⟩:=rv1.get hx;obtain⟨u2,hu2,ru2⟩:=rv2.get hy;obtain⟨hz,ht,⟨a,b,ho⟩,t1,t2⟩:=st;have l1:i<its1.toArray.size:=by have:=(Ik.mp hu1).1;simpa using this
  have l2:i<its2.toArray.size:=by have:=(Ik.mp hu2).1;simpa using this
  have hh:X.A.in1.handled=none:=I.ok.hd hc;refine zjz Z (Draws.list hh i1 a1 n1 its1.toArray) (Draws.list hh i2 a2 n2 its2.toArray) hz ht ho ⟨t1,p1.isList⟩ ⟨t2,p2.isList⟩ l1 l2 λx' y' h' tk' hP1 hP2 b1 b2 b3 b4 b5 b6=>?_;have ex:x'=u1:=by
   have:its1[i]?=some x':=by simpa using hP1
   rw[hu1]at this;exact(Ip this).symm
  have ey:y'=u2:=by
   have:its2[i]?=some y':=by simpa using hP2
   rw[hu2]at this;exact(Ip this).symm
  subst ex ey;refine⟨_,rfl,wpAny_letOwnedTupleGo_zip b1 λh2 hz2 hs2=>?_⟩;have zt:z≠s.heap.objs.size:=IM (IB hz);have new:Yt X.prog X.w (upd H s.heap.objs.size (.tup [x,y])) h2 s.heap.objs.size (.tup [x,y]):=⟨by show 2<=sizeLine;decide,[x',y'],.cons ru1 (.cons ru2 .nil),⟨_,(hs2.2 _ (Ne.symm zt)).trans b5,rfl,_,rfl⟩,_,(hs2.2 _ (Ne.symm zt)).trans b5,rfl⟩
  have kk:∀ b o,b∉[z,TI,TO,i1,i2]->s.heap.get? b=some o->h2.get? b=some o:=λb o hb q=>by simp only[ID,IX,NK,not_or]at hb;exact(hs2.2 b hb.1).trans (b6 b o hb.1 hb.2.2.1 hb.2.2.2.1 hb.2.2.2.2 q)
  have fresh:=I.ac.fresh (Ih s.heap.objs.size);refine⟨.ref s.heap.objs.size,_,I.zbd (t':=tk') kk hf (Ih _) new,rfl,⟨_,x,y,fresh,rfl,rfl,λzs hy' => by rw[I.V8 hy' hq1];exact hx,λzs hy' => by rw[I.V8 hy' hq2];exact hy⟩,⟨hz2,?_,⟨_,_,(hs2.2 TO Z.oz).trans b2⟩,?_,?_⟩,λc hc=>?_⟩
  .exact(hs2.2 TI Z.iz).trans (b6 TI _ Z.iz Z.io Z.ia Z.ib ht)
  .obtain⟨o3,g1,g2⟩:=b3.1;exact⟨o3,(hs2.2 i1 Z.az).trans g1,g2⟩
  .obtain⟨o3,g1,g2⟩:=b4.1;exact⟨o3,(hs2.2 i2 Z.bz).trans g1,g2⟩
  .have lt:∃ o,s.heap.get? c=some o:=by
    simp only[ID,IX,NK]at hc;rcases hc with rfl | rfl | rfl | rfl | rfl
    .exact⟨_,hz⟩
    .exact⟨_,ht⟩
    .exact⟨_,ho⟩
    .obtain⟨o,e,_⟩:=t1;exact⟨o,e⟩
    .obtain⟨o,e,_⟩:=t2;exact⟨o,e⟩
   obtain⟨o,e⟩:=lt;rw[Zm (IM (IB e))];exact(hf c hc).1
 done:=by
  intro X hP hw hK hc i aa s σ H E I hf st hg;subst hP hw hK;obtain⟨xs,ys,hq1,hq2,hi⟩:=hg;obtain⟨its1,rv1,p1,_⟩:=I.list hq1;obtain⟨its2,rv2,p2,_⟩:=I.list hq2;have e1:=rv1.length;have e2:=rv2.length;obtain⟨hz,ht,⟨a,b,ho⟩,t1,t2⟩:=st;have hh:X.A.in1.handled=none:=I.ok.hd hc;refine zjp Z (Draws.list hh i1 a1 n1 its1.toArray) (Draws.list hh i2 a2 n2 its2.toArray) hz ht ho ⟨t1,p1.isList⟩ ⟨t2,p2.isList⟩ (by simp only[Ix];omega) λh' tk' b6=>?_;exact⟨rfl,I.turns (t':=tk') (λc u hc' q=>by
   simp only[ID,IX,NK,not_or]at hc';exact b6 c u hc'.1 hc'.2.2.1 hc'.2.2.2.1 hc'.2.2.2.2 q) hf⟩
 self:=λ_ _ _ _ _ st h=>wpAny_pyIter_zip st.1 h
def zlJ{n l1 l2:Nat}(b1:l1<n)(b2:l2<n):Zap (n+4) (n+2) (n+3) n (n+1) [n,l1] [n+1,l2]:=by
 have h:∀{a b c:Nat},a≠b->a≠c->a∉[b,c]:=λh1 h2 hm=>by
  rcases ID.mp hm with e | e
  .exact h1 e
  .exact h2 (IN.mp e)
 constructor
 all_goals first
  |exact h (by omega) (by omega)
  |(show(_:Nat)≠_;omega)
def zgi{K:FG}{a1 a2:AD}{xs ys:LC}{g:TG}{tb:TS}{D:Ends}{σ:St}(Pv:Nat->St->Hp->Prop)(h0:Pv 0 σ H)(hxy:xs.length=ys.length)(hl:∀ i σ H,i<=xs.length->Pv i σ H->SqL K H a1 xs/\SqL K H a2 ys)(hs:∀ i x y σ H p,xs[i]?=some x->ys[i]?=some y->Pv i σ H->H p=none->g (.ref p) σ (upd H p (.tup [x,y])) fun σ2 H2=>tb {D with nx:=Pv (i+1),ct:=Pv (i+1),bk:=D.nx} σ2 H2)(hd:∀ σ H,Pv xs.length σ H->D.nx σ H):
  ∃ W:Nat->Nat->St->Hp->Prop,(∃ m,W 0 m σ H)/\∀ i m σ H,W i m σ H->
   ((zkR K a1 a2).stop i H/\D.nx σ H)\/((zkR K a1 a2).go i H/\∃ N:St->Hp->Prop,(∀ σ' H',N σ' H' -> ∃ m',m'<m/\W (i+1) m' σ' H')/\∀ x H',(zkR K a1 a2).yld i H x H' -> g x σ H' fun σ2 H2=>tb {D with nx:=N,ct:=N,bk:=D.nx} σ2 H2):=by
 refine⟨λi m σ H=>m=xs.length-i/\i<=xs.length/\Pv i σ H,⟨xs.length,(by simp),Nl _,h0⟩,?_⟩;rintro i m σ H ⟨rfl,hi,p⟩;obtain⟨q1,q2⟩:=hl i σ H hi p;by_cases hlt:i<xs.length
 .refine .inr ⟨⟨xs,_,ys,_,q1,Ib hlt,q2,Ib (by omega)⟩,Pv (i+1),fun σ' H' p' => ⟨xs.length-(i+1),(by omega),rfl,hlt,p'⟩,λx H' y=>?_⟩;obtain⟨p',x',y',hp',rfl,rfl,hx,hy⟩:=y;exact hs i x' y' σ H p' (hx xs q1) (hy ys q2) p hp'
 .have e:i=xs.length:=by omega
  subst e;exact .inl ⟨⟨xs,ys,q1,q2,.inl rfl⟩,hd σ H p⟩
section
variable {X:Cx}
def znL(K:FG)(ta:TA):TI:=fun σ H R=>ta σ H λvs H1=>∃ a1 a2,vs=[.ref a1,.ref a2]/\(∃ xs,SqL K H1 a1 xs)/\(∃ ys,SqL K H1 a2 ys)/\R (zkR K a1 a2) H1
def boot_zip:bootBuiltins "zip" = some (.type "zip"):=by decide +kernel
def zi1{K:FG}(eK:X.K=K){a b:Expr}{ta:TA}{p:Pos}{elts:List Expr}(hg:Gl X "zip")(hm:X.mg "zip" = none)(ha:PA X [a,b] ta)(hs:starEach [a,b] X.env=[(false,eval a X.env),(false,eval b X.env)]:=by rfl)(hs2:starEach [b] X.env=[(false,eval b X.env)]:=by rfl):
  PI X (.Tuple elts tk tpos) (.Call (.Name "zip" p) [a,b] [] pos) (znL K ta):=by
 subst eK;intro aa s σ H R I h;refine Call_ (Qo I hg hm boot_zip (IZ (thn (ha pos aa s σ H _ I h) λus s1 ⟨vs,H1,I1,r1,q1⟩=>?_) (by rw[hs,hs2]) (by rw[hs2];rfl)));obtain⟨l1,l2,e,⟨xs,hq1⟩,⟨ys,hq2⟩,q⟩:=q1;subst e;cases r1 with
 |cons r rr=>
  cases rr with
  |cons r' rr=>
   cases rr;cases(show _=Value.ref l1 from r);cases(show _=Value.ref l2 from r');obtain⟨its1,rv1,p1,_⟩:=I1.list hq1;obtain⟨its2,rv2,p2,_⟩:=I1.list hq2;have b1:l1<s1.heap.objs.size:=by obtain⟨o,e,_⟩:=id p1.isList;exact IB e
   have b2:l2<s1.heap.objs.size:=by obtain⟨o,e,_⟩:=id p2.isList;exact IB e
   refine zet (show s1.heap.IsList l1 its1.toArray from p1.isList) (show s1.heap.IsList l2 its2.toArray from p2.isList) λh' hz ht ho i1 i2 hk=>?_;have Z:=zlJ b1 b2;refine wpAny_pyIter_zip hz ⟨s1.heap.objs.size+4,_,_,_,H1,rfl,I1.kept (t':=s1.toks) hk,zfB Z (IM b1) (IM (OD b2)),⟨hz,ht,⟨_,_,ho⟩,i1,i2⟩,λc hc=>?_,q⟩;have hc' : s1.heap.objs.size<=c:=by
    simp only[ID,IX,NK]at hc;rcases hc with rfl | rfl | rfl | rfl | rfl
    .exact Nat.le_add_right _ _
    .exact Nat.le_add_right _ _
    .exact Nat.le_add_right _ _
    .exact Ih _
    .exact Nat.le_add_right _ _
   exact I1.zjW hc' (I1.ac.fresh hc')
end
structure Je(fr sc:Scope)(x x2:Str)(cap:LB):Prop where
 kind:sc.kind = .function
 cell:∀ p∈sc.names,p.2≠.cell
 names:∀ p∈sc.names,p.2 = .local->sc.names.lookup p.1=some .local
 tgt:sc.names.lookup x=some .local
 tgt2:sc.names.lookup x2=some .local
 free:∀ p∈sc.names,p.2 = .free->fr.names.lookup p.1=some .cell
 caps:∀ y∈cap,(y,NameKind.free)∈sc.names
 nd:(x::x2::cap).Nodup
 noboth:∀ y∈cap,sc.names.lookup y≠some .local
section
variable {X:Cx}{aa:List (Addr×Obj)}{σ:St}{H:Hp}{s:SH}{sc:Scope}{x x2:Str}{cap:LB}
def zm0(K:FG)(J:It)(js:List Nat)(σ:St)(tt:TT)(te:TE)(Q:VK)(W:Nat->Nat->LC->Hp->Prop):Prop:=
 ∀ i m ys H,W i m ys H->ys.length<sizeLine/\
  ((J.stop i H/\∀ p,H p=none->Q (.ref p) (upd H p (.lst ys)))\/
   (J.go i H/\∀ x H',J.yld i H x H' -> ∃ p u1 u2,x = .ref p/\SqT K H' p [u1,u2]/\tt (some u1::some u2::WM σ js) H' λb H2=>if b=true then te (some u1::some u2::WM σ js) H2 λv H3=>∃ m',m'<m/\W (i+1) m' (ys++[v]) H3 else ∃ m',m'<m/\W (i+1) m' ys H2))
def zm4(K:FG)(wi:TI)(js:List Nat)(tt:TT)(te:TE):TE:=fun σ H Q=>wi σ H λJ H1=>∃ W:Nat->Nat->LC->Hp->Prop,(∃ m,W 0 m [] H1)/\zm0 K J js σ tt te Q W
def zkz{K:FG}{J:It}{tt:TT}{Q:VK}{W:Nat->Nat->LC->Hp->Prop}(h:zm0 K J js σ tt te Q W):zms 2 J js σ (zmE K 2 (zfl (VP 0) (zfl (VP 1) zmQ))) tt te Q W:=λi m ys H w=>by
 obtain⟨a,b⟩:=h i m ys H w;refine⟨a,b.imp id λ⟨go,st⟩=>⟨go,λx H' y ws hw=>?_⟩⟩;obtain⟨pv',u1,u2,rfl,hsq,st'⟩:=st x H' y
 match ws,hw with
 |[v,v'],_=>exact⟨pv',[u1,u2],rfl,hsq,rfl,u1,[u2],rfl,u2,[],rfl,rfl,[some u1,some u2],rfl,rfl,st'⟩
def Je.n{fr:Scope}(S:Je fr sc x x2 cap):Y8 fr sc [x,x2] cap:=⟨S.kind,S.cell,S.names,S.free,S.caps,S.noboth⟩
def Je.pg(S:Je X.env.scope sc x x2 cap)(hc:X.calm=true){px py:Pos}(C:AD)(s0:SH)(H0:Hp)(ex:LG):PG (Xe X sc ([x,x2]++cap) C s0 H0 ex) (.Tuple [.Name x px,.Name x2 py] tk tpos) (zmE X.K 2 (zfl (VP 0) (zfl (VP 1) zmQ))):=zb4 hc (Xq (YD S.nd rfl (.inl (NQ S.tgt)) (.inr (NQ S.tgt))) (Xq (YD S.nd rfl (.inl (NQ S.tgt2)) (.inr (NQ S.tgt2))) Vo))
def zkb(S:Je X.env.scope sc x x2 cap)(hjs:js.map (λj=>X.N[j]?)=cap.map some)(hc:X.calm=true)(hxe:∀ e s,¬ X.xe e s){elt iter:Expr}{ifs:List Expr}{px py:Pos}{wi:TI}{tt:TT}(hi:PI X (.Tuple [.Name x px,.Name x2 py] tk tpos) iter wi)(hb:∀ C s0 H0 ex,PIf (Xe X sc (x::x2::cap) C s0 H0 ex) ifs tt/\PE (Xe X sc (x::x2::cap) C s0 H0 ex) elt te)(hs:∀ x,foldedSetIterable iter X.env x=pure x:=by intro _;rfl):PE X (.ListComp elt [⟨(.Tuple [.Name x px,.Name x2 py] tk tpos),iter,ifs,0⟩] sc pos) (zm4 X.K wi js tt te):=by
 intro aa s σ H Q I h;rw[eval_ListComp];refine wpAny_comprehension_free (use:=none) rfl hs (X3 (S.n.cells I.ok)) S.kind S.names (thn (hi aa s σ H _ I h) λxv s₁ h₁=>thn h₁ λitv s₂ h₂=>?_);obtain⟨it,fp,tn,J,H2,e,I2,T,st2,f2,W,w0,turn⟩:=h₂;subst e;refine UV (xs:=[x,x2]) (Q:=Q) (RR:=λacc C=>compPost (model X.prog X.w) X.A X.xe none (EP X aa σ Q) acc C) S.n hjs hc (S.pg hc) (λC=>hb C _ _ _) I2 T st2 f2 w0 (zkz turn) ?_;intro D C s' σ' H' ys its k hD hC J' rv hz q;obtain⟨m,hn,_⟩:=J'.loc;have pinD:=J'.pin (D,{cls:=.type "list",data:=.seq its.toArray k}) (IH _ (IN.mpr rfl));exact⟨m,hn,λh' hs' => ⟨.ref D,_,Ul (xs:=[x,x2]) S.n I2 f2 hD hC J' pinD.2.1 pinD.1 rv hz hs',rfl,q D pinD.2.1⟩⟩
end
structure Xd(fr sc:Scope)(ps cap:LB):Prop where
 kind:sc.kind = .function
 co:sc.isCoroutine=false
 gen:sc.isGenerator=false
 cell:∀ p∈sc.names,p.2≠.cell
 par:∀ y∈ps,sc.names.lookup y=some .local
 free:∀ p∈sc.names,p.2 = .free->fr.names.lookup p.1=some .cell
 caps:∀ y∈cap,(y,NameKind.free)∈sc.names
 capl:∀ y∈cap,sc.names.lookup y=some .free
 nd:(ps++cap).Nodup
def VM(H:Hp)(f:AD)(q:Str)(params:Arguments)(body:Expr)(sc:Scope)(cl:List (Str×AD)):Prop:=∃(pm ctv:Value)(c' : AD)(oc:Obj),H f=some (.frz (kla_obj "<lambda>" q params body sc cl pm c' ctv) (.own f))/\H c'=some (.frz oc (.own c'))/\zdy oc q
structure CellsAre(s:SH)(H:Hp)(cl:List (Str×AD))(cap:LB)(vals:St):Prop where
 inj:∀ x y c,cl.lookup x=some c->cl.lookup y=some c->x=y
 isc:∀ x c,cl.lookup x=some c->(∃ v,s.heap.IsCell c v)/\H c=none
 val:∀(i:Nat)(y:Str)(v:V),cap[i]?=some y->vals[i]?=some (some v)->∃ c u,cl.lookup y=some c/\s.heap.IsCell c (some u)/\RelV v u
def zab{P:Program}{w:World}{oc:Obj}{q:Str}(ok:HOk P w H h)(e:H c=some (.frz oc (.own c)))(hc:zdy oc q):h.CodeRec (.ref c) q:=by obtain⟨e1,_⟩:=ok c _ e;obtain⟨vs,t,d1,d2⟩:=hc;exact⟨c,oc,vs,t,rfl,e1,d1,d2⟩
def CellsAre.un{s s' : SH}{H':Hp}{cl:List (Str×AD)}{cap:LB}{fs:LG}(C:CellsAre s H cl cap vals)(u:Un fs [] H H' s.heap s'.heap):CellsAre s' H' cl cap vals:=by
 have kc:∀ c v,H c=none->s.heap.IsCell c v->s'.heap.IsCell c v:=λc v n ⟨o,ho,hd⟩=>by obtain⟨sl,e⟩:=u.any ho n (by simp);exact⟨_,e,hd⟩
 refine⟨C.inj,λx c h=>?_,λi y v h1 h2=>?_⟩
 .obtain⟨⟨v,hv⟩,n⟩:=C.isc x c h;obtain⟨o,ho,hd⟩:=id hv;exact⟨⟨v,kc c v n hv⟩,u.free c o ho n (by simp)⟩
 .obtain⟨c,w,e1,e2,r⟩:=C.val i y v h1 h2;exact⟨c,w,e1,kc c _ (C.isc y c e1).2 e2,r⟩
def VM.same{H':Hp}{q:Str}{body:Expr}{sc:Scope}{cl:List (Str×AD)}(L:VM H f q params body sc cl)(k:∀ b o u,H b=some (.frz o u)->H' b=some (.frz o u)):VM H' f q params body sc cl:=let ⟨pm,ctv,c',oc,h1,h2,h3⟩:=L;⟨pm,ctv,c',oc,k _ _ _ h1,k _ _ _ h2,h3⟩
theorem lookup_mem{u:α}:∀{l:List (Str×α)},(l.map (·.1)).Nodup->(y,u)∈l->l.lookup y=some u
 |[],_,h=>by simp at h
 |(z,v)::l,nd,h=>by
  rw[Og];rw[Nb,nodup_cons]at nd;rcases ID.mp h with e | h
  .cases e;simp
  .have:y≠z:=λe=>nd.1 (e ▸ List.mem_map_of_mem (f:=(·.1)) h);have hb:(y==z)=false:=by simpa using this
   rw[hb];exact lookup_mem nd.2 h
theorem zez :∀(l:List α)(m:List β),(l.zip m).map (·.1)=l.take m.length
 |[],_=>by simp
 |_::_,[]=>by simp
 |a::l,b::m=>by rw[List.zip_cons_cons,Nb,IE,List.take_succ_cons,zez l m]
def zdX{us:List α}{i:Nat}{u:α}(nd:ps.Nodup)(hp:ps[i]?=some y)(hu:us[i]?=some u):(ps.zip us).reverse.lookup y=some u:=by
 refine lookup_mem ?_ ?_
 .rw[List.map_reverse];refine(List.reverse_perm _).nodup_iff.mpr ?_;rw[zez];exact nd.sublist (List.take_sublist _ _)
 .rw[List.mem_reverse];refine Ii (i:=i) ?_;rw[NL];exact⟨hp,hu⟩
noncomputable def zbM(P:Program)(w:World)(K:FG)(mg:Str->LF)(base:Heap)(N:LB)(q:Str)(sc:Scope)(f c' : AD)(cl:List (Str×AD))(A:Around)(outer:LI)(s:SH)(H:Hp):Cx where
 prog:=P
 w:=w
 K:=K
 mg:=mg
 base:=base
 A:=A.deeper (PySem.W.envX q sc s.heap.objs.size f (.ref c') cl)
 N:=N
 s₀:=s
 H₀:=H
 env:=PySem.W.envX q sc s.heap.objs.size f (.ref c') cl
 outer:=outer
 stack:=PySem.W.envX q sc s.heap.objs.size f (.ref c') cl::outer
 ex:=[]
 calm:=true
 fn:=λ_=>false
 pn:=[]
 xe:=λ_ _=>False
section
variable {P:Program}{w:World}{K:FG}{mg:Str->LF}{base:Heap}{A:Around}{outer:LI}{s:SH}{H:Hp}{f:AD}{q:Str}{params:Arguments}{body:Expr}{fr sc:Scope}{cl:List (Str×AD)}{ps cap:LB}
def zjG{c' : AD}{us:LD}{vs:LC}{h₁:Heap}(S:Xd fr sc ps cap)(hcap:∀ y,sc.names.lookup y=some .free->∃ c,cl.lookup y=some c)(hd:A.handled=none)(e0:zcD P w K mg base A outer s H)(hl:vs.length=ps.length)(hv:vals.length=cap.length)(r:Vals vs us)(C:CellsAre s H cl cap vals)(hns:h₁.Ns s.heap.objs.size (λx=>(ps.zip us).reverse.lookup x))(hk:∀ b o,s.heap.get? b=some o->h₁.get? b=some o):
  Inv (zbM P w K mg base (ps++cap) q sc f c' cl A outer s H) [] (vs.map some++vals) H {s with heap:=h₁,toks:=tk}:=by
 have noA:∀ b:AD,b∉(zbM P w K mg base (ps++cap) q sc f c' cl A outer s H).ex:=λb z=>absurd (show b∈([]:LG)from z) (by simp);have ndp:ps.Nodup:=(nodup_append.mp S.nd).1;refine⟨⟨e0.mod,S.kind,rfl,rfl,Ih _,C.inj,λy hy=>?_,(λy c h=>Bool.noConfusion h),λ_=>hd,frames_deeper e0.frames,.inr ⟨rfl,rfl⟩,λb z=>absurd z (noA b),e0.bs,e0.bsz,λb _ _=>noA b,λb z=>absurd z (noA b),e0.zaY,e0.frf⟩,
  rfl,e0.bare,Un.kept hk,⟨_,hns,λi y v h1 h2 h3=>?_⟩,λy c h=>?_,e0.ac.fresh (Ih _),λy c h=>(C.isc y c h).2,λp hp=>absurd (show p∈([]:List (Addr×Obj))from hp) (by simp),e0.ac.kept hk,?_⟩
 .have hy:sc.names.lookup y=some .cell\/sc.names.lookup y=some .free:=hy;rcases hy with hy | hy
  .exact absurd rfl (S.cell _ (IF hy))
  .exact hcap y hy
 .by_cases hi:i<ps.length
  .have hp:ps[i]?=some y:=by have:(ps++cap)[i]?=some y:=h1;rw[NE hi]at this;exact this
   have ha:vs[i]?=some v:=by
    rw[NE (by rw[Ig];omega),Io]at h2;cases e:vs[i]? with
    |none=>rw[e]at h2;cases h2
    |some a=>rw[e]at h2;cases h2;rfl
   obtain⟨u,hu,rv⟩:=r.get ha;refine⟨u,rv,.inl ⟨S.par y (Ii hp),?_⟩⟩;exact zdX ndp hp hu
  .have hc:cap[i-ps.length]?=some y:=by have:(ps++cap)[i]?=some y:=h1;rw[Nq (by omega)]at this;exact this
   have ha:vals[i-ps.length]?=some (some v):=by rw[Nq (by rw[Ig];omega),Ig,hl]at h2;exact h2
   obtain⟨c,u,e1,e2,rv⟩:=C.val _ y v hc ha;obtain⟨o,ho,hd'⟩:=e2;exact⟨u,rv,.inr ⟨.inr (S.capl y (Ii hc)),c,e1,o,hk _ _ ho,hd'⟩⟩
 .obtain⟨⟨v,o,ho,hd'⟩,_⟩:=C.isc y c h;exact⟨v,o,hk _ _ ho,hd'⟩
 .show(vs.map some++vals).length=(ps++cap).length;rw[Iv,Iv,Ig,hl,hv]
def ze6{us:LD}{vs:LC}{Q:VK}{E:XK}(S:Xd fr sc ps cap)(hcap:∀ y,sc.names.lookup y=some .free->∃ c,cl.lookup y=some c)(hr:Wh (k+1) A)(e0:zcD P w K mg base A outer s H)(L:VM H f q params body sc cl)(C:CellsAre s H cl cap vals)(hbind:∀(pm ctv:Value)(c' : AD),bindArgs (kla_fn "<lambda>" q params body sc cl pm (.ref c') ctv) ⟨us,[]⟩=pure (ps.zip us))(hl:vs.length=ps.length)(hv:vals.length=cap.length)(r:Vals vs us)(hbody:∀ c',Wh k (A.deeper (PySem.W.envX q sc s.heap.objs.size f (.ref c') cl))->PE (zbM P w K mg base (ps++cap) q sc f c' cl A outer s H) body te)(hq:te (vs.map some++vals) H Q):
  codeAny (model P w) A (.call (.ref f) ⟨us,[]⟩) (CR CX0 outer P w H s Q E) s:=by
 obtain⟨pm,ctv,c',oc,h1,h2,h3⟩:=L;obtain⟨ho,_⟩:=e0.ac f _ h1;have lim:s.heap.NoLimit:=e0.mod.nolimit.keeps λb o e=>(e0.bs b o e).1;refine PySem.W.kla_callFunE hr.depth ho rfl S.co S.gen rfl (zab e0.ac h2 h3) ?_;rw[hbind pm ctv c'];refine Ic (wpAny_newFunctionEnv S.cell (λy hy=>S.par y.1 (of_mem_zip hy).1) (λh₁ hns hsb=>⟨lim.fresh _ hsb,?_⟩) S.kind);have old1:∀ b u,s.heap.get? b=some u->h₁.get? b=some u:=λb u e=>hsb.extBut b u (IM (IB e)) (Ie _ e)
 have I:=zjG (tk:=s.toks+(ps.zip us).length) (f:=f) (q:=q) (c':=c') S hcap hr.hd e0 hl hv r C hns old1;refine PySem.W.kla_codeExpr (IK (hbody c' (hr.deeper _) [] _ _ H Q I hq) (λv s' hs=>?_) λe s' z=>z.elim);obtain⟨x,H',J,rv,q'⟩:=hs;exact⟨x,H',J.os,J.bare,J.base,J.ac,rv,q'⟩
end
def BM(mg:Str->LF)(h:Heap):Prop:=∃ bm ob,mg "__builtins__" = some (.ref bm)/\bm≠builtinsNs/\h.get? bm=some ob/\ob.cls = .type "module" /\ ob.dict=some builtinsNs/\ob.data = .plain
def zaq{pos':Pos}{c v:Value}:∀(l:LD),TriplesOk l->codeAmong pos' (l++[rawInt pos.line,rawInt pos.col,c])=some v->codeAmong pos' l=some v\/(pos'.line=pos.line/\pos'.col=pos.col/\v=c):=by
 intro l h
 fun_induction TriplesOk l
  with
 |case1=>
  intro e;simp only[nil_append,rawInt,codeAmong]at e;split at e
  .rename_i hc
   simp at hc;cases e;exact .inr ⟨(by omega),(by omega),rfl⟩
  .cases e
 |case2 a t b u x rest ih=>
  intro e;simp only[cons_append,codeAmong]at e ⊢;split at e
  .rename_i hc;rw[IA hc];exact .inl e
  .rename_i hc;rw[Iw hc];exact ih h e
 |case3 l z1 z2=>exact False.elim h
section
variable {X:Cx}{aa:List (Addr×Obj)}{σ:St}{H:Hp}{s:SH}{sc:Scope}{ps cap:LB}{P c:AD}{cr:Nat->Nat->Option Str}{q:Str}{params:Arguments}{body:Expr}{pos:Pos}
theorem Xd.cells(S:Xd X.env.scope sc ps cap)(ok:X.Ok):∀ p∈sc.names,p.2 = .free->∃ c,X.env.cells.lookup p.1=some c:=λp hp e=>ok.has p.1 (.inl (S.free p hp e))
def Xd.sub(S:Xd X.env.scope sc ps cap)(ok:X.Ok)(h:(JG X.env sc.names []).lookup y=some c):X.env.cells.lookup y=some c:=VR (S.cells ok) (λ_ _ z=>by simp at z) h
def Inv.zdp(I:Inv X aa σ H s)(S:Xd X.env.scope sc ps cap)(hjs:js.map (λj=>X.N[j]?)=cap.map some):CellsAre s H (JG X.env sc.names []) cap (WM σ js):=by
 have ok:=I.ok;refine⟨λx y c h1 h2=>ok.inj x y c (S.sub ok h1) (S.sub ok h2),λx c h=>⟨I.cell x c (S.sub ok h),I.freeC x c (S.sub ok h)⟩,λi y v e1 e2=>?_⟩;have hy:y∈cap:=Ii e1;unfold WM at e2;rw[Io]at e2;cases ej:js[i]? with
 |none=>rw[ej]at e2;cases e2
 |some j=>
  rw[ej]at e2;have e2'' : (σ[j]?).join=some v:=Ip e2;have eN:X.N[j]?=some y:=by have:=Na (λl=>l[i]?) hjs;simp only[Io,ej,e1,OG]at this;exact Ip this
  have eσ:σ[j]?=some (some v):=by
   cases z:σ[j]? with
   |none=>rw[z]at e2'';cases e2''
   |some w' =>
    rw[z]at e2'';have:w'=some v:=by simpa using e2''
    rw[this]
  have kc:X.env.scope.names.lookup y=some .cell:=S.free (y,.free) (S.caps y hy) rfl;obtain⟨m0,hn0,hl0⟩:=I.loc;obtain⟨u,ru,lk⟩:=hl0 j y v eN eσ (.inr (.inl kc));rcases lk with⟨k,_⟩ | ⟨_,c,ec,hc⟩
  .have k' : X.env.scope.names.lookup y=some .local:=k;rw[kc]at k';cases k'
  .obtain⟨c',hc'⟩:=Ny.mp (WP (env:=X.env) (acc:=[]) (S.caps y hy));have hcc:c'=c:=Ip ((S.sub ok hc').symm.trans ec);subst hcc;exact⟨c',u,hc',hc,ru⟩
def znz(P:AD)(cr:Nat->Nat->Option Str)(q:Str)(params:Arguments)(body:Expr)(sc:Scope)(cl:List (Str×AD)):TE:=fun σ H Q=>H P=some (.tbl cr)/\∀ f H',H f=none->ZF H H' -> VM H' f q params body sc cl->Q (.ref f) H'
def zid(S:Xd X.env.scope sc ps cap)(hcode:X.env.code = .ref c)(C:CodeHd X.base c P)(hbm:BM X.mg X.base)(hq:q=X.env.qual ++ "<lambda>")(hcr:cr pos.line pos.col=some q)(hdef:defaultsOf params X.env=([],[]):=by rfl):
  PE X (.Lambda params body sc pos) (znz P cr q params body sc (JG X.env sc.names [])):=by
 intro aa s σ H Q I h;obtain⟨hP,h⟩:=h;refine PySem.W.kla_eval hdef ?_;rw[← hq];obtain⟨tb,hget,ht3,hcodes⟩:=I.ac P _ hP;have hg:s.heap.Ns mainGlobals X.mg:=I.mod.glob.keeps I.bk;have hgP:mainGlobals≠P:=λz=>by obtain⟨o,es,ep,e,hd,_⟩:=hg;rw[z,hget]at e;cases e;cases hd
 have hb:s.heap.BuiltinsAt X.mg P:=by
  obtain⟨bm,ob,b1,b2,b3,b4,b5,b6⟩:=hbm;have e:=I.bk _ _ b3;refine⟨bm,ob,b1,b2,λz=>?_,λz=>?_,e,b4,b5,b6⟩
  .obtain⟨o,es,ep,e',hd,_⟩:=hg;rw[← z,e]at e';cases e';rw[b6]at hd;cases hd
  .rw[z,hget]at e;cases e;cases b4
 have hcl:closureFor sc X.env=pure (JG X.env sc.names []):=X3 (S.cells I.ok);cases hf:codeAmong pos tb.toList with
 |some cv=>obtain⟨c',oc,q',rfl,e2,e3,e4⟩:=hcodes pos cv hf;rw[hcr]at e2;cases e2;refine PySem.W.kla_makeFunctionHit hcl I.ok.glob hg hcode (C.keeps I.bk) hget ht3 hf hb λctv h' tk hk hsz=>?_;have hfr:H h'.objs.size=none:=I.ac.fresh hsz;refine⟨.ref h'.objs.size,upd H h'.objs.size (.frz (kla_obj "<lambda>" q params body sc (JG X.env sc.names []) ((X.mg "__name__").getD .none) c' ctv) (.own h'.objs.size)),I.laid (t':=tk) (λb u e=>Ie _ (hk b u e)) hsz ⟨Il _ rfl,_,Il _ rfl⟩,rfl,h _ _ hfr (λb u e=>by rw[Zm (Zk e hfr)];exact e) ⟨_,_,c',oc,Zh,?_,e4⟩⟩;rw[Zm (Zk e3 hfr)];exact e3
 |none=>
  refine PySem.W.kla_makeFunction hcl I.ok.glob hg hcode (C.keeps I.bk) hget ht3 hf hgP hb λc' ctv h' tk hx hge hlt hrec htb=>?_;obtain⟨c2,oc,vs,tt,e2,hoc,hd,hv⟩:=hrec;cases e2;have hcn:H c'=none:=I.ac.fresh hge;have hsz:s.heap.objs.size<=h'.objs.size:=Od (Nat.lt_of_le_of_lt hge hlt);have hfr:H h'.objs.size=none:=I.ac.fresh hsz;have hcf:c' ≠ h'.objs.size:=IM hlt;have hPc:P≠c':=Zk hP hcn;have hPf:P≠h'.objs.size:=Zk hP hfr;have sm:∀ b u,H b=some u->upd (upd H c' (.frz oc (.own c'))) h'.objs.size (.frz (kla_obj "<lambda>" q params body sc (JG X.env sc.names []) ((X.mg "__name__").getD .none) c' ctv) (.own h'.objs.size)) b=some u:=λb u e=>by rw[Zm (Zk e hfr),Zm (Zk e hcn)];exact e
  have cc:upd (upd H c' (.frz oc (.own c'))) h'.objs.size (.frz (kla_obj "<lambda>" q params body sc (JG X.env sc.names []) ((X.mg "__name__").getD .none) c' ctv) (.own h'.objs.size)) c'=some (.frz oc (.own c')):=by rw[Zm hcf,Zh]
  have hk:∀ b o,b≠P->s.heap.get? b=some o->(h'.push (kla_obj "<lambda>" q params body sc (JG X.env sc.names []) ((X.mg "__name__").getD .none) c' ctv)).get? b=some o:=λb o hb e=>Ie _ (hx b o hb e);refine⟨.ref h'.objs.size,_,I.un (t':=tk) ⟨λb o e n _ _=>hk b o (λz=>by rw[z,hP]at n;cases n) e,λb o e n _ _=>⟨o.slots,hk b o (λz=>by rw[z,hP]at n;cases n) e⟩,λb o e n _=>?_,λb o e _=>?_,λb xs e=>sm b _ e,λb o u e=>sm b _ e,λb r e=>sm b _ e⟩ ?_,rfl,h _ _ hfr sm ⟨_,_,c',oc,Zh,cc,vs,tt,hd,hv⟩⟩
  .have h1:b≠c':=IM (Iu (IB e) hge);have h2:b≠h'.objs.size:=IM (Iu (IB e) hsz);rw[Zm h2,Zm h1];exact n
  .by_cases hb:b=P
   .subst hb;exact⟨_,Ie _ htb⟩
   .exact⟨o,hk b o hb e⟩
  .intro b u e;by_cases h1:b=h'.objs.size
   .subst h1;rw[Zh]at e;cases e;exact⟨Il _ rfl,_,Il _ rfl⟩
   .by_cases h2:b=c'
    .subst h2;rw[cc]at e;cases e;exact⟨Ie _ hoc,_,Ie _ hoc⟩
    .rw[Zm h1,Zm h2]at e;by_cases h3:b=P
     .subst h3;rw[hP]at e;cases e;refine⟨_,Ie _ htb,?_,λpos' v e=>?_⟩
      .rw[toList_append];exact TriplesOk_snoc _ _ _ _ ht3
      .rw[toList_append]at e;rcases zaq (pos:=pos) tb.toList ht3 e with e | ⟨e1,e2,rfl⟩
       .obtain⟨d,od,q',z1,z2,z3,z4⟩:=hcodes pos' v e;exact⟨d,od,q',z1,z2,sm _ _ z3,z4⟩
       .exact⟨c',oc,q,rfl,by rw[e1,e2];exact hcr,cc,vs,tt,hd,hv⟩
     .refine(I.ac b u e).stay (λd v hd' e' => hk d v ?_ e') (λd e' => sm d _ e') (λd xs e' => sm d _ e') λd o' u' e' => sm d _ e';rintro rfl;rcases hd' with z | z
      .exact h3 z.symm
      .rw[hP]at z;cases z
end
abbrev SpS:=SH->LC->Hp->VK->Prop
structure zaj(P:Program)(w:World)(K:FG)(mg:Str->LF)(base:Heap)(k:Nat)(f:AD)(fd:FuncData)(ps:LB)(sp:SpS):Prop where
 len:∀ s vs H Q,sp s vs H Q->vs.length=ps.length
 run:∀(A:Around)(outer:LI)(s:SH)(H:Hp)(args:Args)(us:LD)(vs:LC)(Q:VK),Wh k A->zcD P w K mg base A outer s H->BindsTo s fd args (ps.zip us)->Vals vs us->sp s vs H Q->
  codeAny (model P w) A (.call (.ref f) args) (CR CX0 outer P w H s Q E0) s
def zlK{P:Program}{w:World}{K:FG}{mg:Str->LF}{base:Heap}{name:Str}{body:List Stmt}{scope:Scope}{dV kV doc pm cdv ct oc:Value}{an od:Option AD}{osl:Array (LF)}{N ps:LB}{sp:SpS}(lk:K.lookup f=some ⟨oc,od,.func (PySem.W.fnOf name qual params body scope dV kV doc pm an cdv ct),osl⟩)(hcd:codeIn K cdv qual=true)(S:ZG N ps scope)(len:∀ s vs H Q,sp s vs H Q->vs.length=ps.length)(hbody:∀(A:Around)(outer:LI)(s:SH)(H:Hp)(vs:LC)(Q:VK),Wh k (A.deeper (envOfC qual scope s.heap.objs.size f cdv))->sp s vs H Q->
   ∃ t,PSs (VD CX0 P w K mg base N qual scope f cdv A outer s H E0) body t/\t {nx:=λ_ H' => Q .non H',rt:=Q} (start N vs) H):
  zaj P w K mg base (k+1) f (PySem.W.fnOf name qual params body scope dV kV doc pm an cdv ct) ps sp:=by
 refine⟨len,λA outer s H args us vs Q hr e0 hb r hsp=>?_⟩;have hl:=len _ _ _ _ hsp;have KX:K.In s.heap:=e0.mod.kin.keeps λb o e=>(e0.bs b o e).1;have lim:s.heap.NoLimit:=e0.mod.nolimit.keeps λb o e=>(e0.bs b o e).1;have hkind:∀ y∈ps.zip us,scope.names.lookup y.1=some .local\/(scope.names.lookup y.1=some .cell/\((cellsFrom (s.heap.objs.size+1) scope.names []).lookup y.1).isSome=true):=λ⟨n,v⟩ hy=>by
  rcases S.par n (of_mem_zip hy).1 with q | q
  .exact .inl q
  .exact .inr ⟨q,cellsFrom_some _ _ _ (.inl q)⟩
 refine codeAny_call_function hr.depth (KX _ _ lk) rfl S.co S.gen rfl (codeRec_of KX hcd) (hb _ _ _ _ ?_);refine wpAny_newFunctionEnv_cells S.kind hkind λenv he s1 x=>?_;subst he;refine⟨lim.keeps x.toInCall.keep,codeAny_func ?_⟩;obtain⟨t,ht,hq⟩:=hbody A outer s H vs Q (hr.deeper _) hsp;have I:Inv (VD CX0 P w K mg base N qual scope f cdv A outer s H E0) [] (start N vs) H s1:=zbk S hr.hd e0 hl r x;refine IK (ht [] s1 (start N vs) H _ I hq) (λfl s' hs=>?_) λe s' hs=>hs;have fin:∀{σ' : St}{H' : Hp}{v:V}{u:Value},Inv (VD CX0 P w K mg base N qual scope f cdv A outer s H E0) [] σ' H' s' -> RelV v u->Q v H' -> CE outer P w H s Q u s' :=λ{σ' H' v u} J rv q=>⟨v,H',J.os,J.bare,J.base,J.ac,rv,q⟩
 cases fl with
 |ret u=>obtain⟨v,σ',H',J,rv,q⟩:=hs;exact fin J rv q
 |next=>obtain⟨σ',H',J,q⟩:=hs;exact fin (v:=V.non) (u:=Value.none) J rfl q
 |brk=>obtain⟨_,_,_,q⟩:=hs;exact False.elim q
 |cont=>obtain⟨_,_,_,q⟩:=hs;exact False.elim q
section
variable {P:Program}{w:World}{K:FG}{mg:Str->LF}{base:Heap}
def Fun.okS{st:Stmt}{N:LB}{sp:SpS}(F:Fun K x qual st f fd)(S:ZG N ps (Zi st))(len:∀ s vs H Q,sp s vs H Q->vs.length=ps.length)(hbody:∀(cdv:Value)(A:Around)(outer:LI)(s:SH)(H:Hp)(vs:LC)(Q:VK),Wh k (A.deeper (envOfC qual (Zi st) s.heap.objs.size f cdv))->sp s vs H Q->
   ∃ t,PSs (VD CX0 P w K mg base N qual (Zi st) f cdv A outer s H E0).nox (Yo st) t/\t {nx:=λ_ H' => Q .non H',rt:=Q} (start N vs) H):zaj P w K mg base (k+1) f fd ps sp:=by
 obtain⟨oc,od,kV,doc,pm,an,cdv,ct,osl,rfl,lk,hcd⟩:=F.ex;refine zlK lk hcd S len λA outer s H vs Q hr hsp=>?_;obtain⟨t,h,q⟩:=hbody cdv A outer s H vs Q hr hsp;exact⟨t,h.nox,q⟩
def Fun.okC{st:Stmt}{N:LB}{sp:Sp}(F:Fun K x qual st f fd)(S:ZG N ps (Zi st))(len:∀ vs H Q E,sp vs H Q E->vs.length=ps.length)(hbody:∀(cdv:Value)(A:Around)(outer:LI)(s:SH)(H:Hp)(vs:LC)(Q:VK)(E:XK),cdv=fd.code->Wh k (A.deeper (envOfC qual (Zi st) s.heap.objs.size f cdv))->sp vs H Q E->
   ∃ t,PSs (VD CX0 P w K mg base N qual (Zi st) f cdv A outer s H E).nox (Yo st) t/\t {nx:=λ_ H' => Q .non H',rt:=Q} (start N vs) H):Ju P w K mg base CX0 (k+1) f fd ps sp:=by
 obtain⟨oc,od,kV,doc,pm,an,cdv,ct,osl,rfl,lk,hcd⟩:=F.ex;refine ziy lk hcd S len λA outer s H vs Q E hr hsp=>?_;obtain⟨t,h,q⟩:=hbody cdv A outer s H vs Q E rfl hr hsp;exact⟨t,h.nox,q⟩
end
section
variable {X:Cx}{k i:Nat}{x:Str}{f:AD}{q:Str}{params:Arguments}{body:Expr}{fr sc:Scope}{cl:List (Str×AD)}{ps cap:LB}{vals:St}{te:TE}{e:Expr}{es:List Expr}{t:TA}{p pos:Pos}
def zlE(i:Nat)(f:AD)(te:TE)(vals:St)(n:Nat)(t:TA):TE:=fun σ H Q=>σ[i]?=some (some (.ref f))/\t σ H λvs H1=>vs.length=n/\te (vs.map some++vals) H1 Q
def zfQ{P:Program}{w:World}(ok:HOk P w H h)(L:VM H f q params body sc cl):PySem.W.FnAt f h:=by obtain⟨pm,ctv,c',oc,h1,_⟩:=L;obtain⟨ho,_⟩:=ok f _ h1;exact⟨_,_,_,_,ho⟩
def zgD(hN:X.N[i]?=some x)(hv:Vis X.env.scope x)(hr:Wh (k+1) X.A)(hex:X.ex=[])(L:VM X.H₀ f q params body sc cl)(C:CellsAre X.s₀ X.H₀ cl cap vals)(S:Xd fr sc ps cap)(hcap:∀ y,sc.names.lookup y=some .free->∃ c,cl.lookup y=some c)(hbind:∀(us:LD),us.length=ps.length->∀(pm ctv:Value)(c' : AD),bindArgs (kla_fn "<lambda>" q params body sc cl pm (.ref c') ctv) ⟨us,[]⟩=pure (ps.zip us))(hvl:vals.length=cap.length)(hbody:∀ A outer s H f c',Wh k (A.deeper (PySem.W.envX q sc s.heap.objs.size f (.ref c') cl))->PE (zbM X.prog X.w X.K X.mg X.base (ps++cap) q sc f c' cl A outer s H) body te)(ha:PA X (e::es) t)(hd:(x==("__debug__" : Str))=false:=by decide)(hcd:(x==("__classdict__" : Str))=false:=by decide)(he:starEach (e::es) X.env=(false,eval e X.env)::starEach es X.env:=by rfl)(hpl:(backTo pos (starEach es X.env)).any (·.1)=false:=by rfl):
  PE X (.Call (.Name x p) (e::es) [] pos) (zlE i f te vals ps.length t):=by
 intro aa s σ H Q I h;obtain⟨eσ,h⟩:=h;refine IU (thn (zeV hN hv hd hcd aa s σ H (λv H' => v = .ref f/\H'=H) I ⟨_,eσ,rfl,rfl⟩) λu s1 ⟨v,H1,I1,r,ev,eH⟩=>?_);subst ev eH;obtain rfl:u=Value.ref f:=r;have un:∀{aa:List (Addr×Obj)}{σ:St}{H:Hp}{s:SH},Inv X aa σ H s->Un X.fs [] X.H₀ H X.s₀.heap s.heap:=λ{aa σ H s} J=>by have:=J.base;rw[hex]at this;exact this
 have Lm:∀{aa:List (Addr×Obj)}{σ:St}{H:Hp}{s:SH},Inv X aa σ H s->VM H f q params body sc cl:=λJ=>L.same (un J).frzs;refine callWith_F (zfQ I1.ac (Lm I1)) (thn (ha pos aa s1 σ H1 _ I1 h) λus s2 ⟨vs,H2,I2,rv,hl,hq⟩=>⟨zfQ I2.ac (Lm I2),?_⟩) he hpl;refine NZ (Nw (ze6 (E:=E0) S hcap hr I2.env0 (Lm I2) (C.un (un I2)) (hbind us (by rw[← rv.length];exact hl)) hl hvl rv (λc' hr' => hbody _ _ _ _ _ c' hr') hq) λr s' hq' => ?_);cases r with
 |error e=>exact False.elim hq'
 |ok fl=>
  cases fl with
  |ret u=>exact I2.after hq'
  |next=>exact False.elim hq'
  |brk=>exact False.elim hq'
  |cont=>exact False.elim hq'
end
noncomputable def hv(g:Nat->Bool)(lo hi:Nat):Nat:=if h:lo<hi then(if g ((lo+hi) / 2)then hv g ((lo+hi) / 2+1) hi else hv g lo ((lo+hi) / 2))else lo
termination_by hi-lo
decreasing_by all_goals omega
def zmK{g:Nat->Bool}(lo hi:Nat)(h:∀ i,i<hi->(g i=true↔i<k))(h1:lo<=k)(h2:k<=hi):hv g lo hi=k:=by
 fun_induction hv g lo hi with
 |case1 lo hi hlt hg ih=>have:=(h _ (by omega)).mp hg;exact ih h (by omega) h2
 |case2 lo hi hlt hg ih=>have:¬ (lo+hi) / 2<k:=λz=>hg ((h _ (by omega)).mpr z);exact ih (λi hi' => h i (by omega)) h1 (by omega)
 |case3 lo hi hlt=>omega
def zmc(P:Program)(w:World)(K:FG)(mg:Str->LF)(base:Heap)(kk:Nat):SpS:=λs vs H Q=>∃(n:Nat)(f:AD)(q:Str)(params:Arguments)(body:Expr)(fr sc:Scope)(cl:List (Str×AD))(y:Str)(cap:LB)(vals:St)(te:TE)(g:Nat->Bool),
 vs=[.int n,.ref f]/\n<=10^6/\Xd fr sc [y] cap/\(∀ y,sc.names.lookup y=some .free->∃ c,cl.lookup y=some c)/\VM H f q params body sc cl/\CellsAre s H cl cap vals/\vals.length=cap.length/\
 (∀(us:LD),us.length=[y].length->∀(pm ctv:Value)(c' : AD),bindArgs (kla_fn "<lambda>" q params body sc cl pm (.ref c') ctv) ⟨us,[]⟩=pure ([y].zip us))/\
 (∀ A outer s H f c',Wh kk (A.deeper (PySem.W.envX q sc s.heap.objs.size f (.ref c') cl))->PE (zbM P w K mg base ([y]++cap) q sc f c' cl A outer s H) body te)/\
 (∀ i,i<n->Ev K te (some (.int (i:Nat))::vals) H (.bool (g i)))/\∀ H',ZF H H' -> Q (.int (hv g 0 n:Nat)) H'
def tMA(K:FG)(P:AD)(cr:Nat->Nat->Option Str)(js:List Nat)(t0 te:TE):TE:=fun σ H Q=>t0 σ H λv H1=>H1 P=some (.tbl cr)/\∃(n:Nat)(g:Nat->Bool),v = .int (n:Nat)/\n<=10^6/\
 (∀ i,i<n->Ev K te (some (.int (i:Nat))::WM σ js) H1 (.bool (g i)))/\∀ H',ZF H1 H' -> Q (.int (hv g 0 n:Nat)) H'
section
variable {X:Cx}{kk:Nat}{x y:Str}{f c P:AD}{fd:FuncData}{cr:Nat->Nat->Option Str}{q:Str}{params:Arguments}{body e0:Expr}{sc:Scope}{cap:LB}{t0 te:TE}{p pos lpos:Pos}
def zmq(F:zaj X.prog X.w X.K X.mg X.base (kk+3) f fd ["places", "lies_ahead"] (zmc X.prog X.w X.K X.mg X.base kk))(hr:Wh (kk+3) X.A)(hg:Gl X x)(hm:X.mg x=some (.ref f))(hk:keepIn X.K (.ref f)=true)(hb:Binds X.K fd ["places", "lies_ahead"] [])(hxe:∀ e s,¬ X.xe e s){js:List Nat}(S:Xd X.env.scope sc [y] cap)(hjs:js.map (λj=>X.N[j]?)=cap.map some)(hcode:X.env.code = .ref c)(C:CodeHd X.base c P)(hbm:BM X.mg X.base)(hq:q=X.env.qual ++ "<lambda>")(hcr:cr lpos.line lpos.col=some q)(hbind:∀(u pm ctv:Value)(c' : AD)(cl:List (Str×AD)),bindArgs (kla_fn "<lambda>" q params body sc cl pm (.ref c') ctv) ⟨[u],[]⟩=pure [(y,u)])(ha:PE X e0 t0)(hbody:∀ A outer s H f c' cl,Wh kk (A.deeper (PySem.W.envX q sc s.heap.objs.size f (.ref c') cl))->PE (zbM X.prog X.w X.K X.mg X.base ([y]++cap) q sc f c' cl A outer s H) body te)(hdef:defaultsOf params X.env=([],[]):=by rfl)(hdb:(x==("__debug__" : Str))=false:=by decide)(he:starEach [e0,.Lambda params body sc lpos] X.env=(false,eval e0 X.env)::starEach [.Lambda params body sc lpos] X.env:=by rfl)(he2:starEach [.Lambda params body sc lpos] X.env=(false,eval (.Lambda params body sc lpos) X.env)::starEach [] X.env:=by rfl)(hpl:(backTo pos (starEach [.Lambda params body sc lpos] X.env)).any (·.1)=false:=by rfl):
  PE X (.Call (.Name x p) [e0,.Lambda params body sc lpos] [] pos) (tMA X.K P cr js t0 te):=by
 intro aa s σ H Q I h;refine IU (JL I hg hm ?_ hdb);have lenJ:js.length=cap.length:=by have:=Na List.length hjs;simpa using this
 refine callWith_K (h₀:=X.base) I.ok.mod.kin hk ?_ he hpl;rw[he];show wpAny _ _ (spliced ((false,eval e0 X.env)::backTo pos (starEach [.Lambda params body sc lpos] X.env))) _ _ s;refine spliced_cons (thn (ha aa s σ H _ I h) λu s1 ⟨v,H1,I1,r1,hP,n,g,e1,hn,hev,hQ⟩=>?_);subst e1;refine thn (Za (zid (c:=c) (cr:=cr) S hcode C hbm hq hcr hdef) Zf he2 pos aa s1 σ H1 (λvs H2=>∃ f,vs=[.ref f]/\ZF H1 H2/\VM H2 f q params body sc (JG X.env sc.names [])) I1 ⟨hP,λf H' hf sm L=>⟨f,rfl,sm,L⟩⟩) λus s2 ⟨vs,H2,I2,r2,f',e2,sm,L⟩=>⟨I2.kIn,?_⟩
 subst e2;have hsp:zmc X.prog X.w X.K X.mg X.base kk s2 [.int n,.ref f'] H2 Q:=⟨n,f',q,params,body,X.env.scope,sc,JG X.env sc.names [],y,cap,WM σ js,te,g,rfl,hn,S,λz hz=>by
   obtain⟨c',hc'⟩:=Ny.mp (WP (env:=X.env) (acc:=[]) (IF hz));exact⟨c',hc'⟩,L,I2.zdp S hjs,by unfold WM;rw[Ig,lenJ],λus hl=>match us,hl with | [u],_=>λpm ctv c' => hbind u pm ctv c' _,λA outer s H f c' hr' => hbody A outer s H f c' _ hr',λi hi=>(hev i hi).mono sm,λH' s' => hQ H' (sm.trans s')⟩
 have rr:Vals [.int (n:Nat),.ref f'] (u::us):=.cons r1 r2;have hl:(u::us).length=["places", "lies_ahead"].length:=by rw[← rr.length];rfl
 have hb':=hb s2 (u::us) I2.kIn (by rw[Ng];exact hl);rw[Ng]at hb';refine NZ (Nw (F.run X.A X.stack s2 H2 ⟨u::us,[]⟩ (u::us) _ Q hr I2.env0 hb' rr hsp) λr s' hq' => ?_);cases r with
 |error e=>exact False.elim hq'
 |ok fl=>
  cases fl with
  |ret u=>exact I2.after hq'
  |next=>exact False.elim hq'
  |brk=>exact False.elim hq'
  |cont=>exact False.elim hq'
end
def zmT{K:FG}{P:AD}{cr:Nat->Nat->Option Str}{t0:TE}{σ:St}{G:Hp}{n:Nat}{g:Nat->Bool}(hP:G P=some (.tbl cr))(h0:Ev K t0 σ G (.int (n:Nat)))(hn:n<=10^6)(he:∀ i,i<n->Ev K te (some (.int (i:Nat))::WM σ js) G (.bool (g i))):
  Ev K (tMA K P cr js t0 te) σ G (.int (hv g 0 n:Nat)):=λG1 H s1 s2 Q k=>h0 G1 H s1 s2 _ λv G2 H2 g2 hv2=>by
 have s:ZF G H2:=s1.trans (g2.gg.trans g2.gh);refine⟨s _ _ hP,n,g,hv2.int,hn,λi hi=>(he i hi).mono s,λH' sH=>k _ G2 H' (g2.trans (Vy g2.gh sH)) (Zr _)⟩
theorem QM{b:β}:∀{l:List (AD×β)},l.lookup a=some b->(a,b)∈l
 |[],h=>by simp at h
 |(z,v)::l,h=>by
  rw[Og]at h;cases hb:a==z with
  |true=>
   rw[hb]at h;have:a=z:=by simpa using hb
   cases h;subst this;exact IC
  |false=>rw[hb]at h;exact Iz _ (QM h)
theorem zdk{b:β}:∀{l:List (AD×β)},(l.map (·.1)).Nodup->(a,b)∈l->l.lookup a=some b
 |[],_,h=>by simp at h
 |(z,v)::l,nd,h=>by
  rw[Og];rw[Nb,nodup_cons]at nd;rcases ID.mp h with e | h
  .cases e;simp
  .have:a≠z:=λe=>nd.1 (e ▸ List.mem_map_of_mem (f:=(·.1)) h);have hb:(a==z)=false:=by simpa using this
   rw[hb];exact zdk nd.2 h
structure Bs(K:FG)(mg:Str->LF)(base:Heap):Prop where
 kin:K.In base
 bm:BM mg base
abbrev zl5:=List (AD×(Nat->Nat->Option Str))
def zdw(H:Hp)(tabs:zl5):Prop:=∀ p∈tabs,H p.1=some (.tbl p.2)
def zfM{P:Program}{w:World}{K:FG}{mg mb:Str->LF}{fa:AD}{sp:Sp}{s₁:SH}{vs:LD}{ns:List Int}(tabs:zl5)(KX:K.In s₁.heap)(hns:s₁.heap.Ns mainGlobals mg)(hb:s₁.heap.Ns builtinsNs mb)(hbb:∀ x:Str,x≠ "__name__" -> mb x=bootBuiltins x)(hlim:s₁.heap.NoLimit)(hg:s₁.gens = #[])(ha:s₁.heap.get? a=some {cls:=.type "list",data:=.seq vs.toArray})(hi:IntsAre vs ns)(hl:ns.length<=sizeLine)(hr:Wh k callerA)(hbm:BM mg s₁.heap)(hT:∀ p∈tabs,s₁.heap.get? p.1=some {cls:=.none,data:=.fields #[]})(hIs:∀ p∈tabs,isCodeTable s₁.heap p.1)(hKt:∀ p∈tabs,K.lookup p.1=none)(hnd:(tabs.map (·.1)).Nodup)(F:∀ base:Heap,K.In base->base.Ns mainGlobals mg->Bs K mg base->Ju P w K mg base CX0 k fa fd [x] sp)(hbind:∀(s:SH)(u:Value),BindsTo s fd ⟨[u],[]⟩ [(x,u)])(hsp:∀ H:Hp,zdw H tabs->SqL K H a (ns.map V.int)->sp [.ref a] H (λv _=>v = .bl true) λ_ _ _=>False):
  codeAny (model P w) callerA (.call (.ref fa) ⟨[.ref a],[]⟩) (λr s' => r = .ok (.ret (.bool true))/\OldK s₁.heap s'.heap/\s'.os=s₁.os/\AllBare s'.gens) s₁:=by
 have rv:=zbX hi;have lenV:=hi.length;have core:∀ H:Hp,zdw H tabs->SqL K H a (ns.map V.int)->HOk P w H s₁.heap->(∀ b,H b≠none->(b=a/\∃ o xs,H b=some (.frz o (.lst xs)))\/∃ p∈tabs,p.1=b)->(H a≠none->K.lookup a=none)->
   codeAny (model P w) callerA (.call (.ref fa) ⟨[.ref a],[]⟩) (λr s' => r = .ok (.ret (.bool true))/\OldK s₁.heap s'.heap/\s'.os=s₁.os/\AllBare s'.gens) s₁:=by
  intro H hTb hS ac hA hK;have base_of:∀{b:AD}{o:Obj},s₁.heap.get? b=some o->H b=none->(zge s₁.heap H).get? b=some o:=λe n=>zg4 e n;have noT:∀{b:AD}{o:Obj},s₁.heap.get? b=some o->(∀ vs n,o.data≠.seq vs n)->(∀ vs,o.data≠.fields vs)->H b=none:=λ{b o} e d1 d2=>by
   cases q:H b with
   |none=>rfl
   |some u=>
    rcases hA b (by rw[q];simp)with⟨e',_⟩ | ⟨p,hp,e'⟩
    .subst e';rw[ha]at e;cases e;exact absurd rfl (d1 _ _)
    .subst e';rw[hT p hp]at e;cases e;exact absurd rfl (d2 _)
  have noA:∀{b:AD}{o:Obj}{es:Array DictEntry}{ep:Nat},s₁.heap.get? b=some o->o.data = .dict es ep->H b=none:=λ{b o es ep} e d=>noT e (λvs n z=>by rw[d]at z;cases z) λvs z=>by rw[d]at z;cases z
  have nsK:∀{b:AD}{m:Str->LF},s₁.heap.Ns b m->(zge s₁.heap H).Ns b m:=λ{b m} ⟨o,es,ep,e,d,r⟩=>⟨o,es,ep,base_of e (noA e d),d,r⟩
  have hKb:K.In (zge s₁.heap H):=λb o e=>base_of (KX b o e) (by
   cases q:H b with
   |none=>rfl
   |some u=>
    rcases hA b (by rw[q];simp)with⟨e',_⟩ | ⟨p,hp,e'⟩
    .subst e';rw[hK (by rw[q];simp)]at e;cases e
    .subst e';rw[hKt p hp]at e;cases e)
  have hBs:Bs K mg (zge s₁.heap H):=⟨hKb,by
   obtain⟨bm,ob,b1,b2,b3,b4,b5,b6⟩:=hbm;exact⟨bm,ob,b1,b2,base_of b3 (noT b3 (λvs n z=>by rw[b6]at z;cases z) λvs z=>by rw[b6]at z;cases z),b4,b5,b6⟩⟩
  have hM:Mod K mg (zge s₁.heap H):=⟨hKb,nsK hns,⟨mb,nsK hb,hbb⟩,let ⟨mc,h1,h2⟩:=hlim;⟨mc,nsK h1,h2⟩⟩
  have e0:zcD P w K mg (zge s₁.heap H) callerA [] s₁ H:=⟨rfl,hM,λb o e=>ziX e,Nat.le_of_eq (zfU _ _),trivial,λb hb=>absurd (show b∈([]:LG)from hb) (by simp),ac,.of_eq hg⟩
  refine Nw ((F _ hKb (nsK hns) hBs).run callerA [] s₁ H ⟨[.ref a],[]⟩ [.ref a] [.ref a] _ _ hr e0 (hbind s₁ (.ref a)) (.cons rfl .nil) (hsp H hTb hS)) λr s' h=>?_;cases r with
  |error e=>exact False.elim h
  |ok fl=>
   cases fl with
   |next=>exact False.elim h
   |brk=>exact False.elim h
   |cont=>exact False.elim h
   |ret u=>
    obtain⟨v,H',os,bare,un,hok',r',q⟩:=h;have q' : v = .bl true:=q;subst q';obtain rfl:u=Value.bool true:=r';refine⟨rfl,⟨λb o e=>?_,λb o e=>un.there b o e (by simp)⟩,os,bare⟩;cases q:H b with
    |none=>exact .inl (un.keep b o e q (by intro z;exact absurd (show b∈([]:LG)from z) (by simp)) (by simp))
    |some u=>
     rcases hA b (by rw[q];simp)with⟨e',ob,xs,z⟩ | ⟨p,hp,e'⟩
     .have z2:=un.frzs b ob _ z;obtain⟨e1,_⟩:=ac b _ z;obtain⟨e2,_⟩:=hok' b _ z2;rw[e]at e1;cases e1;exact .inl e2
     .subst e';have z:=un.tbls _ _ (hTb p hp);obtain⟨ps,e1,_⟩:=hok' _ _ z;rw[hT p hp]at e;cases e;exact .inr (.inl ⟨hIs p hp,rfl,#[],ps,rfl,by rw[Array.empty_append];exact e1⟩)
 have hpa:∀ p∈tabs,p.1≠a:=λp hp z=>by have:=hT p hp;rw[z,ha]at this;cases this
 have tl:∀ p∈tabs,tabs.lookup p.1=some p.2:=λp hp=>zdk hnd hp;have okT:∀(H:Hp)(b:AD)(cr:Nat->Nat->Option Str),tabs.lookup b=some cr->Yt P w H s₁.heap b (.tbl cr):=λH b cr e=>⟨#[],hT (b,cr) (QM e),trivial,λpos v z=>by cases z⟩
 cases hk:K.lookup a with
 |some o=>
  have e:=KX a o hk;rw[ha]at e;cases e;refine core (λb=>(tabs.lookup b).map HO.tbl) (λp hp=>by show(tabs.lookup p.1).map HO.tbl=_;rw[tl p hp];rfl) (.inr ⟨_,vs.toArray,_,hk,rfl,rfl,rfl,by rw[Ix,lenV];exact hl,by simpa using rv⟩) (λb u z=>?_) (λb z=>?_) λz=>?_
  .obtain⟨cr,e1,e2⟩:=map_eq_some_iff.mp z;subst e2;exact okT _ b cr e1
  .replace z:(tabs.lookup b).map HO.tbl≠none:=z
   cases e:tabs.lookup b with
   |none=>rw[e]at z;exact absurd rfl z
   |some cr=>exact .inr ⟨_,QM e,rfl⟩
  .replace z:(tabs.lookup a).map HO.tbl≠none:=z
   cases e:tabs.lookup a with
   |none=>rw[e]at z;exact absurd rfl z
   |some cr=>exact absurd rfl (hpa _ (QM e))
 |none=>
  refine core (λb=>if b=a then some (.frz {cls:=.type "list",data:=.seq vs.toArray} (.lst (ns.map V.int)))else(tabs.lookup b).map HO.tbl) (λp hp=>?_) (.inl (.inr ⟨{cls:=.type "list",data:=.seq vs.toArray},IA rfl⟩)) (λb u z=>?_) (λb z=>?_) λ_=>hk
  .show(if p.1=a then _ else(tabs.lookup p.1).map HO.tbl)=_;rw[Iw (hpa p hp),tl p hp];rfl
  .by_cases hb:b=a
   .have z':=(IA hb).symm.trans z;cases z';subst hb;exact⟨ha,by rw[Ig];exact hl,vs,_,rv,ha⟩
   .have z':=(Iw hb).symm.trans z;obtain⟨cr,e1,e2⟩:=map_eq_some_iff.mp z';subst e2;exact okT _ b cr e1
  .by_cases hb:b=a
   .exact .inl ⟨hb,_,_,IA hb⟩
   .replace z:(if b=a then _ else(tabs.lookup b).map HO.tbl)≠none:=z
    rw[Iw hb]at z;cases e:tabs.lookup b with
    |none=>rw[e]at z;exact absurd rfl z
    |some cr=>exact .inr ⟨_,QM e,rfl⟩
def zgx{l:PySem.W.OpenLaw}{n:Nat}{q:Program}{loose:LB}{XP:(Str->LF)->Heap->Prop}{YP:World->Heap->Prop}{d:DefRec}{K:Params->FG}{sp:World->Sp}(tabs:World->zl5)(hn:l.most=some n)(hn2:n<=sizeLine)(hdf:d.params.defaults=[])(hr:Wh k callerA)(hY:∀(w:World)(h:Heap),YP w h->(K w.params).In h/\∀ p∈tabs w,h.get? p.1=some {cls:=.none,data:=.fields #[]})(F:∀(w:World)(mg:Str->LF)(fa:AD)(h:Heap),(K w.params).In h->h.Ns mainGlobals mg->mg d.name=some (.ref fa)->
   ∃ fd:FuncData,(∀(s:SH)(u:Value),BindsTo s fd ⟨[u],[]⟩ [(x,u)])/\((∀ p∈tabs w,(K w.params).lookup p.1=none)/\(∀ p∈tabs w,isCodeTable h p.1)/\((tabs w).map (·.1)).Nodup)/\
    ∀ base:Heap,(K w.params).In base->base.Ns mainGlobals mg->Bs (K w.params) mg base->Ju l.prog w (K w.params) mg base CX0 k fa fd [x] (sp w))(hsp:∀(w:World)(H:Hp)(a:AD)(ns:List Int),ns.length<=n->zdw H (tabs w)->SqL (K w.params) H a (ns.map V.int)->sp w [.ref a] H (λv _=>v = .bl true) λ_ _ _=>False):
  PySem.W.WalkO q loose XP YP l.row.toRowW d [] (λf vs=>PySem.call f vs):=by
 refine Att.zcI hn hdf λw s₀ s₁ mg mb fa o pm cd doc a vs ns G Y ho hd hcd hmg hobj hints hlen hg=>?_;obtain⟨KX,hT⟩:=hY w _ Y;obtain⟨fd,hb,⟨h1,h2,h3⟩,hF⟩:=F w mg fa _ KX G.T.g hmg;exact zfM (tabs w) KX G.T.g G.T.b G.T.builtins G.T.nolimit hg hobj hints (Nj hlen hn2) hr G.T.bmain hT h2 h1 h3 hF hb (λH hO hS=>hsp w H a ns hlen hO hS)
def zay(K:FG)(tabs:zl5):Sp:=λvs H Q _=>∃(a:AD)(ns:List Int),vs=[.ref a]/\SqL K H a (ns.map V.int)/\ns.length<=63/\zdw H tabs/\∀ H',Q (.bl true) H'
def zaU{K:FG}{P:AD}(X:K.In h)(e:codeHdIn K c P=true):isCodeTable h P:=by obtain⟨o,vs,file,tf,flags,tg,inF,text,tt,e1,e2,e3,e4,_⟩:=codeHd_of_K X e;exact⟨c,o,vs,e1,e2,e3,e4⟩
end L2
namespace StbG
open PySem PyProof.Rows
variable {xs:Array Keyed}{st:SortSt}{x nrem:Nat}
noncomputable def R(f:Keyed->Int)(xs:Array Keyed)(i:Nat):Int:=match xs[i]? with
 |some p=>f p
 |none=>0
def zgf{f:Keyed->Int}{ys:Array Keyed}{i j:Nat}(h:xs[i]?=ys[j]?):R f xs i=R f ys j:=by unfold R;rw[h]
structure SB(κ:SortKind)(a₀:Array Keyed)(st:SortSt):Prop where
 perm:(arrOf st).Perm a₀
 kind:kindOf st=κ
 failed:failedOf st=none
 pend:pendingOf st = #[]
theorem SB.size{κ:SortKind}{a₀:Array Keyed}(h:SB κ a₀ st):(arrOf st).size=a₀.size:=h.perm.size_eq
theorem SB.setArr{κ:SortKind}{a₀:Array Keyed}(h:SB κ a₀ st)(hp:xs.Perm (arrOf st)):SB κ a₀ (PyProof.Rows.setArr st xs):=⟨hp.trans h.perm,h.kind,h.failed,h.pend⟩
def Srt(ρ:Keyed->Int)(xs:Array Keyed)(n:Nat):Prop:=∀ i j,i<=j->j<n->R ρ xs i<=R ρ xs j
def Up(ρ τ:Keyed->Int)(xs:Array Keyed)(n:Nat):Prop:=∀ i j,i<j->j<n->R ρ xs i<R ρ xs j\/(R ρ xs i=R ρ xs j/\R τ xs i<=R τ xs j)
def Dn(ρ τ:Keyed->Int)(xs:Array Keyed)(n:Nat):Prop:=∀ i j,i<j->j<n->R ρ xs j<R ρ xs i\/(R ρ xs i=R ρ xs j/\R τ xs j<=R τ xs i)
def Rs(τ:Keyed->Int)(N:Nat)(xs:Array Keyed)(n:Nat):Prop:=∀ i j,i<j->n<=j->j<N->R τ xs i<=R τ xs j
variable {ρ τ:Keyed->Int}{κ:SortKind}
def Rs.mono{N n m:Nat}(h:Rs τ N xs n)(k:n<=m):Rs τ N xs m:=λi j a b c=>h i j a (by omega) c
def Up.le{n:Nat}(h:Up ρ τ xs n):Srt ρ xs n:=λi j hij hj=>by
 rcases Nat.lt_or_eq_of_le hij with q | rfl
 .rcases h i j q hj with z | z <;> omega
 .exact Int.le_refl _
def zl3{a n N:Nat}(hu:Up ρ τ xs a)(hr:Rs τ N xs a)(hs:Srt ρ xs n)(hn:n<=N):Up ρ τ xs n:=λi j hij hj=>by
 have le:=hs i j (Od hij) hj;by_cases h:j<a
 .exact hu i j hij h
 .have:=hr i j hij (by omega) (by omega);omega
def zhF{i j:Nat}(hj:j<=xs.size)(k:Nat):(i<=k/\k<j->R ρ (mirror xs i j ((j-i) / 2)) k=R ρ xs (i+j-1-k)/\R τ (mirror xs i j ((j-i) / 2)) k=R τ xs (i+j-1-k))/\
  (¬ (i<=k/\k<j)->R ρ (mirror xs i j ((j-i) / 2)) k=R ρ xs k/\R τ (mirror xs i j ((j-i) / 2)) k=R τ xs k):=by
 have e:=getElem?_mirror_all (i:=i) hj k;refine⟨λh=>?_,λh=>?_⟩
 .rw[IA h]at e;exact⟨zgf e,zgf e⟩
 .rw[Iw h]at e;exact⟨zgf e,zgf e⟩
def zl8{src d:Nat}(hs:src<xs.size)(hd:d<=src)(k:Nat):(k=src-d->R ρ (bubble xs src d) k=R ρ xs src/\R τ (bubble xs src d) k=R τ xs src)/\
  (src-d<k/\k<=src->R ρ (bubble xs src d) k=R ρ xs (k-1)/\R τ (bubble xs src d) k=R τ xs (k-1))/\(k<src-d\/src<k->R ρ (bubble xs src d) k=R ρ xs k/\R τ (bubble xs src d) k=R τ xs k):=by
 have e:=getElem?_bubble hs d hd k;refine⟨λh=>?_,λh=>?_,λh=>?_⟩
 .rw[IA h]at e;exact⟨zgf e,zgf e⟩
 .rw[Iw (by omega),IA h]at e;exact⟨zgf e,zgf e⟩
 .rw[Iw (by omega),Iw (by omega)]at e;exact⟨zgf e,zgf e⟩
def zeX{g:Nat}(hx:x<=xs.size)(hg:g<=x)(h1:Dn ρ τ xs g)(h2:∀ i,i<g->g<x->R ρ xs g<R ρ xs i)(h3:∀ i,g<=i->i<x->R ρ xs i=R ρ xs g)(h4:∀ i j,i<j->g<=i->j<x->R τ xs i<=R τ xs j):
  Dn ρ τ (mirror xs g x ((x-g) / 2)) x:=λi j hij hj=>by
 have mi:=zhF (ρ:=ρ) (τ:=τ) (i:=g) hx i;have mj:=zhF (ρ:=ρ) (τ:=τ) (i:=g) hx j;by_cases c1:g<=i
 .obtain⟨a1,a2⟩:=mi.1 ⟨c1,(by omega)⟩;obtain⟨b1,b2⟩:=mj.1 ⟨(by omega),hj⟩;rw[a1,a2,b1,b2];have q1:=h3 (g+x-1-i) (by omega) (by omega);have q2:=h3 (g+x-1-j) (by omega) (by omega);exact .inr ⟨(by omega),h4 _ _ (by omega) (by omega) (by omega)⟩
 .obtain⟨a1,a2⟩:=mi.2 (by omega);rw[a1,a2];by_cases c2:g<=j
  .obtain⟨b1,b2⟩:=mj.1 ⟨c2,hj⟩;rw[b1,b2];have q2:=h3 (g+x-1-j) (by omega) (by omega);have:=h2 i (by omega) (by omega);exact .inl (by omega)
  .obtain⟨b1,b2⟩:=mj.2 (by omega);rw[b1,b2];exact h1 i j hij (by omega)
def zb3{N g:Nat}(hx:x<=xs.size)(h:Rs τ N xs x):Rs τ N (mirror xs g x ((x-g) / 2)) x:=λi j hij h1 h2=>by
 have mi:=zhF (ρ:=τ) (τ:=τ) (i:=g) hx i;obtain⟨_,b2⟩:=(zhF (ρ:=τ) (τ:=τ) (i:=g) hx j).2 (by omega);rw[b2];by_cases c1:g<=i/\i<x
 .rw[(mi.1 c1).2];exact h _ _ (by omega) (by omega) h2
 .rw[(mi.2 c1).2];exact h _ _ hij (by omega) h2
section
variable {prog:Program}{w:World}{A:Around}{E:Value->SH->Prop}{s:SH}{a₀:Array Keyed}
def Cmp(prog:Program)(w:World)(A:Around)(E:Value->SH->Prop)(s:SH)(ρ:Keyed->Int)(κ:SortKind)(a₀:Array Keyed):Prop:=∀{st:SortSt}{i j:Nat}{Q:Option Bool->SortSt->Prop},SB κ a₀ st->i<a₀.size->j<a₀.size->Q (some (decide (R ρ (arrOf st) i<R ρ (arrOf st) j))) st->wpS (model prog w) A E s (ltAt' i j) Q st
def zlO{a:Nat}{Q:AscSt->SortSt->Prop}(ik:Cmp prog w A E s ρ κ a₀)(hn:nrem<=a₀.size)(a1:1<=a)(an:a<=nrem)(hB:SB κ a₀ st)(hs:Srt ρ (arrOf st) a)(k:∀ n,a<=n->n<=nrem->Srt ρ (arrOf st) n->(n=nrem\/R ρ (arrOf st) n<R ρ (arrOf st) (n-1))->Q (none,n) st):wpS (model prog w) A E s (ascLoop a nrem) Q st:=by
 unfold ascLoop;refine wpS_forRange (I:=λx c s2=>s2=st/\c=(none,x)/\Srt ρ (arrOf st) x) ?turn ?over ⟨rfl,rfl,hs⟩
 case over=>rintro c s2 ⟨rfl,rfl,h⟩;rw[Nat.max_eq_right an]at h ⊢;exact k nrem an (Ih _) h (.inl rfl)
 case turn=>
  rintro x c s2 x1 x2 ⟨rfl,rfl,h⟩;dsimp only;refine wpS_bind (ik hB (by omega) (by omega) ?_);by_cases less:R ρ (arrOf s2) x<R ρ (arrOf s2) (x-1)
  .rw[Iq less];simp only[Ox];exact wpS_pure (k x x1 (by omega) h (.inr less))
  .rw[Iy less];simp only[IG,IW];refine wpS_pure ⟨rfl,rfl,λi j hij hj=>?_⟩;by_cases c:j<x
   .exact h i j hij c
   .have e:j=x:=by omega
    subst e;by_cases e2:i=j
    .rw[e2];exact Int.le_refl _
    .have:=h i (j-1) (by omega) (by omega);omega
abbrev Good(ρ τ:Keyed->Int)(κ:SortKind)(a₀:Array Keyed)(st:SortSt)(n:Nat):Prop:=SB κ a₀ st/\Up ρ τ (arrOf st) n/\Rs τ a₀.size (arrOf st) n
def zhR{n:Nat}{Q:Option Nat->SortSt->Prop}(ik:Cmp prog w A E s ρ κ a₀)(hn:nrem<=a₀.size)(n1:1<=n)(nn:n<=nrem)(hB:SB κ a₀ st)(hd:Dn ρ τ (arrOf st) n)(hr:Rs τ a₀.size (arrOf st) n)(k:∀ m st',Good ρ τ κ a₀ st' m->1<=m->m<=nrem->Q (some m) st'):wpS (model prog w) A E s (tail3 n nrem) Q st:=by
 have hsz:n<=(arrOf st).size:=by rw[hB.size];omega
 have u:Up ρ τ (mirror (arrOf st) 0 n ((n-0) / 2)) n:=λi j hij hj=>by obtain⟨a1,a2⟩:=(zhF (ρ:=ρ) (τ:=τ) (i:=0) hsz i).1 ⟨Nl _,(by omega)⟩;obtain⟨b1,b2⟩:=(zhF (ρ:=ρ) (τ:=τ) (i:=0) hsz j).1 ⟨Nl _,hj⟩;rw[a1,a2,b1,b2];have:=hd (0+n-1-j) (0+n-1-i) (by omega) (by omega);omega
 have r:Rs τ a₀.size (mirror (arrOf st) 0 n ((n-0) / 2)) n:=zb3 hsz hr;unfold tail3;refine wpS_bind (wpS_reverse (wpS_bind (zlO ik hn n1 nn (hB.setArr (mirror_perm _ _ _ _)) (Up.le u) λm m1 m2 sm _=>?_)));exact wpS_pure (k m _ ⟨hB.setArr (mirror_perm _ _ _ _),zl3 u r sm (by omega),Rs.mono r m1⟩ (by omega) m2)
structure zdS(ρ τ:Keyed->Int)(κ:SortKind)(a₀:Array Keyed)(st:SortSt)(x g:Nat):Prop where
 b:SB κ a₀ st
 lt:g<x
 d:Dn ρ τ (arrOf st) g
 hi:∀ i,i<g->R ρ (arrOf st) g<R ρ (arrOf st) i
 eq:∀ i,g<=i->i<x->R ρ (arrOf st) i=R ρ (arrOf st) g
 r:Rs τ a₀.size (arrOf st) g
def zdS.close{g:Nat}(f:zdS ρ τ κ a₀ st x g)(hx:x<=a₀.size):SB κ a₀ (setArr st (mirror (arrOf st) g x ((x-g) / 2)))/\Dn ρ τ (mirror (arrOf st) g x ((x-g) / 2)) x/\Rs τ a₀.size (mirror (arrOf st) g x ((x-g) / 2)) x/\∀ k,R ρ (mirror (arrOf st) g x ((x-g) / 2)) k=R ρ (arrOf st) k:=by
 have hs:x<=(arrOf st).size:=by rw[f.b.size];exact hx
 have lt:=f.lt;refine⟨f.b.setArr (mirror_perm _ _ _ _),zeX hs (Od lt) f.d (λi h _=>f.hi i h) f.eq λi j a b c=>f.r i j a (by omega) (by omega),zb3 hs (f.r.mono (Od lt)),λk=>?_⟩;by_cases c:g<=k/\k<x
 .rw[((zhF (ρ:=ρ) (τ:=τ) (i:=g) hs k).1 c).1,f.eq _ (by omega) (by omega),f.eq k c.1 c.2]
 .rw[((zhF (ρ:=ρ) (τ:=τ) (i:=g) hs k).2 c).1]
def zdS.one(f:zdS ρ τ κ a₀ st x (x-1)):Dn ρ τ (arrOf st) x:=λi j hij hj=>by
 have lt:=f.lt;by_cases c:j<x-1
 .exact f.d i j hij c
 .have e:j=x-1:=by omega
  subst e;exact .inl (f.hi i hij)
def zln{n:Nat}{Q:DescSt->SortSt->Prop}(ik:Cmp prog w A E s ρ κ a₀)(hn:nrem<=a₀.size)(nn:n+1<=nrem)(f0:zdS ρ τ κ a₀ st (n+1) n)(k:∀ m q st',zdS ρ τ κ a₀ st' m (m-(q+1))->q+1<=m->m<=nrem->Q (none,m,q) st'):wpS (model prog w) A E s (descLoop (n+1) nrem) Q st:=by
 unfold descLoop;refine wpS_forRange (I:=λx c st' => ∃ q,c=(none,x,q)/\zdS ρ τ κ a₀ st' x (x-(q+1))/\q+1<=x) ?turn ?over ⟨0,rfl,by simpa using f0,(by omega)⟩
 case over=>rintro c st' ⟨q,rfl,f,hq⟩;rw[show max (n+1) nrem=nrem from Nat.max_eq_right nn]at f hq ⊢;exact k nrem q st' f hq (Ih _)
 case turn=>
  rintro x c st' hx1 hx2 ⟨q,rfl,f,hq⟩;dsimp only;have lx:R ρ (arrOf st') (x-1)=R ρ (arrOf st') (x-(q+1)):=f.eq _ (by omega) (by omega);refine wpS_bind (ik f.b (by omega) (by omega) ?_);by_cases less:R ρ (arrOf st') x<R ρ (arrOf st') (x-1)
  .rw[Iq less];simp only[Ox];have nextF:∀ st2,SB κ a₀ st2->Dn ρ τ (arrOf st2) x->Rs τ a₀.size (arrOf st2) x->(∀ z,R ρ (arrOf st2) z=R ρ (arrOf st') z)->zdS ρ τ κ a₀ st2 (x+1) (x+1-(0+1)):=λst2 b d r e=>by
    refine⟨b,(by omega),by simpa using d,λi hi=>?_,λi h1 h2=>?_,by simpa using r⟩
    .have hi' : i<x:=by omega
     rw[show x+1-(0+1)=x by omega,e,e];by_cases c:i<x-(q+1)
     .have:=f.hi i c;omega
     .have:=f.eq i (by omega) hi';omega
    .have:i=x+1-(0+1):=by omega
     rw[this]
   by_cases hq0:q>0
   .rw[IA hq0];obtain⟨c1,c2,c3,c4⟩:=f.close (by omega);exact wpS_bind (wpS_reverse (wpS_pure ⟨0,rfl,nextF _ c1 c2 c3 c4,(by omega)⟩))
   .rw[Iw hq0];have e0:q=0:=by omega
    subst e0;exact wpS_pure ⟨0,rfl,nextF st' f.b (zdS.one (by simpa using f)) (f.r.mono (by omega)) λ_=>rfl,(by omega)⟩
  .rw[Iy less];simp only[IG,IW];refine wpS_bind (ik f.b (by omega) (by omega) ?_);by_cases more:R ρ (arrOf st') (x-1)<R ρ (arrOf st') x
   .rw[Iq more];simp only[Ox];exact wpS_pure (k x q st' f hq (by omega))
   .rw[Iy more];simp only[IG,IW];have ee:x+1-(q+1+1)=x-(q+1):=by omega
    have f' : zdS ρ τ κ a₀ st' (x+1) (x-(q+1)):=⟨f.b,(by omega),f.d,f.hi,λi h1 h2=>by
     by_cases c:i<x
     .exact f.eq i h1 c
     .have:i=x:=by omega
      subst this;omega,f.r⟩
    exact wpS_pure ⟨q+1,rfl,by rw[ee];exact f',(by omega)⟩
def zau{n:Nat}{Q:Option Nat->SortSt->Prop}(ik:Cmp prog w A E s ρ κ a₀)(hn:nrem<=a₀.size)(nn:n+1<=nrem)(f0:zdS ρ τ κ a₀ st (n+1) n)(k:∀ m st',Good ρ τ κ a₀ st' m->1<=m->m<=nrem->Q (some m) st'):
  wpS (model prog w) A E s (descPart n nrem) Q st:=by
 unfold descPart;refine wpS_bind (wpS_lift (N9 ⟨rfl,wpS_bind (zln ik hn nn f0 λm q st' f hq hm=>?_)⟩));dsimp only;by_cases hq0:q>0
 .rw[IA hq0];obtain⟨c1,c2,c3,_⟩:=f.close (by omega);exact wpS_bind (wpS_reverse (zhR ik hn (by omega) hm c1 c2 c3 k))
 .rw[Iw hq0];have e0:q=0:=by omega
  subst e0;exact zhR ik hn (by omega) hm f.b (zdS.one (by simpa using f)) (f.r.mono (by omega)) k
def zi6{Q:Option Nat->SortSt->Prop}(ik:Cmp prog w A E s ρ κ a₀)(hn:nrem<=a₀.size)(n1:1<=nrem)(hB:SB κ a₀ st)(r0:Rs τ a₀.size (arrOf st) 0)(k:∀ m st',Good ρ τ κ a₀ st' m->1<=m->m<=nrem->Q (some m) st'):
  wpS (model prog w) A E s (countRun' 0 nrem) Q st:=by
 have u1:Up ρ τ (arrOf st) 1:=λi j a b=>by omega
 rw[countRun0_eq];refine wpS_bind (zlO ik hn (Ih 1) n1 hB u1.le λn m1 m2 sn hor=>?_);have un:Up ρ τ (arrOf st) n:=zl3 u1 (r0.mono (by omega)) sn (by omega);have g:Good ρ τ κ a₀ st n:=⟨hB,un,r0.mono (by omega)⟩
 dsimp only;by_cases e:n=nrem
 .rw[IA (by simpa using e)];exact wpS_pure (k n st g m1 m2)
 rw[Iw (by simpa using e)];have lt:R ρ (arrOf st) n<R ρ (arrOf st) (n-1):=hor.resolve_left e;by_cases c:n>1
 .rw[IA c];refine wpS_bind (ik hB (by omega) (by omega) ?_);by_cases rose:R ρ (arrOf st) 0<R ρ (arrOf st) (n-1)
  .rw[Iq rose];simp only[Ox];exact wpS_pure (k n st g m1 m2)
  .rw[Iy rose];simp only[IG,IW];have all:∀ i,0<=i->i<n->R ρ (arrOf st) i=R ρ (arrOf st) 0:=λi _ hi=>by have a1:=sn 0 i (Nl _) hi;have a2:=sn i (n-1) (by omega) (by omega);omega
   have f:zdS ρ τ κ a₀ st n 0:=⟨hB,(by omega),λi j _ h=>by omega,λi h=>by omega,all,r0⟩
   obtain⟨c1,c2,c3,c4⟩:=f.close (by omega);refine wpS_bind (wpS_reverse (zau ik hn (by omega) ⟨c1,(by omega),c2,λi hi=>?_,λi h1 h2=>?_,c3⟩ k))
   .show R ρ (mirror (arrOf st) 0 n ((n-0) / 2)) n<R ρ (mirror (arrOf st) 0 n ((n-0) / 2)) i;rw[c4,c4];have:=all i (Nl _) hi;have:=all (n-1) (Nl _) (by omega);omega
   .have:i=n:=by omega
    rw[this]
 .rw[Iw c];have e1:n=1:=by omega
  subst e1;exact zau ik hn (by omega) ⟨hB,(by omega),λi j _ h=>by omega,λi h=>by(have:i=0:=by omega);subst this;exact lt,λi h1 h2=>by(have:i=1:=by omega);rw[this],r0.mono (by omega)⟩ k
def zgq{n ok:Nat}{Q:Bool->SortSt->Prop}(ik:Cmp prog w A E s ρ κ a₀)(hn:n<=a₀.size)(o1:1<=ok)(o2:ok<=n)(g0:Good ρ τ κ a₀ st ok)(kk:∀ st',Good ρ τ κ a₀ st' n->Q true st'):wpS (model prog w) A E s (binarySort' 0 n ok) Q st:=by
 rw[binarySort'_eq];simp only[Oz];refine wpS_bind (wpS_mono (wpS_forRange (I:=λk c st' => c=(none,())/\Good ρ τ κ a₀ st' k) (Q:=λc st' => c=(none,())/\Good ρ τ κ a₀ st' n) ?turn ?over ⟨rfl,by rw[Nat.max_eq_left o1];exact g0⟩) λc st' ⟨e,g⟩=>by subst e;exact wpS_pure (kk st' g))
 case over=>rintro c st' ⟨e,g⟩;rw[Nat.max_eq_left o1,Nat.max_eq_right o2]at g;exact⟨e,g⟩
 case turn=>
  rintro k c st' k1 k2 ⟨rfl,hB,u,r⟩;have ks:k<a₀.size:=by omega
  have srt:=u.le;refine wpS_bind (wpS_mono (wpS_forRange (I:=λx c s2=>s2=st' /\ ∃ lo hi,c=(none,lo,hi)/\lo<=hi/\hi<=k/\hi-lo<=k-x/\(∀ i,i<lo->R ρ (arrOf st') i<=R ρ (arrOf st') k)/\∀ i,hi<=i->i<k->R ρ (arrOf st') k<R ρ (arrOf st') i)
   (Q:=λc s2=>s2=st' /\ ∃ lo hi,c=(none,lo,hi)/\lo<=k/\(∀ i,i<lo->R ρ (arrOf st') i<=R ρ (arrOf st') k)/\∀ i,lo<=i->i<k->R ρ (arrOf st') k<R ρ (arrOf st') i) ?look ?found ⟨rfl,0,k,rfl,Nl _,Ih _,(by omega),λi h=>by omega,λi a b=>by omega⟩) ?put)
  case found=>
   rintro c s2 ⟨rfl,lo,hi,rfl,a1,a2,a3,a4,a5⟩;have:lo=hi:=by omega
   subst this;exact⟨rfl,lo,lo,rfl,a2,a4,a5⟩
  case look=>
   rintro x c s2 _ hx ⟨rfl,lo,hi,rfl,a1,a2,a3,a4,a5⟩;dsimp only;by_cases ge:lo ≥ hi
   .rw[IA ge];have:lo=hi:=by omega
    subst this;exact wpS_pure ⟨rfl,lo,lo,rfl,a2,a4,a5⟩
   .rw[Iw ge];refine wpS_bind (ik hB ks (by omega) ?_);by_cases less:R ρ (arrOf s2) k<R ρ (arrOf s2) ((lo+hi) / 2)
    .rw[Iq less];simp only[Ox];exact wpS_pure ⟨rfl,lo,(lo+hi) / 2,rfl,(by omega),(by omega),(by omega),a4,λi b1 b2=>Int.lt_of_lt_of_le less (srt _ _ b1 b2)⟩
    .rw[Iy less];simp only[IG,IW];exact wpS_pure ⟨rfl,(lo+hi) / 2+1,hi,rfl,(by omega),(by omega),(by omega),λi b1=>Int.le_trans (srt i ((lo+hi) / 2) (by omega) (by omega)) (Int.not_lt.mp less),a5⟩
  case put=>
   rintro c s2 ⟨rfl,lo,hi,rfl,a2,a4,a5⟩;show wpS _ _ _ _ (do moveDown' k lo;pure (ForInStep.yield (none,()))) _ _;have kz:k<(arrOf s2).size:=by rw[hB.size];exact ks
   have ed:k-(k-lo)=lo:=by omega
   rw[moveDown'_eq];refine wpS_bind (wpS_modify (wpS_pure ⟨rfl,hB.setArr (bubble_perm _ _ _),λi j hij hj=>?_,λi j hij h1 h2=>?_⟩))
   .show R ρ (bubble (arrOf s2) k (k-lo)) i<R ρ (bubble (arrOf s2) k (k-lo)) j\/(R ρ (bubble (arrOf s2) k (k-lo)) i=R ρ (bubble (arrOf s2) k (k-lo)) j/\R τ (bubble (arrOf s2) k (k-lo)) i<=R τ (bubble (arrOf s2) k (k-lo)) j)
    have bi:=zl8 (ρ:=ρ) (τ:=τ) kz (show k-lo<=k by omega) i;have bj:=zl8 (ρ:=ρ) (τ:=τ) kz (show k-lo<=k by omega) j;rw[ed]at bi bj;rcases Nat.lt_trichotomy i lo with c1 | c1 | c1
    .obtain⟨p1,p2⟩:=bi.2.2 (.inl c1);rw[p1,p2];rcases Nat.lt_trichotomy j lo with c2 | c2 | c2
     .obtain⟨q1,q2⟩:=bj.2.2 (.inl c2);rw[q1,q2];exact u i j hij (by omega)
     .obtain⟨q1,q2⟩:=bj.1 c2;rw[q1,q2];have z1:=a4 i c1;have z2:=r i k (by omega) (Ih _) ks;omega
     .obtain⟨q1,q2⟩:=bj.2.1 ⟨c2,(by omega)⟩;rw[q1,q2];exact u i (j-1) (by omega) (by omega)
    .obtain⟨p1,p2⟩:=bi.1 c1;obtain⟨q1,q2⟩:=bj.2.1 ⟨(by omega),(by omega)⟩;rw[p1,p2,q1,q2];exact .inl (a5 (j-1) (by omega) (by omega))
    .obtain⟨p1,p2⟩:=bi.2.1 ⟨c1,(by omega)⟩;obtain⟨q1,q2⟩:=bj.2.1 ⟨(by omega),(by omega)⟩;rw[p1,p2,q1,q2];exact u (i-1) (j-1) (by omega) (by omega)
   .show R τ (bubble (arrOf s2) k (k-lo)) i<=R τ (bubble (arrOf s2) k (k-lo)) j;have bi:=zl8 (ρ:=ρ) (τ:=τ) kz (show k-lo<=k by omega) i;rw[ed]at bi;obtain⟨_,q2⟩:=(zl8 (ρ:=ρ) (τ:=τ) kz (show k-lo<=k by omega) j).2.2 (.inr (by omega));rw[q2];rcases Nat.lt_trichotomy i lo with c1 | c1 | c1
    .rw[(bi.2.2 (.inl c1)).2];exact r i j hij (by omega) h2
    .rw[(bi.1 c1).2];exact r k j (by omega) (by omega) h2
    .by_cases c2:i<=k
     .rw[(bi.2.1 ⟨c1,c2⟩).2];exact r (i-1) j (by omega) (by omega) h2
     .rw[(bi.2.2 (.inr (by omega))).2];exact r i j hij (by omega) h2
def zhK{Q:Unit->SortSt->Prop}(ik:Cmp prog w A E s ρ κ a₀)(hB:SB κ a₀ st)(z2:2<=a₀.size)(z64:a₀.size<64)(r0:Rs τ a₀.size (arrOf st) 0)(kk:∀ st',(arrOf st').Perm a₀->failedOf st'=none->Up ρ τ (arrOf st') a₀.size->Q () st'):wpS (model prog w) A E s sortRuns' Q st:=by
 have mr:minRun' a₀.size a₀.size 0=a₀.size:=by
  obtain⟨f,hf⟩:∃ f,a₀.size=f+1:=⟨a₀.size-1,(by omega)⟩
  have q:minRun' (f+1) a₀.size 0=a₀.size:=by rw[minRun'_succ,IA z64];rfl
  rwa [← hf]at q
 rw[sortRuns'_eq];refine wpS_bind (wpS_get (show wpS _ _ _ _ _ _ _ from ?_));dsimp only;simp only[hB.size,mr];have fin:∀ st' n,n=a₀.size->Good ρ τ κ a₀ st' n->(arrOf (setPending st' ((pendingOf st').push (0,n,0)))).Perm a₀/\failedOf (setPending st' ((pendingOf st').push (0,n,0)))=none/\pendingOf (setPending st' ((pendingOf st').push (0,n,0))) = #[(0,n,0)]/\Up ρ τ (arrOf (setPending st' ((pendingOf st').push (0,n,0)))) n:=λst' n _ g=>⟨g.1.perm,g.1.failed,by show(pendingOf st').push _=_;rw[g.1.pend];rfl,g.2.1⟩
 refine wpS_bind (wpS_mono (wpS_forRange
  (I:=λx c st' => (x=0/\c=(none,0)/\SB κ a₀ st' /\ Rs τ a₀.size (arrOf st') 0)\/(1<=x/\c=(none,a₀.size)/\ (arrOf st').Perm a₀/\failedOf st'=none/\pendingOf st' = #[(0,a₀.size,0)]/\Up ρ τ (arrOf st') a₀.size))
  (Q:=λc st' => c=(none,a₀.size)/\ (arrOf st').Perm a₀/\failedOf st'=none/\pendingOf st' = #[(0,a₀.size,0)]/\Up ρ τ (arrOf st') a₀.size) ?turn ?over (.inl ⟨rfl,rfl,hB,r0⟩)) ?post)
 case over=>
  rintro c st' (⟨hx,_⟩ | ⟨_,r⟩)
  .omega
  .exact r
 case turn=>
  rintro x c st' _ hx (⟨rfl,rfl,hB',r'⟩ | ⟨hx1,rfl,hD⟩)
  .dsimp only;rw[Iw (show ¬ (0 ≥ a₀.size)by omega)];simp only[Nat.sub_zero,Nat.min_self,Oz];refine wpS_bind (zi6 ik (Ih _) (show 1<=a₀.size by omega) hB' r' λm st2 g2 m1 m2=>?_);dsimp only;by_cases lt:m<a₀.size
   .rw[IA lt];refine wpS_bind (wpS_lift (N9 ⟨rfl,wpS_bind (zgq ik (Ih _) m1 m2 g2 λst3 g3=>?_)⟩));simp only[NW,IG,IW];have nb:(pendingOf st3).back?=none:=by rw[g3.1.pend];rfl
    refine wpS_bind (wpS_get (show wpS _ _ _ _ _ _ _ from ?_));rw[nb];exact wpS_bind (wpS_modify (wpS_pure (.inr ⟨(by omega),rfl,fin st3 _ rfl g3⟩)))
   .rw[Iw lt];have em:m=a₀.size:=by omega
    subst em;have nb:(pendingOf st2).back?=none:=by rw[g2.1.pend];rfl
    refine wpS_bind (wpS_get (show wpS _ _ _ _ _ _ _ from ?_));rw[nb];exact wpS_bind (wpS_modify (wpS_pure (.inr ⟨(by omega),rfl,fin st2 _ rfl g2⟩)))
  .dsimp only;rw[IA (show a₀.size ≥ a₀.size from Ih _)];exact wpS_pure ⟨rfl,hD⟩
 case post=>
  rintro c st' ⟨rfl,p,f,pd,u⟩;dsimp only;refine wpS_bind (wpS_mono (wpS_forRange (I:=λ_ c s2=>s2=st' /\ c=(none,())) (Q:=λc s2=>s2=st' /\ c=(none,())) (λx c s2 _ _ ⟨e1,e2⟩=>?_) (λ_ _ q=>q) ⟨rfl,rfl⟩) λc s2 ⟨e1,e2⟩=>?_)
  .subst e1 e2;exact wpS_pure (kk _ p f u)
  .subst e1 e2;refine wpS_bind (wpS_get (show wpS _ _ _ _ _ _ _ from ?_));rw[IA (show(pendingOf s2).size<=1 by rw[pd];exact Ih 1)];exact wpS_pure ⟨rfl,rfl⟩
end
end StbG
namespace L2
open PySem PySem.Spec PyProof.Rows
variable {us vs:LD}{h:Heap}{a:AD}{o:Obj}{H H':Hp}{params:Arguments}{sc:Scope}{y:Str}{js:List Nat}{ρ:Keyed->Int}{α:Type}{cl:List (Str×AD)}
theorem zeJ:∀{xs:LC}{us:LD},Vals xs us->∀{i:Nat}{u:Value},us[i]?=some u->∃ x,xs[i]?=some x/\RelV x u
 |_,_,.nil,_,_,e=>by simp at e
 |_,_,.cons r _,0,_,e=>by simp at e;subst e;exact⟨_,rfl,r⟩
 |_,_,.cons _ h,i+1,_,e=>by simpa using zeJ h (by simpa using e)
theorem zan:∀{xs:LC}{us:LD},xs.length=us.length->(∀(i:Nat) x u,xs[i]?=some x->us[i]?=some u->RelV x u)->Vals xs us
 |[],[],_,_=>.nil
 |x::xs,u::us,hl,h=>.cons (h 0 x u rfl rfl) (zan (by simpa using hl) λi y v e1 e2=>h (i+1) y v (by simpa using e1) (by simpa using e2))
 |[],_::_,hl,_=>by simp at hl
 |_::_,[],hl,_=>by simp at hl
theorem VH:∀{ns:List Int}{us:LD},Vals (ns.map V.int) us->IntsAre us ns
 |[],_,h=>by cases h;exact .nil
 |n::ns,_,h=>by
  cases h with
  |cons r h' =>obtain⟨t,rfl⟩:=r;exact .cons n t (VH h')
abbrev gV(g:Nat->Int)(n:Nat):LC:=(List.range n).map λi=>V.int (g i)
def zfY{g:Nat->Int}{n i:Nat}{u:Value}(h:Vals (gV g n) us)(e:us[i]?=some u):i<n/\∃ t,u = .int (g i) t:=by
 obtain⟨x,hx,r⟩:=zeJ h e;rw[Io]at hx;have hi:i<n:=by have:=(Ik.mp e).1;have hl:=h.length;rw[Ig,ND]at hl;omega
 rw[List.getElem?_range hi]at hx;have:V.int (g i)=x:=Ip hx;subst this;exact⟨hi,r⟩
section
variable {g:Nat->Int}{n:Nat}{ae items:LD}
def zgT(hk:Vals (gV g n) ae)(ha:Vals (gV (λi=>(i:Nat)) n) items){p:Keyed}(h:p∈ae.zip items):∃ m,m<n/\∃ t t',p=(.int (g m) t,.int (m:Nat) t'):=by obtain⟨i,hi⟩:=List.getElem?_of_mem h;rw[NL]at hi;obtain⟨h1,t,e1⟩:=zfY hk hi.1;obtain⟨_,t',e2⟩:=zfY ha hi.2;exact⟨i,h1,t,t',Prod.ext e1 e2⟩
noncomputable def nO(p:Keyed):Nat:=(numOf p.2).toNat
def zhW(hk:Vals (gV g n) ae)(ha:Vals (gV (λi=>(i:Nat)) n) items):(ae.zip items).map nO=List.range n:=by
 have l1:=hk.length;have l2:=ha.length;rw[Ig,ND]at l1 l2;refine List.ext_getElem? λi=>?_;rw[Io];by_cases h:i<n
 .have e1:ae[i]?=some ae[i]:=Ib (by omega);have e2:items[i]?=some items[i]:=Ib (by omega);have e3:(ae.zip items)[i]?=some (ae[i],items[i]):=by rw[NL];exact⟨e1,e2⟩
  obtain⟨_,t,e⟩:=zfY ha e2;rw[e3,List.getElem?_range h];show some (nO (ae[i],items[i]))=some i;unfold nO;rw[e];simp[numOf]
 .rw[List.getElem?_eq_none (by simp;omega),List.getElem?_eq_none (by simp;omega)];rfl
def zki(hk:Vals (gV g n) ae)(ha:Vals (gV (λi=>(i:Nat)) n) items){xs:Array Keyed}(hp:xs.toList.Perm (ae.zip items))(hu:StbG.Up (λp=>numOf p.1) (λp=>numOf p.2) xs n):
  ∃ out:List Nat,out.Perm (List.range n)/\out.Pairwise (λi j=>g i<g j\/(g i=g j/\i<j))/\Vals (out.map λi=>V.int (i:Nat)) (xs.map (·.2)).toList:=by
 have hsz:xs.size=n:=by have:=hp.length_eq;have l1:=hk.length;have l2:=ha.length;rw[Ig,ND]at l1 l2;rw[List.length_zip,length_toList]at this;omega
 have mem:∀(i:Nat)(p:Keyed),xs[i]?=some p->∃ m,m<n/\∃ t t',p=(.int (g m) t,.int (m:Nat) t'):=λi p e=>zgT hk ha (hp.mem_iff.mp (by
  have:=Array.mem_of_getElem? e;exact mem_toList_iff.mpr this))
 have hout:∀(i:Nat)(p:Keyed),xs[i]?=some p->StbG.R (λp=>numOf p.1) xs i=g (nO p)/\StbG.R (λp=>numOf p.2) xs i=(nO p:Nat):=λi p e=>by
  obtain⟨m,_,t,t',rfl⟩:=mem i p e;constructor
  .unfold StbG.R;rw[e];simp[numOf,nO]
  .unfold StbG.R;rw[e];simp[numOf,nO]
 have hnd:(xs.toList.map nO).Nodup:=by have:=hp.map nO;rw[zhW hk ha]at this;exact this.nodup_iff.mpr List.nodup_range
 refine⟨xs.toList.map nO,by rw[← zhW hk ha];exact hp.map _,?_,?_⟩
 .rw[N4];intro i j hi hj hij;have hj' : j<xs.size:=by simpa using hj
  have e1:xs[i]?=some xs[i]:=IS (by omega);have e2:xs[j]?=some xs[j]:=IS hj';obtain⟨a1,a2⟩:=hout i _ e1;obtain⟨b1,b2⟩:=hout j _ e2;have:=hu i j hij (by omega);rw[a1,a2,b1,b2]at this;have q1:(xs.toList.map nO)[i]=nO xs[i]:=by simp
  have q2:(xs.toList.map nO)[j]=nO xs[j]:=by simp
  have ne:=N4.mp hnd i j hi hj hij;rw[q1,q2]at ne ⊢;have ne' : nO xs[i]≠nO xs[j]:=ne;omega
 .refine zan (by simp) λi x u h1 h2=>?_;have hi:i<xs.size:=by have:=(Ik.mp h2).1;simpa using this
  have e1:xs[i]?=some xs[i]:=IS hi;obtain⟨m,_,t,t',e⟩:=mem i _ e1;have hx:x=V.int (nO xs[i]:Nat):=by
   rw[Io,Io]at h1;have:xs.toList[i]?=some xs[i]:=by simp[hi]
   rw[this]at h1;exact(Ip h1).symm
  have hu' : u=xs[i].2:=by
   have:(xs.map (·.2)).toList[i]?=some xs[i].2:=by simp[hi]
   rw[this]at h2;exact(Ip h2).symm
  rw[hx,hu',e];exact⟨t',by simp[nO,numOf]⟩
def zhj(hk:Vals (gV g n) ae)(ha:Vals (gV (λi=>(i:Nat)) n) items):StbG.Rs (λp=>numOf p.2) (ae.toArray.zip items.toArray).size (ae.toArray.zip items.toArray) 0:=λi j hij _ hj=>by
 have at_:∀ i,i<(ae.toArray.zip items.toArray).size->StbG.R (λp=>numOf p.2) (ae.toArray.zip items.toArray) i=(i:Nat):=λi hi=>by
  have e:(ae.toArray.zip items.toArray)[i]?=some (ae.toArray.zip items.toArray)[i]:=IS hi;have e' : (ae.zip items)[i]?=some (ae.toArray.zip items.toArray)[i]:=by
   have:(ae.toArray.zip items.toArray).toList=ae.zip items:=by rw[ksk_zip]
   rw[← this,getElem?_toList];exact e
  rw[NL]at e';obtain⟨_,t,e2⟩:=zfY ha e'.2;unfold StbG.R;rw[e];show numOf (ae.toArray.zip items.toArray)[i].2=_;rw[e2];rfl
 rw[at_ i (by omega),at_ j hj];omega
end
def zhp{prog:Program}{w:World}{A:Around}{E:Value->SH->Prop}{s:SH}{a₀:Array Keyed}(ik:IntKeys a₀):StbG.Cmp prog w A E s (λp=>numOf p.1) oneType' a₀:=λ{st i j Q} hB hi hj hq=>wpS_ltK ⟨hB.perm,hB.kind,hB.failed,hB.pend⟩ ik hi hj hq
section
variable {X:Cx}{aa:List (Addr×Obj)}{σ:St}{H:Hp}{s:SH}{g:Nat->Int}{n:Nat}{D kS:AD}{P:PySem.Fin->SH->Prop}{A:Around}{E:Value->SH->Prop}{items:LD}
noncomputable def exO(a:AD)(o:Obj):HO:=.ext λh=>h.get? a=some o
def zhY{Pr:Program}{w:World}(e:h.get? a=some o):Yt Pr w H h a (exO a o):=⟨e,⟨o,e⟩,λ_ _ p q=>q _ p⟩
theorem Inv.exO(I:Inv X aa σ H s)(h:H a=some (L2.exO a o)):s.heap.get? a=some o:=(show Yt X.prog X.w H s.heap a (L2.exO a o)from I.ac a _ h).1
def zjO{ae:LD}{e e1:Nat}(I:Inv X aa σ H s)(hD:H D=some (exO D (seqObj "list" #[] e1)))(hK:H kS=some (.lst (gV g n)))(hkD:kS≠D)(n64:n<64)(hk:Vals (gV g n) ae)(ha:Vals (gV (λi=>(i:Nat)) n) items)(hoK:s.heap.get? kS=some (seqObj "list" ae.toArray e))(k:∀ out:List Nat,out.Perm (List.range n)->out.Pairwise (λi j=>g i<g j\/(g i=g j/\i<j))->∀ s',Inv X aa σ (upd (upd H kS (.lst [])) D (.lst (out.map λi=>V.int (i:Nat)))) s' -> P (.done (.ret .none)) s'):
  wpAny (model X.prog X.w) A (ksk_end D false items.toArray e1 (.ref kS) ae.toArray) P E s:=by
 have zl:(2000:Nat)<=sizeLine:=by decide
 have l1:=hk.length;have l2:=ha.length;rw[Ig,ND]at l1 l2;have ik:IntsAre ae.toArray.toList ((List.range n).map g):=by rw[List.toList_toArray];exact VH (by rw[Oy];exact hk)
 have hzs:(ae.toArray.zip items.toArray).size=n:=by rw[Array.size_zip,Ix,Ix];omega
 have ez:(ae.toArray.zip items.toArray).toList=ae.zip items:=by rw[ksk_zip]
 have TAIL:∀ st:SortSt,(arrOf st).Perm (ae.toArray.zip items.toArray)->failedOf st=none->StbG.Up (λp=>numOf p.1) (λp=>numOf p.2) (arrOf st) n->wpAny (model X.prog X.w) A (ksk_tail D false e1 (.ref kS) st) P E s:=λst hp hf hu=>by
  obtain⟨out,o1,o2,o3⟩:=zki hk ha (xs:=arrOf st) (by rw[← ez];exact N2.mp hp) hu;have osz:((arrOf st).map (·.2)).size=n:=by rw[Array.size_map,hp.size_eq,hzs]
  have I1:=I.zj2 (l:=kS) (ys:=[]) (its':=[]) (f:=λ_=>(#[]:Array Value)) (t':=s.toks) hK hoK rfl .nil (by show 0<=_;omega);have hD1:upd H kS (.lst []) D=some (exO D (seqObj "list" #[] e1)):=by rw[Zm (Ne.symm hkD)];exact hD
  have hoD1:(s.heap.update kS (Obj.mapSeq λ_=>(#[]:Array Value))).get? D=some (seqObj "list" #[] e1):=I1.exO hD1;have upq:=PySem.IsL.update hoD1 λ_=>(arrOf st).map (·.2);have eqA:(arrOf st).map (·.2)=((arrOf st).map (·.2)).toList.toArray:=by rw[Array.toArray_toList]
  have I2:Inv X aa σ (upd (upd H kS (.lst [])) D (.lst (out.map λi=>V.int (i:Nat)))) {s with heap:=(s.heap.update kS (Obj.mapSeq λ_=>(#[]:Array Value))).update D (Obj.mapSeq λ_=>(arrOf st).map (·.2))}:=I1.write (x:=D) (e:=D) (t':=s.toks) (by rw[hD1];exact trivial) (.inl rfl) (λb' u hb hu=>(II _ (Obj.mapSeq λ_=>(arrOf st).map (·.2)) (Ne.symm hb)).trans hu) ⟨_,upq⟩ (show Yt X.prog X.w _ _ D (.lst (out.map λi=>V.int (i:Nat)))from⟨by rw[Ig];have:=o1.length_eq;rw[ND]at this;omega,((arrOf st).map (·.2)).toList,_,o3,by rw[← eqA];exact upq⟩)
  unfold ksk_tail;refine Ia (listUpdate_at hoK rfl ?_ (by rw[Ix];omega) (Nl _));refine Ia (wpAny_letGo (Ia (seqEpoch_at hoD1 rfl (Ia (listUpdate_at hoD1 rfl ?_ (Nl _) (by show((arrOf st).map (·.2)).size<=_;omega))))));rw[hf];simp only[bne_self_eq_false,IG,IW];exact Ic (k out o1 o2 _ I2)
 unfold ksk_end;dsimp only;simp only[IG,IW];by_cases h2:items.toArray.size<2
 .rw[IA h2,IA h2];refine Ia (Ic ?_);rw[StateT.run_pure];refine Ia (Ic (TAIL (SortSt.mk' general' (ae.toArray.zip items.toArray) #[] 7 none) (Array.Perm.refl _) rfl λi j a b=>?_));rw[Ix]at h2;omega
 .rw[Iw h2,Iw h2];rw[Ix]at h2;rw[ksk_kind ik (by rw[Ix];omega)];refine Ia (Ic (Ia (IK (StbG.zhK (ρ:=λp=>numOf p.1) (τ:=λp=>numOf p.2) (κ:=oneType') (a₀:=ae.toArray.zip items.toArray) (st:=SortSt.mk' oneType' (ae.toArray.zip items.toArray) #[] 7 none)
   (Q:=λ_ st' => (arrOf st').Perm (ae.toArray.zip items.toArray)/\failedOf st'=none/\StbG.Up (λp=>numOf p.1) (λp=>numOf p.2) (arrOf st') (ae.toArray.zip items.toArray).size)
   (zhp (ksk_intKeys ik)) ⟨Array.Perm.refl _,rfl,rfl,rfl⟩ (by rw[hzs];omega) (by rw[hzs];exact n64) (zhj hk ha) λst' a1 a2 a3=>⟨a1,a2,a3⟩) ?_ λ_ _ e=>e)))
  rintro⟨⟨⟩,st'⟩ s' ⟨rfl,hp,hf,hu⟩;exact TAIL st' hp hf (by rw[← hzs];exact hu)
def zgv{kk e1:Nat}{f:AD}{q:Str}{body:Expr}{cap:LB}{te:TE}{H0:Hp}(hr:Wh (kk+1) A)(hAf:A.frames=X.A.frames)(S:Xd X.env.scope sc [y] cap)(hjs:js.map (λj=>X.N[j]?)=cap.map some)(hbind:∀(u pm ctv:Value)(c' : AD)(cl:List (Str×AD)),bindArgs (kla_fn "<lambda>" q params body sc cl pm (.ref c') ctv) ⟨[u],[]⟩=pure [(y,u)])(hbody:∀ A outer s H f c' cl,Wh kk (A.deeper (PySem.W.envX q sc s.heap.objs.size f (.ref c') cl))->PE (zbM X.prog X.w X.K X.mg X.base ([y]++cap) q sc f c' cl A outer s H) body te)(L:VM H0 f q params body sc (JG X.env sc.names []))(hev:∀ i,i<n->Ev X.K te (some (.int (i:Nat))::WM σ js) H0 (.int (g i)))(I:Inv X aa σ H s)(s0:ZF H0 H)(hD:H D=some (exO D (seqObj "list" #[] e1)))(hK:H kS=some (.lst []))(hkD:kS≠D)(fD:H0 D=none)(fK:H0 kS=none)(n64:n<64)(ha:Vals (gV (λi=>(i:Nat)) n) items)(k:∀ out:List Nat,out.Perm (List.range n)->out.Pairwise (λi j=>g i<g j\/(g i=g j/\i<j))->∀ s' H',ZF H0 H' -> H' D=some (.lst (out.map λi=>V.int (i:Nat)))->Inv X aa σ H' s' -> P (.done (.ret .none)) s'):
  wpAny (model X.prog X.w) A (ksk_rest D (.ref f) false items.toArray e1 (.ref kS)) P E s:=by
 have zl:(2000:Nat)<=sizeLine:=by decide
 have l2:=ha.length;rw[Ig,ND]at l2;have lenJ:js.length=cap.length:=by have:=Na List.length hjs;simpa using this
 unfold ksk_rest;refine Ia (N9 ?_);rw[List.forIn_toArray];refine Ia (ksk_fold (λi s' => ∃ H',Inv X aa σ H' s' /\ ZF H0 H' /\ H' D=some (exO D (seqObj "list" #[] e1))/\H' kS=some (.lst (gV g i))) items 0 s ⟨H,I,s0,hD,hK⟩ ?turn ?over)
 case turn=>
  rintro j x s' hx ⟨H',I',s1,hD',hK'⟩;simp only[Oz]at hK' ⊢;obtain⟨hj,t,rfl⟩:=zfY ha hx;have C:=I'.zdp S hjs;have e0:zcD X.prog X.w X.K X.mg X.base A X.stack s' H':=⟨hAf.trans I'.env0.frames,I'.env0.mod,I'.env0.bs,I'.env0.bsz,I'.env0.zaY,I'.env0.frf,I'.env0.ac,I'.env0.bare⟩
  have L':=L.same λb o u e=>s1 b _ e;have run:=ze6 (A:=A) (Q:=λv H2=>v = .int (g j)/\ZF H' H2) (E:=E0) (vs:=[.int (j:Nat)]) (us:=[.int (j:Nat) t]) S (λz hz=>by
   obtain⟨c',hc'⟩:=Ny.mp (WP (env:=X.env) (acc:=[]) (IF hz));exact⟨c',hc'⟩) hr e0 L' C (λpm ctv c' => hbind _ pm ctv c' _) rfl (by unfold WM;rw[Ig,lenJ]) (.cons ⟨t,rfl⟩ .nil) (λc' hr' => hbody _ _ _ _ _ c' _ hr') ((hev j hj).use s1 λv G' H2 g2 hv=>⟨hv.int,g2.hh⟩)
  refine Ia (NG (NZ (Nw run λr s2 hq' => ?_)));cases r with
  |error e=>exact False.elim hq'
  |ok fl=>
   cases fl with
   |next=>exact False.elim hq'
   |brk=>exact False.elim hq'
   |cont=>exact False.elim hq'
   |ret u=>
    obtain⟨v,H2,I2,rv,ev,s2'⟩:=I'.after hq';subst ev;obtain⟨t2,rfl⟩:=rv;have hK2:=s2' _ _ hK';obtain⟨_,its,m,rv2,hl2,hoK⟩:=I2.zh5 hK2;have hl3:=rv2.length;rw[Ig,ND]at hl3;have I3:=I2.zj2 (l:=kS) (ys:=gV g (j+1)) (its':=its++[.int (g j) t2]) (f:=(·.push (.int (g j) t2))) (t':=s2.toks) hK2 hoK (by simp) (by
     rw[show gV g (j+1)=gV g j++[V.int (g j)]by rw[gV,OE,Ni];rfl];exact rv2.append (.cons ⟨t2,rfl⟩ .nil)) (by rw[Ig,ND];omega)
    refine Ia (listUpdate_at hoK rfl (Ic ⟨rfl,_,I3,λb o e=>?_,?_,Zh⟩) (by rw[Ix];omega) (by rw[Array.size_push,Ix];omega))
    .rw[Zm (Zk e fK)];exact s2' _ _ (s1 _ _ e)
    .rw[Zm (Ne.symm hkD)];exact s2' _ _ hD'
 case over=>rintro s' ⟨H',I',s1,hD',hK'⟩;rw[Oz,← l2]at hK';obtain⟨_,its,m,rv2,hl2,hoK⟩:=I'.zh5 hK';refine Ia (listItems_at hoK rfl ?_);exact zjO I' hD' hK' hkD n64 rv2 ha hoK λout o1 o2 s2 I2=>k out o1 o2 s2 _ (λb o e=>by rw[Zm (Zk e fD),Zm (Zk e fK)];exact s1 _ _ e) Zh I2
end
open PySem PySem.Spec PyProof.Rows StbG
section
variable {prog:Program}{w:World}{A:Around}{E:Value->SH->Prop}{s:SH}
def XM(h:Heap)(v:Value)(a b:Int):Prop:=∃ p o t u n,v = .ref p/\h.get? p=some o/\o.cls = .type "tuple" /\ o.data = .seq #[.int a t,.int b u] n
def zjV{x y:Value}{a b c d:Int}{Q:Bool->SH->Prop}(hx:XM s.heap x a b)(hy:XM s.heap y c d)(h:Q (decide (a<c\/(a=c/\b<d))) s):wpAny (model prog w) A (keyLt' (tuples' true) x y) Q E s:=by
 obtain⟨p,o,t,u,n,rfl,e1,_,d1⟩:=hx;obtain⟨p2,o2,t2,u2,n2,rfl,e2,_,d2⟩:=hy;refine PySem.W.kat_lt e1 d1 e2 d2 ?_;show PySem.W.KatLex prog w A true _ Q [(.int a t,.int c t2),(.int b u,.int d u2)] 0 s;refine kat_cons (wpAny_eqBool_int (kat_go (λz=>kat_yes (kat_cons (wpAny_eqBool_int (kat_go (λz2=>kat_yes (PySem.W.kat_nil ?_)) λz2=>kat_no (PySem.W.kat_one _ _ (lt_int ?_)))))) λz=>kat_no (oneLt_int ?_)))
 .have e1:a=c:=by simpa using z
  have e2:b=d:=by simpa using z2
  have:decide (a<c\/(a=c/\b<d))=false:=Iy (by omega);rw[this]at h;exact h
 .have e1:a=c:=by simpa using z
  have:decide (a<c\/(a=c/\b<d))=decide (b<d):=NY.mpr (by omega);rw[this]at h;exact h
 .have e1:a≠c:=by simpa using z
  have:decide (a<c\/(a=c/\b<d))=decide (a<c):=NY.mpr (by omega);rw[this]at h;exact h
def zfL(h:∀ p∈(vs.toArray.zip vs.toArray).toList,∃ a b,XM s.heap p.1 a b/\0<=b/\b<1000/\ρ p=a*1000+b):Cmp prog w A E s ρ (tuples' true) (vs.toArray.zip vs.toArray):=by
 intro st i j Q hB hi hj hq;have at_:∀ k,k<(vs.toArray.zip vs.toArray).size->∃ x q a b,(arrOf st)[k]?=some (x,q)/\XM s.heap x a b/\0<=b/\b<1000/\R ρ (arrOf st) k=a*1000+b:=λk hk=>by
  have hk' : k<(arrOf st).size:=by rw[hB.size];exact hk
  have hm:(arrOf st)[k]∈(vs.toArray.zip vs.toArray).toList:=(N2.mp hB.perm).mem_iff.mp (by simp);obtain⟨a,b,hp,b0,b1,e⟩:=h _ hm;have e' : (arrOf st)[k]?=some (arrOf st)[k]:=getElem?_pos _ k hk';exact⟨(arrOf st)[k].1,(arrOf st)[k].2,a,b,e',hp,b0,b1,by unfold R;rw[e'];exact e⟩
 obtain⟨x,p,a,b,ei,hx,x0,x1,ri⟩:=at_ i hi;obtain⟨y,q,c,d,ej,hy,y0,y1,rj⟩:=at_ j hj;rw[ri,rj]at hq;have e:decide (a*1000+b<c*1000+d)=decide (a<c\/(a=c/\b<d)):=NY.mpr (by omega);rw[e]at hq;rw[ltAt'_eq];refine wpS_bind (wpS_get ?_);show wpS _ _ _ _ (do let x ← elem' (arrOf st) i;let y ← elem' (arrOf st) j;lt' x y) Q st;rw[elem'_eq,elem'_eq,ei,ej];refine wpS_bind (wpS_pure (wpS_bind (wpS_pure ?_)));rw[lt'_eq];refine wpS_bind (wpS_get ?_);rw[hB.kind];exact wpS_bind (wpS_lift (NG (zjV hx hy ⟨rfl,wpS_pure hq⟩)))
def zdR{Q:SortKind->SH->Prop}(h:∀ v∈vs,∃ a b,XM s.heap v a b)(hne:vs≠[])(hq:Q (tuples' true) s):wpAny (model prog w) A (keyKind' vs.toArray) Q E s:=by
 have key:∀ vs:LD,(∀ v∈vs,∃ a b,XM s.heap v a b)->∃ fs:LD,KatTups s.heap vs fs/\fs.length=vs.length/\∀ f∈fs,∃ a t,f = .int a t:=by
  intro vs
  induction vs with
  |nil=>intro _;exact⟨[],.nil,rfl,λf hf=>by cases hf⟩
  |cons v r ih=>
   intro h;obtain⟨fs,k1,k2,k3⟩:=ih λz hz=>h z (Iz _ hz);obtain⟨a,b,p,o,t,u,n,rfl,e1,c1,d1⟩:=h v IC;exact⟨.int a t::fs,KatTups.cons e1 c1 d1 rfl k1,by rw[IE,IE,k2],λf hf=>by
    rcases ID.mp hf with rfl | hf
    .exact⟨a,t,rfl⟩
    .exact k3 f hf⟩
 obtain⟨fs,k1,k2,k3⟩:=key vs h;refine PySem.W.kat_kind (T:=.type "int") k1 (by rw[k2];cases vs with | nil=>exact absurd rfl hne | cons=>simp) (λf hf=>?_) (by decide) hq;obtain⟨a,t,rfl⟩:=k3 f hf;exact Looks.of_pure rfl
noncomputable def pN(h:Heap)(v:Value):Int:=match v with
 |.ref p=>match h.get? p with
  |some o=>match o.data with
   |.seq xs _=>numOf (xs.getD 0 .none)*1000+numOf (xs.getD 1 .none)
   |_=>0
  |none=>0
 |_=>0
def zlr{v:Value}{a b:Int}(x:XM h v a b):pN h v=a*1000+b:=by obtain⟨p,o,t,u,n,rfl,e1,_,d1⟩:=x;unfold pN;dsimp only;rw[e1];show(match o.data with | .seq xs _=>numOf (xs.getD 0 .none)*1000+numOf (xs.getD 1 .none) | _=>0)=_;rw[d1];rfl
def XM.keep{h':Heap}{v:Value}{a b:Int}(x:XM h v a b)(k:∀ b o,h.get? b=some o->h'.get? b=some o):XM h' v a b:=by obtain⟨p,o,t,u,n,e,e1,r⟩:=x;exact⟨p,o,t,u,n,e,k _ _ e1,r⟩
abbrev pz(vs:LD):Array Keyed:=vs.toArray.zip vs.toArray
def UG(vs:LD):(pz vs).size=vs.length:=by simp[pz]
def zif{p:Keyed}(h:p∈(pz vs).toList):p.1∈vs/\p.2=p.1:=by
 have e:(pz vs).toList=vs.zip vs:=by simp[pz]
 rw[e]at h;obtain⟨i,hi⟩:=List.getElem?_of_mem h;rw[NL]at hi;exact⟨Ii hi.1,Ip (hi.2.symm.trans hi.1)⟩
def zcs{n:Nat}{P:PySem.Fin->SH->Prop}(ho:s.heap.get? a=some (seqObj "list" vs.toArray n))(hv:∀ v∈vs,∃ x y,XM s.heap v x y/\0<=y/\y<1000/\∀ q,ρ (v,q)=x*1000+y)(z64:vs.length<64)(k:∀ st' : SortSt,(arrOf st').Perm (pz vs)->Up ρ (λ_=>0) (arrOf st') (pz vs).size->P (.done (.ret .none)) {s with heap:=sortedHeap s.heap a vs ((arrOf st').map (·.2))}):wpAny (model prog w) A (Builtin.«list.sort» ⟨[.ref a],[]⟩) P E s:=by
 have la:a<s.heap.objs.size:=IB ho;have zl:(64:Nat)<=sizeLine:=by decide
 obtain⟨e1,ho1⟩:∃ e1,(s.heap.update a (Obj.mapSeq λ_=>#[])).get? a=some (seqObj "list" #[] e1):=⟨_,get?_update_seq ho λ_=>#[]⟩
 have ho6:(((s.heap.update a (Obj.mapSeq λ_=>#[])).push (seqObj "tuple" vs.toArray 0)).push (seqObj "list" #[] 0)).get? a=some (seqObj "list" #[] e1):=Ie _ (Ie _ ho1);rw[list_sort_plain];refine Ia (listItems_at ho rfl (Ia (listUpdate_at ho rfl ?_ (by rw[Ix];omega) (Nl _))));refine Ia (seqEpoch_at ho1 rfl (Ia (wpAny_newTuple ?_ (by show vs.toArray.toList.length<=_;rw[List.toList_toArray];omega))));refine Ia (wpAny_newList (IV ?_) (Nl _));show wpAny (model prog w) A _ P E {s with heap:=((s.heap.update a (Obj.mapSeq λ_=>#[])).push (seqObj "tuple" vs.toArray 0)).push (seqObj "list" #[] 0)};have keep:∀ v∈vs,∀ x y,XM s.heap v x y->XM (((s.heap.update a (Obj.mapSeq λ_=>#[])).push (seqObj "tuple" vs.toArray 0)).push (seqObj "list" #[] 0)) v x y:=λv hv' x y pa=>by
  obtain⟨p,o,t,u,m,e,e1',c1,d1⟩:=pa;have npa:a≠p:=λz=>by subst z;rw[ho]at e1';have eo:=Ip e1';rw[← eo]at c1;have c2:Value.type "list" = Value.type "tuple" := c1;injection c2 with c2;exact absurd c2 (by decide)
  exact⟨p,o,t,u,m,e,Ie _ (Ie _ ((II s.heap _ npa).trans e1')),c1,d1⟩
 have osz:∀ st' : SortSt,(arrOf st').Perm (pz vs)->((arrOf st').map (·.2)).size<=sizeLine+1:=λst' hp=>by rw[Array.size_map,hp.size_eq,UG];omega
 dsimp only;by_cases h2:vs.toArray.size<2
 .rw[IA h2,IA h2];refine Ia (Ic ?_);rw[StateT.run_pure];refine Ia (Ic ?_);dsimp only;refine Ia (seqEpoch_at ho6 rfl (Ia (listUpdate_at ho6 rfl ?_ (Nl _) (osz (SortSt.mk' general' (pz vs) #[] 7 none) (Array.Perm.refl _)))));simp only[bne_self_eq_false,IG,IW];refine Ic (k (SortSt.mk' general' (pz vs) #[] 7 none) (Array.Perm.refl _) λi j hij hj=>?_);rw[UG]at hj;rw[Ix]at h2;omega
 .rw[Iw h2,Iw h2];rw[Ix]at h2;refine Ia (zdR (λv hv' => ?_) (λz=>by subst z;simp at h2) ?_)
  .obtain⟨x,y,pa,_⟩:=hv v hv';exact⟨x,y,keep v hv' x y pa⟩
  refine Ia (IK (zhK (ρ:=ρ) (τ:=λ_=>0) (κ:=tuples' true) (a₀:=pz vs) (st:=SortSt.mk' (tuples' true) (pz vs) #[] 7 none) (Q:=λ_ st' => (arrOf st').Perm (pz vs)/\failedOf st'=none/\Up ρ (λ_=>0) (arrOf st') (pz vs).size)
   (zfL λp hp=>?_) ⟨Array.Perm.refl _,rfl,rfl,rfl⟩ (by rw[UG];omega) (by rw[UG];exact z64) (λi j _ _ _=>?_) λst' a1 a2 a3=>⟨a1,a2,a3⟩) ?_ λ_ _ e=>e)
  .obtain⟨m1,m2⟩:=zif hp;obtain⟨x,y,pa,y0,y1,e⟩:=hv _ m1;exact⟨x,y,keep _ m1 x y pa,y0,y1,e p.2⟩
  .unfold R;split <;> split <;> exact Int.le_refl _
  rintro⟨⟨⟩,st'⟩ s' ⟨rfl,hp,hf,hu⟩;dsimp only;refine Ia (seqEpoch_at ho6 rfl (Ia (listUpdate_at ho6 rfl ?_ (Nl _) (osz st' hp))));rw[hf];simp only[bne_self_eq_false,IG,IW];exact Ic (k st' hp hu)
def zbw{l:AD}{Q:Value->SH->Prop}(hl:s.heap.IsList l vs.toArray)(hv:∀ v∈vs,∃ x y,XM s.heap v x y/\0<=y/\y<1000/\∀ q,ρ (v,q)=x*1000+y)(z64:vs.length<64)(k:∀ st' : SortSt,(arrOf st').Perm (pz vs)->Up ρ (λ_=>0) (arrOf st') (pz vs).size->Q (.ref (s.heap.objs.size+1)) {s with heap:=sortedAll s.heap vs ((arrOf st').map (·.2))}):wpAny (model prog w) A (call (.builtin "sorted") [.ref l]) Q E s:=by
 have zl:(64:Nat)<=sizeLine:=by decide
 refine Calls.call_function_entry kind_sorted plain_sorted entry_sorted (args_sorted1 _) (show wpAny _ _ (Builtin.«sorted» _) _ _ _ from ?_);unfold Builtin.«sorted»;refine Ia (m:=checkCount "sorted" 1 1 _) (Ic (Ia (collect_list hl (Ia (wpAny_newList ?_ (by omega))) (by omega))));have zs:((s.heap.push (seqObj "list" #[] 0)).update s.heap.objs.size (Obj.mapSeq (· ++ vs.toArray))).objs.size=s.heap.objs.size+1:=by rw[Heap.size_update,size_push']
 have oL:(((s.heap.push (seqObj "list" #[] 0)).update s.heap.objs.size (Obj.mapSeq (· ++ vs.toArray))).push (seqObj "list" vs.toArray 0)).get? (s.heap.objs.size+1)=some (seqObj "list" vs.toArray 0):=by rw[← zs];exact Il _ rfl
 show wpAny _ _ _ _ _ {s with heap:=((s.heap.push (seqObj "list" #[] 0)).update s.heap.objs.size (Obj.mapSeq (· ++ vs.toArray))).push (seqObj "list" vs.toArray 0)};rw[zs];refine Ia (IV (IL slot_list_sort ⟨_,oL,rfl⟩ entry_list_sort (zcs oL (λv hv' => ?_) z64 λst' a1 a2=>⟨_,rfl,Ic ⟨_,rfl,k st' a1 a2⟩⟩) (args_list_sort _)));obtain⟨x,y,pa,r⟩:=hv v hv';exact⟨x,y,pa.keep λb o e=>Ie _ ((II _ _ (ne_of_gt (IB e))).trans (Ie _ e)),r⟩
end
def zbO{β:Type}{f:α->β}{a b:List β}(h:a.Perm b):∀{Z:List α},Z.map f=b->∃ Z' : List α,Z'.Perm Z/\Z'.map f=a:=by
 induction h with
 |nil=>intro Z e;exact⟨Z,.refl _,e⟩
 |cons x h ih=>
  intro Z e;cases Z with
  |nil=>cases e
  |cons z Z=>injection e with e1 e2;obtain⟨Z',p,e3⟩:=ih e2;exact⟨z::Z',p.cons z,by rw[Nb,e1,e3]⟩
 |swap x y l=>
  intro Z e
  match Z,e with
  |z::z2::Z,e=>injection e with e1 e2;injection e2 with e2 e3;exact⟨z2::z::Z,.swap _ _ _,by rw[Nb,Nb,e1,e2,e3]⟩
 |trans h1 h2 i1 i2=>intro Z e;obtain⟨Z2,p2,e2⟩:=i2 e;obtain⟨Z1,p1,e1⟩:=i1 e2;exact⟨Z1,p1.trans p2,e1⟩
abbrev dPr(p:Int×Int):PD:=.tuple [.int p.1,.int p.2]
def zls(K:FG):LC->Hp->VK->Prop:=λxs H Q=>∃(G:Hp)(p:AD)(vs:LC)(ps:List (Int×Int)),xs=[.ref p]/\ZF G H/\SqL K H p vs/\Yl K G vs (ps.map dPr)/\ps.length<64/\(∀ q∈ps,0<=q.2/\q.2<1000)/\
 ∀(l:AD)(us:LC)(qs:List (Int×Int)),H l=none->qs.Perm ps->Yl K G us (qs.map dPr)->qs.Pairwise (λa b=>a.1*1000+a.2<=b.1*1000+b.2)->Q (.ref l) (upd H l (.lst us))
section
variable {X:Cx}{aa:List (Addr×Obj)}{σ:St}{H G:Hp}{s:SH}
def zil(I:Inv X aa σ H s)(sg:ZF G H){v:V}{u:Value}{q:Int×Int}(r:RelV v u)(h:Dat X.K G v (dPr q)):XM s.heap u q.1 q.2:=by
 obtain⟨p,xs,rfl,hp,hxs⟩:=h.tup;obtain⟨y,ys,rfl,hy,hxs⟩:=hxs.cons;obtain⟨z,zs,rfl,hz,hxs⟩:=hxs.cons;cases hxs.nil;cases hy.int;cases hz.int;obtain rfl:u=Value.ref p:=r;obtain⟨its,rv,⟨o,e1,c1,n,d1⟩,_⟩:=I.tuple (sg.tup hp);cases rv with
 |cons r1 rv=>
  cases rv with
  |cons r2 rv=>cases rv;obtain⟨t,rfl⟩:=r1;obtain⟨t2,rfl⟩:=r2;exact⟨p,o,t,t2,n,rfl,e1,c1,d1⟩
theorem triples(I:Inv X aa σ H s)(sg:ZF G H):∀{vs:LC}{its:LD}{ps:List (Int×Int)},Vals vs its->Yl X.K G vs (ps.map dPr)->∃ Z:List (Value×V×(Int×Int)),Z.map (·.1)=its/\Z.map (·.2.2)=ps/\∀ z∈Z,RelV z.2.1 z.1/\Dat X.K G z.2.1 (dPr z.2.2)/\XM s.heap z.1 z.2.2.1 z.2.2.2
 |_,_,[],.nil,_=>⟨[],rfl,rfl,λz hz=>by cases hz⟩
 |_,_,_::_,.nil,h=>by obtain⟨_,_,e,_⟩:=h.cons;cases e
 |_,_,[],.cons _ _,h=>by cases h.nil
 |v0::vs0,u0::us0,q::ps,.cons r rv,h=>by
  obtain⟨y,ys,e,hy,h'⟩:=h.cons;cases e;obtain⟨Z,e1,e2,e3⟩:=triples I sg rv h';refine⟨(u0,v0,q)::Z,by rw[Nb,e1],by rw[Nb,e2],λz hz=>?_⟩;rcases ID.mp hz with rfl | hz
  .exact⟨r,hy,zil I sg r hy⟩
  .exact e3 z hz
def zbU{K:FG}(e:X.K=K):zai X (.builtin "sorted") (zls K):=by
 subst e;intro aa s σ H xs us Q I r h;obtain⟨G,p,vs,ps,rfl,sg,hq,hd,h64,hps,k⟩:=h;obtain⟨u,rfl,rx⟩:=vals1 r;cases rx;obtain⟨its,r',pl,hz⟩:=I.list hq;have hlen:=r'.length;have hl2:=hd.length;rw[Ig]at hl2;obtain⟨Z,z1,z2,z3⟩:=triples I sg r' hd;have hv:∀ v∈its,∃ x y,XM s.heap v x y/\0<=y/\y<1000/\∀ q:Value,(λp:Keyed=>pN s.heap p.1) (v,q)=x*1000+y:=λv hv=>by rw[← z1]at hv;obtain⟨z,hz,rfl⟩:=NI.mp hv;obtain⟨_,_,pa⟩:=z3 z hz;have hq2:=hps z.2.2 (by rw[← z2];exact List.mem_map_of_mem hz);exact⟨_,_,pa,hq2.1,hq2.2,λ_=>zlr pa⟩
 refine zbw (ρ:=λp=>pN s.heap p.1) pl.isList hv (by omega) λst' a1 a2=>?_;obtain⟨c,hc⟩:=sortedAll_at s.heap its ((arrOf st').map (·.2));have zp:(arrOf st').size=its.length:=by rw[a1.size_eq,UG]
 have mem:∀ q∈(arrOf st').toList,q.1∈its/\q.2=q.1:=λq hq=>zif ((N2.mp a1).mem_iff.mp hq);have hperm:((arrOf st').toList.map (·.2)).Perm its:=by
  have:=(N2.mp a1).map (·.2);have e:(pz its).toList.map (·.2)=its:=by
   have:(pz its).toList=its.zip its:=by simp[pz]
   rw[this,← List.unzip_snd,List.unzip_zip (by rfl)]
  rw[e]at this;exact this
 obtain⟨Z',p1,e1⟩:=zbO hperm z1;have zl:Z'.length=(arrOf st').size:=by have:=Na List.length e1;simpa using this
 have hZ:∀ z∈Z',RelV z.2.1 z.1/\Dat X.K G z.2.1 (dPr z.2.2)/\XM s.heap z.1 z.2.2.1 z.2.2.2:=λz hz=>z3 z (p1.mem_iff.mp hz);have hvals:∀ L:List (Value×V×(Int×Int)),(∀ z∈L,RelV z.2.1 z.1/\Dat X.K G z.2.1 (dPr z.2.2)/\XM s.heap z.1 z.2.2.1 z.2.2.2)->Vals (L.map (·.2.1)) (L.map (·.1))/\Yl X.K G (L.map (·.2.1)) ((L.map (·.2.2)).map dPr):=by
  intro L
  induction L with
  |nil=>intro _;exact⟨.nil,ZC⟩
  |cons z L ih=>intro h;obtain⟨i1,i2⟩:=ih λy hy=>h y (Iz _ hy);obtain⟨h1,h2,_⟩:=h z IC;exact⟨.cons h1 i1,Zv h2 i2⟩
 obtain⟨hV,hD⟩:=hvals Z' hZ;rw[e1]at hV;have eo:((arrOf st').map (·.2)).toList=(arrOf st').toList.map (·.2):=by simp
 refine⟨.ref (s.heap.objs.size+1),_,I.laid (t':=s.toks) (λ_ _=>sortedAll_old) (le_succ _) (show Yt X.prog X.w _ (sortedAll s.heap its ((arrOf st').map (·.2))) _ (.lst (Z'.map (·.2.1)))from⟨by rw[Ig];have:(64:Nat)<=sizeLine:=(by decide);omega,((arrOf st').map (·.2)).toList,c,by rw[eo];exact hV,hc⟩),rfl,k _ _ (Z'.map (·.2.2)) (I.ac.fresh (le_succ _)) (by rw[← z2];exact p1.map _) hD ?_⟩;rw[N4];intro i j hi hj hij;have hj' : j<Z'.length:=by simpa using hj
 have at_:∀ m (hm:m<Z'.length),R (λp=>pN s.heap p.1) (arrOf st') m=Z'[m].2.2.1*1000+Z'[m].2.2.2:=λm hm=>by
  have hm' : m<(arrOf st').size:=by omega
  have ea:(arrOf st')[m]?=some (arrOf st')[m]:=IS hm';have q1:Z'[m].1=(arrOf st')[m].2:=by
   have h1:(Z'.map (·.1))[m]?=some Z'[m].1:=by rw[Io,Ib hm];rfl
   rw[e1,Io]at h1;have h2:(arrOf st').toList[m]?=some (arrOf st')[m]:=by simp[hm']
   rw[h2]at h1;exact(Ip h1).symm
  have q2:=(mem (arrOf st')[m] (by simp)).2;unfold R;rw[ea];show pN s.heap (arrOf st')[m].1=_;rw[← q2,← q1];exact zlr (hZ _ (NO hm)).2.2
 have:=a2 i j hij (by rw[← a1.size_eq];omega);rw[at_ i (by omega),at_ j hj']at this;simp only[List.getElem_map];omega
def ziG{K:FG}{σ:St}{G:Hp}{t:TA}{ps qs:List (Int×Int)}(h:EvA K t σ G [.list (ps.map dPr)])(h64:ps.length<64)(hps:∀ q∈ps,0<=q.2/\q.2<1000)(hq:∀ rs:List (Int×Int),rs.Perm ps->rs.Pairwise (λa b=>a.1*1000+a.2<=b.1*1000+b.2)->rs=qs):Ev K (tCB (zls K) t) σ G (.list (qs.map dPr)):=
 zhs h λG1 H xs Q s1 s2 hx k=>by obtain⟨v,r,rfl,hv,hx⟩:=hx.cons;rw[hx.nil];obtain⟨p,ys,rfl,hp,hys⟩:=hv.lst;refine⟨G1,p,ys,ps,rfl,s2,SqL.of (s2 _ _ hp),hys,h64,hps,λl us rs hl hperm hd hs=>?_⟩;have e:=hq rs hperm hs;subst e;have g:=Yd (o:=.lst us) s2 hl;exact k _ _ _ g (YJ Zh (hd.same g.gg))
end
open PySem PySem.Spec PyProof.Rows Lw
section
variable {X:Cx}{pos:Pos}
def znN(K:FG)(n:Nat)(t:TGs):TG:=λv σ H Q=>∃ a xs,v = .ref a/\SqL K H a xs/\xs.length=n/\t xs σ H Q
def zl6{es:List Expr}{k:Nat}{t:TGs}{n:Nat}(hc:X.calm=true)(h:PGs X es t)(hn:(assignEach es X.env).length=n:=by rfl)(hst:(assignEach es X.env).findIdx? (·.1)=none:=by rfl):PG X (.Tuple es k pos) (znN X.K n t):=by
 intro aa s σ H v u Q I r hw;obtain⟨a,xs,e1,hq,hl,hw⟩:=hw;subst e1;cases r;obtain⟨its,rv,ht,hz⟩:=I.list hq;rw[assign_Tuple];refine Ia (N8 ?_);unfold unpack;rw[show(assignEach es X.env).length=its.toArray.size by simp[hn,← hl,rv.length],hst];refine Ia (IV (PySem.W.kun_itemsOf (I.ok.hd hc) ht.isList λh' hx=>?_));have I1:Inv X aa σ H {s with heap:=h'}:=I.kept (t':=s.toks) λb o e=>hx b o (IM (IB e)) e;exact h aa _ σ H xs _ Q I1 (by simpa using rv) hw
end
section
variable {prog:Program}{w:World}{A:Around}{E:Value->SH->Prop}{s:SH}
def zi3{stored:LD}{Q:Bool->SH->Prop}(hq:∀ Q:Bool->SH->Prop,Q true s->wpAny (model prog w) A (eqIsQuiet 8 (.ref a)) Q E s)(hst:∀ v∈stored,∃ x t,v = .str x t)(h:Q false s):wpAny (model prog w) A (tableMayTell (.ref a) stored) Q E s:=by
 unfold tableMayTell;split
 .exact Ic h
 .refine Ia (hq _ ?_);simp only[NW,IG,IW];refine Ia ?_;refine NX _ (λrest r s' => s'=s/\r=(none,())/\∀ v∈rest,∃ x t,v = .str x t) _ ?_ ?_ _ _ ⟨rfl,rfl,hst⟩
  .rintro x rest r s' ⟨rfl,rfl,hr⟩;obtain⟨z,t,rfl⟩:=hr x IC;refine Ia ?_;unfold eqIsQuiet;refine Ic ?_;simp only[NW,IG,IW];exact Ic ⟨rfl,rfl,λv hv=>hr v (Iz _ hv)⟩
  .rintro r s' ⟨rfl,rfl,_⟩;exact Ic h
def ziH{d:AD}{es:Array DictEntry}{ep:Nat}{hh:Int}{Q:Option Nat->SH->Prop}(ho:s.heap.get? d=some o)(hd:o.data = .dict es ep)(hk:∀ e∈es,∃ x t,e.key = .str x t)(hq:∀ Q:Bool->SH->Prop,Q true s->wpAny (model prog w) A (eqIsQuiet 8 (.ref a)) Q E s)(heq:∀(x:Str)(t:Tok)(Q:Bool->SH->Prop),Q false s->wpAny (model prog w) A (eqBool (.str x t) (.ref a)) Q E s)(h:Q none s):
  wpAny (model prog w) A (dictFind d (.ref a) hh) Q E s:=by
 have hany:¬ (es.any λe=>e.key==Value.ref a&&e.hash != hh)=true:=by rw[← Array.any_toList,any_eq_true];rintro⟨e,hin,hc⟩;obtain⟨x,t,ek⟩:=hk e (mem_toList_iff.mp hin);rw[ek]at hc;simp at hc
 have hst:∀ v∈(placesWithHash es.size (λi=>es[i]?.map (·.hash)) hh).filterMap (λi=>es[i]?.map (·.key)),∃ x t,v = .str x t:=by
  intro v hv;obtain⟨i,_,hi⟩:=OA.mp hv;cases hei:es[i]? with
  |none=>rw[hei]at hi;cases hi
  |some e=>
   rw[hei]at hi;obtain rfl:e.key=v:=by simpa using hi
   exact hk e (Array.mem_of_getElem? hei)
 unfold dictFind
 try with_reducible refine IV ?_
 refine Ia (wpAny_dictEntries ho hd ?_);dsimp only;rw[Iw (show ¬ ((Value.ref a::(placesWithHash es.size (λi=>es[i]?.map (·.hash)) hh).filterMap (λi=>es[i]?.map (·.key))).all carriedByValue)=true by simp[carriedByValue])];rw[Iw hany];by_cases hone:(((placesWithHash es.size (λi=>es[i]?.map (·.hash)) hh).filterMap (λi=>es[i]?.map (·.key)))==[Value.ref a])=true <;>
 (first | rw[IA hone] | rw[Iw hone]) <;> (first | refine Ia (Ic ?_) | refine Ia (zi3 hq hst ?_)) <;> (
  rw[Iw (by simp)];refine Ia ?_;refine NX _ (λrest b s' => s'=s/\b=(none,none)) _ ?_ ?_ _ _ ⟨rfl,rfl⟩
  .rintro x rest b s' ⟨rfl,rfl⟩;cases hex:es[x]? with
   |none=>exact Ic ⟨rfl,rfl⟩
   |some e=>
    obtain⟨z,t,ek⟩:=hk e (Array.mem_of_getElem? hex);dsimp only;by_cases hh' : (e.hash==hh)=true
    .rw[IA hh'];rw[ek];refine Ia (wpAny_dictEpoch ho hd (Ia (heq z t _ (Ia (wpAny_dictEpoch ho hd ?_)))));show wpAny _ _ (if(ep != ep)=true then _ else _) _ E _;rw[Iw (by simp)];simp only[IG,IW];refine Ia (N9 ?_)
     first | rw[Iw (by simp)] | skip
     first
      |exact Ic ⟨rfl,rfl⟩
      |exact Ia (Ic (Ic ⟨rfl,rfl⟩))
    .rw[Iw hh'];exact Ic ⟨rfl,rfl⟩
  .rintro b s' ⟨rfl,rfl⟩;exact Ic h)
def zmO{d:AD}{es:Array DictEntry}{ep:Nat}{ks:List Key}{Q:Value->SH->Prop}(hu:A.units+1<cLine)(hkey:IsTupleKey (Xh prog w) s.heap ks a)(ho:s.heap.get? d=some o)(hc:o.cls = .type "dict")(hd:o.data = .dict es ep)(hs:(d==sysModules)=false)(hk:∀ e∈es,∃ x t,e.key = .str x t)(heq:∀(x:Str)(t:Tok)(s' : SH),s'.heap=s.heap->SeqAt.EqAt A.in1 s' (.str x t) (.ref a) false)(h:Q (.bool false) {s with toks:=s.toks+(ks.length+1)}):wpAny (model prog w) A (compareOp .In (.ref a) (.ref d)) Q E s:=by
 have hty:s.TypeIs (.ref d) "dict" := ⟨o,ho,hc⟩
 show wpAny _ _ (do return .bool (← contains (.ref d) (.ref a))) Q E s;refine Ia ?_;unfold contains
 try with_reducible refine IV ?_
 refine Ia (NC hty slot_dict_contains.lookup ?_);show wpAny _ _ (if(some (Value.builtin "dict.__contains__")==some Value.none)=true then _ else _) _ E s;rw[Iw (by rw[beq_builtin_none];exact Ij)];refine Ia (wpAny_callSpecialUnlessNone?_slot (name:=Str.ofString "__contains__") hty slot_dict_contains
  (IL slot_dict_contains hty entry_dict_contains ?_ (args_dict_contains _ _)))
 show wpAny _ _ (dictGet d (.ref a) >>= _) _ _ s;refine Ia ?_;unfold dictGet
 try with_reducible refine IV ?_
 refine Ia (wpAny_pyHash_tuple (knd:=Xh prog w) (A:=A.in1) (show A.units+1<cLine from hu) hkey (Ia (ziH (s:={s with toks:=s.toks+(ks.length+1)}) ho hd hk (λQ h=>wpAny_eqIsQuiet_tuple (knd:=Xh prog w) hkey h) (λx t Q h=>heq x t {s with toks:=s.toks+(ks.length+1)} rfl prog w _ Q h) ?_)));refine Ic ?_;show wpAny _ _ (Builtin.Dict.pendingKey? d (.ref a) >>= _) _ _ _;exact Ia (wpAny_pendingKey_other hs (Ic ⟨_,rfl,N6 (Ic h)⟩))
end
section
variable {X:Cx}
def zmu(K:FG)(P:Params):R2:=λx y H Q=>∃ a g,y = .ref a/\zb0 K P a g/\((∃ z,x = .str z/\Q (.bl (g z).isSome) H)\/∃(p:AD)(b c:Int),x = .ref p/\SqT K H p [.int b,.int c]/\Q (.bl false) H)
def zi5(hu:X.A.units+64<cLine):OpR X (compareOp .In) (zmu X.K X.w.params):=by
 intro aa s σ H x y v u Q I rx ry h;obtain⟨a,g,rfl,D,h⟩:=h;rcases h with⟨z,rfl,q⟩ | ⟨p,b,c,rfl,hp,q⟩
 .exact zlg aa s σ H _ _ v u Q I rx ry ⟨z,a,g,rfl,rfl,D,q⟩
 .cases rx;cases ry;obtain⟨es,n,hl,hk⟩:=D.ex;obtain⟨its,rv,pt,hz⟩:=I.tuple hp;obtain⟨o,ho,hc,nn,hdt⟩:=id pt;have hia:ItemsAre (Xh X.prog X.w) [.inl b,.inl c] its:=by
   cases rv with
   |cons r1 r2=>cases r2 with
    |cons r2 r3=>cases r3;exact .cons (zjj (k:=.inl b) r1) (.cons (zjj (k:=.inl c) r2) .nil)
  refine zmO (by omega) (ks:=[.inl b,.inl c]) ⟨o,its.toArray,nn,ho,hc,hdt,by simpa using hia⟩ (I.mod.kin.keeps I.bk _ _ hl) rfl rfl D.lo (λe he=>?_) (λx t s' hs' => ?_) ⟨.bl false,H,I.tok _,rfl,q⟩
  .obtain⟨x,t,e1,_⟩:=hk.all e (mem_toList_iff.mpr he);exact⟨x,t,e1⟩
  .refine SeqAt.EqAt.str_tuple (items:=its.toArray) x t (hs'.symm ▸ pt) ?_;show X.A.units+1<cLine;omega
end
theorem Jy:∀(names:List (Str×NameKind))(n:Nat)(a b:List (Str×AD)),cellsFrom n names (a++b)=cellsFrom n names a++b
 |[],_,_,_=>rfl
 |(x,k)::r,n,a,b=>by
  unfold cellsFrom;split
  .rw[← cons_append];exact Jy r (n+1) _ b
  .exact Jy r n a b
def Jj{l m:List (Str×α)}:(l++m).lookup y=(l.lookup y).or (m.lookup y):=by
 induction l with
 |nil=>simp
 |cons p r ih=>
  obtain⟨z,v⟩:=p;rw[cons_append,Og,Og];split
  .simp
  .exact ih
theorem zaB{f g:α->PUnit->Sem (ForInStep PUnit)}:∀(l:List α),(∀ x∈l,f x ⟨⟩=g x ⟨⟩)->forIn l PUnit.unit f=forIn l PUnit.unit g
 |[],_=>rfl
 |x::l,h=>by
  rw[forIn_cons,forIn_cons,h x IC];congr 1;funext r;cases r with
  |done b=>rfl
  |yield b=>exact zaB l λy hy=>h y (Iz _ hy)
def zdP{e e' : Env}{n:Str}{v:Value}(h1:e.scope=e'.scope)(h2:e.locals=e'.locals)(h3:e.globals=e'.globals)(h4:e.cells.lookup n=e'.cells.lookup n):storeName e n v=storeName e' n v:=by
 unfold storeName;have k1:e.kindOf n=e'.kindOf n:=by unfold Env.kindOf;rw[h1]
 have k2:e.blockKind=e'.blockKind:=by unfold Env.blockKind;rw[h1]
 have k3:cellOf e n=cellOf e' n:=by unfold cellOf;rw[h4]
 have k4:localSet e n v=localSet e' n v:=by unfold localSet;rw[h2]
 rw[k1,k2,k3,k4,h1,h2,h3]
section
variable {M:Model}{A:Around}{E:Value->SH->Prop}{s:SH}
def zcC{scope:Scope}{globals:AD}{binds:List (Str×Value)}{qual:Str}{func:Option AD}{code:Value}{builtins:AD}{Q:Env->SH->Prop}(hk:scope.kind = .function)(hkind:∀ x∈binds,scope.names.lookup x.1=some .local\/(scope.names.lookup x.1=some .cell/\((cellsFrom (s.heap.objs.size+1) scope.names []).lookup x.1).isSome=true))(hcl:∀ x∈binds,scope.names.lookup x.1=some .local->cl.lookup x.1=none)(hQ:∀ env',env'=newEnv scope s.heap.objs.size globals (cellsFrom (s.heap.objs.size+1) scope.names []) qual func code none builtins->∀ s',InCallC s env'.locals (bindL env'.kindOf binds λ_=>none) env'.cells (bindC env'.kindOf binds λ_=>none) s' ->
   Q (newEnv scope s.heap.objs.size globals (cellsFrom (s.heap.objs.size+1) scope.names []++cl) qual func code none builtins) s'):
  wpAny M A (newFunctionEnv scope globals cl binds qual func code none builtins) Q E s:=by
 simp only[newFunctionEnv,Option.isSome_none,IG,IW];refine Ia (wpAny_alloc ?_);refine Ia (wpAny_layCells _ (λname kind cells=>by cases hkc:kind==NameKind.cell <;> simp[hkc]) _ _ _ _ ?_);have ok:=cellsFrom_ok scope.names (s.heap.push {cls:=.type "frame",data:=.dict #[]}) (s.heap.objs.size+1) [] ⟨λ_ _ hm=>(nomatch hm),List.Pairwise.nil⟩ (by rw[NA];exact Ih _);rw[NA]at ok;rw[show({s with heap:=s.heap.push {cls:=.type "frame",data:=.dict #[]}}:SH).heap.objs.size=s.heap.objs.size+1 from NA ..];rw[show cellsFrom (s.heap.objs.size+1) scope.names cl=cellsFrom (s.heap.objs.size+1) scope.names []++cl from Jy _ _ [] cl];refine Ia ?_;rw[zaB (g:=λ(x:Str×Value) _=>do storeName (newEnv scope s.heap.objs.size globals (cellsFrom (s.heap.objs.size+1) scope.names []) qual func code none builtins) x.1 x.2;pure (.yield ⟨⟩)) binds λx hx=>?_]
 .refine wpAny_bindParams (s₀:=s) (env:=newEnv scope s.heap.objs.size globals (cellsFrom (s.heap.objs.size+1) scope.names []) qual func code none builtins)
   _ (λ_ _ _=>rfl) hk binds (λ_=>none) (λ_=>none) _ _
   ⟨⟨⟨_,_,rfl⟩,(Heap.Ns.new s.heap (.type "frame")).keeps (pushCells_keeps _ _),λb o e=>pushCells_keeps _ _ b o (Ie _ e),Ih _⟩,
    λn c hc=>(ok.empty n c (mem_of_lookup hc)).1,ok.apart,λn c hm=>(ok.empty n c hm).2⟩
   hkind λs' x=>Ic (hQ _ rfl s' x)
 .have e:storeName (newEnv scope s.heap.objs.size globals (cellsFrom (s.heap.objs.size+1) scope.names []++cl) qual func code none builtins) x.1 x.2=storeName (newEnv scope s.heap.objs.size globals (cellsFrom (s.heap.objs.size+1) scope.names []) qual func code none builtins) x.1 x.2:=by
   refine zdP rfl rfl rfl ?_;show(cellsFrom (s.heap.objs.size+1) scope.names []++cl).lookup x.1=(cellsFrom (s.heap.objs.size+1) scope.names []).lookup x.1;rw[Jj];rcases hkind x hx with h | ⟨_,h⟩
   .rw[hcl x hx h];simp
   .obtain⟨c,hc⟩:=Ny.mp h;rw[hc];rfl
  exact Na (λm:Sem Unit=>m >>= λ_=>(pure (ForInStep.yield PUnit.unit):Sem (ForInStep PUnit))) e
end
theorem Vc{c:AD}:∀{names:List (Str×NameKind)}{n:Nat}{acc:List (Str×AD)},(y,c)∈cellsFrom n names acc->(y,NameKind.cell)∈names\/(y,c)∈acc
 |[],_,_,h=>.inr h
 |(x,k)::r,n,acc,h=>by
  unfold cellsFrom at h;split at h
  .rename_i hk
   have hk' : k = .cell:=by simpa using hk
   rcases Vc h with a | a
   .exact .inl (Iz _ a)
   .rcases ID.mp a with e | a
    .cases e;rw[hk'];exact .inl IC
    .exact .inr a
  .rcases Vc h with a | a
   .exact .inl (Iz _ a)
   .exact .inr a
structure Xo(fr sc:Scope)(ps loc cap:LB):Prop where
 kind:sc.kind = .function
 co:sc.isCoroutine=false
 gen:sc.isGenerator=false
 par:∀ y∈ps,sc.names.lookup y=some .local\/sc.names.lookup y=some .cell
 free:∀ p∈sc.names,p.2 = .free->fr.names.lookup p.1=some .cell
 caps:∀ y∈cap,(y,NameKind.free)∈sc.names
 capl:∀ y∈cap,sc.names.lookup y=some .free
 nd:(ps++loc++cap).Nodup
 ndn:(sc.names.map (·.1)).Nodup
def Vp(H:Hp)(f:AD)(name q:Str)(params:Arguments)(body:List Stmt)(sc:Scope)(cl:List (Str×AD)):Prop:=∃(doc pm ctv:Value)(c' : AD)(oc:Obj),H f=some (.frz (fnMade name q params body sc cl doc pm c' ctv) (.own f))/\H c'=some (.frz oc (.own c'))/\zdy oc q
def Vp.same{f:AD}{name q:Str}{body:List Stmt}(L:Vp H f name q params body sc cl)(k:∀ b o u,H b=some (.frz o u)->H' b=some (.frz o u)):Vp H' f name q params body sc cl:=let ⟨doc,pm,ctv,c',oc,h1,h2,h3⟩:=L;⟨doc,pm,ctv,c',oc,k _ _ _ h1,k _ _ _ h2,h3⟩
def Vp.fnAt{P:Program}{w:World}{f:AD}{name q:Str}{body:List Stmt}(ok:HOk P w H h)(L:Vp H f name q params body sc cl):PySem.W.FnAt f h:=by obtain⟨doc,pm,ctv,c',oc,h1,_⟩:=L;obtain⟨ho,_⟩:=ok f _ h1;exact⟨_,_,_,_,ho⟩
noncomputable def zjb(q:Str)(sc:Scope)(L f:AD)(cd:Value)(cl:List (Str×AD)):Env:=PySem.W.envX q sc L f cd (cellsFrom (L+1) sc.names []++cl)
noncomputable def zal(P:Program)(w:World)(K:FG)(mg:Str->LF)(base:Heap)(N:LB)(q:Str)(sc:Scope)(f c' : AD)(cl:List (Str×AD))(A:Around)(outer:LI)(s:SH)(H:Hp):Cx where
 prog:=P
 w:=w
 K:=K
 mg:=mg
 base:=base
 A:=A.deeper (zjb q sc s.heap.objs.size f (.ref c') cl)
 N:=N
 s₀:=s
 H₀:=H
 env:=zjb q sc s.heap.objs.size f (.ref c') cl
 outer:=outer
 stack:=zjb q sc s.heap.objs.size f (.ref c') cl::outer
 ex:=[]
 calm:=true
 fn:=λy=>match sc.names.lookup y with | some .free=>false | _=>true
 pn:=[]
 xe:=λ_ _=>False
section
variable {P:Program}{w:World}{K:FG}{mg:Str->LF}{base:Heap}{A:Around}{outer:LI}{s:SH}{H:Hp}{f:AD}{name q:Str}{params:Arguments}{body:List Stmt}{fr sc:Scope}{cl:List (Str×AD)}{ps loc cap:LB}
def zik{c' : AD}{vs:LC}{vals:St}{s1:SH}(S:Xo fr sc ps loc cap)(hcap:∀ y,sc.names.lookup y=some .free->∃ c,cl.lookup y=some c)(hclp:∀ y c,cl.lookup y=some c->sc.names.lookup y=some .free)(hd:A.handled=none)(e0:zcD P w K mg base A outer s H)(hl:vs.length=ps.length)(hv:vals.length=cap.length)(r:Vals vs us)(C:CellsAre s H cl cap vals)(x:InCallC s s.heap.objs.size (bindL (envOfC q sc s.heap.objs.size f (.ref c')).kindOf (ps.zip us) λ_=>none) (cellsFrom (s.heap.objs.size+1) sc.names []) (bindC (envOfC q sc s.heap.objs.size f (.ref c')).kindOf (ps.zip us) λ_=>none) s1):
  Inv (zal P w K mg base (ps++loc++cap) q sc f c' cl A outer s H) [] (vs.map some++List.replicate loc.length none++vals) H s1:=by
 obtain⟨h1,tk,rfl,hk⟩:=x.done;have noA:∀ b:AD,b∉(zal P w K mg base (ps++loc++cap) q sc f c' cl A outer s H).ex:=λb z=>absurd (show b∈([]:LG)from z) (by simp);have ndp:ps.Nodup:=(nodup_append.mp (nodup_append.mp S.nd).1).1;have clt:∀ y c,cl.lookup y=some c->c<s.heap.objs.size:=λy c h=>by obtain⟨⟨v,o,ho,_⟩,_⟩:=C.isc y c h;exact IB ho
 have cgt:∀ y c,(cellsFrom (s.heap.objs.size+1) sc.names []).lookup y=some c->s.heap.objs.size<c:=λy c h=>x.above y c (IF h);have two:∀ y c,(zal P w K mg base (ps++loc++cap) q sc f c' cl A outer s H).env.cells.lookup y=some c->(cellsFrom (s.heap.objs.size+1) sc.names []).lookup y=some c\/((cellsFrom (s.heap.objs.size+1) sc.names []).lookup y=none/\cl.lookup y=some c):=λy c h=>by
  have h:(cellsFrom (s.heap.objs.size+1) sc.names []++cl).lookup y=some c:=h;rw[Jj]at h;cases e:(cellsFrom (s.heap.objs.size+1) sc.names []).lookup y with
  |some c2=>rw[e]at h;exact .inl h
  |none=>rw[e]at h;exact .inr ⟨rfl,by simpa using h⟩
 refine⟨⟨e0.mod,S.kind,rfl,rfl,Ih _,λy z c h1 h2=>?_,λy hy=>?_,λy c hf h=>?_,λ_=>hd,frames_deeper e0.frames,.inr ⟨rfl,rfl⟩,λb z=>absurd z (noA b),e0.bs,e0.bsz,λb _ _=>noA b,λb z=>absurd z (noA b),e0.zaY,e0.frf⟩,
  rfl,e0.bare,Un.kept hk,⟨_,x.toInCall.ns,λi y v h1 h2 h3=>?_⟩,λy c h=>?_,e0.ac.fresh (Ih _),λy c h=>?_,λp hp=>absurd (show p∈([]:List (Addr×Obj))from hp) (by simp),e0.ac.kept hk,?_⟩
 .rcases two y c h1 with a | ⟨_,a⟩ <;> rcases two z c h2 with b | ⟨_,b⟩
  .exact name_of_addr x.apart (IF a) (IF b)
  .exact absurd (lt_trans (cgt y c a) (clt z c b)) (Oo _)
  .exact absurd (lt_trans (cgt z c b) (clt y c a)) (Oo _)
  .exact C.inj y z c a b
 .have hy:sc.names.lookup y=some .cell\/sc.names.lookup y=some .free:=hy;show ∃ c,(cellsFrom (s.heap.objs.size+1) sc.names []++cl).lookup y=some c;rw[Jj];rcases hy with hy | hy
  .obtain⟨c,e⟩:=V5 (n:=s.heap.objs.size+1) hy;exact⟨c,by rw[e];rfl⟩
  .obtain⟨c,e⟩:=hcap y hy;cases e2:(cellsFrom (s.heap.objs.size+1) sc.names []).lookup y with
   |some c2=>exact⟨c2,rfl⟩
   |none=>exact⟨c,by rw[e];rfl⟩
 .have hf:(match sc.names.lookup y with | some .free=>false | _=>true)=true:=hf;rcases two y c h with a | ⟨_,a⟩
  .exact Od (cgt y c a)
  .rw[hclp y c a]at hf;cases hf
 .have h1:(ps++loc++cap)[i]?=some y:=h1;have lr:(List.replicate loc.length (none:Option V)).length=loc.length:=Oe;by_cases hi:i<ps.length
  .have hp:ps[i]?=some y:=by rw[append_assoc,NE hi]at h1;exact h1
   have ha:vs[i]?=some v:=by
    rw[append_assoc,NE (by rw[Ig];omega),Io]at h2;cases e:vs[i]? with
    |none=>rw[e]at h2;cases h2
    |some a=>rw[e]at h2;cases h2;rfl
   obtain⟨u,hu,rv⟩:=r.get ha;refine⟨u,rv,?_⟩;rcases S.par y (Ii hp)with k | k
   .exact .inl ⟨k,Um ndp hp hu k⟩
   .obtain⟨c,e⟩:=V5 (n:=s.heap.objs.size+1) k;refine .inr ⟨.inl k,c,?_,?_⟩
    .show(cellsFrom (s.heap.objs.size+1) sc.names []++cl).lookup y=some c;rw[Jj,e];rfl
    .have q':=x.cell y c e;rw[U7 ndp hp hu (by show sc.names.lookup y≠_;rw[k];decide)]at q';exact q'
  .by_cases hi2:i<ps.length+loc.length
   .rw[NE (by rw[Iv,Ig,lr];omega),Nq (by rw[Ig];omega),List.getElem?_replicate]at h2;split at h2 <;> cases h2
   .have hc:cap[i-(ps++loc).length]?=some y:=by rw[Nq (by rw[Iv];omega)]at h1;exact h1
    have ha:vals[i-(ps++loc).length]?=some (some v):=by rw[Nq (by rw[Iv,Ig,lr];omega)]at h2;rw[Iv,Ig,lr,hl]at h2;rw[Iv];exact h2
    obtain⟨c,u,e1,e2,rv⟩:=C.val _ y v hc ha;obtain⟨o,ho,hd'⟩:=e2;refine⟨u,rv,.inr ⟨.inr (S.capl y (Ii hc)),c,?_,o,hk _ _ ho,hd'⟩⟩;show(cellsFrom (s.heap.objs.size+1) sc.names []++cl).lookup y=some c;have hn:(cellsFrom (s.heap.objs.size+1) sc.names []).lookup y=none:=by
     cases e3:(cellsFrom (s.heap.objs.size+1) sc.names []).lookup y with
     |none=>rfl
     |some c3=>have:=(Vc (IF e3)).resolve_right (by simp);have k:=S.capl y (Ii hc);have k2:=lookup_mem S.ndn this;rw[k]at k2;cases k2
    rw[Jj,hn,e1];rfl
 .rcases two y c h with a | ⟨_,a⟩
  .exact⟨_,x.cell y c a⟩
  .obtain⟨⟨v,o,ho,hd'⟩,_⟩:=C.isc y c a;exact⟨v,o,hk _ _ ho,hd'⟩
 .rcases two y c h with a | ⟨_,a⟩
  .exact e0.ac.fresh (Od (cgt y c a))
  .exact(C.isc y c a).2
 .show(vs.map some++List.replicate loc.length none++vals).length=(ps++loc++cap).length;rw[Iv,Iv,Iv,Iv,Ig,Oe,hl,hv]
def ziv{k:Nat}{vs:LC}{vals:St}{Q:VK}(S:Xo fr sc ps loc cap)(hcap:∀ y,sc.names.lookup y=some .free->∃ c,cl.lookup y=some c)(hclp:∀ y c,cl.lookup y=some c->sc.names.lookup y=some .free)(hr:Wh (k+1) A)(e0:zcD P w K mg base A outer s H)(L:Vp H f name q params body sc cl)(C:CellsAre s H cl cap vals)(hbind:∀(doc pm ctv:Value)(c' : AD),bindArgs (PySem.W.fnX name q params body sc cl .none .none doc pm none (.ref c') ctv) ⟨us,[]⟩=pure (ps.zip us))(hl:vs.length=ps.length)(hv:vals.length=cap.length)(r:Vals vs us)(hbody:∀ c',Wh k (A.deeper (zjb q sc s.heap.objs.size f (.ref c') cl))->∃ t,PSs (zal P w K mg base (ps++loc++cap) q sc f c' cl A outer s H) body t/\t {nx:=λ_ H' => Q .non H',rt:=Q} (vs.map some++List.replicate loc.length none++vals) H):
  codeAny (model P w) A (.call (.ref f) ⟨us,[]⟩) (CR CX0 outer P w H s Q E0) s:=by
 obtain⟨doc,pm,ctv,c',oc,h1,h2,h3⟩:=L;obtain⟨ho,_⟩:=e0.ac f _ h1;have lim:s.heap.NoLimit:=e0.mod.nolimit.keeps λb o e=>(e0.bs b o e).1;refine codeAny_call_function hr.depth ho rfl S.co S.gen rfl (zab e0.ac h2 h3) ?_;rw[hbind doc pm ctv c'];have hkind:∀ y∈ps.zip us,sc.names.lookup y.1=some .local\/(sc.names.lookup y.1=some .cell/\((cellsFrom (s.heap.objs.size+1) sc.names []).lookup y.1).isSome=true):=λ⟨n,v⟩ hy=>by
  rcases S.par n (of_mem_zip hy).1 with q | q
  .exact .inl q
  .exact .inr ⟨q,cellsFrom_some _ _ _ (.inl q)⟩
 refine Ic (zcC S.kind hkind (λy hy hloc=>?_) λenv he s1 x=>?_)
 .cases e:cl.lookup y.1 with
  |none=>rfl
  |some c=>rw[hclp _ _ e]at hloc;cases hloc
 subst he;refine⟨lim.keeps x.toInCall.keep,codeAny_func ?_⟩;obtain⟨t,ht,hq⟩:=hbody c' (hr.deeper _);have I:=zik (f:=f) (q:=q) (c':=c') S hcap hclp hr.hd e0 hl hv r C x;refine IK (ht [] s1 _ H _ I hq) (λfl s' hs=>?_) λe s' z=>z.elim;have fin:∀{σ' : St}{H' : Hp}{v:V}{u:Value},Inv (zal P w K mg base (ps++loc++cap) q sc f c' cl A outer s H) [] σ' H' s' -> RelV v u->Q v H' -> CE outer P w H s Q u s' :=λ{σ' H' v u} J rv q=>⟨v,H',J.os,J.bare,J.base,J.ac,rv,q⟩
 cases fl with
 |ret u=>obtain⟨v,σ',H',J,rv,q⟩:=hs;exact fin J rv q
 |next=>obtain⟨σ',H',J,q⟩:=hs;exact fin (v:=V.non) (u:=Value.none) J rfl q
 |brk=>obtain⟨_,_,_,q⟩:=hs;exact False.elim q
 |cont=>obtain⟨_,_,_,q⟩:=hs;exact False.elim q
end
section
variable {X:Cx}{aa:List (Addr×Obj)}{σ:St}{H:Hp}{s:SH}{sc:Scope}{ps loc cap:LB}{P c:AD}{cr:Nat->Nat->Option Str}{name q:Str}{params:Arguments}{body:List Stmt}{pos:Pos}
theorem Xo.cells{fr:Scope}(S:Xo X.env.scope sc ps loc cap)(ok:X.Ok):∀ p∈sc.names,p.2 = .free->∃ c,X.env.cells.lookup p.1=some c:=λp hp e=>ok.has p.1 (.inl (S.free p hp e))
def Xo.sub(S:Xo X.env.scope sc ps loc cap)(ok:X.Ok){c:AD}(h:(JG X.env sc.names []).lookup y=some c):X.env.cells.lookup y=some c:=VR (S.cells (fr:=sc) ok) (λ_ _ z=>by simp at z) h
theorem zbB{env:Env}{c:AD}:∀{names:List (Str×NameKind)}{acc:List (Str×AD)},(JG env names acc).lookup y=some c->(y,NameKind.free)∈names\/acc.lookup y=some c
 |[],_,h=>.inr h
 |(x,k)::r,acc,h=>by
  unfold JG at h;rcases zbB h with a | a
  .exact .inl (Iz _ a)
  .by_cases hk:(k==NameKind.free)=true
   .rw[IA hk,Og]at a;by_cases e:(y==x)=true
    .have e' : y=x:=by simpa using e
     have k' : k = .free:=by simpa using hk
     subst e' k';exact .inl IC
    .have e' : (y==x)=false:=by simpa using e
     rw[e']at a;exact .inr a
   .rw[Iw hk]at a;exact .inr a
def Inv.cellsOf(I:Inv X aa σ H s)(S:Xo X.env.scope sc ps loc cap)(hjs:js.map (λj=>X.N[j]?)=cap.map some):CellsAre s H (JG X.env sc.names []) cap (WM σ js):=by
 have ok:=I.ok;refine⟨λx y c h1 h2=>ok.inj x y c (S.sub ok h1) (S.sub ok h2),λx c h=>⟨I.cell x c (S.sub ok h),I.freeC x c (S.sub ok h)⟩,λi y v e1 e2=>?_⟩;have hy:y∈cap:=Ii e1;unfold WM at e2;rw[Io]at e2;cases ej:js[i]? with
 |none=>rw[ej]at e2;cases e2
 |some j=>
  rw[ej]at e2;have e2'' : (σ[j]?).join=some v:=Ip e2;have eN:X.N[j]?=some y:=by have:=Na (λl=>l[i]?) hjs;simp only[Io,ej,e1,OG]at this;exact Ip this
  have eσ:σ[j]?=some (some v):=by
   cases z:σ[j]? with
   |none=>rw[z]at e2'';cases e2''
   |some w' =>
    rw[z]at e2'';have:w'=some v:=by simpa using e2''
    rw[this]
  have kc:X.env.scope.names.lookup y=some .cell:=S.free (y,.free) (S.caps y hy) rfl;obtain⟨m0,hn0,hl0⟩:=I.loc;obtain⟨u,ru,lk⟩:=hl0 j y v eN eσ (.inr (.inl kc));rcases lk with⟨k,_⟩ | ⟨_,c,ec,hc⟩
  .have k' : X.env.scope.names.lookup y=some .local:=k;rw[kc]at k';cases k'
  .obtain⟨c',hc'⟩:=Ny.mp (WP (env:=X.env) (acc:=[]) (S.caps y hy));have hcc:c'=c:=Ip ((S.sub ok hc').symm.trans ec);subst hcc;exact⟨c',u,hc',hc,ru⟩
def zkh(S:Xo X.env.scope sc ps loc cap)(hcode:X.env.code = .ref c)(C:CodeHd X.base c P)(hbm:BM X.mg X.base)(hcr:cr pos.line pos.col=some q)(I:Inv X aa σ H s)(hP:H P=some (.tbl cr)){E:Value->SH->Prop}:
  wpAny (model X.prog X.w) X.A (makeFunction name q params (.stmts body) sc X.env [] [] [] pos pos.line) (λv s' => ∃ f H',Inv X aa σ H' s' /\ v=Value.ref f/\H f=none/\ZF H H' /\ Vp H' f name q params body sc (JG X.env sc.names [])) E s:=by
 obtain⟨tb,hget,ht3,hcodes⟩:=I.ac P _ hP;have hg:s.heap.Ns mainGlobals X.mg:=I.mod.glob.keeps I.bk;have hgP:mainGlobals≠P:=λz=>by obtain⟨o,es,ep,e,hd,_⟩:=hg;rw[z,hget]at e;cases e;cases hd
 have hb:s.heap.BuiltinsAt X.mg P:=by
  obtain⟨bm,ob,b1,b2,b3,b4,b5,b6⟩:=hbm;have e:=I.bk _ _ b3;refine⟨bm,ob,b1,b2,λz=>?_,λz=>?_,e,b4,b5,b6⟩
  .obtain⟨o,es,ep,e',hd,_⟩:=hg;rw[← z,e]at e';cases e';rw[b6]at hd;cases hd
  .rw[z,hget]at e;cases e;cases b4
 have hcl:closureFor sc X.env=pure (JG X.env sc.names []):=X3 (S.cells (fr:=sc) I.ok);cases hf:codeAmong pos tb.toList with
 |some cv=>obtain⟨c',oc,q',rfl,e2,e3,e4⟩:=hcodes pos cv hf;rw[hcr]at e2;cases e2;refine PySem.W.makeFunction_hit hcl I.ok.glob hg hcode (C.keeps I.bk) hget ht3 hf hb λctv doc h' tk hk hsz=>?_;have hfr:H h'.objs.size=none:=I.ac.fresh hsz;refine⟨h'.objs.size,upd H h'.objs.size (.frz (fnMade name q params body sc (JG X.env sc.names []) doc ((X.mg "__name__").getD .none) c' ctv) (.own h'.objs.size)),I.laid (t':=tk) (λb u e=>Ie _ (hk b u e)) hsz ⟨Il _ rfl,_,Il _ rfl⟩,rfl,hfr,(λb u e=>by rw[Zm (Zk e hfr)];exact e),⟨_,_,_,c',oc,Zh,?_,e4⟩⟩;rw[Zm (Zk e3 hfr)];exact e3
 |none=>
  refine PySem.W.makeFunction_K hcl I.ok.glob hg hcode (C.keeps I.bk) hget ht3 hf hgP hb λc' ctv doc h' tk hx hge hlt hrec htb=>?_;obtain⟨c2,oc,vs,tt,e2,hoc,hd,hv⟩:=hrec;cases e2;have hcn:H c'=none:=I.ac.fresh hge;have hsz:s.heap.objs.size<=h'.objs.size:=Od (Nat.lt_of_le_of_lt hge hlt);have hfr:H h'.objs.size=none:=I.ac.fresh hsz;have hcf:c' ≠ h'.objs.size:=IM hlt;have hPc:P≠c':=Zk hP hcn;have hPf:P≠h'.objs.size:=Zk hP hfr;have sm:∀ b u,H b=some u->upd (upd H c' (.frz oc (.own c'))) h'.objs.size (.frz (fnMade name q params body sc (JG X.env sc.names []) doc ((X.mg "__name__").getD .none) c' ctv) (.own h'.objs.size)) b=some u:=λb u e=>by rw[Zm (Zk e hfr),Zm (Zk e hcn)];exact e
  have cc:upd (upd H c' (.frz oc (.own c'))) h'.objs.size (.frz (fnMade name q params body sc (JG X.env sc.names []) doc ((X.mg "__name__").getD .none) c' ctv) (.own h'.objs.size)) c'=some (.frz oc (.own c')):=by rw[Zm hcf,Zh]
  have hk:∀ b o,b≠P->s.heap.get? b=some o->(h'.push (fnMade name q params body sc (JG X.env sc.names []) doc ((X.mg "__name__").getD .none) c' ctv)).get? b=some o:=λb o hb e=>Ie _ (hx b o hb e);refine⟨h'.objs.size,_,I.un (t':=tk) ⟨λb o e n _ _=>hk b o (λz=>by rw[z,hP]at n;cases n) e,λb o e n _ _=>⟨o.slots,hk b o (λz=>by rw[z,hP]at n;cases n) e⟩,λb o e n _=>?_,λb o e _=>?_,λb xs e=>sm b _ e,λb o u e=>sm b _ e,λb r e=>sm b _ e⟩ ?_,rfl,hfr,sm,⟨_,_,_,c',oc,Zh,cc,vs,tt,hd,hv⟩⟩
  .have h1:b≠c':=IM (Iu (IB e) hge);have h2:b≠h'.objs.size:=IM (Iu (IB e) hsz);rw[Zm h2,Zm h1];exact n
  .by_cases hb:b=P
   .subst hb;exact⟨_,Ie _ htb⟩
   .exact⟨o,hk b o hb e⟩
  .intro b u e;by_cases h1:b=h'.objs.size
   .subst h1;rw[Zh]at e;cases e;exact⟨Il _ rfl,_,Il _ rfl⟩
   .by_cases h2:b=c'
    .subst h2;rw[cc]at e;cases e;exact⟨Ie _ hoc,_,Ie _ hoc⟩
    .rw[Zm h1,Zm h2]at e;by_cases h3:b=P
     .subst h3;rw[hP]at e;cases e;refine⟨_,Ie _ htb,?_,λpos' v e=>?_⟩
      .rw[toList_append];exact TriplesOk_snoc _ _ _ _ ht3
      .rw[toList_append]at e;rcases zaq (pos:=pos) tb.toList ht3 e with e | ⟨e1,e2,rfl⟩
       .obtain⟨d,od,q',z1,z2,z3,z4⟩:=hcodes pos' v e;exact⟨d,od,q',z1,z2,sm _ _ z3,z4⟩
       .exact⟨c',oc,q,rfl,by rw[e1,e2];exact hcr,cc,vs,tt,hd,hv⟩
     .refine(I.ac b u e).stay (λd v hd' e' => hk d v ?_ e') (λd e' => sm d _ e') (λd xs e' => sm d _ e') λd o' u' e' => sm d _ e';rintro rfl;rcases hd' with z | z
      .exact h3 z.symm
      .rw[hP]at z;cases z
def znM(i:Nat)(P:AD)(cr:Nat->Nat->Option Str)(name q:Str)(params:Arguments)(body:List Stmt)(sc:Scope)(cl:List (Str×AD)):TS:=λD σ H=>H P=some (.tbl cr)/\∀ f H',H f=none->ZF H H' -> Vp H' f name q params body sc cl->D.nx (σ.set i (some (.ref f))) H'
def zh1{i:Nat}(S:Xo X.env.scope sc ps loc cap)(hcode:X.env.code = .ref c)(C:CodeHd X.base c P)(hbm:BM X.mg X.base)(hq:q=qualnameIn X.env name name)(hcr:cr pos.line pos.col=some q)(hN:X.N.Nodup)(hi:X.N[i]?=some name)(hx:X.env.scope.names.lookup name=some .local)(hd0:params.defaults=[]:=by rfl)(hk0:params.kw_defaults=[]:=by rfl)(ha:annTrees params none X.env=[]:=by rfl):
  PS X (.FunctionDef name params body [] none [] sc none name pos) (znM i P cr name q params body sc (JG X.env sc.names [])):=by
 intro aa s σ H D I h;obtain⟨hP,h⟩:=h;refine PySem.W.nestDef_K hd0 hk0 ha ?_;rw[← hq];refine thn (zkh S hcode C hbm hcr I hP) λv s' ⟨f,H',I',ev,hf,sm,L⟩=>?_;subst ev;exact Qi I' hN hi (.inl hx) (show RelV (.ref f) (.ref f)from rfl) (λs2 I2=>⟨_,H',I2,h f H' hf sm L⟩) (.inr hx)
end
def Kp(H H' : Hp):Prop:=(∀ b xs,H b=some (.tup xs)->H' b=some (.tup xs))/\(∀ b o u,H b=some (.frz o u)->H' b=some (.frz o u))/\∀ b cr,H b=some (.tbl cr)->H' b=some (.tbl cr)
def Kp.refl(H:Hp):Kp H H:=⟨λ_ _ h=>h,λ_ _ _ h=>h,λ_ _ h=>h⟩
def Kp.trans{H1 H2:Hp}(a:Kp H H1)(b:Kp H1 H2):Kp H H2:=⟨λc xs h=>b.1 c xs (a.1 c xs h),λc o u h=>b.2.1 c o u (a.2.1 c o u h),λc r h=>b.2.2 c r (a.2.2 c r h)⟩
def Kp.of{fs:LG}{h':Heap}(u:Un fs [] H H' h h'):Kp H H':=⟨u.tups,u.frzs,u.tbls⟩
mutual
noncomputable def noL:PD->Bool
 |.list _=>false
 |.tuple ds=>zky ds
 |.dict _=>false
 |_=>true
noncomputable def zky:LA->Bool
 |[]=>true
 |d::r=>noL d&&zky r
end
def Kp.sqT{K:FG}{q:AD}{xs:LC}(k:Kp H H')(h:SqT K H q xs):SqT K H' q xs:=by
 rcases h with h | h
 .refine .inl ?_;rcases h with h | ⟨o,h⟩
  .exact .inl (k.1 _ _ h)
  .exact .inr ⟨o,k.2.1 _ _ _ h⟩
 .exact .inr h
mutual
theorem Kp.dat{K:FG}(k:Kp H H'):∀(d:PD)(v:V),noL d=true->Dat K H v d->Dat K H' v d
 |.none,v,_,h=>by rw[h.non];exact zcH
 |.bool b,v,_,h=>by rw[h.bl];exact Yu b
 |.int i,v,_,h=>by rw[h.int];exact Zr i
 |.str x,v,_,h=>by rw[h.str];exact Z5 x
 |.tuple ds,v,n,h=>by obtain⟨q,xs,rfl,hq,hx⟩:=h.tup;exact Xy (k.sqT hq) (Kp.znn k ds xs (by unfold noL at n;exact n) hx)
 |.list _,v,n,_=>by unfold noL at n;cases n
 |.dict _,v,n,_=>by unfold noL at n;cases n
theorem Kp.znn{K:FG}(k:Kp H H'):∀(ds:LA)(xs:LC),zky ds=true->Yl K H xs ds->Yl K H' xs ds
 |[],xs,_,h=>by rw[h.nil];exact ZC
 |d::r,xs,n,h=>by obtain⟨y,ys,rfl,hy,hr⟩:=h.cons;unfold zky at n;rw[Nd]at n;exact Zv (Kp.dat k d y n.1 hy) (Kp.znn k r ys n.2 hr)
end
def zgb(P:Program)(w:World)(K:FG)(mg:Str->LF)(base:Heap)(k:Nat)(f:AD)(n:Nat)(sp:Sp)(s:SH)(H:Hp):Prop:=
 ∃(name q:Str)(params:Arguments)(body:List Stmt)(sc:Scope)(cl:List (Str×AD))(cap:LB)(vals:St)(H1:Hp),Kp H1 H/\Vp H f name q params body sc cl/\CellsAre s H cl cap vals/\
  ∀(A:Around)(outer:LI)(s' : SH)(H' : Hp)(us:LD)(vs:LC)(Q:VK),Wh k A->zcD P w K mg base A outer s' H' -> Kp H1 H' -> Vp H' f name q params body sc cl->CellsAre s' H' cl cap vals->Vals vs us->vs.length=n->sp vs H' Q E0->
   codeAny (model P w) A (.call (.ref f) ⟨us,[]⟩) (CR CX0 outer P w H' s' Q E0) s'
section
variable {P:Program}{w:World}{K:FG}{mg:Str->LF}{base:Heap}{k n:Nat}{f:AD}{sp:Sp}{s s' : SH}{H H' : Hp}
theorem zgb.un{fs:LG}(C:zgb P w K mg base k f n sp s H)(u:Un fs [] H H' s.heap s'.heap):zgb P w K mg base k f n sp s' H' :=
 let ⟨name,q,params,body,sc,cl,cap,vals,H1,h1,h2,h3,h4⟩:=C
 ⟨name,q,params,body,sc,cl,cap,vals,H1,h1.trans (Kp.of u),h2.same u.frzs,h3.un u,h4⟩
theorem zgb.fnAt(C:zgb P w K mg base k f n sp s H)(ok:HOk P w H s.heap):PySem.W.FnAt f s.heap:=
 let ⟨_,_,_,_,_,_,_,_,_,_,h2,_,_⟩:=C
 h2.fnAt ok
def zgb.run{A:Around}{outer:LI}{vs:LC}{Q:VK}(C:zgb P w K mg base k f n sp s H)(hr:Wh k A)(e0:zcD P w K mg base A outer s H)(r:Vals vs us)(hl:vs.length=n)(hs:sp vs H Q E0):
  codeAny (model P w) A (.call (.ref f) ⟨us,[]⟩) (CR CX0 outer P w H s Q E0) s:=
 let ⟨name,q,params,body,sc,cl,cap,vals,H1,h1,h2,h3,h4⟩:=C
 h4 A outer s H us vs Q hr e0 h1 h2 h3 r hl hs
end
section
variable {X:Cx}{k i n:Nat}{x:Str}{f:AD}{sp:Sp}{e:Expr}{es:List Expr}{t:TA}{p pos:Pos}
def Inv.un0{aa:List (Addr×Obj)}{σ:St}{s:SH}(J:Inv X aa σ H s)(hex:X.ex=[]):Un X.fs [] X.H₀ H X.s₀.heap s.heap:=by have:=J.base;rw[hex]at this;exact this
def zh8(i:Nat)(f:AD)(n:Nat)(sp:Sp)(t:TA):TE:=fun σ H Q=>σ[i]?=some (some (.ref f))/\t σ H λvs H1=>vs.length=n/\sp vs H1 Q E0
def QW(hN:X.N[i]?=some x)(hv:Vis X.env.scope x)(hr:Wh k X.A)(hex:X.ex=[])(C:zgb X.prog X.w X.K X.mg X.base k f n sp X.s₀ X.H₀)(ha:PA X (e::es) t)(hd:(x==("__debug__" : Str))=false:=by decide)(hcd:(x==("__classdict__" : Str))=false:=by decide)(he:starEach (e::es) X.env=(false,eval e X.env)::starEach es X.env:=by rfl)(hpl:(backTo pos (starEach es X.env)).any (·.1)=false:=by rfl):
  PE X (.Call (.Name x p) (e::es) [] pos) (zh8 i f n sp t):=by
 intro aa s σ H Q I h;obtain⟨eσ,h⟩:=h;refine IU (thn (zeV hN hv hd hcd aa s σ H (λv H' => v = .ref f/\H'=H) I ⟨_,eσ,rfl,rfl⟩) λu s1 ⟨v,H1,I1,r,ev,eH⟩=>?_);subst ev eH;obtain rfl:u=Value.ref f:=r;refine callWith_F ((C.un (I1.un0 hex)).fnAt I1.ac) (thn (ha pos aa s1 σ H1 _ I1 h) λus s2 ⟨vs,H2,I2,rv,hl,hq⟩=>⟨(C.un (I2.un0 hex)).fnAt I2.ac,?_⟩) he hpl;refine NZ (Nw ((C.un (I2.un0 hex)).run hr I2.env0 rv hl hq) λr s' hq' => ?_);cases r with
 |error e=>exact False.elim hq'
 |ok fl=>
  cases fl with
  |ret u=>exact I2.after hq'
  |next=>exact False.elim hq'
  |brk=>exact False.elim hq'
  |cont=>exact False.elim hq'
def zgJ{fd:FuncData}{ps:LB}{C:SH->Hp->Prop}(F:zaj X.prog X.w X.K X.mg X.base k f fd ps (λs vs H Q=>C s H/\sp vs H Q E0))(hC:C X.s₀ X.H₀)(hst:∀ fs s H s' H',Un fs [] H H' s.heap s'.heap->C s H->C s' H')(hex:X.ex=[])(hr:Wh k X.A)(hg:Gl X x)(hm:X.mg x=some (.ref f))(hk:keepIn X.K (.ref f)=true)(hb:Binds X.K fd ps [])(ha:PA X (e::es) t)(hdb:(x==("__debug__" : Str))=false:=by decide)(he:starEach (e::es) X.env=(false,eval e X.env)::starEach es X.env:=by rfl)(hpl:(backTo pos (starEach es X.env)).any (·.1)=false:=by rfl):
  PE X (.Call (.Name x p) (e::es) [] pos) (zaf sp [] E0 t):=by
 intro aa s σ H Q I h;refine IU (JL I hg hm ?_ hdb);refine callWith_K (h₀:=X.base) I.ok.mod.kin hk (thn (ha pos aa s σ H _ I h) λus s2 ⟨vs,H2,I2,rr,q⟩=>⟨I2.kIn,?_⟩) he hpl;have q:sp (vs++[]) H2 Q E0:=q;rw[Ng]at q;have hC2:=hst _ _ _ _ _ (I2.un0 hex) hC;have hl:us.length=ps.length:=by rw[← rr.length];exact F.len _ _ _ _ ⟨hC2,q⟩
 have hb':=hb s2 us I2.kIn (by rw[Ng];exact hl);rw[Ng]at hb';refine NZ (Nw (F.run X.A X.stack s2 H2 ⟨us,[]⟩ us _ Q hr I2.env0 hb' rr ⟨hC2,q⟩) λr s' hq' => ?_);cases r with
 |error e=>exact False.elim hq'
 |ok fl=>
  cases fl with
  |ret u=>exact I2.after hq'
  |next=>exact False.elim hq'
  |brk=>exact False.elim hq'
  |cont=>exact False.elim hq'
end
section
variable {K:FG}{σ:St}{G:Hp}{d:PD}{i j n:Nat}{f f1 f2:AD}{t:TA}{ta tb:TE}{ds:LA}{R:LA->PD->Prop}
def QJ(hi:σ[i]?=some (some (.ref f)))(h:EvA K t σ G ds)(hn:ds.length=n)(hR:R ds d):Ev K (zh8 i f n (spP K R) t) σ G d:=λG1 H s1 s2 Q k=>⟨hi,h G1 H s1 s2 _ λvs G2 H2 g2 hv=>⟨by rw[hv.length];exact hn,G2,ds,d,g2.gh,hv,hR,λv G' H' g hd=>k v G' H' (g2.trans g) hd⟩⟩
def spC(K:FG)(f1 f2:AD)(R:LA->PD->Prop):Sp:=λvs H Q _=>∃(G:Hp)(ds:LA)(d:PD)(xs:LC),vs=xs++[.ref f1,.ref f2]/\ZF G H/\Yl K G xs ds/\R ds d/\∀ v G' H',Yi G H G' H' -> Dat K G' v d->Q v H'
end
section
variable {X:Cx}{aa:List (Addr×Obj)}{σ:St}{H:Hp}{s:SH}{sc:Scope}{ps loc cap:LB}{name q:Str}{params:Arguments}{body:List Stmt}{f:AD}{k:Nat}{sp:Sp}
def zlG(I:Inv X aa σ H s)(S:Xo X.env.scope sc ps loc cap)(hjs:js.map (λj=>X.N[j]?)=cap.map some)(L:Vp H f name q params body sc (JG X.env sc.names []))(hbind:∀(cl:List (Str×AD))(us:LD),us.length=ps.length->∀(doc pm ctv:Value)(c' : AD),bindArgs (PySem.W.fnX name q params body sc cl .none .none doc pm none (.ref c') ctv) ⟨us,[]⟩=pure (ps.zip us))(hbody:∀(A:Around)(outer:LI)(s' : SH)(H' : Hp)(vs:LC)(Q:VK)(f c' : AD)(cl:List (Str×AD)),Wh k (A.deeper (zjb q sc s'.heap.objs.size f (.ref c') cl))->Kp H H' -> vs.length=ps.length->sp vs H' Q E0->
   ∃ t,PSs (zal X.prog X.w X.K X.mg X.base (ps++loc++cap) q sc f c' cl A outer s' H') body t/\t {nx:=λ_ H' => Q .non H',rt:=Q} (vs.map some++List.replicate loc.length none++WM σ js) H'):
  zgb X.prog X.w X.K X.mg X.base (k+1) f ps.length sp s H:=by
 have lenJ:js.length=cap.length:=by have:=Na List.length hjs;simpa using this
 refine⟨name,q,params,body,sc,JG X.env sc.names [],cap,WM σ js,H,Kp.refl H,L,I.cellsOf S hjs,λA outer s' H' us vs Q hr e0 kp L' C' r hl hs=>?_⟩;refine ziv S (λy hy=>?_) (λy c hc=>?_) hr e0 L' C' (hbind _ us (by rw[← r.length];exact hl)) hl (by unfold WM;rw[Ig,lenJ]) r λc' hr' => hbody A outer s' H' vs Q f c' _ hr' kp hl hs
 .exact Ny.mp (WP (env:=X.env) (acc:=[]) (IF hy))
 .rcases zbB hc with m | m
  .exact lookup_mem S.ndn m
  .cases m
def zjk{e:Expr}{es:List Expr}{t:TA}{p pos:Pos}{x:Str}{g:AD}{fd:FuncData}{C:AD->AD->SH->Hp->Prop}{sp2:AD->AD->St->Sp}{RH:AD->AD->St->Hp->Prop}(F:∀ f1 f2 σ,zaj X.prog X.w X.K X.mg X.base k g fd ps (λs vs H Q=>C f1 f2 s H/\sp2 f1 f2 σ vs H Q E0))(hC:∀ aa σ H s f1 f2,Inv X aa σ H s->RH f1 f2 σ H->C f1 f2 s H)(hr:Wh k X.A)(hg:Gl X x)(hm:X.mg x=some (.ref g))(hk:keepIn X.K (.ref g)=true)(hb:Binds X.K fd ps [])(ha:PA X (e::es) t)(hdb:(x==("__debug__" : Str))=false:=by decide)(he:starEach (e::es) X.env=(false,eval e X.env)::starEach es X.env:=by rfl)(hpl:(backTo pos (starEach es X.env)).any (·.1)=false:=by rfl):
  PE X (.Call (.Name x p) (e::es) [] pos) (fun σ H Q=>t σ H λvs H1=>∃ f1 f2,RH f1 f2 σ H1/\sp2 f1 f2 σ vs H1 Q E0):=by
 intro aa s σ H Q I h;refine IU (JL I hg hm ?_ hdb);refine callWith_K (h₀:=X.base) I.ok.mod.kin hk (thn (ha pos aa s σ H _ I h) λus s2 ⟨vs,H2,I2,rr,f1,f2,q1,q⟩=>⟨I2.kIn,?_⟩) he hpl;have hC2:=hC _ _ _ _ f1 f2 I2 q1;have hl:us.length=ps.length:=by rw[← rr.length];exact(F f1 f2 σ).len _ _ _ _ ⟨hC2,q⟩
 have hb':=hb s2 us I2.kIn (by rw[Ng];exact hl);rw[Ng]at hb';refine NZ (Nw ((F f1 f2 σ).run X.A X.stack s2 H2 ⟨us,[]⟩ us _ Q hr I2.env0 hb' rr ⟨hC2,q⟩) λr s' hq' => ?_);cases r with
 |error e=>exact False.elim hq'
 |ok fl=>
  cases fl with
  |ret u=>exact I2.after hq'
  |next=>exact False.elim hq'
  |brk=>exact False.elim hq'
  |cont=>exact False.elim hq'
end
end L2
namespace Rdo
open PySem Dig Ord Nm L2 Frac
variable {ad:Str->Prop}{num:Int->Int->Prop}{st st1:LB}
def Run.app{st2:LB}{a b:List Wd}(h:Run ad num st a st1)(k:Run ad num st1 b st2):Run ad num st (a++b) st2:=by
 induction h with
 |nil=>exact k
 |cons s _ ih=>exact .cons s (ih k)
def Step.frame{w:Wd}(r:LB)(h:Ord.Step ad num st w st1):Ord.Step ad num (st++r) w (st1++r):=by
 cases h with
 |field hx=>exact .field hx
 |number hx=>exact .number hx
 |word n1 n2 ho=>rw[append_assoc];exact .word n1 n2 ho
theorem Run.frame{a:List Wd}(r:LB)(h:Run ad num st a st1):Run ad num (st++r) a (st1++r):=by
 induction h with
 |nil=>exact .nil
 |cons s _ ih=>exact .cons (Step.frame r s) ih
section
variable {ad:Str->Prop}{num:Int->Int->Prop}{a b:List Wd}
def zlv(ha:Jd ad num a)(hb:Jd ad num b):Jd ad num (.t (S "then")::(a++b)):=.cons (st1:=[S "order",S "order"]) (Ord.Step.word (ps:=[S "order",S "order"]) (st:=[]) (by decide +kernel) (by decide +kernel) (by decide +kernel)) (Run.app (Run.frame [S "order"] ha) hb)
def zlV(hb:Jd ad num b):Jd ad num (.t (S "turn")::b):=.cons (st1:=[S "order"]) (Ord.Step.word (ps:=[S "order"]) (st:=[]) (by decide +kernel) (by decide +kernel) (by decide +kernel)) hb
end
end Rdo
namespace Look
open PySem Ord Rdo
variable {ad:Str->Prop}{num:Int->Int->Prop}{st st1:LB}
inductive An where
 |ahead
 |like
 |behind
 deriving DecidableEq
noncomputable def An.turn:An->An
 |.ahead=>.behind
 |.like=>.like
 |.behind=>.ahead
noncomputable def An.t:An->Str
 |.ahead=>S "ahead"
 |.like=>S "like"
 |.behind=>S "behind"
noncomputable def An.how:An->Str
 |.ahead=>S "less"
 |.like=>S "same"
 |.behind=>S "more"
inductive Tv where
 |an (a:An)
 |tr (b:Bool)
 |mk (b c:Bool)
 |wd (w:Wd)
noncomputable def Tv.d:Tv->PD
 |.an a=>.str a.t
 |.tr b=>.bool b
 |.mk b c=>.list [.bool b,.bool c]
 |.wd w=>w.d
structure En where
 look:Str->An
 one:Str->Int->Int->An
 two:Str->Int->Int->An
noncomputable def isA(a b:An):Bool:=decide (a=b)
noncomputable def zcr(E:En):Nat->List Tv->Tv
 |0,_=>.an .like
 |1,[.wd (.t z)]=>.an (E.look z)
 |2,[.wd (.t z)]=>.an (E.look z).turn
 |3,[.an a,.an b]=>.an (if a = .like then b else a)
 |4,[.an a]=>.an a.turn
 |5,[.tr c,.an a,.an b]=>.an (if c=true then a else b)
 |6,[.wd (.t z)]=>.tr (isA (E.look z) .like)
 |7,[.mk b c]=>.tr (b&&c)
 |8,[.mk b c]=>.tr (b||c)
 |9,[.tr b]=>.tr (!b)
 |10,[.tr b,.tr c]=>.tr (b&&c)
 |11,[.tr b,.tr c]=>.tr (b||c)
 |12,[.wd (.t z),.wd (.n a b)]=>.mk (isA (E.one z a b) .ahead) (isA (E.two z a b) .ahead)
 |13,[.wd (.t z),.wd (.n a b)]=>.mk (isA (E.one z a b) .like) (isA (E.two z a b) .like)
 |_,_=>.an .like
noncomputable def wix(x:Str):Nat:=zae.findIdx λr=>decide (r.1=x)
noncomputable def push(E:En)(w:Wd)(st:List Tv):List Tv:=match w with
 |.n a b=>.wd (.n a b)::st
 |.t x=>match YM x with
  |some r=>zcr E (wix x) (st.take r.2.2.length)::st.drop r.2.2.length
  |none=>.wd (.t x)::st
noncomputable def ev(E:En):List Wd->List Tv->List Tv
 |[],st=>st
 |w::ws,st=>push E w (ev E ws st)
def Ty(ad:Str->Prop)(num:Int->Int->Prop)(p:Str)(v:Tv):Prop:=(p=S "order" /\ ∃ a,v = .an a)\/(p=S "case" /\ ∃ b,v = .tr b)\/(p=S "mark" /\ ∃ b c,v = .mk b c)\/(p=S "field" /\ ∃ z,ad z/\v = .wd (.t z))\/(p=S "number" /\ ∃ a b,num a b/\v = .wd (.n a b))
def QL:(S "order" ≠ S "case" /\ S "order" ≠ S "mark" /\ S "order" ≠ S "field" /\ S "order" ≠ S "number")/\(S "case" ≠ S "mark" /\ S "case" ≠ S "field" /\ S "case" ≠ S "number")/\(S "mark" ≠ S "field" /\ S "mark" ≠ S "number")/\S "field" ≠ S "number" := by decide +kernel
theorem Ty.order{v:Tv}(h:Ty ad num (S "order") v):∃ a,v = .an a:=by
 obtain⟨⟨n1,n2,n3,n4⟩,_⟩:=QL;rcases h with⟨_,h⟩ | ⟨e,_⟩ | ⟨e,_⟩ | ⟨e,_⟩ | ⟨e,_⟩
 .exact h
 .exact absurd e n1
 .exact absurd e n2
 .exact absurd e n3
 .exact absurd e n4
theorem Ty.case{v:Tv}(h:Ty ad num (S "case") v):∃ b,v = .tr b:=by
 obtain⟨⟨n1,n2,n3,n4⟩,⟨m1,m2,m3⟩,_⟩:=QL;rcases h with⟨e,_⟩ | ⟨_,h⟩ | ⟨e,_⟩ | ⟨e,_⟩ | ⟨e,_⟩
 .exact absurd e.symm n1
 .exact h
 .exact absurd e m1
 .exact absurd e m2
 .exact absurd e m3
theorem Ty.mark{v:Tv}(h:Ty ad num (S "mark") v):∃ b c,v = .mk b c:=by
 obtain⟨⟨n1,n2,n3,n4⟩,⟨m1,m2,m3⟩,⟨k1,k2⟩,_⟩:=QL;rcases h with⟨e,_⟩ | ⟨e,_⟩ | ⟨_,h⟩ | ⟨e,_⟩ | ⟨e,_⟩
 .exact absurd e.symm n2
 .exact absurd e.symm m1
 .exact h
 .exact absurd e k1
 .exact absurd e k2
theorem Ty.field{v:Tv}(h:Ty ad num (S "field") v):∃ z,ad z/\v = .wd (.t z):=by
 obtain⟨⟨n1,n2,n3,n4⟩,⟨m1,m2,m3⟩,⟨k1,k2⟩,l1⟩:=QL;rcases h with⟨e,_⟩ | ⟨e,_⟩ | ⟨e,_⟩ | ⟨_,h⟩ | ⟨e,_⟩
 .exact absurd e.symm n3
 .exact absurd e.symm m2
 .exact absurd e.symm k1
 .exact h
 .exact absurd e l1
theorem Ty.number{v:Tv}(h:Ty ad num (S "number") v):∃ a b,num a b/\v = .wd (.n a b):=by
 obtain⟨⟨n1,n2,n3,n4⟩,⟨m1,m2,m3⟩,⟨k1,k2⟩,l1⟩:=QL;rcases h with⟨e,_⟩ | ⟨e,_⟩ | ⟨e,_⟩ | ⟨e,_⟩ | ⟨_,h⟩
 .exact absurd e.symm n4
 .exact absurd e.symm m3
 .exact absurd e.symm k2
 .exact absurd e.symm l1
 .exact h
inductive Tys(ad:Str->Prop)(num:Int->Int->Prop):LB->List Tv->Prop
 |nil:Tys ad num [] []
 |cons {p:Str}{v:Tv}{ps:LB}{vs:List Tv}:Ty ad num p v->Tys ad num ps vs->Tys ad num (p::ps) (v::vs)
def zhO{x:Str}{want:Str}{ps:LB}(h:YM x=some (x,want,ps)):
  (x=S "like" /\ want=S "order" /\ ps=[])\/(x=S "up" /\ want=S "order" /\ ps=[S "field"])\/(x=S "down" /\ want=S "order" /\ ps=[S "field"])\/(x=S "then" /\ want=S "order" /\ ps=[S "order",S "order"])\/
  (x=S "turn" /\ want=S "order" /\ ps=[S "order"])\/(x=S "pick" /\ want=S "order" /\ ps=[S "case",S "order",S "order"])\/(x=S "same" /\ want=S "case" /\ ps=[S "field"])\/(x=S "both" /\ want=S "case" /\ ps=[S "mark"])\/
  (x=S "either" /\ want=S "case" /\ ps=[S "mark"])\/(x=S "not" /\ want=S "case" /\ ps=[S "case"])\/(x=S "and" /\ want=S "case" /\ ps=[S "case",S "case"])\/(x=S "or" /\ want=S "case" /\ ps=[S "case",S "case"])\/
  (x=S "under" /\ want=S "mark" /\ ps=[S "field",S "number"])\/(x=S "is" /\ want=S "mark" /\ ps=[S "field",S "number"]):=by
 have m:=(zbI h).1;unfold zae at m;simp only[ID,IX,NK,Prod.mk.injEq]at m;exact m
def zak:wix (S "like")=0/\wix (S "up")=1/\wix (S "down")=2/\wix (S "then")=3/\wix (S "turn")=4/\wix (S "pick")=5/\wix (S "same")=6/\wix (S "both")=7/\wix (S "either")=8/\wix (S "not")=9/\wix (S "and")=10/\wix (S "or")=11/\wix (S "under")=12/\wix (S "is")=13:=by decide +kernel
def go1{us:List Tv}{p:Str}(h:Tys ad num [p] us):∃ v,us=[v]/\Ty ad num p v:=by cases h with | cons a b=>cases b;exact⟨_,rfl,a⟩
def go2{us:List Tv}{p q:Str}(h:Tys ad num [p,q] us):∃ v u,us=[v,u]/\Ty ad num p v/\Ty ad num q u:=by cases h with | cons a b=>obtain⟨u,rfl,c⟩:=go1 b;exact⟨_,u,rfl,a,c⟩
def go3{us:List Tv}{p q r:Str}(h:Tys ad num [p,q,r] us):∃ v u t,us=[v,u,t]/\Ty ad num p v/\Ty ad num q u/\Ty ad num r t:=by cases h with | cons a b=>obtain⟨u,t,rfl,c,d⟩:=go2 b;exact⟨_,u,t,rfl,a,c,d⟩
def zkN{E:En}{x want:Str}{ps:LB}{vs:List Tv}(h:YM x=some (x,want,ps))(hv:Tys ad num ps vs):Ty ad num want (zcr E (wix x) vs):=by
 obtain⟨w0,w1,w2,w3,w4,w5,w6,w7,w8,w9,w10,w11,w12,w13⟩:=zak;rcases zhO h with q | q | q | q | q | q | q | q | q | q | q | q | q | q
 .rw[q.2.1,q.1,w0];exact .inl ⟨rfl,_,rfl⟩
 .obtain⟨v,e,h1⟩:=go1 (q.2.2 ▸ hv);obtain⟨z,_,e1⟩:=h1.field;rw[q.2.1,q.1,w1,e,e1];exact .inl ⟨rfl,_,rfl⟩
 .obtain⟨v,e,h1⟩:=go1 (q.2.2 ▸ hv);obtain⟨z,_,e1⟩:=h1.field;rw[q.2.1,q.1,w2,e,e1];exact .inl ⟨rfl,_,rfl⟩
 .obtain⟨v,u,e,h1,h2⟩:=go2 (q.2.2 ▸ hv);obtain⟨a,e1⟩:=h1.order;obtain⟨b,e2⟩:=h2.order;rw[q.2.1,q.1,w3,e,e1,e2];exact .inl ⟨rfl,_,rfl⟩
 .obtain⟨v,e,h1⟩:=go1 (q.2.2 ▸ hv);obtain⟨a,e1⟩:=h1.order;rw[q.2.1,q.1,w4,e,e1];exact .inl ⟨rfl,_,rfl⟩
 .obtain⟨v,u,t,e,h1,h2,h3⟩:=go3 (q.2.2 ▸ hv);obtain⟨a,e1⟩:=h1.case;obtain⟨b,e2⟩:=h2.order;obtain⟨c,e3⟩:=h3.order;rw[q.2.1,q.1,w5,e,e1,e2,e3];exact .inl ⟨rfl,_,rfl⟩
 .obtain⟨v,e,h1⟩:=go1 (q.2.2 ▸ hv);obtain⟨z,_,e1⟩:=h1.field;rw[q.2.1,q.1,w6,e,e1];exact .inr (.inl ⟨rfl,_,rfl⟩)
 .obtain⟨v,e,h1⟩:=go1 (q.2.2 ▸ hv);obtain⟨a,b,e1⟩:=h1.mark;rw[q.2.1,q.1,w7,e,e1];exact .inr (.inl ⟨rfl,_,rfl⟩)
 .obtain⟨v,e,h1⟩:=go1 (q.2.2 ▸ hv);obtain⟨a,b,e1⟩:=h1.mark;rw[q.2.1,q.1,w8,e,e1];exact .inr (.inl ⟨rfl,_,rfl⟩)
 .obtain⟨v,e,h1⟩:=go1 (q.2.2 ▸ hv);obtain⟨a,e1⟩:=h1.case;rw[q.2.1,q.1,w9,e,e1];exact .inr (.inl ⟨rfl,_,rfl⟩)
 .obtain⟨v,u,e,h1,h2⟩:=go2 (q.2.2 ▸ hv);obtain⟨a,e1⟩:=h1.case;obtain⟨b,e2⟩:=h2.case;rw[q.2.1,q.1,w10,e,e1,e2];exact .inr (.inl ⟨rfl,_,rfl⟩)
 .obtain⟨v,u,e,h1,h2⟩:=go2 (q.2.2 ▸ hv);obtain⟨a,e1⟩:=h1.case;obtain⟨b,e2⟩:=h2.case;rw[q.2.1,q.1,w11,e,e1,e2];exact .inr (.inl ⟨rfl,_,rfl⟩)
 .obtain⟨v,u,e,h1,h2⟩:=go2 (q.2.2 ▸ hv);obtain⟨z,_,e1⟩:=h1.field;obtain⟨a,b,_,e2⟩:=h2.number;rw[q.2.1,q.1,w12,e,e1,e2];exact .inr (.inr (.inl ⟨rfl,_,_,rfl⟩))
 .obtain⟨v,u,e,h1,h2⟩:=go2 (q.2.2 ▸ hv);obtain⟨z,_,e1⟩:=h1.field;obtain⟨a,b,_,e2⟩:=h2.number;rw[q.2.1,q.1,w13,e,e1,e2];exact .inr (.inr (.inl ⟨rfl,_,_,rfl⟩))
theorem Uo :∀{ps:LB}{vs:List Tv},Tys ad num (ps++st) vs->Tys ad num ps (vs.take ps.length)/\Tys ad num st (vs.drop ps.length)
 |[],vs,h=>⟨.nil,h⟩
 |p::ps,vs,h=>by
  cases h with
  |cons a b=>obtain⟨h1,h2⟩:=Uo b;exact⟨.cons a h1,h2⟩
theorem Tys.length :∀{ps:LB}{vs:List Tv},Tys ad num ps vs->ps.length=vs.length
 |_,_,.nil=>rfl
 |_,_,.cons _ b=>Na (· + 1) (Tys.length b)
abbrev Kinds(st:LB):Prop:=∀ x∈st,x∈[S "order",S "case",S "mark",S "field",S "number"]
def zjf{E:En}(hf:∀ z,ad z->YM z=none){w:Wd}{vs:List Tv}(h:Ord.Step ad num st w st1)(hs:Kinds st)(hv:Tys ad num st1 vs):
  Tys ad num st (push E w vs)/\∀ R,push E w (vs++R)=push E w vs++R:=by
 rcases Uc h hs with⟨x,st0,rfl,rfl,hx,rfl⟩ | ⟨a,b,st0,rfl,rfl,hx,rfl⟩ | ⟨want,x,ps,st0,rfl,rfl,n1,n2,hw,hl,rfl⟩
 .have e:∀ us,push E (.t x) us = .wd (.t x)::us:=λus=>by unfold push;dsimp only;rw[hf x hx]
  rw[e];exact⟨.cons (.inr (.inr (.inr (.inl ⟨rfl,x,hx,rfl⟩)))) hv,λR=>by rw[e];rfl⟩
 .exact⟨.cons (.inr (.inr (.inr (.inr ⟨rfl,a,b,hx,rfl⟩)))) hv,λR=>rfl⟩
 .have e:∀ us,push E (.t x) us=zcr E (wix x) (us.take ps.length)::us.drop ps.length:=λus=>by unfold push;dsimp only;rw[hw]
  rw[e];obtain⟨h1,h2⟩:=Uo hv;have hlen:=hv.length;rw[Iv]at hlen;refine⟨.cons (zkN hw h1) h2,λR=>?_⟩;rw[e,List.take_append_of_le_length (by omega),List.drop_append_of_le_length (by omega)];rfl
def Vv{w:Wd}(h:Ord.Step ad num st w st1)(hs:Kinds st):Kinds st1:=by
 rcases Uc h hs with⟨x,st0,rfl,rfl,hx,rfl⟩ | ⟨a,b,st0,rfl,rfl,hx,rfl⟩ | ⟨want,x,ps,st0,rfl,rfl,n1,n2,hw,hl,rfl⟩
 .exact λp hp=>hs p (Iz _ hp)
 .exact λp hp=>hs p (Iz _ hp)
 .intro p hp;rcases NN.mp hp with hp | hp
  .have key:∀ r∈zae,∀ p∈r.2.2,p∈[S "order",S "case",S "mark",S "field",S "number"]:=by decide +kernel
   exact key _ (zbI hw).1 p hp
  .exact hs p (Iz _ hp)
def zla{E:En}(hf:∀ z,ad z->YM z=none){ws:List Wd}(h:Run ad num st ws st1):Kinds st->∀{vs:List Tv},Tys ad num st1 vs->
  Tys ad num st (ev E ws vs)/\∀ R,ev E ws (vs++R)=ev E ws vs++R:=by
 induction h with
 |nil=>intro _ vs hv;exact⟨hv,λR=>rfl⟩
 |cons a b ih=>intro hs vs hv;obtain⟨h1,h2⟩:=ih (Vv a hs) hv;obtain⟨h3,h4⟩:=zjf (E:=E) hf a hs h1;exact⟨h3,λR=>by show push E _ (ev E _ (vs++R))=_;rw[h2,h4];rfl⟩
def zfG:Kinds [S "order"]:=λx hx=>by rw[IN.mp hx];exact IC
def zgC(E:En)(hf:∀ z,ad z->YM z=none){ws:List Wd}(h:Jd ad num ws):∃ a,∀ R,ev E ws R = .an a::R:=by
 obtain⟨h1,h2⟩:=zla (E:=E) hf h zfG (vs:=[]) .nil;cases hc:ev E ws []with
 |nil=>rw[hc]at h1;cases h1
 |cons v r=>
  rw[hc]at h1;cases h1 with
  |cons x y=>cases y;obtain⟨a,rfl⟩:=x.order;refine⟨a,λR=>?_⟩;have:=h2 R;rw[nil_append]at this;rw[this,hc];rfl
noncomputable def hsA(a b:Int×Int):An:=if a.1*b.2<b.1*a.2 then .ahead else if a.1*b.2>b.1*a.2 then .behind else .like
noncomputable def zfe(book:LB)(f g:List (Int×Int)):En where
 look z:=hsA (f.getD (book.idxOf z) (0,1)) (g.getD (book.idxOf z) (0,1))
 one z a b:=hsA (f.getD (book.idxOf z) (0,1)) (a,b)
 two z a b:=hsA (g.getD (book.idxOf z) (0,1)) (a,b)
end Look
namespace L2
open PySem PySem.Spec PyProof.Rows
noncomputable def zbJ:List DictEntry->List (Str×Str)->Bool
 |[],[]=>true
 |e::es,r::rs=>(match e.key,e.val with
  |.str x _,.str v _=>x==r.1&&v==r.2
  |_,_=>false)&&zbJ es rs
 |_,_=>false
def zhV{e:DictEntry}{r:Str×Str}(h:(match e.key,e.val with
  |.str x _,.str v _=>x==r.1&&v==r.2
  |_,_=>false)=true):(∃ t,e.key = .str r.1 t)/\∃ t,e.val = .str r.2 t:=by
 split at h
 .rename_i x t v u h1 h2
  rw[Nd,Oa,Oa]at h;obtain⟨rfl,rfl⟩:=h;exact⟨⟨t,h1⟩,u,h2⟩
 .cases h
theorem zaO(z:Str):∀{es:List DictEntry}{rs:List (Str×Str)},zbJ es rs=true->
  (es.find? (·.key.isStr z)=none/\rs.find? (λr=>decide (r.1=z))=none)\/∃ e r,es.find? (·.key.isStr z)=some e/\rs.find? (λr=>decide (r.1=z))=some r/\∃ t,e.val = .str r.2 t
 |[],[],_=>.inl ⟨rfl,rfl⟩
 |[],_::_,h=>by cases h
 |_::_,[],h=>by cases h
 |e::es,r::rs,h=>by
  unfold zbJ at h;rw[Nd]at h;obtain⟨⟨t,hk⟩,hv⟩:=zhV h.1;have q:e.key.isStr z=decide (r.1=z):=by rw[hk];exact zbp
  rw[OF,OF,q];by_cases hz:r.1=z
  .rw[Iq hz];exact .inr ⟨e,r,rfl,rfl,hv⟩
  .rw[Iy hz];exact zaO z h.2
theorem zdb:∀{es:List DictEntry}{rs:List (Str×Str)},zbJ es rs=true->es.any (·.refKey)=false
 |[],[],_=>rfl
 |[],_::_,h=>by cases h
 |_::_,[],h=>by cases h
 |e::es,r::rs,h=>by unfold zbJ at h;rw[Nd]at h;obtain⟨⟨t,hk⟩,_⟩:=zhV h.1;rw[any_cons,zdb h.2,Bool.or_false];unfold DictEntry.refKey;rw[hk]
structure Txs(K:FG)(P:Params)(mg:Str->LF)(x:Str)(rs:List (Str×Str)) where
 a:AD
 g:Str->Option (V×Value)
 m:mg x=some (.ref a)
 D:zb0 K P a g
 yes:∀ z v,rs.find? (λr=>decide (r.1=z))=some (z,v)->∃ u,g z=some (.str v,u)
def zh7{K:FG}{P:Params}{mg:Str->LF}{x:Str}{a:AD}{es:Array DictEntry}{n:Nat}{rs:List (Str×Str)}(hm:mg x=some (.ref a))(hl:K.lookup a=some ⟨.type "dict",none,.dict es n,#[]⟩)(hk:KeysLit P es.toList)(lo:(a==sysModules)=false)(h:zbJ es.toList rs=true):Nonempty (Txs K P mg x rs):=by
 refine⟨⟨a,gOf es.toList,hm,⟨⟨es,n,hl,hk⟩,lo,λx=>?_,λx v u e=>?_⟩,λz v e=>?_⟩⟩
 .unfold PySem.W.nsIn;rw[hl];dsimp only;unfold gOf;rcases zaO x h with⟨e1,_⟩ | ⟨e,r,e1,_,_⟩
  .rw[e1,zdb h];rfl
  .rw[e1];rfl
 .unfold gOf at e;rcases zaO x h with⟨e1,_⟩ | ⟨e',r,e1,_,t,ht⟩
  .rw[e1]at e;cases e
  .rw[e1]at e;rw[OG]at e;injection e with e;injection e with e1 e2;subst e1 e2;rw[ht];exact⟨t,rfl⟩
 .rcases zaO z h with⟨_,e2⟩ | ⟨e',r,e1,e2,t,ht⟩
  .rw[e2]at e;cases e
  .rw[e2]at e;injection e with e;subst e;refine⟨e'.val,?_⟩;unfold gOf;rw[e1,OG,ht];rfl
end L2
namespace Look
open PySem Ord Rdo
section
variable {ad:Str->Prop}{num:Int->Int->Prop}{a b cs:List Wd}
abbrev W4(ad:Str->Prop)(num:Int->Int->Prop)(ws:List Wd):Prop:=Run ad num [S "case"] ws []
abbrev zbL(ad:Str->Prop)(num:Int->Int->Prop)(ws:List Wd):Prop:=Run ad num [S "mark"] ws []
def zeM:Jd ad num [.t (S "like")]:=.cons (st1:=[]) (Ord.Step.word (ps:=[]) (st:=[]) (by decide +kernel) (by decide +kernel) (by decide +kernel)) .nil
def zmn{x:Str}(hx:ad x):Jd ad num [.t (S "up"),.t x]:=.cons (st1:=[S "field"]) (Ord.Step.word (ps:=[S "field"]) (st:=[]) (by decide +kernel) (by decide +kernel) (by decide +kernel)) (.cons (Ord.Step.field hx) .nil)
def ze4{x:Str}(hx:ad x):Jd ad num [.t (S "down"),.t x]:=.cons (st1:=[S "field"]) (Ord.Step.word (ps:=[S "field"]) (st:=[]) (by decide +kernel) (by decide +kernel) (by decide +kernel)) (.cons (Ord.Step.field hx) .nil)
def zeQ(hc:W4 ad num cs)(ha:Jd ad num a)(hb:Jd ad num b):Jd ad num (.t (S "pick")::(cs++(a++b))):=
 .cons (st1:=[S "case",S "order",S "order"]) (Ord.Step.word (ps:=[S "case",S "order",S "order"]) (st:=[]) (by decide +kernel) (by decide +kernel) (by decide +kernel))
  (Run.app (Run.frame [S "order",S "order"] hc) (Run.app (Run.frame [S "order"] ha) hb))
def zks(hc:W4 ad num cs):W4 ad num (.t (S "not")::cs):=.cons (st1:=[S "case"]) (Ord.Step.word (ps:=[S "case"]) (st:=[]) (by decide +kernel) (by decide +kernel) (by decide +kernel)) hc
def zhQ{x:Str}(hx:ad x):W4 ad num [.t (S "same"),.t x]:=.cons (st1:=[S "field"]) (Ord.Step.word (ps:=[S "field"]) (st:=[]) (by decide +kernel) (by decide +kernel) (by decide +kernel)) (.cons (Ord.Step.field hx) .nil)
def zh3(hm:zbL ad num cs):W4 ad num (.t (S "both")::cs):=.cons (st1:=[S "mark"]) (Ord.Step.word (ps:=[S "mark"]) (st:=[]) (by decide +kernel) (by decide +kernel) (by decide +kernel)) hm
def zdr(hm:zbL ad num cs):W4 ad num (.t (S "either")::cs):=.cons (st1:=[S "mark"]) (Ord.Step.word (ps:=[S "mark"]) (st:=[]) (by decide +kernel) (by decide +kernel) (by decide +kernel)) hm
def zmV(ha:W4 ad num a)(hb:W4 ad num b):W4 ad num (.t (S "and")::(a++b)):=.cons (st1:=[S "case",S "case"]) (Ord.Step.word (ps:=[S "case",S "case"]) (st:=[]) (by decide +kernel) (by decide +kernel) (by decide +kernel)) (Run.app (Run.frame [S "case"] ha) hb)
def znC(ha:W4 ad num a)(hb:W4 ad num b):W4 ad num (.t (S "or")::(a++b)):=.cons (st1:=[S "case",S "case"]) (Ord.Step.word (ps:=[S "case",S "case"]) (st:=[]) (by decide +kernel) (by decide +kernel) (by decide +kernel)) (Run.app (Run.frame [S "case"] ha) hb)
def zjh{m x:Str}{p q:Int}(hm:m=S "under" \/ m=S "is")(hx:ad x)(hn:num p q):zbL ad num [.t m,.t x,.n p q]:=.cons (st1:=[S "field",S "number"]) (Ord.Step.word (ps:=[S "field",S "number"]) (st:=[]) (by decide +kernel) (by decide +kernel) (by rcases hm with rfl | rfl <;> decide +kernel)) (.cons (Ord.Step.field hx) (.cons (Ord.Step.number hn) .nil))
end
def ziK{a b:An}:a.t=b.t↔a=b:=by
 constructor
 .intro h;have k:∀ a b:An,a.t=b.t->a=b:=by intro a b;cases a <;> cases b <;> decide +kernel
  exact k a b h
 .rintro rfl;rfl
abbrev Fs:=List (Int×Int)
noncomputable def Z3(book:LB)(ws:List Wd)(f g:Fs):An:=match ev (zfe book f g) ws []with
 |.an a::_=>a
 |_=>.like
def zdD{ad:Str->Prop}{num:Int->Int->Prop}{book:LB}{ws:List Wd}(f g:Fs)(hf:∀ z,ad z->YM z=none)(h:Jd ad num ws):∀ R,ev (zfe book f g) ws R = .an (Z3 book ws f g)::R:=by
 obtain⟨a,ha⟩:=zgC (zfe book f g) hf h;have e:Z3 book ws f g=a:=by unfold Z3;rw[ha []]
 rw[e];exact ha
noncomputable def Vm(i j:Nat):An:=if i<j then .ahead else if i>j then .behind else .like
noncomputable def rk(L:Fs->Fs->An)(gs:List Fs)(f:Fs):Nat:=gs.countP λg=>decide (L f g = .behind)
noncomputable def agree(L:Fs->Fs->An)(gs:List Fs):Bool:=gs.all λf=>gs.all λg=>decide (L f g=Vm (rk L gs f) (rk L gs g))
structure Wk(L:Fs->Fs->An)(D:Fs->Prop):Prop where
 anti:∀ f g,D f->D g->L g f=(L f g).turn
 trans:∀ f g h,D f->D g->D h->L f g≠.behind->L g h≠.behind->L f h≠.behind
def Wk.self{L:Fs->Fs->An}{D:Fs->Prop}(w:Wk L D){f:Fs}(hf:D f):L f f = .like:=by
 have:=w.anti f f hf hf;cases e:L f f with
 |like=>rfl
 |ahead=>rw[e]at this;cases this
 |behind=>rw[e]at this;cases this
def Wk.sub{L:Fs->Fs->An}{D D' : Fs->Prop}(w:Wk L D)(h:∀ f,D' f->D f):Wk L D':=⟨λf g a b=>w.anti f g (h f a) (h g b),λf g k a b c=>w.trans f g k (h f a) (h g b) (h k c)⟩
def Wk.zef{L:Fs->Fs->An}{D:Fs->Prop}(w:Wk L D){f g h:Fs}(hf:D f)(hg:D g)(hh:D h)(a:L f g = .ahead)(b:L g h≠.behind):L f h = .ahead:=by
 have n1:L f h≠.behind:=w.trans f g h hf hg hh (by rw[a];decide) b;cases e:L f h with
 |ahead=>rfl
 |behind=>exact absurd e n1
 |like=>
  have e2:L h f = .like:=by rw[w.anti f h hf hh,e];rfl
  have:=w.trans g h f hg hh hf b (by rw[e2];decide);have e3:L g f = .behind:=by rw[w.anti f g hf hg,a];rfl
  exact absurd e3 this
theorem Jq{α:Type}{p q:α->Bool}:∀{l:List α},(∀ x∈l,p x=true->q x=true)->l.countP p<=l.countP q
 |[],_=>Ih _
 |x::r,h=>by
  have ih:=Jq (p:=p) (q:=q) (l:=r) λy hy=>h y (Iz _ hy);rw[countP_cons,countP_cons];have:=h x IC;cases e:p x with
  |false=>simp;omega
  |true=>rw[this e];simp;omega
theorem Qj{α:Type}{p q:α->Bool}:∀{l:List α},(∀ x∈l,p x=true->q x=true)->(∃ x∈l,p x=false/\q x=true)->l.countP p<l.countP q
 |[],_,⟨x,hx,_⟩=>by cases hx
 |x::r,h,⟨y,hy,e1,e2⟩=>by
  rw[countP_cons,countP_cons];have le:=Jq (p:=p) (q:=q) (l:=r) λz hz=>h z (Iz _ hz);rcases ID.mp hy with rfl | hy
  .rw[e1,e2];simp;omega
  .have ih:=Qj (p:=p) (q:=q) (l:=r) (λz hz=>h z (Iz _ hz)) ⟨y,hy,e1,e2⟩;have:=h x IC;cases e:p x with
   |false=>simp;omega
   |true=>rw[this e];simp;omega
def zlm{L:Fs->Fs->An}{gs:List Fs}(w:Wk L (· ∈ gs)){f g:Fs}(hf:f∈gs)(hg:g∈gs)(a:L f g = .ahead):rk L gs f<rk L gs g:=by
 refine Qj (λh hh e=>?_) ⟨f,hf,?_,?_⟩
 .have e' : L f h = .behind:=Ir e;have e2:L h f = .ahead:=by rw[w.anti f h hf hh,e'];rfl
  have e3:=w.zef hh hf hg e2 (by rw[a];decide);exact Iq (by rw[w.anti h g hh hg,e3];rfl)
 .rw[w.self hf];decide
 .exact Iq (by rw[w.anti f g hf hg,a];rfl)
def zkK{L:Fs->Fs->An}{gs:List Fs}(w:Wk L (· ∈ gs)){f g:Fs}(hf:f∈gs)(hg:g∈gs)(a:L f g≠.behind):rk L gs f<=rk L gs g:=by
 refine Jq λh hh e=>?_;have e' : L f h = .behind:=Ir e;have e2:L h f = .ahead:=by rw[w.anti f h hf hh,e'];rfl
 have e3:=w.zef hh hf hg e2 a;exact Iq (by rw[w.anti h g hh hg,e3];rfl)
def Xi(L:Fs->Fs->An)(gs:List Fs):agree L gs=true↔Wk L (· ∈ gs):=by
 constructor
 .intro h;have key:∀ f g,f∈gs->g∈gs->L f g=Vm (rk L gs f) (rk L gs g):=λf g hf hg=>by unfold agree at h;exact Ir (Nz.mp (Nz.mp h f hf) g hg)
  refine⟨λf g hf hg=>?_,λf g k hf hg hk a b=>?_⟩
  .rw[key f g hf hg,key g f hg hf];unfold Vm;generalize rk L gs f=i;generalize rk L gs g=j;by_cases h1:i<j
   .have:¬ j<i:=by omega
    simp only[h1,this,Ox,IW,gt_iff_lt];rfl
   .by_cases h2:j<i
    .simp only[h1,h2,Ox,IW,gt_iff_lt];rfl
    .simp only[h1,h2,IW,gt_iff_lt];rfl
  .rw[key f g hf hg]at a;rw[key g k hg hk]at b;rw[key f k hf hk];revert a b;unfold Vm;generalize rk L gs f=i;generalize rk L gs g=j;generalize rk L gs k=m;intro a b;have h1:¬ i>j:=λz=>a (by rw[Iw (by omega),IA z]);have h2:¬ j>m:=λz=>b (by rw[Iw (by omega),IA z]);by_cases h3:i<m
   .rw[IA h3];decide
   .rw[Iw h3,Iw (by omega)];decide
 .intro w;unfold agree;refine Nz.mpr λf hf=>Nz.mpr λg hg=>Iq ?_;unfold Vm;cases e:L f g with
  |ahead=>rw[IA (zlm w hf hg e)]
  |behind=>
   have e2:L g f = .ahead:=by rw[w.anti f g hf hg,e];rfl
   have:=zlm w hg hf e2;rw[Iw (by omega),IA this]
  |like=>
   have e2:L g f = .like:=by rw[w.anti f g hf hg,e];rfl
   have h1:=zkK w hf hg (by rw[e];decide);have h2:=zkK w hg hf (by rw[e2];decide);rw[Iw (by omega),Iw (by omega)]
noncomputable def Y7(fs:List Fs):List Fs:=fs.foldl (λacc f=>if(acc.any λg=>decide (g=f))=true then acc else acc++[f]) []
def YC(fs:List Fs):∀ f,f∈Y7 fs↔f∈fs:=by
 have key:∀(l acc:List Fs)(f:Fs),f∈l.foldl (λacc f=>if(acc.any λg=>decide (g=f))=true then acc else acc++[f]) acc↔f∈acc\/f∈l:=by
  intro l
  induction l with
  |nil=>intro acc f;simp
  |cons x r ih=>
   intro acc f;rw[foldl_cons,ih];by_cases h:(acc.any λg=>decide (g=x))=true
   .rw[IA h];obtain⟨y,hy,e⟩:=any_eq_true.mp h;have e' : y=x:=Ir e;subst e';constructor
    .rintro(q | q)
     .exact .inl q
     .exact .inr (Iz _ q)
    .rintro(q | q)
     .exact .inl q
     .rcases ID.mp q with rfl | q
      .exact .inl hy
      .exact .inr q
   .rw[Iw h];simp only[NN,ID,IX,NK];constructor
    .rintro((q | q) | q)
     .exact .inl q
     .exact .inr (.inl q)
     .exact .inr (.inr q)
    .rintro(q | q | q)
     .exact .inl (.inl q)
     .exact .inl (.inr q)
     .exact .inr q
 intro f;have:=key fs [] f;unfold Y7;rw[this];simp
end Look
namespace L2
open PySem PySem.Spec
variable {oe:Obj}{vs:Array Value}{l:LI}
def TrD(h base:Heap)(e:AD)(cls:Value)(dc:Option AD)(fl:Value):Prop:=
 ∃(oe:Obj)(vs:Array Value)(T:AD)(oT:Obj)(ts:Array Value),h.get? e=some oe/\oe.cls=cls/\oe.dict=dc/\oe.data = .fields vs/\vs[1]?=some (.ref T)/\
  base.get? T=none/\T≠e/\h.get? T=some oT/\oT.data = .fields ts/\ts[3]?=some fl
def zce(base:Heap)(l:LI)(e:AD)(cls:Value)(dc:Option AD)(h:Heap):Prop:=base.StaysIn h/\base.get? e=none/\h.FunFrames base l/\TrD h base e cls dc .none
def zmd(base:Heap)(l:LI)(e:AD)(cls:Value)(dc:Option AD)(L:AD)(h:Heap):Prop:=base.StaysIn h/\base.get? e=none/\h.FunFrames base l/\TrD h base e cls dc (rawInt L)
def zb2(f:Array Value->Array Value)(o:Obj):(Obj.mapFields f o).dict=o.dict:=by obtain⟨c,d,dt,sl⟩:=o;cases dt <;> rfl
section
variable {M:Model}{A:Around}{E:Value->SH->Prop}{s:SH}{base:Heap}{env:Env}{outer:LI}{L e:AD}{cls:Value}{dc:Option AD}{Q:Unit->SH->Prop}
def zhM{head:Value}{hadNext:Bool}(fr:A.frames=some (env::outer))(ff:s.heap.FunFrames base (env::outer))(ef:env.frame=some L)(ge:s.heap.get? e=some oe)(st:base.StaysIn s.heap)(be:base.get? e=none)(de:oe.data = .fields vs)(sz:1<vs.size)(q:∀ h',zmd base (env::outer) e oe.cls oe.dict L h' -> s.heap.UpToSlots h' -> Q () {s with heap:=h'}):
  wpAny M A (do let a ← frameOf env;let pl ← entryPlaceOf L hadNext;let b ← EntryCells.newEntry head a .none (rawInt L) .none pl;setField (.ref e) 1 b) Q E s:=by
 have ne:e∉(env::outer).filterMap (·.frame):=λm=>by obtain⟨_,o,g,z⟩:=ff.mem m;rw[ge]at g;cases g;exact z vs de
 refine Ia (wpAny_frameOf_fun fr ff ef λh1 so=>?_);refine Ia (wpAny_entryPlaceOf λpl hp=>?_);unfold EntryCells.newEntry newFields;refine Ia (Nt ?_ (hp.sizeOk5 _ _ _ _ _));have g1:h1.get? e=some oe:=(so.2.1 e ne).trans ge;have st1:base.StaysIn h1:=λb o z=>(so.2.1 b λm=>by rw[(ff.mem m).1]at z;cases z).trans (st b o z);generalize hO:({cls:=.type "traceback",dict:=none,data:=.fields ([head,.ref L,.none,rawInt L,.none]++(if pl.isEmpty then List.replicate 6 Value.none else pl)).toArray}:Obj)=tb;have hOd:∃ ts:Array Value,tb.data = .fields ts/\ts[3]?=some (rawInt L):=by rw[← hO];exact⟨_,rfl,by rcases hp with rfl | ⟨_,_,_,_,_,_,_,rfl⟩ <;> simp⟩
 obtain⟨ts,t1,t2⟩:=hOd;have g2:=Ie (h:=h1) tb g1;refine NJ g2 de sz ?_;have nT:h1.objs.size≠e:=ne_of_gt (IB g1);have d3:=IQ de (·.setIfInBounds 1 (Value.ref h1.objs.size));have g3:=Nh (Obj.mapFields (·.setIfInBounds 1 (Value.ref h1.objs.size))) g2 (Nr d3);have gT:=(II (h1.push tb) (Obj.mapFields (·.setIfInBounds 1 (Value.ref h1.objs.size))) (Ne.symm nT)).trans (Il h1 (Nr t1));have kp:∀ b o,b≠e->h1.get? b=some o->((h1.push tb).update e (Obj.mapFields (·.setIfInBounds 1 (Value.ref h1.objs.size)))).get? b=some o:=λb o nb z=>by rw[II _ _ (Ne.symm nb)];exact Ie _ z
 have nr:∀ b o,s.heap.get? b=some o->(∀ vs,o.data≠.fields vs)->b≠e:=λb o z nf m=>by rw[m,ge]at z;cases z;exact nf vs de
 refine q _ ⟨λb o z=>kp b o (λm=>by rw[m,be]at z;cases z) (st1 b o z),be,ff.of_keeps λb o z nf=>?_,?_⟩ λb o z nf=>?_
 .obtain⟨sl,y⟩:=so.2.2 b o z;exact⟨_,kp b _ (nr b o z nf) y,rfl⟩
 .exact⟨_,_,h1.objs.size,_,_,g3,Os _ _,zb2 _ _,d3,by simp[sz],st1.fresh,nT,gT,t1,t2⟩
 .obtain⟨sl,y⟩:=so.2.2 b o z;exact⟨sl,kp b _ (nr b o z nf) y⟩
def zll(fr:A.frames=some (env::outer))(ff:s.heap.FunFrames base (env::outer))(ef:env.frame=some L)(ge:s.heap.get? e=some oe)(st:base.StaysIn s.heap)(be:base.get? e=none)(de:oe.data = .fields vs)(v1:vs[1]?=some .none)(q:∀ h',zmd base (env::outer) e oe.cls oe.dict L h' -> s.heap.UpToSlots h' -> Q () {s with heap:=h'}):wpAny M A (noteFrame (.ref e) env) Q E s:=by
 unfold noteFrame;simp only[ef];refine Ia (IR ge de v1 ?_);rw[Iw (by decide)];exact zhM fr ff ef ge st be de (Nu.mp v1).1 q
def zj8(fr:A.frames=some (env::outer))(ef:env.frame=some L)(f:zce base (env::outer) e cls dc s.heap)(q:∀ h',zmd base (env::outer) e cls dc L h' -> s.heap.UpToSlots h' -> Q () {s with heap:=h'}):
  wpAny M A (noteFrame (.ref e) env) Q E s:=by
 obtain⟨st,be,ff,oe,vs,T,oT,ts,ge,rfl,rfl,de,v1,bT,nT,gT,dT,t3⟩:=f;unfold noteFrame;simp only[ef];refine Ia (IR ge de v1 ?_);rw[IA (show(Value.ref T != Value.none)=true from by simp)];refine Ia (IR gT dT t3 ?_);rw[Iw (show ¬ ((Value.none==rawInt L)=true)from by simp[rawInt])];refine Ia (NJ gT dT (Nu.mp t3).1 ?_);have ot:∀ b,b≠T->(s.heap.update T (Obj.mapFields (·.setIfInBounds 3 Value.none))).get? b=s.heap.get? b:=λb z=>II _ _ (Ne.symm z);have nr:∀ b o,s.heap.get? b=some o->(∀ vs,o.data≠.fields vs)->b≠T:=λb o z nf m=>by rw[m,gT]at z;cases z;exact nf ts dT
 refine zhM fr (ff.of_keeps λb o z nf=>⟨o,(ot b (nr b o z nf)).trans z,rfl⟩) ef ((ot e (Ne.symm nT)).trans ge) (λb o z=>(ot b λm=>by rw[m,bT]at z;cases z).trans (st b o z)) be de (Nu.mp v1).1
  λh' x1 x2=>q h' x1 λb o z nf=>x2 b o ((ot b (nr b o z nf)).trans z) nf
def zff{fl:Value}(st:base.StaysIn s.heap)(be:base.get? e=none)(ff:s.heap.FunFrames base l)(t:TrD s.heap base e cls dc fl)(q:∀ h',zce base l e cls dc h' -> s.heap.UpToSlots h' -> Q () {s with heap:=h'}):
  wpAny M A (setFlight (.ref e) none) Q E s:=by
 obtain⟨oe,vs,T,oT,ts,ge,rfl,rfl,de,v1,bT,nT,gT,dT,t3⟩:=t;have z3:3<ts.size:=(Nu.mp t3).1;have ot:∀ b,b≠T->(s.heap.update T (Obj.mapFields (·.setIfInBounds 3 ((none:Option AD).elim Value.none λf=>rawInt f)))).get? b=s.heap.get? b:=λb z=>II _ _ (Ne.symm z);have nr:∀ b o,s.heap.get? b=some o->(∀ vs,o.data≠.fields vs)->b≠T:=λb o z nf m=>by rw[m,gT]at z;cases z;exact nf ts dT
 unfold setFlight;refine Ia (IR ge de v1 ?_);rw[IA (show(Value.ref T != Value.none)=true from by simp)];refine NJ gT dT z3 (q _ ⟨λb o z=>(ot b λm=>by rw[m,bT]at z;cases z).trans (st b o z),be,ff.of_keeps λb o z nf=>⟨o,(ot b (nr b o z nf)).trans z,rfl⟩,?_⟩ λb o z nf=>⟨o.slots,(ot b (nr b o z nf)).trans z⟩);exact⟨oe,vs,T,_,_,(ot e (Ne.symm nT)).trans ge,rfl,rfl,de,v1,bT,nT,Nh _ gT (Nr (IQ dT _)),IQ dT _,by simp[z3]⟩
def ziY(x:zmd base l e cls dc L s.heap)(q:∀ h',zce base l e cls dc h' -> s.heap.UpToSlots h' -> Q () {s with heap:=h'}):wpAny M A (setFlight (.ref e) none) Q E s:=zff x.1 x.2.1 x.2.2.1 x.2.2.2 q
def zlB(x:zce base l e cls dc s.heap)(q:∀ h',zce base l e cls dc h' -> s.heap.UpToSlots h' -> Q () {s with heap:=h'}):wpAny M A (setFlight (.ref e) none) Q E s:=zff x.1 x.2.1 x.2.2.1 x.2.2.2 q
def zce.tail{h:Heap}(x:zce base (env::outer) e cls dc h):zce base outer e cls dc h:=by obtain⟨a,b,⟨_,_,c⟩,d⟩:=x;exact⟨a,b,c,d⟩
def zkU(fr:A.frames=some (env::outer))(ef:env.frame=some L)(f:zce base (env::outer) e cls dc s.heap)(q:∀ h',zce base outer e cls dc h' -> s.heap.UpToSlots h' -> Q () {s with heap:=h'}):
  wpAny M A (leaving env (.ref e)) Q E s:=Ia (zj8 fr ef f λh1 x1 u1=>ziY x1 λh2 x2 u2=>q h2 x2.tail (u1.trans u2))
def ziR(fr:A.frames=some (env::outer))(ff:s.heap.FunFrames base (env::outer))(ef:env.frame=some L)(ge:s.heap.get? e=some oe)(st:base.StaysIn s.heap)(be:base.get? e=none)(de:oe.data = .fields vs)(v1:vs[1]?=some .none)(q:∀ h',zce base outer e oe.cls oe.dict h' -> s.heap.UpToSlots h' -> Q () {s with heap:=h'}):wpAny M A (leaving env (.ref e)) Q E s:=
 Ia (zll fr ff ef ge st be de v1 λh1 x1 u1=>ziY x1 λh2 x2 u2=>q h2 x2.tail (u1.trans u2))
end
def zce.obj{base h:Heap}{e:AD}{cls:Value}{dc:Option AD}(x:zce base l e cls dc h):∃ oe vs,h.get? e=some oe/\oe.cls=cls/\oe.dict=dc/\oe.data = .fields vs:=by obtain⟨_,_,_,oe,vs,_,_,_,a,b,c,d,_⟩:=x;exact⟨oe,vs,a,b,c,d⟩
end L2
namespace Look
open PySem Ord Rdo
variable {gs:List Fs}
theorem zb5{α:Type}{r:α->α->Prop}(as:∀ x y,r x y->¬ r y x):∀{a b:List α},a.Perm b->a.Pairwise r->b.Pairwise r->a=b
 |[],b,p,_,_=>by rw[List.nil_perm.mp p]
 |x::a,[],p,_,_=>by have:=p.length_eq;simp at this
 |x::a,y::b,p,h1,h2=>by
  obtain⟨p1,p2⟩:=pairwise_cons.mp h1;obtain⟨q1,q2⟩:=pairwise_cons.mp h2;have hx:x∈y::b:=p.mem_iff.mp IC;have hy:y∈x::a:=p.mem_iff.mpr IC;have e:x=y:=by
   rcases ID.mp hx with e | hx
   .exact e
   .rcases ID.mp hy with e | hy
    .exact e.symm
    .exact absurd (p1 y hy) (as _ _ (q1 x hx))
  subst e;rw[zb5 as (List.perm_cons x |>.mp p) p2 q2]
def ltN(g:Nat->Int)(i j:Nat):Prop:=g i<g j\/(g i=g j/\i<j)
def zlp(g:Nat->Int)(i j:Nat)(h:ltN g i j):¬ ltN g j i:=by unfold ltN at *;omega
noncomputable def zg0(g:Nat->Int)(n:Nat):List Nat:=(List.range n).mergeSort λi j=>decide (g i<g j\/(g i=g j/\i<=j))
def Ut(g:Nat->Int)(n:Nat):(zg0 g n).Perm (List.range n):=List.mergeSort_perm _ _
def zd3(g:Nat->Int)(n:Nat):(zg0 g n).Nodup:=(Ut g n).nodup_iff.mpr List.nodup_range
def zgK(g:Nat->Int)(n:Nat):(zg0 g n).Pairwise (ltN g):=by
 have h:(zg0 g n).Pairwise λi j=>(decide (g i<g j\/(g i=g j/\i<=j)))=true:=List.pairwise_mergeSort (λa b c h1 h2=>by
  have:=Ir h1;have:=Ir h2;exact Iq (by omega)) (λa b=>by
  rw[Bool.or_eq_true,NP,NP];omega) _
 have nd:=zd3 g n;refine(h.and nd).imp λ{i j} ⟨a,b⟩=>?_;have:=Ir a;unfold ltN;have:i≠j:=b;omega
def zeH{g:Nat->Int}{n:Nat}{out:List Nat}(h:out.Perm (List.range n))(s:out.Pairwise (ltN g)):out=zg0 g n:=zb5 (zlp g) (h.trans (Ut g n).symm) s (zgK g n)
abbrev th(gs:List Fs)(i:Nat):Fs:=gs.getD i []
def ltL(L:Fs->Fs->An)(gs:List Fs)(i j:Nat):Prop:=L (th gs i) (th gs j) = .ahead\/(L (th gs i) (th gs j) = .like/\i<j)
noncomputable def rkZ(L:Fs->Fs->An)(gs:List Fs)(i:Nat):Int:=(rk L (Y7 gs) (th gs i):Nat)
noncomputable def tn(L:Fs->Fs->An)(gs:List Fs):List Nat:=zg0 (rkZ L gs) gs.length
def zat{i:Nat}(h:i<gs.length):th gs i∈gs:=by unfold th;rw[Im,Ib h];exact NO h
def zgj{L:Fs->Fs->An}(wk:Wk L (· ∈ gs)){f g:Fs}(hf:f∈gs)(hg:g∈gs):L f g=Vm (rk L (Y7 gs) f) (rk L (Y7 gs) g):=by have w:Wk L (· ∈ Y7 gs):=wk.sub λf h=>(YC gs f).mp h;have a:=(Xi L (Y7 gs)).mpr w;unfold agree at a;exact Ir (Nz.mp (Nz.mp a f ((YC gs f).mpr hf)) g ((YC gs g).mpr hg))
def Jk(i j:Nat):(Vm i j = .ahead↔i<j)/\(Vm i j = .like↔i=j)/\(Vm i j = .behind↔j<i):=by
 unfold Vm;by_cases h:i<j
 .rw[IA h];refine⟨⟨λ_=>h,λ_=>rfl⟩,⟨λz=>(by cases z),λz=>(by omega)⟩,⟨λz=>(by cases z),λz=>(by omega)⟩⟩
 .rw[Iw h];by_cases h2:i>j
  .rw[IA h2];refine⟨⟨λz=>(by cases z),λz=>(by omega)⟩,⟨λz=>(by cases z),λz=>(by omega)⟩,⟨λ_=>h2,λ_=>rfl⟩⟩
  .rw[Iw h2];refine⟨⟨λz=>(by cases z),λz=>(by omega)⟩,⟨λ_=>(by omega),λ_=>rfl⟩,⟨λz=>(by cases z),λz=>(by omega)⟩⟩
def zja{L:Fs->Fs->An}(wk:Wk L (· ∈ gs)){i j:Nat}(hi:i<gs.length)(hj:j<gs.length):ltL L gs i j↔ltN (rkZ L gs) i j:=by unfold ltL ltN rkZ;rw[zgj wk (zat hi) (zat hj),(Jk _ _).1,(Jk _ _).2.1];omega
def zih(L:Fs->Fs->An)(gs:List Fs):(tn L gs).Perm (List.range gs.length):=Ut _ _
def zkQ(L:Fs->Fs->An)(gs:List Fs):(tn L gs).length=gs.length:=by rw[(zih L gs).length_eq,ND]
def zmt{L:Fs->Fs->An}(wk:Wk L (· ∈ gs)){out:List Nat}(h:out.Perm (List.range gs.length))(s:out.Pairwise (ltL L gs)):out=tn L gs:=by refine zeH h ?_;refine(List.Pairwise.and_mem.mp s).imp λ{i j} ⟨a,b,c⟩=>?_;exact(zja wk (mem_range.mp (h.mem_iff.mp a)) (mem_range.mp (h.mem_iff.mp b))).mp c
end Look
namespace L2
open PySem PySem.Spec PyProof.Rows Lw
variable {te:TE}{σ:St}{G H1 H:Hp}{h:Heap}{b e C f:AD}{aa:List (Addr×Obj)}{s1:SH}{dc:Option AD}{Q:Value->SH->Prop}{tk:Tok}{expr:Bool}{k:Nat}{fd:FuncData}{ps:LB}{sp:Sp}{E:XK}{pos:Pos}{rest:LD}{X:Cx}{qual nm:Str}
def zk2(K:FG)(P:AD)(cr:Nat->Nat->Option Str)(js:List Nat)(t0 te:TE):TE:=fun σ H Q=>t0 σ H λv H1=>H1 P=some (.tbl cr)/\∃(n:Nat)(g:Nat->Int),v = .int (n:Nat)/\n<64/\
 (∀ i,i<n->Ev K te (some (.int (i:Nat))::WM σ js) H1 (.int (g i)))/\∀ l H' (out:List Nat),ZF H1 H' -> H1 l=none->H' l=some (.lst (out.map λi=>V.int (i:Nat)))->out.Perm (List.range n)->out.Pairwise (λi j=>g i<g j\/(g i=g j/\i<j))->Q (.ref l) H'
def zdv:bootBuiltins "sorted" = some (.builtin "sorted"):=by decide +kernel
section
variable {X:Cx}{kk:Nat}{y:Str}{c P:AD}{cr:Nat->Nat->Option Str}{q:Str}{params:Arguments}{body a:Expr}{sc:Scope}{cap:LB}{t0 te:TE}{p1 p2 pos q2 lpos kpos:Pos}
def zjN(hr:Wh (kk+3) X.A)(hc:X.calm=true)(hg1:Gl X "sorted")(hm1:X.mg "sorted" = none)(hg2:Gl X "range")(hm2:X.mg "range" = none){js:List Nat}(S:Xd X.env.scope sc [y] cap)(hjs:js.map (λj=>X.N[j]?)=cap.map some)(hcode:X.env.code = .ref c)(C:CodeHd X.base c P)(hbm:BM X.mg X.base)(hq:q=X.env.qual ++ "<lambda>")(hcr:cr lpos.line lpos.col=some q)(hbind:∀(u pm ctv:Value)(c' : AD)(cl:List (Str×AD)),bindArgs (kla_fn "<lambda>" q params body sc cl pm (.ref c') ctv) ⟨[u],[]⟩=pure [(y,u)])(ha:PE X a t0)(hbody:∀ A outer s H f c' cl,Wh kk (A.deeper (PySem.W.envX q sc s.heap.objs.size f (.ref c') cl))->PE (zbM X.prog X.w X.K X.mg X.base ([y]++cap) q sc f c' cl A outer s H) body te)(hdef:defaultsOf params X.env=([],[]):=by rfl)(hs1:starEach [.Call (.Name "range" p2) [a] [] q2] X.env=[(false,eval (.Call (.Name "range" p2) [a] [] q2) X.env)]:=by rfl)(hs2:starEach [a] X.env=[(false,eval a X.env)]:=by rfl)(hks:(backToKw pos (keywordEach [⟨some "key",.Lambda params body sc lpos,kpos⟩] X.env)).filterMap (·.1)=[Str.ofString "key"]:=by rfl)(hall:(backToKw pos (keywordEach [⟨some "key",.Lambda params body sc lpos,kpos⟩] X.env)).all (·.1.isSome)=true:=by rfl)(hkw:(backToKw pos (keywordEach [⟨some "key",.Lambda params body sc lpos,kpos⟩] X.env)).any (·.1.isNone)=false:=by rfl):
  PE X (.Call (.Name "sorted" p1) [.Call (.Name "range" p2) [a] [] q2] [⟨some "key",.Lambda params body sc lpos,kpos⟩] pos) (zk2 X.K P cr js t0 te):=by
 intro aa s σ H Q I h;refine IU (Qo I hg1 hm1 zdv ?_);have z:sizeLine<2^62:=by decide
 refine callWith_kw (id:= "sorted") ?_ (by rw[hs1];rfl) (by rw[hs1];rfl) hall hkw;rw[hs1];show wpAny _ _ (spliced [(false,eval (.Call (.Name "range" p2) [a] [] q2) X.env)]) _ _ s;refine spliced_cons (IU (Qo I hg2 hm2 boot_range (IZ (thn (Za ha Zf (by rw[hs2];rfl) q2 aa s σ H (λvs H1=>match vs with
  |[v]=>H1 P=some (.tbl cr)/\∃(n:Nat)(g:Nat->Int),v = .int (n:Nat)/\n<64/\(∀ i,i<n->Ev X.K te (some (.int (i:Nat))::WM σ js) H1 (.int (g i)))/\∀ l H' (out:List Nat),ZF H1 H' -> H1 l=none->H' l=some (.lst (out.map λi=>V.int (i:Nat)))->out.Perm (List.range n)->out.Pairwise (λi j=>g i<g j\/(g i=g j/\i<j))->Q (.ref l) H'
  |_=>False) I h) λus s1 ⟨vs,H1,I1,r1,q1⟩=>?_) hs2 rfl)))
 match vs,r1,q1 with
 |[v],r1,⟨hP,n,g,ev,n64,hev,hQ⟩=>
 subst ev;obtain⟨u,rfl,r⟩:=Vals.one r1;obtain⟨t,rfl⟩:=r;refine call_range_1 (spliced_nil ?_);refine thn (zjD (zid (c:=c) (cr:=cr) S hcode C hbm hq hcr hdef) zkI pos aa _ σ _ (λvs H2=>∃ f,vs=[.ref f]/\ZF (upd H1 s1.heap.objs.size (exO s1.heap.objs.size _)) H2/\VM H2 f q params body sc (JG X.env sc.names [])) (I1.laid (a:=s1.heap.objs.size) (o:=exO s1.heap.objs.size _) (λb o e=>Ie _ e) (Ih _) (zhY (Il _ rfl))) ⟨by rw[Zm (Zk hP (I1.ac.fresh (Ih _)))];exact hP,λf H' hf sm L=>⟨f,rfl,sm,L⟩⟩) λws s2 ⟨vs2,H2,I2,r2,f,e2,sm,L⟩=>?_;subst e2;obtain⟨u2,rfl,r2'⟩:=Vals.one r2;obtain rfl:u2=Value.ref f:=r2';rw[hks];have fr1:H1 s1.heap.objs.size=none:=I1.ac.fresh (Ih _);have sm1:=(ZZ fr1).trans sm;have hR:=I2.exO (sm _ _ Zh);have zl:(2000:Nat)<=sizeLine:=by decide
 have z24:(64:Nat)<=2^24:=by decide
 generalize s1.heap.objs.size=rr at hR sm fr1;show wpAny _ _ (call (.builtin "sorted") [.ref rr] [(Str.ofString "key",.ref f)]) _ _ s2;refine call_function_entry_kw kind_sorted plain_sorted entry_sorted (ksk_s1 _ _) ?_;unfold Builtin.«sorted»;refine Ia (m:=checkCount "sorted" 1 1 _) (Ic ?_);refine Ia (zck (A:=X.A.in1) (n:=n) (show X.A.in1.handled=none from hr.hd) (r:=rr) (a:=0) (b:=(n:Int)) (c:=1) hR (small_one (by omega) (by omega) (by omega) (by omega)) (by rw[rangeSize_one];split <;> omega) (by omega) λh' tk acc hk hacc=>?_);have ha' : Vals (gV (λi=>(i:Nat)) n) acc.toList:=by
  have:=zg3 hacc;have e:((List.range n).map λ(i:Nat)=>V.int (0+i))=gV (λi=>(i:Nat)) n:=List.map_congr_left λi _=>by rw[Int.zero_add]
  rw[e]at this;exact this
 have al:=ha'.length;rw[Ig,ND]at al;have I3:=I2.kept (t':=tk) hk;refine Ia (wpAny_newList ?_ (by omega));have hoL:(h'.push (seqObj "list" acc.toList.toArray 0)).get? h'.objs.size=some (seqObj "list" acc.toList.toArray 0):=Il _ rfl;obtain⟨e1,ho1⟩:∃ e1,((h'.push (seqObj "list" acc.toList.toArray 0)).update h'.objs.size (Obj.mapSeq λ_=>(#[]:Array Value))).get? h'.objs.size=some (seqObj "list" #[] e1):=⟨_,get?_update_seq hoL λ_=>#[]⟩
 have fD:H2 h'.objs.size=none:=I3.ac.fresh (Ih _);refine Ia (IV (wpAny_call_entry_kw slot_list_sort ⟨_,hoL,rfl⟩ entry_list_sort ?body (ksk_l1 _ _)))
 case body=>
  show wpAny (model X.prog X.w) X.A.in1.in1 (Builtin.«list.sort» ⟨[.ref h'.objs.size],[(Str.ofString "key",.ref f)]⟩) _ _ _;rw[ksk_t1];unfold ksk_tree;refine Ia (listItems_at hoL rfl ?_);refine Ia (listUpdate_at hoL rfl ?_ (by rw[Ix];omega) (Nl _));refine Ia (seqEpoch_at ho1 rfl ?_);refine Ia (wpAny_newTuple ?_ (by show acc.toList.toArray.toList.length<=_;rw[List.toList_toArray];omega));refine Ia (wpAny_newList (IV ?_) (Nl _));have I4:Inv X aa σ (upd H2 h'.objs.size (exO h'.objs.size (seqObj "list" #[] e1))) {s2 with heap:=(h'.push (seqObj "list" acc.toList.toArray 0)).update h'.objs.size (Obj.mapSeq λ_=>(#[]:Array Value)),toks:=tk}:=I3.laid (t':=tk) (λb o e=>(II _ _ (ne_of_gt (IB e))).trans (Ie _ e)) (Ih _) (zhY ho1)
  have I5:=I4.kept (t':=tk) (h':=((h'.push (seqObj "list" acc.toList.toArray 0)).update h'.objs.size (Obj.mapSeq λ_=>(#[]:Array Value))).push (seqObj "tuple" acc.toList.toArray.toList.toArray 0)) λb o e=>Ie _ e;have I6:=I5.znk (ys:=[]) (its:=[]) (t':=tk) .nil (Nl _);have fK:=I5.ac.fresh (Ih _);have nKD:(((h'.push (seqObj "list" acc.toList.toArray 0)).update h'.objs.size (Obj.mapSeq λ_=>(#[]:Array Value))).push (seqObj "tuple" acc.toList.toArray.toList.toArray 0)).objs.size≠h'.objs.size:=λzz=>by have zz2:upd H2 h'.objs.size (exO h'.objs.size (seqObj "list" #[] e1)) _=none:=fK;rw[zz,Zh]at zz2;cases zz2
  refine zgv (kk:=kk) (H0:=H2) (n:=n) (g:=g) hr.in1.in1 rfl S hjs hbind hbody L (λi hi=>(hev i hi).mono sm1) I6 ?_ ?_ Zh nKD fD ?_ n64 ha' λout o1 o2 s' H' sH hD I' => ⟨_,rfl,Ic ⟨_,rfl,.ref h'.objs.size,H',I',rfl,hQ _ H' out (sm1.trans sH) (sm1.free fD) hD o1 o2⟩⟩
  .exact(ZZ fD).trans (ZZ fK)
  .rw[Zm (Ne.symm nKD)];exact Zh
  .have:=fK;rw[Zm nKD]at this;exact this
end
open PySem PySem.Spec PyProof.Rows Look
def zjo{K:FG}{P:AD}{cr:Nat->Nat->Option Str}{js:List Nat}{t0:TE}{n:Nat}{g:Nat->Int}(hP:G P=some (.tbl cr))(h0:Ev K t0 σ G (.int (n:Nat)))(hn:n<64)(he:∀ i,i<n->Ev K te (some (.int (i:Nat))::WM σ js) G (.int (g i))):
  Ev K (zk2 K P cr js t0 te) σ G (.list ((zg0 g n).map λi=>PyData.int (i:Nat))):=λG1 H s1 s2 Q k=>h0 G1 H s1 s2 _ λv G2 H2 g2 hv=>by
 refine⟨g2.gh _ _ (g2.gg _ _ (s1 _ _ hP)),n,g,hv.int,hn,λi hi=>(he i hi).mono ((s1.trans g2.gg).trans g2.gh),λl H' out sm fl hl o1 o2=>?_⟩;have e:out=zg0 g n:=zeH o1 o2;subst e;have gl:G2 l=none:=g2.gh.free fl;have g3:Yi G2 H2 (upd G2 l (.lst ((zg0 g n).map λi=>V.int (i:Nat)))) H':=by
  refine⟨λb o e=>by rw[Zm (Zk e gl)];exact e,λb o e=>?_,sm,λb o e=>?_⟩
  .by_cases h:b=l
   .subst h;rw[Zh]at e;rw[hl,e]
   .rw[Zm h]at e;exact sm _ _ (g2.gh _ _ e)
  .by_cases h:b=l
   .subst h;exact .inr fl
   .rw[Zm h]at e;exact .inl e
 exact k _ _ _ (g2.trans g3) (YJ Zh (Uz _))
structure zng(P:Program)(w:World)(outer:LI)(H H' : Hp)(s:SH)(a:AD)(C:Value)(dc:Option AD)(s' : SH):Prop where
 os:s'.os=s.os
 bare:AllBare s'.gens
 ex:∃ B:Heap,zce B outer a C dc s'.heap/\HOk P w H' B/\
  (∀ b o,s.heap.get? b=some o->H b=none->b∉frs outer->B.get? b=some o)/\(∀ b o,s.heap.get? b=some o->b∉frs outer->∃ o',B.get? b=some o')
 free:∀ b o,s.heap.get? b=some o->H b=none->H' b=none
 slot:∀ b o,s.heap.get? b=some o->b∈frs outer->∃ sl,s'.heap.get? b=some {o with slots:=sl}
 tups:∀ b xs,H b=some (.tup xs)->H' b=some (.tup xs)
 frzs:∀ b o u,H b=some (.frz o u)->H' b=some (.frz o u)
 tbls:∀ b cr,H b=some (.tbl cr)->H' b=some (.tbl cr)
def CX1(P:Program)(w:World):CXT:=λouter H s E e s' => ∃(a:AD)(C:Value)(dc:Option AD)(H' : Hp),e = .ref a/\zng P w outer H H' s a C dc s' /\ E C dc H'
section
variable {P:Program}{w:World}{K:FG}{mg:Str->LF}{base:Heap}{N:LB}{qual:Str}{scope:Scope}{f:AD}{cd:Value}{A:Around}{outer:LI}{s:SH}{H:Hp}{E:XK}{CX:CXT}
def zdi{base:Heap}{l:LI}(x:h.FunFrames base l)(hb:b∈frs l){o:Obj}(e:h.get? b=some o):∀ vs,o.data≠.fields vs:=by obtain⟨_,o',ho,hn⟩:=x.mem hb;rw[e]at ho;cases ho;exact hn
def QZ(I:Inv (VD CX P w K mg base N qual scope f cd A outer s H E) aa σ H1 s1){o:Obj}(q:s.heap.get? b=some o)(hb:b∉frs outer):
  b∉frs (VD CX P w K mg base N qual scope f cd A outer s H E).stack:=λm=>by
 rcases ID.mp (I.zc9 b m)with z | z
 .have h1:=IB q;have h2:s.heap.objs.size<=b:=by rw[z];exact I.ok.above
  exact absurd (Iu h1 h2) (Oo _)
 .exact hb z
def zjY(e:AD)(C:Value)(dc:Option AD)(h:Heap):Prop:=∃(oe:Obj)(vs:Array Value),h.get? e=some oe/\oe.cls=C/\oe.dict=dc/\oe.data = .fields vs/\vs[1]?=some .none/\∃ t0:AD,vs[0]?=some (.ref t0)
abbrev xdO(e:AD)(C:Value)(dc:Option AD):HO:=.ext (zjY e C dc)
def zf9{C:Value}(p:zjY e C dc h):Yt P w H h e (xdO e C dc):=⟨p,⟨p.choose,p.choose_spec.choose_spec.1⟩,λh1 h2 ⟨o,vs,g,r⟩ k=>⟨o,vs,k o g,r⟩⟩
noncomputable def del(H:Hp)(e:AD):Hp:=λb=>if b=e then none else H b
def Q5(h:b≠e):del H e b=H b:=Iw h
def zde :del H e e=none:=IA rfl
def zhd{o:HO}(h:del H e b=some o):b≠e/\H b=some o:=by
 by_cases z:b=e
 .rw[z,zde]at h;cases h
 .rw[Q5 z]at h;exact⟨z,h⟩
def zfA{C:Value}(I:Inv (VD (CX1 P w) P w K mg base N qual scope f cd A outer s H E) aa σ H1 s1)(hx:H1 e=some (xdO e C dc))(hn:s.heap.objs.size<=e)(he:E C dc (del H1 e)):(VD (CX1 P w) P w K mg base N qual scope f cd A outer s H E).xe (.ref e) s1:=by
 have hin:∀ env∈(VD (CX1 P w) P w K mg base N qual scope f cd A outer s H E).stack,∀ b,env.frame=some b->b∈frs (VD (CX1 P w) P w K mg base N qual scope f cd A outer s H E).stack:=λenv he b hb=>OA.mpr ⟨env,he,hb⟩;have noex:∀ b:AD,b∉(VD (CX1 P w) P w K mg base N qual scope f cd A outer s H E).ex:=λb z=>absurd (show b∈([]:LG)from z) (by simp);generalize hfr:frs (VD (CX1 P w) P w K mg base N qual scope f cd A outer s H E).stack=fs at hin;obtain⟨oe,vs,gx,rfl,rfl,de,v1,_⟩:=(show Yt P w H1 s1.heap e (xdO e C dc)from I.ac e _ hx).1;have nE:∀ b o,s.heap.get? b=some o->b≠e:=λb o q z=>absurd (Iu (IB q) hn) (by rw[z];exact Oo _);have gB:∀{b:AD}{o:Obj},s1.heap.get? b=some o->b≠e->b∉fs->(hideAll s1.heap (e::fs)).get? b=some o:=λq n m=>PySem.W.hideAll_get _ q λz=>(ID.mp z).elim n m;have be:(hideAll s1.heap (e::fs)).get? e=none:=PySem.W.hideAll_none _ IC;have ff:s1.heap.FunFrames (hideAll s1.heap (e::fs)) _:=PySem.W.funFrames_hide I.stack λenv he b hb=>Iz _ (hin env he b hb);have hokB:HOk P w (del H1 e) (hideAll s1.heap (e::fs)):=λa o q=>by
  obtain⟨na,q⟩:=zhd q;have nz:∀{b:AD}{u:HO},H1 b=some u->b∉fs:=λq m=>by rw[← hfr]at m;rw[I.zcT _ m]at q;cases q
  refine(I.ac a o q).stay (λb u hb z=>?_) (λb z=>?_) (λb xs z=>?_) λb o u z=>?_
  .rcases hb with rfl | hb
   .exact gB z na (nz q)
   .refine gB z (λy=>?_) (nz hb);rw[y,hx]at hb;cases hb
  .rw[Q5 (λy=>by rw[y,hx]at z;cases z)];exact z
  .rw[Q5 (λy=>by rw[y,hx]at z;cases z)];exact z
  .rw[Q5 (λy=>by rw[y,hx]at z;cases z)];exact z
 refine ziR I.ok.frames ff rfl gx (λb o q=>of_hideAll _ q) be de v1 λh' x1 x4=>?_;refine⟨e,oe.cls,oe.dict,del H1 e,rfl,⟨I.os,I.bare,⟨_,x1,hokB,λb o q n hb=>?_,λb o q hb=>?_⟩,λb o q n=>?_,λb o q hb=>?_,λb xs q=>?_,λb o u q=>?_,λb cr q=>?_⟩,he⟩
 .exact gB (I.base.keep b o q n hb (noex b)) (nE b o q) (by rw[← hfr];exact QZ I q hb)
 .obtain⟨o',q'⟩:=I.base.there b o q (noex b);exact⟨o',gB q' (nE b o q) (by rw[← hfr];exact QZ I q hb)⟩
 .rw[Q5 (nE b o q)];exact I.base.free b o q n (noex b)
 .obtain⟨sl,q1⟩:=I.base.slot b o q (I.ok.frf b hb) hb (noex b);obtain⟨sl',q2⟩:=x4 b _ q1 λvs z=>zdi I.ok.zaY hb q vs z;exact⟨sl',q2⟩
 .have z:=I.base.tups b xs q;rw[Q5 (λy=>by rw[y,hx]at z;cases z)];exact z
 .have z:=I.base.frzs b o u q;rw[Q5 (λy=>by rw[y,hx]at z;cases z)];exact z
 .have z:=I.base.tbls b cr q;rw[Q5 (λy=>by rw[y,hx]at z;cases z)];exact z
def zeP:zbs (CX1 P w) (VD (CX1 P w) P w K mg base N qual scope f cd A outer s H E) E:=by
 rintro aa σ H1 s1 _ s' I ⟨a,C,dc,H2,rfl,fl,he⟩;have noex:∀ b:AD,b∉(VD (CX1 P w) P w K mg base N qual scope f cd A outer s H E).ex:=λb z=>absurd (show b∈([]:LG)from z) (by simp);obtain⟨B,hf,hokB,keep,there⟩:=fl.ex;refine zkU I.ok.frames rfl hf λh' f1 f2=>?_;refine⟨a,C,dc,H2,rfl,⟨fl.os.trans I.os,fl.bare,⟨B,f1,hokB,λb o q n hb=>?_,λb o q hb=>?_⟩,λb o q n=>?_,λb o q hb=>?_,λb xs q=>fl.tups b xs (I.base.tups b xs q),λb o u q=>fl.frzs b o u (I.base.frzs b o u q),λb cr q=>fl.tbls b cr (I.base.tbls b cr q)⟩,he⟩
 .exact keep b o (I.base.keep b o q n hb (noex b)) (I.base.free b o q n (noex b)) (QZ I q hb)
 .obtain⟨o',q'⟩:=I.base.there b o q (noex b);exact there b o' q' (QZ I q hb)
 .obtain⟨o',q'⟩:=I.base.there b o q (noex b);exact fl.free b o' q' (I.base.free b o q n (noex b))
 .obtain⟨sl,q1⟩:=I.base.slot b o q (I.ok.frf b hb) hb (noex b);have hb' : b∈frs (VD (CX1 P w) P w K mg base N qual scope f cd A outer s H E).stack:=by obtain⟨en,h1,h2⟩:=OA.mp hb;exact OA.mpr ⟨en,Iz _ h1,h2⟩
  obtain⟨sl2,q2⟩:=fl.slot b _ q1 hb';obtain⟨sl3,q3⟩:=f2 b _ q2 λvs z=>zdi I.ok.zaY hb q vs z;exact⟨sl3,q3⟩
end
section
variable {prog:Program}{w:World}{A:Around}{E:Value->SH->Prop}{h:Heap}{g:Array GenState}{d:Drawn}{tn:Nat}{os:OsState}{a C:AD}{o:Obj}{K:FG}
structure XC(K:FG)(C:AD):Prop where
 ga:findIn K (.ref C) "__getattribute__" = some (some (.builtin "BaseException.__getattribute__"))
 gn:findIn K (.ref C) "__getattr__" = some none
 cl:findIn K (.ref C) "__class__" = some (some (.builtin "object.__class__"))
 sb:subIn K (.ref C) (.type "BaseException")=some true
 so:subIn K (.ref C) (.type "object")=some true
 isC:∃ c d' cd sl,K.lookup C=some ⟨c,d',.cls cd,sl⟩
def zkf{R:Result->SH->Prop}(X:K.In h)(c:XC K C)(hx:h.get? a=some o)(hc:o.cls = .ref C)(hq:R (.ok (.ret (.ref C))) ⟨h,g,d,tn,os⟩):
  codeAny (model prog w) A (.call (.builtin "getset_descriptor.__get__") ⟨[.builtin "object.__class__",.ref a,.ref C],[]⟩) R ⟨h,g,d,tn,os⟩:=by
 have ty5:(⟨h,g,d,tn,os⟩:SH).TypeIs (.builtin "object.__class__") "getset_descriptor" := F.typeOf_object_class;have L0:Looks (model prog w) h (isSubtype (.ref C) (.type (".".intercalate ("object.__class__".cutAt '.').dropLast))) true:=by rw[F.owner_object_class];exact looks_subIn X c.so
 refine N7 F.slot_gs_get.plain F.entry_gs_get (F.slot_gs_get.check _ _ _ _ _ _ _ _ ty5 (F.args_gs_get _ _ _) ?_)
 repeat (any_goals (first | assumption | (with_reducible refine IY hx ?_;rw[hc]) | with_reducible refine L0.at ?_ | wp_step))
 refine And.intro (Code.quiet_builtin _ (by decide +kernel)) (codeAny_builtin F.entry_object_class ?_)
 repeat (any_goals (first | assumption | (with_reducible refine IY hx ?_;rw[hc]) | wp_step))
def zc7{M:Model}{nameV:Value}{Q:Unit->SH->Prop}(X:K.In h)(c:XC K C)(hx:h.get? a=some o)(hc:o.cls = .ref C)(hq:Q () ⟨h,g,d,tn,os⟩):wpAny M A (checkBuiltinCall "BaseException.__getattribute__" ⟨[.ref a,nameV],[]⟩) Q E ⟨h,g,d,tn,os⟩:=by
 have k1:builtinKind "BaseException.__getattribute__" = some .slot:=by decide +kernel
 have k2:splitId "BaseException.__getattribute__" = some ("BaseException", "__getattribute__"):=by decide +kernel
 have L0:Looks M h (isSubtype (.ref C) (.type "BaseException")) true:=looks_subIn X c.sb;have k3:=F.args_bexc_ga (Value.ref a) nameV;simp only[checkBuiltinCall,k1,k2];refine Ia ?_
 .unfold isInstance
  repeat (first | (with_reducible refine IY hx ?_;rw[hc]) | with_reducible refine L0.at ?_ | wp_step)
  exact hq
def zhl{Q:PySem.Fin->SH->Prop}(X:K.In h)(c:XC K C)(hx:h.get? a=some o)(hc:o.cls = .ref C)(hq:Q (.done (.ret (.ref C))) ⟨h,g,d,tn,os⟩):
  wpAny (model prog w) A (Builtin.«object.__getattribute__» ⟨[.ref a,.str "__class__" tk],[]⟩) Q E ⟨h,g,d,tn,os⟩:=by
 have ty5:(⟨h,g,d,tn,os⟩:SH).TypeIs (.builtin "object.__class__") "getset_descriptor" := F.typeOf_object_class;have y5:=F.typeOf_object_class;have y6:=F.slot_gs_get.lookup;have y7:=F.slot_gs_set.lookup;have L1:=looks_findIn (M:=model prog w) X c.cl
 repeat (any_goals (first | assumption | (with_reducible refine IY hx ?_;rw[hc]) | with_reducible refine L1.at ?_ | wp_step))
 refine zkf X c hx hc ?_
 repeat any_goals first | assumption | wp_step
def zjd{R:Result->SH->Prop}(X:K.In h)(c:XC K C)(hx:h.get? a=some o)(hc:o.cls = .ref C)(hq:R (.ok (.ret (.ref C))) ⟨h,g,d,tn,os⟩):
  codeAny (model prog w) A (.call (.builtin "BaseException.__getattribute__") ⟨[.ref a,.str "__class__" tk],[]⟩) R ⟨h,g,d,tn,os⟩:=
 N7 attrBase_ValueError.ga.plain F.entry_bexc_ga (zc7 X c hx hc (zhl X c hx hc hq))
def zmP{fill:Bool}(X:K.In h)(c:XC K C)(hx:h.get? a=some o)(hc:o.cls = .ref C)(hq:Q (.ref C) ⟨h,g,d,tn,os⟩):
  wpAny (model prog w) A (getAttrBy (.ref a) (.str "__class__" tk) fill expr) Q E ⟨h,g,d,tn,os⟩:=by
 have f3:=attrBase_ValueError.ga.bind (.ref a);have n0:(expr&&onTheHeap (Value.builtin "BaseException.__getattribute__"))=false:=by cases expr <;> rfl
 have n2:(Value.builtin "BaseException.__getattribute__" == Value.builtin "object.__getattribute__")=false:=by decide +kernel
 have n1:(onTheHeap (Value.ref C)&&Value.builtin "BaseException.__getattribute__" == Value.builtin "object.__getattribute__")=false:=by rw[n2];rfl
 have L1:=looks_findIn (M:=model prog w) X c.ga;have L2:=looks_findIn (M:=model prog w) X c.gn
 repeat (any_goals (first | assumption | (with_reducible refine IY hx ?_;rw[hc]) | with_reducible refine L1.at ?_ | with_reducible refine L2.at ?_ | wp_step))
 refine zjd X c hx hc ?_
 repeat any_goals first | assumption | wp_step
def ziM{Q:LF->SH->Prop}(X:K.In h)(c:XC K C)(hx:h.get? a=some o)(hc:o.cls = .ref C)(hq:Q (some (.ref C)) ⟨h,g,d,tn+1,os⟩):
  wpAny (model prog w) A (getAttr? (.ref a) "__class__") Q E ⟨h,g,d,tn,os⟩:=by
 unfold getAttr? getAttrBy?
 repeat (any_goals (first | assumption | with_reducible apply zmP X c hx hc | wp_step))
end
def zlY(a C:AD)(dc:Option AD)(h:Heap):Prop:=∃ o,h.get? a=some o/\o.cls = .ref C/\o.dict=dc/\∃ vs,o.data = .fields vs
def zgo{K:FG}{a:AD}(c:XC K C):PySem.W.KitX K (.ref a) (.ref C) (zlY a C dc) where
 ty:=λM h _ p=>by obtain⟨o,h1,h2,_⟩:=p;exact h2 ▸ (Looks.ld h1).andThen .now
 it:=λ_ _ X _=>by obtain⟨c',d',cd',sl',ho⟩:=c.isC;intro A' Q' E' s' k q;unfold isType loadHead;refine Ia (wpAny_loadPart (k _ _ (X _ _ ho)) ?_);exact Ic q
 ne:=λh tp _ _ _ _ X htp=>by obtain⟨c',d',cd',sl',ho⟩:=c.isC;apply Bool.eq_false_iff.mpr;intro q;have e:C=tp:=Value.ref.inj (Oa.mp q);subst e;cases(X _ _ ho).symm.trans htp
 ca:=λ{_ _ _ _ _ s} X p k=>by obtain⟨hh,g,d,t,os⟩:=s;obtain⟨o,h1,h2,_⟩:=p;exact ziM X c h1 h2 k
abbrev zjv:LD:=[.type "ValueError",.type "Exception",.type "BaseException",.type "object"]
section
variable {X:Cx}{x:Str}{C:AD}{e₀ e:Expr}{es rest:List Expr}{t:TA}{np cpos pos p:Pos}{E:XK}
def XP(X:Cx)(aa:List (Addr×Obj))(σ:St)(E:XK)(e:Value)(s' : SH):Prop:=∃ H1 s1,Inv X aa σ H1 s1/\CX1 X.prog X.w X.stack H1 s1 E e s'
def PEX(X:Cx)(e:Expr)(t:XK->TE):Prop:=∀(aa:List (Addr×Obj))(s:SH)(σ:St)(H:Hp)(Q:VK)(E:XK),Inv X aa σ H s->t E σ H Q->wpAny (model X.prog X.w) X.A (eval e X.env) (EP X aa σ Q) (XP X aa σ E) s
def PAX(X:Cx)(es:List Expr)(t:XK->TA):Prop:=∀(pos:Pos)(aa:List (Addr×Obj))(s:SH)(σ:St)(H:Hp)(Q:LC->Hp->Prop)(E:XK),Inv X aa σ H s->t E σ H Q->
 wpAny (model X.prog X.w) X.A (spliced (backTo pos (starEach es X.env))) (AP X aa σ Q) (XP X aa σ E) s
def zkj(h:PE X.nox e te):PEX X e λ_=>te:=λaa s σ H Q E I q=>IK (h aa s σ H Q (I.wish _) q) (λ_ _ ⟨v,H',I',r,z⟩=>⟨v,H',I'.JZ,r,z⟩) λ_ _ z=>False.elim z
def ze7(h:PA X.nox es t):PAX X es λ_=>t:=λpos aa s σ H Q E I q=>IK (h pos aa s σ H Q (I.wish _) q) (λ_ _ ⟨v,H',I',r,z⟩=>⟨v,H',I'.JZ,r,z⟩) λ_ _ z=>False.elim z
def zc3{ta:XK->TA}(F:Ju X.prog X.w X.K X.mg X.base (CX1 X.prog X.w) k f fd ps sp)(hr:Wh k X.A)(hg:Gl X x)(hm:X.mg x=some (.ref f))(hk:keepIn X.K (.ref f)=true)(hb:Binds X.K fd ps [])(ha:PAX X (e::es) ta)(hdb:(x==("__debug__" : Str))=false:=by decide)(he:starEach (e::es) X.env=(false,eval e X.env)::starEach es X.env:=by rfl)(hpl:(backTo pos (starEach es X.env)).any (·.1)=false:=by rfl):
  PEX X (.Call (.Name x p) (e::es) [] pos) λE=>zaf sp [] E (ta E):=by
 intro aa s σ H Q E I h;refine IU (JL I hg hm ?_ hdb);refine callWith_K (h₀:=X.base) I.ok.mod.kin hk (thn (ha pos aa s σ H _ E I h) λus s1 ⟨vs,H1,I1,r,q⟩=>⟨I1.kIn,?_⟩) he hpl;have q:sp vs H1 Q E:=by have q:sp (vs++[]) H1 Q E:=q;rw[Ng]at q;exact q
 have hl:us.length=ps.length:=by rw[← r.length];exact F.len _ _ _ _ q
 have bb:BindsTo s1 fd ⟨us,[]⟩ (ps.zip us):=by have:=hb s1 us I1.kIn (by rw[Ng];exact hl);rw[Ng]at this;exact this
 refine NZ (Nw (F.run X.A X.stack s1 H1 ⟨us,[]⟩ us vs Q E hr I1.env0 bb r q) λrr s' hq=>?_);cases rr with
 |error x=>exact⟨H1,s1,I1,hq⟩
 |ok fl=>
  cases fl with
  |ret u=>exact I1.after hq
  |next=>exact False.elim hq
  |brk=>exact False.elim hq
  |cont=>exact False.elim hq
def PEX.pe{te:XK->TE}(hp:zbs (CX1 X.prog X.w) X E)(h:PEX X e te):PE X e (te E):=λaa s σ H Q I q=>IK (h aa s σ H Q E I q) (λ_ _ z=>z) λx s' ⟨H1,s1,I1,c⟩=>hp aa σ H1 s1 x s' I1 c
def Ju.x1{P:Program}{w:World}{K:FG}{mg:Str->LF}{base:Heap}{CX:CXT}(F:Ju P w K mg base CX0 k f fd ps sp):Ju P w K mg base CX k f fd ps sp:=
 ⟨F.len,λA outer s H args us vs Q E hr e0 hb r h=>Nw (F.run A outer s H args us vs Q E hr e0 hb r h) λrr s' q=>by
  cases rr with
  |error x=>exact False.elim q
  |ok fl=>cases fl <;> exact q⟩
end
abbrev xcO(a C:AD)(dc:Option AD):HO:=.ext (zlY a C dc)
def zkT{P:Program}{w:World}{a:AD}(p:zlY a C dc h):Yt P w H h a (xcO a C dc):=⟨p,⟨p.choose,p.choose_spec.1⟩,λh1 h2 ⟨o,e,c⟩ k=>⟨o,k o e,c⟩⟩
abbrev Cx.marked(X:Cx)(a:AD):Cx:={X with A:=X.A.mark (some (.ref a)),calm:=false}
section
variable {X:Cx}{aa:List (Addr×Obj)}{σ:St}{H H1 H2:Hp}{s s1 s' : SH}{a C:AD}
theorem Inv.marked(I:Inv X aa σ H s)(a:AD):Inv (X.marked a) aa σ H s:=⟨⟨I.ok.mod,I.ok.kind,I.ok.glob,I.ok.blt,I.ok.above,I.ok.inj,I.ok.has,I.ok.cab,λz=>(by cases z),I.ok.frames,I.ok.stk,I.ok.exf,I.ok.bs,I.ok.bsz,I.ok.noex,I.ok.exfs,I.ok.zaY,I.ok.frf⟩,I.os,I.bare,I.base,I.loc,I.cell,I.free,I.freeC,I.pin,I.ac,I.len⟩
def Inv.unmarked(I0:Inv X aa σ H s){pins' : List (Addr×Obj)}{σ' : St}(I:Inv (X.marked a).nox pins' σ' H1 s1):Inv X pins' σ' H1 s1:=⟨I0.ok,I.os,I.bare,I.base,I.loc,I.cell,I.free,I.freeC,I.pin,I.ac,I.len⟩
def zgw{B:Heap}{tk:Nat}(I:Inv X aa σ H1 s1)(fl:zng X.prog X.w X.stack H1 H2 s1 a (.ref C) dc s')(hokB:HOk X.prog X.w H2 B)(keep:∀ b o,s1.heap.get? b=some o->H1 b=none->b∉frs X.stack->B.get? b=some o)(there:∀ b o,s1.heap.get? b=some o->b∉frs X.stack->∃ o',B.get? b=some o')(f:zce B X.stack a (.ref C) dc h)(up:s'.heap.UpToSlots h):Inv X aa σ H2 {s' with heap:=h,toks:=tk}/\Inv X aa σ (upd H2 a (xcO a C dc)) {s' with heap:=h,toks:=tk}/\H2 a=none/\zlY a C dc h:=by
 obtain⟨stays,Bn,ff,_⟩:=id f;have exat:zlY a C dc h:=by obtain⟨oe,vs,e1,e2,e3,e4⟩:=f.obj;exact⟨oe,e1,e2,e3,vs,e4⟩
 have slot:∀ b o,s1.heap.get? b=some o->b∈frs X.stack->∃ sl,h.get? b=some {o with slots:=sl}:=λb o q hb=>by obtain⟨sl,q1⟩:=fl.slot b o q hb;obtain⟨sl',q2⟩:=up b _ q1 λvs z=>zdi I.stack hb q vs z;exact⟨sl',q2⟩
 have hH:H2 a=none:=by
  cases q:H2 a with
  |none=>rfl
  |some u=>
   have hl:∃ o,B.get? a=some o:=by
    have ho:=hokB a u q;cases u with
    |lst xs=>obtain⟨_,_,_,_,e⟩:=ho;exact⟨_,e⟩
    |tup xs=>obtain⟨_,_,_,⟨o,e,_⟩,_⟩:=ho;exact⟨_,e⟩
    |dK kvs=>obtain⟨_,_,_,_,o,_,_,e,_⟩:=ho;exact⟨_,e⟩
    |dT kvs=>obtain⟨_,_,_,_,o,_,_,e,_⟩:=ho;exact⟨_,e⟩
    |set S n=>obtain⟨o,_,_,_,e,_⟩:=ho;exact⟨_,e⟩
    |ins C dx fs=>obtain⟨_,_,_,e,_⟩:=ho;exact⟨_,e⟩
    |own y=>exact ho
    |xd fs=>obtain⟨_,⟨_,_,_,e,_⟩,_⟩:=ho;exact⟨_,e⟩
    |rng lo hi=>obtain⟨_,_,_,e⟩:=ho;exact⟨_,e⟩
    |frz ob u=>exact⟨_,ho.1⟩
    |tbl cr=>obtain⟨_,e,_⟩:=ho;exact⟨_,e⟩
    |met f y=>exact⟨_,ho⟩
    |ext φ=>exact ho.2.1
   obtain⟨o,e⟩:=hl;rw[Bn]at e;cases e
 have nfr:a∉frs X.stack:=λhb=>by obtain⟨oe,vs,e1,_,_,e3⟩:=f.obj;exact zdi ff hb e1 vs e3
 have new:s1.heap.get? a=none:=by
  cases q:s1.heap.get? a with
  |none=>rfl
  |some o=>obtain⟨o',e⟩:=there a o q nfr;rw[Bn]at e;cases e
 have th:∀ b o,s1.heap.get? b=some o->∃ o',h.get? b=some o':=λb o q=>by
  by_cases hb:b∈frs X.stack
  .obtain⟨sl,e⟩:=slot b o q hb;exact⟨_,e⟩
  .obtain⟨o',e⟩:=there b o q hb;exact⟨o',stays _ _ e⟩
 have h1:HOk X.prog X.w H2 h:=hokB.kept stays;have na:∀{b:AD}{u:HO},H2 b=some u->b≠a:=λe z=>by rw[z,hH]at e;cases e
 refine⟨I.call' (ch:=[]) fl.os ⟨λb o q n hb _=>stays _ _ (keep b o q n hb),λb o q _ hb _=>slot b o q hb,λb o q n _=>fl.free b o q n,λb o q _=>th b o q,fl.tups,fl.frzs,fl.tbls⟩ h1 fl.bare (λ_ z=>nomatch z),
  I.call' (ch:=[]) fl.os ⟨λb o q n hb _=>stays _ _ (keep b o q n hb),λb o q _ hb _=>slot b o q hb,λb o q n _=>?_,λb o q _=>th b o q,λb xs q=>?_,λb o u q=>?_,λb cr q=>?_⟩ (λb u e=>?_) fl.bare (λ_ z=>nomatch z),hH,exat⟩
 .rw[Zm (λz=>by rw[z,new]at q;cases q)];exact fl.free b o q n
 .have:=fl.tups b xs q;rw[Zm (na this)];exact this
 .have:=fl.frzs b o u q;rw[Zm (na this)];exact this
 .have:=fl.tbls b cr q;rw[Zm (na this)];exact this
 .by_cases z:b=a
  .subst z;rw[Zh]at e;cases e;exact zkT exat
  .rw[Zm z]at e;exact(h1 b u e).stay (λ_ _ _ q=>q) (λc q=>by rw[Zm (na q)];exact q) (λc xs q=>by rw[Zm (na q)];exact q) λc o u q=>by rw[Zm (na q)];exact q
def QR{M:Model}{A:Around}{E:Value->SH->Prop}{n:Str}{j:Nat}{Q:Unit->SH->Prop}(I:Inv X aa σ H s)(hN:X.N.Nodup)(hj:X.N[j]?=some n)(hl:X.env.kindOf n=some .local)(h:∀ s',Inv X aa (σ.set j none) H s' -> Q () s'):wpAny M A (do bindName X.env n .none;unbindBehindTheSuite X.env n pos) Q E s:=by
 obtain⟨m,hn,hm⟩:=id I.loc;refine wpAny_nameGoes_keeps hl hn (by rw[I.ok.kind];rfl) λh' v hn' hs=>h _ ?_;have cne:=I.cne;have below:∀ b o,X.s₀.heap.get? b=some o->b≠X.env.locals:=λb o e=>IM (Iu (IB e) I.ok.above);refine⟨I.ok,I.os,I.bare,⟨λb o e k hb hx=>(hs.2 b (below b o e)).trans (I.base.keep b o e k hb hx),λb o e k hb hx=>?_,I.base.free,λb o e hx=>?_,I.base.tups,I.base.frzs,I.base.tbls⟩,⟨_,hn',λi y v' e1 e2 e3=>?_⟩,λy c e=>?_,I.free,I.freeC,λp hp=>?_,λb ob e=>?_,by simpa using I.len⟩
 .obtain⟨sl,e1⟩:=I.base.slot b o e k hb hx;exact⟨sl,(hs.2 b (below b o e)).trans e1⟩
 .obtain⟨o',e1⟩:=I.base.there b o e hx;exact⟨o',(hs.2 b (below b o e)).trans e1⟩
 .by_cases ij:i=j
  .subst ij;have:i<σ.length:=by rw[I.len];exact(Ik.mp hj).1
   rw[List.getElem?_set_self this]at e2;cases e2
  .rw[List.getElem?_set_ne (Ne.symm ij)]at e2;obtain⟨u',r',q⟩:=hm i y v' e1 e2 e3;refine⟨u',r',?_⟩;rcases q with⟨k,e⟩ | ⟨k,c,e,z⟩
   .have ne:y≠n:=λz=>ij (zaP hN e1 (z ▸ hj));exact .inl ⟨k,by simp[ne,e]⟩
   .exact .inr ⟨k,c,e,z.sameBut hs (cne y c e)⟩
 .obtain⟨w',z⟩:=I.cell y c e;exact⟨w',z.sameBut hs (cne y c e)⟩
 .obtain⟨e,k,ne,nf,d⟩:=I.pin p hp;exact⟨(hs.2 p.1 ne).trans e,k,ne,nf,d⟩
 .refine(I.ac b ob e).stay (λc u hc q=>(hs.2 c ?_).trans q) (λ_ q=>q) (λ_ _ q=>q) λ_ _ _ q=>q;rintro rfl;rcases hc with z | z
  .rw[← z,I.free]at e;cases e
  .rw[I.free]at z;cases z
end
open PySem PySem.Spec PyProof.Rows Lw Builtin Builtin.ObjectAttr
def zl1{K:FG}{N:AD}{m:Str->LF}{n:Str}{v:Value}(X:K.In h)(G:h.Ns N m)(e:PySem.W.nsIn K N n=some (some v)):m n=some v:=by
 obtain⟨o,es,ep,h1,h2,_,h3⟩:=G;unfold PySem.W.nsIn at e;split at e
 .rename_i q1
  have z:=X _ _ q1;rw[h1]at z;cases z;cases h2;split at e
  .rename_i q2
   cases e;rw[← h3];unfold nsFind findBy;rw[← Array.find?_toList,q2];rfl
  .split at e <;> cases e
 .cases e
noncomputable def zma(K:FG)(C f:AD):Bool:=match K.lookup C with
 |some o=>(match o.cls,o.data,o.slots.toList with
  |.type t,.cls cd,[_,_,_,_,some (.builtin n),_]=>(match cd.mro with
   |.ref C1::tl=>t == "type" && C1==C&&n == "ValueError.__new__" && !cd.hasDel&&PySem.W.tailIn K zjv tl&&PySem.W.nsOkIn K cd.ns&&PySem.W.nsIn K cd.ns "__init__" == some (some (.ref f))&&cd.hasDict
   |_=>false)
  |_,_,_=>false)
 |none=>false
def zc0{K:FG}(Y:K.In h)(q:zma K C f=true):
  ∃ bm N nm qn bs sn sub ab col dd k0 k1 k2 k3 k5 mN,h.get? C=some (excClassObj nm qn C N bs bm true sn sub ab col dd k0 k1 k2 k3 k5 "ValueError.__new__")/\h.Ns N mN/\mN "__init__" = some (.ref f)/\OwnTail h zjv bm:=by
 unfold zma at q;split at q
 .rename_i o at1
  obtain⟨oc,od,odt,osl⟩:=o;dsimp only at q;split at q
  .rename_i t cl1 z0 z1 z2 z3 n1 z5 e3
   split at q
   .rename_i C1 tl mr
    simp only[Oa,Nd,Bool.not_eq_true']at q;obtain⟨⟨⟨⟨⟨⟨⟨e1,e2⟩,e3'⟩,e4⟩,e5⟩,e6⟩,e7⟩,e8⟩:=q;subst e1 e2 e3';obtain⟨c1,c2,c3,c4,c5,c6,c7,c8,c9,c10,c11⟩:=cl1;dsimp only at mr e4 e6 e7 e8;subst mr e4 e8;obtain⟨l⟩:=osl;dsimp only at e3;subst e3;have hN:h.Ns c4 (h.nsMap c4):=.of_isNs (PySem.W.isNs_of_in Y e6);exact⟨tl,c4,c1,c5,c2,c7,c8,c9,c10,od,z0,z1,z2,z3,z5,_,Y _ _ at1,hN,zl1 Y hN e7,PySem.W.tail_of_in Y e5⟩
   .cases q
  .cases q
 .cases q
section
variable {prog:Program}{w:World}{A:Around}{E:Value->SH->Prop}{h:Heap}{g:Array GenState}{d:Drawn}{t:Nat}{os:OsState}
variable {nm q:Str}{C N:AD}{bs bm bmB:LD}{hdct:Bool}{sn:LB}{sub:LD}{ab:Bool}{col:Option Bool}{dd:Option AD}{k0 k1 k2 k3 k5:LF}{B newId initId:String}
abbrev zaL(C t:AD):Obj:={cls:=.ref C,data:=.fields #[.ref t,.none,.none,.none,.bool false,.none]}
abbrev Vg(vs:LD):Obj:={cls:=.type "tuple",data:=.seq vs.toArray}
def zd0(F:ExcBaseFacts B newId initId bmB)(T:OwnTail h bmB bm){mN:Str->LF}{fI:AD}{oI:Obj}{Q:PySem.Fin->SH->Prop}(hC:h.get? C=some (excClassObj nm q C N bs bm hdct sn sub ab col dd k0 k1 k2 k3 k5 newId))(hn:h.Ns N mN)(hi:mN "__init__" = some (.ref fI))(hf:h.get? fI=some oI)(hfc:oI.cls = .type "function")(hrest:rest.length<=sizeLine)(hq:wpAny (model prog w) A (call (.ref fI) (.ref (h.objs.size+1)::rest)) (λr s' => r = .none/\Q (.done (.ret (.ref (h.objs.size+1)))) s') E ⟨(h.push (Vg rest)).push (zaL C h.objs.size),g,d,t,os⟩):
  wpAny (model prog w) A (Builtin.«type.__call__» ⟨.ref C::rest,[]⟩) Q E ⟨h,g,d,t,os⟩:=by
 repeat (first | with_reducible refine IY hC ?_ | with_reducible refine wpAny_madeBy_exc hC ?_ | wp_step)
 refine codeAny_call_builtin_code (Code.quiet_builtin _ F.quiet) (wpAny_check_new_subT F T hC ?_);refine codeAny_exc_new_subT F T hC ?_ hrest;show wpAny _ _ _ _ _ _;have kp:∀ b o,h.get? b=some o->((h.push (Vg rest)).push (zaL C h.objs.size)).get? b=some o:=λb o z=>Ie _ (Ie _ z);have c1:=kp _ _ hC;have n1:=hn.keeps kp;have T1:=T.keeps kp;have ge:((h.push (Vg rest)).push (zaL C h.objs.size)).get? (h.objs.size+1)=some (zaL C h.objs.size):=by heap_get
 have hs:(Value.ref C::bm).contains (.ref C)=true:=by simp
 unfold isInstance
 repeat (first | with_reducible refine IY ge ?_ | (with_reducible refine wpAny_isSubtype_exc c1 ?_;rw[hs]) | wp_step)
 show wpAny _ _ (typeLookup (.ref C) _) _ _ _;refine wpAny_typeLookup_tail c1 n1 T1 F.mroIs F.init.lookup ?_;rw[hi];refine IV (Ia ?_);unfold bindSpecial;refine Ia (wpAny_typeOf (T:= "function") ⟨_,kp _ _ hf,hfc⟩ ?_);rw[IA (by decide)];refine Ic (Ia (IK hq (λr s' hr=>?_) λ_ _ x=>x));obtain⟨rfl,hQ⟩:=hr
 wp_walk
 exact hQ
def zgZ(F:ExcBaseFacts B newId initId bmB)(T:OwnTail h bmB bm){mN:Str->LF}{fI:AD}{oI:Obj}(hC:h.get? C=some (excClassObj nm q C N bs bm hdct sn sub ab col dd k0 k1 k2 k3 k5 newId))(hn:h.Ns N mN)(hi:mN "__init__" = some (.ref fI))(hf:h.get? fI=some oI)(hfc:oI.cls = .type "function")(hrest:rest.length<=sizeLine)(hq:wpAny (model prog w) (A.under (.builtin "type.__call__" ⟨.ref C::rest,[]⟩)) (call (.ref fI) (.ref (h.objs.size+1)::rest)) (λr s' => r = .none/\Q (.ref (h.objs.size+1)) s') E ⟨(h.push (Vg rest)).push (zaL C h.objs.size),g,d,t,os⟩):
  wpAny (model prog w) A (call (.ref C) rest) Q E ⟨h,g,d,t,os⟩:=by
 have f1:=tc_lookup;have f2:=tc_bind (.ref C);have hT:(⟨h,g,d,t,os⟩:SH).TypeIs (.ref C) "type" := ⟨_,hC,rfl⟩
 refine NZ (codeAny_of_tree ?_);show wpAny _ _ (callAny (.ref C) _) _ _ _
 repeat (any_goals (first | assumption | with_reducible refine IY hC ?_ | wp_step))
 refine⟨rfl,?_⟩;exact codeAny_call_builtin_at (Code.quiet_builtin _ (by decide +kernel)) entry_typeCall (wpAny_check_type_call_sub hC (zd0 F T hC hn hi hf hfc hrest hq))
def zgU{M:Model}{env:Env}{s:SH}{x:Sem Value}{Q:Flow->SH->Prop}(hb:bm.contains (.type "BaseException")=true)(hd:A.handled=none)(hx:wpAny M A x (λv s₁=>∃ e oe,v = .ref e/\s₁.heap.get? C=some (excClassObj nm q C N bs bm hdct sn sub ab col dd k0 k1 k2 k3 k5 newId)/\s₁.heap.get? e=some oe/\oe.cls = .ref C/\(∃ vs,oe.data = .fields vs/\vs[1]?=some .none)/\E (.ref e) s₁) E s):
  wpAny M A (raiseStmt env (some x) none) Q E s:=by
 have hcB:(Value.ref C::bm).contains (.type "BaseException")=true:=by rw[List.contains_cons,hb,Bool.or_true]
 unfold raiseStmt;refine Ia (IK hx (λv s₁ z=>?_) λ_ _ x=>x);obtain⟨e,oe,rfl,c1,g1,l1,⟨vs,f1,v1⟩,z⟩:=z;obtain⟨hp,g,d,tk,os⟩:=s₁;obtain⟨oc,od,odt,osl⟩:=oe;dsimp only at l1 f1;subst l1 f1
 repeat (first | with_reducible refine IY g1 ?_ | with_reducible refine IY c1 ?_ | (with_reducible refine wpAny_isSubtype_exc c1 ?_;rw[hcB]) | wp_step)
 rw[v1]
 repeat (first | with_reducible refine IY g1 ?_ | wp_step)
 exact wpAny_raiseNew_none hd z
def zha{R:Result->SH->Prop}{t0:AD}{oe:Obj}{vs:Array Value}(T:OwnTail h zjv bm)(hC:h.get? C=some (excClassObj nm q C N bs bm hdct sn sub ab col dd k0 k1 k2 k3 k5 newId))(he:h.get? e=some oe)(hc:oe.cls = .ref C)(hd:oe.data = .fields vs)(h0:vs[0]?=some (.ref t0))(hrest:rest.length<=sizeLine)(F:ExcBaseFacts "ValueError" newId "ValueError.__init__" zjv)(hq:R (.ok (.ret .none)) ⟨(h.push (Vg rest)).update e (Obj.mapFields (·.setIfInBounds 0 (.ref h.objs.size))),g,d,t,os⟩):
  codeAny (model prog w) A (.call (.builtin "ValueError.__init__") ⟨.ref e::rest,[]⟩) R ⟨h,g,d,t,os⟩:=by
 refine N7 F.init.plain F.initEntry (wpAny_check_init_subT F T hC he hc ?_);have g1:(h.push (Vg rest)).get? e=some oe:=Ie _ he;have z0:0<vs.size:=(Nu.mp h0).1;obtain⟨oc,od,odt,osl⟩:=oe;dsimp only at hd hc;subst hd hc
 wp_walk
 rw[h0]
 wp_walk
 exact hq
end
noncomputable def isR:Value->Bool
 |.ref _=>true
 |_=>false
structure XF(K:FG)(C f:AD)(nm:Str):Prop where
 c:XC K C
 ini:zma K C f=true
 mro:(clsIn K C).any (λcd=>cd.mro.dropWhile isR==zjv && !cd.mro.isEmpty&&cd.hasDict)=true
 sa:findIn K (.ref C) "__setattr__" = some (some (.builtin "object.__setattr__"))
 no:findIn K (.ref C) nm=some none
theorem Uq(self:Value):∀{l:LD},l.dropWhile isR=zjv->refuseLoop self "__setattr__" l=pure ()
 |[],e=>by cases e
 |v::r,e=>by
  rw[List.dropWhile_cons]at e;by_cases hv:isR v=true
  .rw[IA hv]at e;have hr:=Uq self e;cases v with
   |ref c=>rw[refuseLoop_ref];exact hr
   |_=>cases hv
  .rw[Iw hv]at e;rw[e];exact PySem.F.store_ValueError.passes self
section
variable {prog:Program}{w:World}{A:Around}{E:Value->SH->Prop}{s:SH}{K:FG}{C f e:AD}{nm:Str}
def zmA{oe:Obj}{v:Value}{Q:Unit->SH->Prop}(X:K.In s.heap)(x:XF K C f nm)(ge:s.heap.get? e=some oe)(hc:oe.cls = .ref C)(hd:oe.dict=none)(hf:∃ vs,oe.data = .fields vs)(hq:∀ h',h'.get? e=some {oe with dict:=some s.heap.objs.size}->h'.Ns1 s.heap.objs.size (λy=>if y=nm then some v else none)->(∀ b o,b≠e->s.heap.get? b=some o->h'.get? b=some o)->Q () {s with heap:=h',toks:=s.toks+2}):
  wpAny (model prog w) A (setAttr (.ref e) nm v) Q E s:=by
 obtain⟨vs,hf⟩:=hf;have J:PySem.W.InstAt s.heap e oe C none:=⟨ge,hc,by obtain⟨oc,od,odt,osl⟩:=oe;dsimp only at hf;subst hf;rfl,by rw[hd];trivial⟩
 refine PySem.W.set_plain X J x.sa ?_;have SF:=PySem.F.store_object;obtain⟨cd,hcd,hm⟩:=any_some x.mro;simp only[Nd,Oa,Bool.not_eq_true']at hm;obtain⟨⟨hm,hne⟩,hdi⟩:=hm;have sub:Looks (model prog w) s.heap (isInstance (.ref e) (.type "object")) true:=J.type.andThen (looks_subIn X x.c.so);refine N7 SF.slot.plain SF.entry (@PySem.W.check_slot (model prog w) _ _ {s with toks:=s.toks+1} "object.__setattr__" "object" "__setattr__" (.ref e) [.str nm s.toks,v] [] _ SF.kind SF.split sub (SF.args (.ref e) (.str nm s.toks) v) ?_);have hmr:Looks (model prog w) s.heap (mroOf (.ref C)) cd.mro:=(PySem.W.looks_clsIn X hcd).andThen .now;rw[PySem.W.osa_eq,refuse_eq];have K0:∀ b o,s.heap.get? b=some o->({s with toks:=s.toks+1}:SH).heap.get? b=some o:=λ_ _ z=>z;refine Ia (Ia (J.type _ _ _ _ K0 (Ia (hmr _ _ _ _ K0 ?_))));rw[Uq _ hm];refine Ic (Ia (J.type _ _ _ _ K0 (Ia (looks_findIn X x.no _ _ _ _ K0 (Ia (Ic ?_))))));have hx:s.heap.get? e=some oe:=ge;have L4:Looks (model prog w) s.heap (classData C) cd:=PySem.W.looks_clsIn X hcd;show wpAny _ _ (storeInOwnDict (Value.ref e) (Value.ref C) (Value.str nm s.toks) nm v none.isSome) _ _ _;unfold storeInOwnDict ownDictForStores instanceDict;refine Ia (Ic ?_);rw[Iw (show ¬ ((Value.ref C==Value.type "module")=true)from by simp)];refine Ia ?_;show wpAny _ _ (loadPart e (some headPart) >>= _) _ _ _;refine Ia (wpAny_loadPart (s:={s with toks:=s.toks+1}) ge ?_);rw[hc];refine Ia (L4 _ _ _ _ K0 ?_);rw[hdi,Iw (by decide),hd,Iw (by simp[typeHasDict]),hf];have g1:(s.heap.push {cls:=.type "dict",data:=.dict #[]}).get? e=some oe:=Ie _ ge;have ne:e≠s.heap.objs.size:=IM (IB ge);refine Ia (wpAny_alloc' (Ia (wpAny_update' g1 (Ic ?_))));have gd:((s.heap.push {cls:=.type "dict",data:=.dict #[]}).update e λo=>{cls:=o.cls,dict:=some s.heap.objs.size,data:=o.data,slots:=o.slots}).get? s.heap.objs.size=some {cls:=.type "dict",data:=.dict #[]}:=(Heap.get?_update_ne _ _ _ _ ne.symm).trans (Heap.get?_push_at rfl rfl)
 show wpAny _ _ (storeInDict s.heap.objs.size (.str nm s.toks) nm v) _ _ _;unfold storeInDict newKeyGuard;refine Ia (Ic (Ia (wpAny_nsSet1 (Heap.Ns1.of_empty ⟨_,#[],_,gd,rfl,λz hz=>absurd hz (by simp),λ_=>rfl⟩) λh' n1 sb=>?_)));obtain⟨oD,es,ep,o1,o2,o3⟩:=n1.count (PySem.Within.cons nm v PySem.Within.nil);refine Ia (wpAny_lookBehind o1 (by rw[o2];exact pastItsLine_dict (Nj o3 (by rw[IE,Oc,sizeLine_eq];omega))) ?_);refine Ic (hq h' ?_ n1 λb o nb z=>?_)
 .refine(sb.2 e ne).trans ?_;rw[Nh _ g1 (by obtain⟨oc,od,odt,osl⟩:=oe;dsimp only at hf;subst hf;rfl)]
 .exact(sb.2 b (IM (IB z))).trans ((Heap.get?_update_ne _ _ _ _ nb).trans (Ie _ z))
end
section
variable {prog:Program}{w:World}{A:Around}{E:Value->SH->Prop}{h:Heap}{g:Array GenState}{d:Drawn}{tn:Nat}{os:OsState}{a C f:AD}{o od:Obj}{K:FG}{nm:Str}{v:Value}
def zhc{Q:PySem.Fin->SH->Prop}(X:K.In h)(x:XF K C f nm)(J:PySem.W.InstAt h a o C (some od))(hl:lookIn nm od=some (some v))(hq:Q (.done (.ret v)) ⟨h,g,d,tn,os⟩):
  wpAny (model prog w) A (Builtin.«object.__getattribute__» ⟨[.ref a,.str nm tk],[]⟩) Q E ⟨h,g,d,tn,os⟩:=by
 have hh:hasDictIn K C=true:=by obtain⟨cd,h1,h2⟩:=any_some x.mro;simp only[Nd]at h2;unfold hasDictIn;rw[h1];exact h2.2
 have L:=PySem.W.looks_find (M:=model prog w) X J (PySem.W.findObj_own hh x.no rfl hl);have T:=J.type (M:=model prog w);unfold Builtin.«object.__getattribute__»;refine Ia (Ic (Ia (Ic (Ia (T.at (Ia (L.at ?_)))))));exact Ic hq
def zmz{fill:Bool}(X:K.In h)(x:XF K C f nm)(J:PySem.W.InstAt h a o C (some od))(hl:lookIn nm od=some (some v))(hv:handedIn v=true)(hq:Q v ⟨h,g,d,tn,os⟩):
  wpAny (model prog w) A (getAttrBy (.ref a) (.str nm tk) fill expr) Q E ⟨h,g,d,tn,os⟩:=by
 have hx:=J.at_;have hc:=J.cls;have f3:=attrBase_ValueError.ga.bind (.ref a);have n0:(expr&&onTheHeap (Value.builtin "BaseException.__getattribute__"))=false:=by cases expr <;> rfl
 have n2:(Value.builtin "BaseException.__getattribute__" == Value.builtin "object.__getattribute__")=false:=by decide +kernel
 have n1:(onTheHeap (Value.ref C)&&Value.builtin "BaseException.__getattribute__" == Value.builtin "object.__getattribute__")=false:=by rw[n2];rfl
 have L1:=looks_findIn (M:=model prog w) X x.c.ga;have L2:=looks_findIn (M:=model prog w) X x.c.gn
 repeat (any_goals (first | assumption | (with_reducible refine IY hx ?_;rw[hc]) | with_reducible refine L1.at ?_ | with_reducible refine L2.at ?_ | wp_step))
 refine N7 attrBase_ValueError.ga.plain F.entry_bexc_ga (zc7 X x.c hx hc (zhc X x J hl ?_))
 repeat any_goals first | assumption | wp_step
 exact PySem.W.handed_on hv hq
def zmH(X:K.In h)(x:XF K C f nm)(J:PySem.W.InstAt h a o C (some od))(hl:lookIn nm od=some (some v))(hv:handedIn v=true)(hq:Q v ⟨h,g,d,tn+1,os⟩):
  wpAny (model prog w) A (getAttr (.ref a) nm expr) Q E ⟨h,g,d,tn,os⟩:=by
 unfold getAttr
 repeat (any_goals (first | assumption | with_reducible apply zmz X x J hl hv | wp_step))
end
noncomputable def Ends.gone(D:Ends)(j:Nat):Ends:={nx:=fun σ H=>D.nx (σ.set j none) H,rt:=D.rt,bk:=fun σ H=>D.bk (σ.set j none) H,ct:=fun σ H=>D.ct (σ.set j none) H}
def exK(K:FG)(CO:AD)(j:Nat)(ts:TS)(D:Ends)(σ:St):XK:=λC dc H2=>∃ Ca,C = .ref Ca/\exmOne K (.ref Ca) (.ref CO)=some true/\∀ a,H2 a=none->ts (D.gone j) (σ.set j (some (.ref a))) (upd H2 a (xcO a Ca dc))
section
variable {X:Cx}{aa:List (Addr×Obj)}{σ:St}{H H1 H2:Hp}{s s1 s' : SH}{D:Ends}{CO:AD}{cn n x:Str}{i j:Nat}{b₀:Stmt}{suite:List Stmt}{np pos hpos px apos:Pos}{ts:TS}{e:Expr}{te:XK->TE}
def caught{ev:Value}(hst:X.stack=X.env::X.outer)(hfr:X.env.frame=some X.env.locals)(I:Inv X aa σ H1 s1)(c:CX1 X.prog X.w X.stack H1 s1 (exK X.K CO j ts D σ) ev s')(hgc:Gl X cn)(mc:X.mg cn=some (.ref CO))(hN:X.N.Nodup)(hj:X.N[j]?=some n)(hl:X.env.kindOf n=some .local)(hsu:∀ a,PSs (X.marked a).nox (b₀::suite) ts)(hdb:(cn==("__debug__" : Str))=false:=by decide):
  wpAny (model X.prog X.w) X.A (noteFrame ev X.env) (λ_ s₂=>wpAny (model X.prog X.w) X.A (setFlight ev none) (λ_ s₃=>
   wpAny (model X.prog X.w) X.A (handleBy ev X.env [.ExceptHandler (some (.Name cn np)) (some n) (b₀::suite) hpos]) (SP X aa D) X.xe s₃) X.xe s₂) X.xe s':=by
 obtain⟨a,C,dc,H2,rfl,fl,Ca,rfl,hm,hk⟩:=c;obtain⟨B,hf,hokB,keep,there⟩:=fl.ex;have hf1:=hf;rw[hst]at hf1;refine zj8 (L:=X.env.locals) (hst ▸ I.ok.frames) hfr hf1 λh4 held4 up4=>?_;refine ziY held4 λh5 fly5 up5=>?_;have land:=λ{h:Heap}{tk:Nat}(f:zce B (X.env::X.outer) a (.ref Ca) dc h)(up:s'.heap.UpToSlots h)=>zgw (tk:=tk) I fl hokB keep there (by rw[hst];exact f) up;obtain⟨I5,_,h2a,ex5⟩:=land (tk:=s'.toks) fly5 (up4.trans up5);refine wpAny_handleBy_cons (codeAny_handlers_test (JL (X:=X.marked a) (I5.marked a) hgc mc ?_ hdb)) (by intro q;cases q);obtain⟨oe,oe1,oe2,_⟩:=ex5;refine(PySem.W.exm_one (K:=X.K) (cls:=.ref Ca) I5.kIn (oe2 ▸ (Looks.ld oe1).andThen .now) hm).here ?_;rw[IA rfl];refine codeAny_handlers_suite_as (zlB fly5 λh6 fly6 up6=>?_);obtain⟨_,I6,_,_⟩:=land (tk:=s'.toks) fly6 ((up4.trans up5).trans up6);refine Qi (X:=X.marked a) (v:=.ref a) (I6.marked a) hN hj (.inl hl) rfl (λs7 I7=>?_) (.inr hl);refine IK (hsu a aa s7 _ _ (D.gone j) (I7.wish _) (hk a h2a)) (λfw s8 hq=>?_) λ_ _ z=>z.elim;cases fw with
 |next=>obtain⟨σ',H',I',q⟩:=hq;exact QR (I.unmarked I') hN hj hl λs9 I9=>⟨_,H',I9,q⟩
 |brk=>obtain⟨σ',H',I',q⟩:=hq;exact QR (I.unmarked I') hN hj hl λs9 I9=>⟨_,H',I9,q⟩
 |cont=>obtain⟨σ',H',I',q⟩:=hq;exact QR (I.unmarked I') hN hj hl λs9 I9=>⟨_,H',I9,q⟩
 |ret u=>obtain⟨v,σ',H',I',r,q⟩:=hq;exact QR (I.unmarked I') hN hj hl λs9 I9=>⟨v,_,H',I9,r,q⟩
def zmw(K:FG)(CO:AD)(i j:Nat)(te:XK->TE)(ts:TS):TS:=λD σ H=>te (exK K CO j ts D σ) σ H λv H1=>D.nx (σ.set i (some v)) H1
def ziF(he:PEX X e te)(hst:X.stack=X.env::X.outer)(hfr:X.env.frame=some X.env.locals)(hN:X.N.Nodup)(hi:X.N[i]?=some x)(hx:Loc X.env.scope x)(hgc:Gl X cn)(mc:X.mg cn=some (.ref CO))(hj:X.N[j]?=some n)(hl:X.env.kindOf n=some .local)(hsu:∀ a,PSs (X.marked a).nox (b₀::suite) ts)(hdb:(cn==("__debug__" : Str))=false:=by decide)(hs:swapsWith e (some (.Name x px)) apos.line X.env=pure false:=by rfl)(hf:X.fn x=true\/X.env.scope.names.lookup x=some .local:=by first | exact .inl rfl | exact .inr rfl | assumption):
  PS X (.Try [.Assign [.Name x px] e apos] [.ExceptHandler (some (.Name cn np)) (some n) (b₀::suite) hpos] [] [] pos) (zmw X.K CO i j te ts):=by
 intro aa s σ H D I h;refine wpAny_Try_except (wpAny_execs_cons (wpAny_Assign_Name (IK (he aa s σ H _ _ I h) (λv s1 ⟨y,H1,I1,r1,q1⟩=>?_) λev s1 ⟨H1,s2,I1,c⟩=>caught hst hfr I1 c hgc mc hN hj hl hsu hdb) hs));exact Qi I1 hN hi hx r1 (λs2 I2=>Oj (Oj ⟨_,H1,I2,q1⟩)) hf
end
noncomputable def zme:V->LF
 |.ref a=>some (.ref a)
 |.ty n=>some (.type n)
 |_=>none
def zf3{v:V}{u u' : Value}(r:RelV v u)(e:zme v=some u'):u=u':=by
 cases v <;> first | cases e | skip
 .exact r
 .exact r
theorem zdz:∀{vs:LC}{us us' : LD},Vals vs us->vs.map zme=us'.map some->us=us'
 |_,_,[],.nil,_=>rfl
 |_,_,_::_,.nil,e=>by cases e
 |_,_,[],.cons _ _,e=>by cases e
 |_,_,u'::us',.cons r t,e=>by rw[Nb,Nb]at e;injection e with e1 e2;rw[zf3 r e1,zdz t e2]
inductive zkv(K:FG)(H:Hp):V->Value->Prop where
 |non:zkv K H .non (.type "NoneType")
 |exc {a C:AD}{dc:Option AD}(e:H a=some (xcO a C dc)) (c:XC K C):zkv K H (.ref a) (.ref C)
def zkv.kit{s:SH}{x:V}{t u:Value}(I:Inv X aa σ H s)(r:RelV x u)(k:zkv X.K H x t):∃ Z,PySem.W.KitX X.K u t Z/\Z s.heap/\u≠.builtin "__main__.__loader__#opaque" := by
 cases k with
 |non=>cases(show u=Value.none from r);exact⟨_,kitx_none,True.intro,λz=>nomatch z⟩
 |@exc a C dc e c=>cases(show u=Value.ref a from r);exact⟨_,zgo c,(show Yt X.prog X.w H s.heap a (xcO a C dc)from I.ac a _ e).1,λz=>nomatch z⟩
def znI(K:FG):LC->Hp->VK->Prop:=λxs H Q=>∃ x c t b,xs=[x,c]/\zkv K H x t/\
 ((∃ u,zme c=some u/\kitOne K t u=some b)\/∃ tp cs us,c = .ref tp/\H tp=some (.tup cs)/\cs.map zme=us.map some/\kitAny K t us=some b)/\Q (.bl b) H
def zaX{K:FG}(eK:X.K=K):zai X (.builtin "isinstance") (znI K):=by
 subst eK;rintro aa s σ H xs us Q I r ⟨x,c,t,b,rfl,kx,hc,q⟩;cases r with
 |cons r1 r' =>
  cases r' with
  |cons r2 r'' =>
   cases r'';obtain⟨Z,kz,z,hne⟩:=kx.kit I r1;rcases hc with⟨u,e1,e2⟩ | ⟨tp,cs,us,rfl,ht,e1,e2⟩
   .rw[zf3 r2 e1];exact Ow kz I.kIn z e2 hne λtk=>⟨.bl b,H,I.tok _,rfl,q⟩
   .cases(show _=Value.ref tp from r2);obtain⟨_,its,rv,⟨o,o1,o2,n,o3⟩,_⟩:=(show Yt X.prog X.w H s.heap tp (.tup cs)from I.ac tp _ ht)
    obtain⟨cls,dct,dt,sl⟩:=o;dsimp only at o2 o3;subst o2 o3;rw[zdz rv e1]at o1;exact PySem.W.kia_tup kz I.kIn z o1 e2 hne λtk=>⟨.bl b,H,I.tok _,rfl,q⟩
structure XB(K:FG)(CO:AD):Prop where
 hg:specialIn K (.ref CO) "__getattribute__" = some (some (.builtin "type.__getattribute__"))
 hr:readsIn K CO (.type "type")=true
 hf:findCls K (.ref CO) (.type "type") "__init__" = some (.val (.builtin "ValueError.__init__"))
def tBase(K:FG)(t:TA):TE:=fun σ H Q=>t σ H λvs H2=>∃(e C f:AD)(y:V)(nm:Str),vs=[.ref e,y]/\H2 e=some (xdO e (.ref C) none)/\XF K C f nm/\Q .non H2
section
variable {X:Cx}{x m:Str}{CO C f:AD}{e a:Expr}{es:List Expr}{t:TA}{ta tv:TE}{p ap pos pos' : Pos}{nm:Str}{value o:Expr}
def zjY.znp{e:AD}{C:Value}{z:Value}(p:zjY e C dc h)(hz:z = .ref b):zjY e C dc (h.update e (Obj.mapFields (·.setIfInBounds 0 z))):=by
 obtain⟨oe,vs,g,c,d,de,v1,t0,v0⟩:=p;have z0:0<vs.size:=(Nu.mp v0).1;refine⟨_,_,Nh _ g (Nr (IQ de _)),(Os _ _).trans c,(zb2 _ _).trans d,IQ de _,?_,b,?_⟩
 .rw[Array.getElem?_setIfInBounds_ne (by decide)];exact v1
 .rw[hz];simp[z0]
def ziZ{pl:Sem Bool}(b:XB X.K CO)(hg:Gl X x)(hm:X.mg x=some (.ref CO))(ha:PA X (a::es) t)(hdb:(x==("__debug__" : Str))=false:=by decide)(hst:starEach (a::es) X.env=(false,eval a X.env)::starEach es X.env:=by rfl)(hpl:(backTo pos (starEach es X.env)).any (·.1)=false:=by rfl)(ht:eval (.Call (.Attribute (.Name x p) "__init__" ap) (a::es) [] pos) X.env=(do
   let ov ← eval (.Name x p) X.env
   standAt ap.atName
   let (f,first) ← holding [ov] (getMethod ov "__init__" pl)
   callWith pos f first (backTo pos (starEach (a::es) X.env)) (backToKw pos (keywordEach [] X.env))):=by rfl):
  PE X (.Call (.Attribute (.Name x p) "__init__" ap) (a::es) [] pos) (tBase X.K t):=by
 intro aa s σ H Q I h;refine PySem.W.methodCall_KW (pl:=pl) (JL I hg hm ?_ hdb) ht;refine PySem.W.method_cls I.kIn b.hg (PySem.W.cls_value I.kIn b.hr b.hf rfl ?_);have hA:=ha pos aa {s with toks:=s.toks+1} σ H _ (I.tok _) h;rw[hst]at hA ⊢;refine callWith_builtin (by show(false||(backTo pos (starEach es X.env)).any (·.1))=false;rw[hpl] <;> rfl) (evalArgs_plain ?_);refine thn hA λus s2 ⟨vs,H2,I2,r2,e',C',f',y,nm',hv,he,xf,q⟩=>?_;subst hv;obtain⟨u1,us1,rfl,r3,r4⟩:=(show ∃ u1 us1,us=u1::us1/\RelV (.ref e') u1/\Vals [y] us1 from by cases r2 with | cons r3 r4=>exact⟨_,_,rfl,r3,r4⟩)
 cases(show u1=Value.ref e' from r3);have hl:us1.length<=sizeLine:=by rw[← r4.length];show 1<=sizeLine;decide
 obtain⟨bm,N,nmc,qn,bs,sn,sub,ab,col,dd,k0,k1,k2,k3,k5,mN,hC,hN,hi,T⟩:=zc0 I2.kIn xf.ini;have hx:=(show Yt X.prog X.w H2 s2.heap e' (xdO e' (.ref C') none)from I2.ac e' _ he).1;obtain⟨oe,vs',g1,c1,d1,de,v1,t0,v0⟩:=id hx;have hx2:zjY e' (.ref C') none (s2.heap.push (Vg us1)):=⟨oe,vs',Ie _ g1,c1,d1,de,v1,t0,v0⟩
 obtain⟨hp,gn,dr,tk,os'⟩:=s2;refine NZ (zha T hC g1 c1 de v0 hl excBase_ValueError ?_);have I3:=I2.kept (h':=hp.push (Vg us1)) (t':=tk) λb u q=>Ie _ q;have I4:=I3.write (x:=e') (e:=e') (o:=xdO e' (.ref C') none) (t':=tk) (h':=(hp.push (Vg us1)).update e' (Obj.mapFields (·.setIfInBounds 0 (.ref hp.objs.size)))) (by rw[he];exact True.intro) (.inl rfl) (λb u nb q=>by rw[II _ _ (Ne.symm nb)];exact q)
  (let ⟨o,_,g,_⟩:=hx2.znp (z:=.ref hp.objs.size) rfl;⟨o,g⟩) (zf9 (hx2.znp rfl))
 refine⟨.non,H2,?_,rfl,q⟩;have eH:upd H2 e' (xdO e' (.ref C') none)=H2:=by
  funext b;by_cases z:b=e'
  .subst z;rw[Zh,he]
  .rw[Zm z]
 rw[eH]at I4;exact I4
def zlj(K:FG)(ta tv:TE)(nm:Str):TS:=λD σ H=>tv σ H λy H1=>ta σ H1 λx H2=>∃(e C f:AD),x = .ref e/\H2 e=some (xdO e (.ref C) none)/\XF K C f nm/\
 ∀ dx,H2 dx=none->dx≠e->D.nx σ (upd (upd H2 dx (.xd [(nm,y)])) e (xdO e (.ref C) (some dx)))
def zjL(ha:PE X o ta)(hv:PE X value tv)(hs:swapsWith value (some (.Attribute o nm pos')) pos.line X.env=pure false):PS X (.Assign [.Attribute o nm pos'] value pos) (zlj X.K ta tv nm):=by
 intro aa s σ H D I h;refine plainObj_wpAny_Assign_Attribute (thn (hv aa s σ H _ I h) λu s1 ⟨y,H1,I1,ry,q⟩=>thn (ha aa s1 σ H1 _ I1 q) λov s2 ⟨x,H2,I2,rx,e,C,f,ex,ea,xf,q2⟩=>?_) hs;subst ex;obtain rfl:ov=Value.ref e:=rx;obtain⟨oe,vs,g1,c1,d1,de,v1,t0,v0⟩:=(show Yt X.prog X.w H2 s2.heap e (xdO e (.ref C) none)from I2.ac e _ ea).1;refine zmA I2.kIn xf g1 c1 d1 ⟨vs,de⟩ λh' g2 n2 kp=>?_;have ne:s2.heap.objs.size≠e:=ne_of_gt (IB g1);have hf:=I2.fresh;obtain⟨od,es,ep,o1,o2⟩:=id n2;have nfr:od.isFreed=false:=(Heap.get?_some_iff.mp o1).2;have gd:(s2.heap.push od).get? s2.heap.objs.size=some od:=Il s2.heap nfr;have I3:=I2.laid (a:=s2.heap.objs.size) (o:=.xd [(nm,y)]) (h':=s2.heap.push od) (t':=s2.toks) (λb u q=>Ie _ q) (Ih _) ⟨_,⟨od,es,ep,gd,o2⟩,λg=>by
  show zje (List.lookup g [(nm,y)]) (if g=nm then some u else none);by_cases z:g=nm
  .have hb:(g==nm)=true:=Oa.mpr z;simp only[List.lookup,hb,IA z];exact ry
  .have hb:(g==nm)=false:=beq_eq_false_iff_ne.mpr z;simp only[List.lookup,hb,Iw z];exact True.intro⟩
 have I4:=I3.write (x:=e) (e:=e) (o:=xdO e (.ref C) (some s2.heap.objs.size)) (t':=s2.toks+2) (h':=h') (by rw[Zm ne.symm,ea];exact True.intro) (.inl rfl) (λb u nb q=>?_) ⟨_,g2⟩ (zf9 ⟨_,vs,g2,c1,rfl,de,v1,t0,v0⟩)
 .exact⟨σ,_,I4,q2 _ hf ne⟩
 .rcases Heap.get?_push_cases q with⟨z,rfl⟩ | z
  .rw[z];exact o1
  .exact kp b u nb z
def zgl(C:AD)(nm:Str):Sp:=λvs H Q _=>∃(e:AD)(y:V),vs=[.ref e,y]/\H e=some (xdO e (.ref C) none)/\∀ dx,H dx=none->dx≠e->Q .non (upd (upd H dx (.xd [(nm,y)])) e (xdO e (.ref C) (some dx)))
def zl2(K:FG)(ta:TE)(nm:Str):TE:=fun σ H Q=>ta σ H λx H1=>∃(a C f D:AD)(fs:List (Str×V))(v:V),x = .ref a/\H1 a=some (xcO a C (some D))/\XF K C f nm/\H1 D=some (.xd fs)/\fs.lookup nm=some v/\Q v H1
def ziO(he:PE X e ta)(hb:attributeBase e nm X.env (eval e X.env)=eval e X.env):PE X (.Attribute e nm pos) (zl2 X.K ta nm):=by
 intro aa s σ H Q I h;refine zix hb (thn (he aa s σ H _ I h) λu s1 ⟨x,H1,I1,rx,a,C,f,D,fs,v,ex,ea,xf,eD,l,q⟩=>?_);subst ex;obtain rfl:u=Value.ref a:=rx;obtain⟨o,g1,c1,d1,vs,f1⟩:=(show Yt X.prog X.w H1 s1.heap a (xcO a C (some D))from I1.ac a _ ea).1;obtain⟨mA,n1,r1⟩:=(show Yt X.prog X.w H1 s1.heap D (.xd fs)from I1.ac D _ eD)
 obtain⟨od,gd,hl⟩:=zbn n1;obtain⟨u,hu,ru⟩:=zje.some_of (v:=v) (o:=mA nm) (by rw[← l];exact r1 nm);have J:PySem.W.InstAt s1.heap a o C (some od):=⟨g1,c1,by obtain⟨oc,od',odt,osl⟩:=o;dsimp only at f1;subst f1;rfl,by rw[d1];exact gd⟩
 obtain⟨hp,gn,dr,tk,os'⟩:=s1;exact zmH I1.kIn xf J ((hl nm).trans (by rw[hu])) (ze9 ru) ⟨v,H1,I1.tok _,ru,q⟩
def zfw(X:Cx)(E:XK):Prop:=∀(aa:List (Addr×Obj))(σ:St)(H:Hp)(s:SH)(e:AD)(C:Value)(dc:Option AD),Inv X aa σ H s->H e=some (xdO e C dc)->X.s₀.heap.objs.size<=e->E C dc (del H e)->X.xe (.ref e) s
def ziP{P:Program}{w:World}{K:FG}{mg:Str->LF}{base:Heap}{N:LB}{scope:Scope}{cd:Value}{A:Around}{outer:LI}{s:SH}:zfw (VD (CX1 P w) P w K mg base N qual scope f cd A outer s H E) E:=λ_ _ _ _ _ _ _ I hx hn he=>zfA I hx hn he
def zfr(E:XK)(C:AD)(sp:Sp)(t:TA):TS:=λ_ σ H=>t σ H λvs H1=>vs.length<=sizeLine/\∀ e,H1 e=none->sp (.ref e::vs) (upd H1 e (xdO e (.ref C) none)) (λv H2=>v = .non/\∃ dc,H2 e=some (xdO e (.ref C) dc)/\E (.ref C) dc (del H2 e)) E
def zgc{e₀:Expr}{rest:List Expr}{np cpos:Pos}(rz:zfw X E)(xf:XF X.K C f nm)(hfn:PySem.W.isFn X.K (.ref f)=true)(F:Ju X.prog X.w X.K X.mg X.base CX0 k f fd ps sp)(hr:Wh (k+1) X.A)(hb:Binds X.K fd ps [])(hd:X.A.handled=none)(hg:Gl X x)(hm:X.mg x=some (.ref C))(ha:PA X (e₀::rest) t)(he:starEach (e₀::rest) X.env=(false,eval e₀ X.env)::starEach rest X.env:=by rfl)(hpl:(backTo cpos (starEach rest X.env)).any (·.1)=false:=by rfl)(hdb:(x==("__debug__" : Str))=false:=by decide):
  PS X (.Raise (some (.Call (.Name x np) (e₀::rest) [] cpos)) none pos) (zfr E C sp t):=by
 intro aa s σ H D I h;obtain⟨bm,N,nmc,qn,bs,sn,sub,ab,col,dd,k0,k1,k2,k3,k5,mN,hC0,hN0,hi,T0⟩:=zc0 I.ok.mod.kin xf.ini;rw[arm_exec_Raise];refine Ia (N8 ?_);show wpAny _ _ (raiseStmt X.env (some (do let v ← eval (.Call (.Name x np) (e₀::rest) [] cpos) X.env;standAt pos;pure v)) none) _ _ _;refine zgU (C:=C) (nm:=nmc) (q:=qn) (N:=N) (bs:=bs) (bm:=bm) (hdct:=true) (sn:=sn) (sub:=sub) (ab:=ab) (col:=col) (dd:=dd) (k0:=k0) (k1:=k1) (k2:=k2) (k3:=k3) (k5:=k5) (newId:= "ValueError.__new__") (T0.hasType excBase_ValueError.hasBase) hd ?_;refine Ia (IK (Q:=λv s₁=>∃ e oe,v = .ref e/\s₁.heap.get? C=some (excClassObj nmc qn C N bs bm true sn sub ab col dd k0 k1 k2 k3 k5 "ValueError.__new__")/\s₁.heap.get? e=some oe/\oe.cls = .ref C/\(∃ vs,oe.data = .fields vs/\vs[1]?=some .none)/\X.xe (.ref e) s₁) (E:=X.xe) ?_ (λv s₃ h₃=>Ia (N8 (Ic h₃))) λ_ _ x=>x);refine wpAny_Call_ofName (JL I hg hm ?_ hdb);have h2:=ha cpos aa s σ H _ I h;rw[he]at h2 ⊢;unfold callWith;refine Ia (IV (evalArgs_plain (IK h2 (λus s2 ⟨vs,H2,I2,r,zl,q⟩=>Ia (N8 ?_)) λ_ _ y=>y)));have hpl' : (((false,eval e₀ X.env)::starEach rest X.env:List (Bool×Sem Value)) |> backTo cpos).any (·.1)=false:=by show(false||(backTo cpos (starEach rest X.env)).any (·.1))=false;rw[hpl];rfl
 have hC:=I2.bk _ _ hC0;have hN:=hN0.keeps I2.bk;have T:=T0.keeps I2.bk;have hl:us.length<=sizeLine:=by rw[← r.length];exact zl
 have hfo:∃ oI,s2.heap.get? f=some oI/\oI.cls = .type "function" := by have h1:=Oa.mp hfn;unfold PySem.W.typeIn at h1;obtain⟨o,h2,h3⟩:=map_eq_some_iff.mp h1;exact⟨o,I2.kIn _ _ h2,h3⟩
 obtain⟨oI,hf1,hf2⟩:=hfo;obtain⟨hp,gn,dr,tk,os'⟩:=s2;simp only[hpl'];refine Ia (wpAny_keeperOf_exc hC ?_);have fe:H2 (hp.objs.size+1)=none:=I2.ac.fresh (le_succ _);have ge:((hp.push (Vg us)).push (zaL C hp.objs.size)).get? (hp.objs.size+1)=some (zaL C hp.objs.size):=by heap_get
 have I3:=(I2.kept (h':=hp.push (Vg us)) (t':=tk) λb u q=>Ie _ q).laid (a:=hp.objs.size+1) (o:=xdO (hp.objs.size+1) (.ref C) none) (h':=(hp.push (Vg us)).push (zaL C hp.objs.size)) (t':=tk) (λb u q=>Ie _ q) (Nat.le_of_eq (NA _ _)) (zf9 ⟨_,_,ge,rfl,rfl,rfl,rfl,_,rfl⟩);have hq:=q _ fe;have r2:Vals (V.ref (hp.objs.size+1)::vs) (Value.ref (hp.objs.size+1)::us):=.cons rfl r;have hl2:(Value.ref (hp.objs.size+1)::us).length=ps.length:=by rw[← r2.length];exact F.len _ _ _ _ hq
 have bb:BindsTo ⟨(hp.push (Vg us)).push (zaL C hp.objs.size),gn,dr,tk,os'⟩ fd ⟨Value.ref (hp.objs.size+1)::us,[]⟩ (ps.zip (Value.ref (hp.objs.size+1)::us)):=by have:=hb _ (Value.ref (hp.objs.size+1)::us) I3.kIn (by rw[Ng];exact hl2);rw[Ng]at this;exact this
 refine Ia (zgZ excBase_ValueError T hC hN hi hf1 hf2 hl ?_);refine NZ (Nw (F.run _ X.stack _ _ ⟨Value.ref (hp.objs.size+1)::us,[]⟩ (Value.ref (hp.objs.size+1)::us) _ _ E (hr.make C us []) (I3.env0.make C us []) bb r2 hq) λrr s' hq' => ?_);cases rr with
 |error e=>exact False.elim hq'
 |ok fl=>
  cases fl with
  |ret u=>obtain⟨v,H',I4,rv,ev,dc,hx,q3⟩:=I3.after hq';subst ev;refine⟨rv,Ia (IV (wpAny_point (Ic ?_)))⟩;obtain⟨oe,vs',g1,c1,d1,de,v1,_⟩:=(show Yt X.prog X.w H' s'.heap _ (xdO _ (.ref C) dc)from I4.ac _ _ hx).1;exact⟨_,oe,rfl,I4.bk _ _ hC0,g1,c1,⟨vs',de,v1⟩,rz aa σ H' s' _ _ dc I4 hx (Nj I2.sz (le_succ _)) q3⟩
  |next=>exact False.elim hq'
  |brk=>exact False.elim hq'
  |cont=>exact False.elim hq'
end
section
variable {X:Cx}{e fe a:Expr}{es:List Expr}{te tf:TE}{t:TA}{p pos:Pos}
theorem PA.nox(h:PA X.nox es t):PA X es t:=λpos aa s σ H Q I q=>IK (h pos aa s σ H Q (I.wish _) q) (λ_ _ ⟨v,H',I',r,z⟩=>⟨v,H',I'.JZ,r,z⟩) λ_ _ z=>False.elim z
def zlz(f1 f2:AD)(sp1 sp2:Sp)(tf:TE)(ta:XK->TA)(E:XK):TE:=fun σ H Q=>tf σ H λv H1=>(v = .ref f1/\ta E σ H1 λvs H2=>sp1 vs H2 Q E)\/(v = .ref f2/\ta E σ H1 λvs H2=>sp2 vs H2 Q E)
def zeA{us:LD}{vs:LC}{Q:VK}(F:Ju X.prog X.w X.K X.mg X.base (CX1 X.prog X.w) k f fd ps sp)(hr:Wh k X.A)(hb:Binds X.K fd ps [])(I1:Inv X aa σ H1 s1)(r:Vals vs us)(q:sp vs H1 Q E):
  wpAny (model X.prog X.w) X.A (call (.ref f) us) (EP X aa σ Q) (XP X aa σ E) s1:=by
 have hl:us.length=ps.length:=by rw[← r.length];exact F.len _ _ _ _ q
 have bb:BindsTo s1 fd ⟨us,[]⟩ (ps.zip us):=by have:=hb s1 us I1.kIn (by rw[Ng];exact hl);rw[Ng]at this;exact this
 refine NZ (Nw (F.run X.A X.stack s1 H1 ⟨us,[]⟩ us vs Q E hr I1.env0 bb r q) λrr s' hq=>?_);cases rr with
 |error x=>exact⟨H1,s1,I1,hq⟩
 |ok fl=>
  cases fl with
  |ret u=>exact I1.after hq
  |next=>exact False.elim hq
  |brk=>exact False.elim hq
  |cont=>exact False.elim hq
def zfi{f1 f2:AD}{fd1 fd2:FuncData}{ps1 ps2:LB}{sp1 sp2:Sp}{ta:XK->TA}(hf:PE X.nox fe tf)(F1:Ju X.prog X.w X.K X.mg X.base (CX1 X.prog X.w) k f1 fd1 ps1 sp1)(F2:Ju X.prog X.w X.K X.mg X.base (CX1 X.prog X.w) k f2 fd2 ps2 sp2)(hr:Wh k X.A)(hk1:keepIn X.K (.ref f1)=true)(hk2:keepIn X.K (.ref f2)=true)(hb1:Binds X.K fd1 ps1 [])(hb2:Binds X.K fd2 ps2 [])(ha:PAX X (a::es) ta)(he:starEach (a::es) X.env=(false,eval a X.env)::starEach es X.env:=by rfl)(hpl:(backTo pos (starEach es X.env)).any (·.1)=false:=by rfl)(hev:eval (.Call fe (a::es) [] pos) X.env=(do callWith pos (← eval fe X.env) [] (backTo pos (starEach (a::es) X.env)) (backToKw pos (keywordEach [] X.env))):=by rfl):PEX X (.Call fe (a::es) [] pos) (zlz f1 f2 sp1 sp2 tf ta):=by
 intro aa s σ H Q E I h;rw[hev];refine Ia (IK (zkj (X:=X) hf aa s σ H _ E I h) (λu s1 ⟨v,H1,I1,r1,q⟩=>?_) λ_ _ z=>z);rcases q with⟨rfl,q⟩ | ⟨rfl,q⟩
 .obtain rfl:u=Value.ref f1:=r1;exact callWith_K (h₀:=X.base) I.ok.mod.kin hk1 (thn (ha pos aa s1 σ H1 _ E I1 q) λus s2 ⟨vs,H2,I2,r,q⟩=>⟨I2.kIn,zeA F1 hr hb1 I2 r q⟩) he hpl
 .obtain rfl:u=Value.ref f2:=r1;exact callWith_K (h₀:=X.base) I.ok.mod.kin hk2 (thn (ha pos aa s1 σ H1 _ E I1 q) λus s2 ⟨vs,H2,I2,r,q⟩=>⟨I2.kIn,zeA F2 hr hb2 I2 r q⟩) he hpl
end
def XD(K:FG)(C:AD)(nm:Str)(G H:Hp)(E:XK)(d:PD):Prop:=∀(dx:AD)(v:V)(G' H' : Hp),Yi G H G' H' -> H' dx=some (.xd [(nm,v)])->G' dx=none->Dat K G' v d->E (.ref C) (some dx) H'
def XD.grow{K:FG}{G1:Hp}{d:PD}(x:XD K C nm G H E d)(g:Yi G H G1 H1):XD K C nm G1 H1 E d:=λdx v G' H' g' a b c=>x dx v G' H' (g.trans g') a b c
def zfJ{K:FG}{D:Ends}{d:PD}(h:Ev K te σ G d)(s:ZF G H)(x:XD K C nm G H E d):zfr E C (zgl C nm) (Z4 te Qk) D σ H:=by
 refine h.use s λv G1 H1 g1 hv=>⟨by show 1<=sizeLine;decide,λe he=>⟨e,v,rfl,Zh,λdx hdx ne=>⟨rfl,some dx,Zh,?_⟩⟩⟩
 have hd0:H1 dx=none:=by rw[Zm ne]at hdx;exact hdx
 have eH:del (upd (upd (upd H1 e (xdO e (.ref C) none)) dx (.xd [(nm,v)])) e (xdO e (.ref C) (some dx))) e=upd H1 dx (.xd [(nm,v)]):=by
  funext b;by_cases z:b=e
  .rw[z,zde,Zm (Ne.symm ne),he]
  .rw[Q5 z,Zm z];by_cases y:b=dx
   .rw[y,Zh,Zh]
   .rw[Zm y,Zm y,Zm z]
 rw[eH];exact x dx v G1 _ (g1.trans (Vy g1.gh (ZZ hd0))) Zh (g1.gh.free hd0) hv
def zko{P:Program}{w:World}{K:FG}{mg:Str->LF}{base:Heap}{x:Str}{st:Stmt}{pn:Str}(Fn:Fun K x qual st f fd)(S:ZG ["self",pn] ["self",pn] (Zi st))(xf:XF K C f nm)(hb:∀(cdv:Value)(A:Around)(outer:LI)(s:SH)(H:Hp),Wh 0 (A.deeper (envOfC qual (Zi st) s.heap.objs.size f cdv))->PSs (VD CX0 P w K mg base ["self",pn] qual (Zi st) f cdv A outer s H E0).nox (Yo st) (zi8 (zl0 (tBase K (Z4 (XH 0) (Z4 (XH 1) Qk)))) (zlj K (XH 0) (XH 1) nm))):Ju P w K mg base CX0 1 f fd ["self",pn] (zgl C nm):=by
 refine Fn.ok S (λvs H Q E h=>?_) λcdv A outer s H vs Q E hr h=>?_
 .obtain⟨e,y,rfl,_⟩:=h;rfl
 .obtain⟨e,y,rfl,he,k⟩:=h;refine⟨_,hb cdv A outer s H hr,?_⟩;refine⟨_,rfl,_,rfl,e,C,f,y,nm,rfl,he,xf,?_⟩;exact⟨_,rfl,_,rfl,e,C,f,rfl,he,xf,λdx h1 h2=>k dx h1 h2⟩
section
variable {P:Program}{w:World}{K:FG}{mg:Str->LF}{base:Heap}
def Fun.ok1{x:Str}{st:Stmt}{N:LB}(F:Fun K x qual st f fd)(S:ZG N ps (Zi st))(len:∀ vs H Q E,sp vs H Q E->vs.length=ps.length)(hbody:∀(cdv:Value)(A:Around)(outer:LI)(s:SH)(H:Hp)(vs:LC)(Q:VK)(E:XK),Wh k (A.deeper (envOfC qual (Zi st) s.heap.objs.size f cdv))->sp vs H Q E->
   ∃ t,PSs (VD (CX1 P w) P w K mg base N qual (Zi st) f cdv A outer s H E) (Yo st) t/\t {nx:=λ_ H' => Q .non H',rt:=Q} (start N vs) H):Ju P w K mg base (CX1 P w) (k+1) f fd ps sp:=by
 obtain⟨oc,od,kV,doc,pm,an,cdv,ct,osl,rfl,lk,hcd⟩:=F.ex;refine ziy lk hcd S len λA outer s H vs Q E hr hsp=>?_;obtain⟨t,h,q⟩:=hbody cdv A outer s H vs Q E hr hsp;exact⟨t,h,q⟩
def zmX(te:TE):TS:=λ_ σ H=>te σ H λ_ _=>False
def zjP{tg iter:Expr}{body:List Stmt}(he:PE X iter te)(hs:∀ x,foldedSetIterable iter X.env x=pure x:=by intro _;rfl):PS X (.For tg iter body [] pos) (zmX te):=by intro aa s σ H D I h;exact wpAny_For (thn (he aa s σ H _ I h) λv s1 ⟨_,_,_,_,z⟩=>z.elim) hs
def XD.into{d:PD}(x:XD K C nm G H E d)(sg:ZF G H)(s:ZF H H1):XD K C nm G H1 E d:=x.grow (Vy sg s)
end
def Ju.either{P:Program}{w:World}{K:FG}{mg:Str->LF}{base:Heap}{CX:CXT}{sp1 sp2:Sp}(F1:Ju P w K mg base CX k f fd ps sp1)(F2:Ju P w K mg base CX k f fd ps sp2):Ju P w K mg base CX k f fd ps (λvs H Q E=>sp1 vs H Q E\/sp2 vs H Q E):=⟨λvs H Q E h=>h.elim (F1.len vs H Q E) (F2.len vs H Q E),λA outer s H args us vs Q E hr e0 hb r h=>h.elim (F1.run A outer s H args us vs Q E hr e0 hb r) (F2.run A outer s H args us vs Q E hr e0 hb r)⟩
def zcG:bootBuiltins "ValueError" = some (.type "ValueError"):=by decide +kernel
def zgQ{K:FG}{e:Expr}{ta:TE}(eK:X.K=K)(he:PE X e ta)(hb:attributeBase e nm X.env (eval e X.env)=eval e X.env):PE X (.Attribute e nm pos) (zl2 K ta nm):=eK ▸ ziO he hb
end L2
namespace Look
open PySem Ord Rdo
def zfd{L:Fs->Fs->An}{gs:List Fs}{f g:Fs}(hf:f∈gs)(hg:g∈gs)(hb:L f g≠Vm (rk L gs f) (rk L gs g)):∃ h∈gs,agree L [f,g,h]=false:=by
 refine Classical.byContradiction λno=>?_;have W:∀ h∈gs,Wk L (· ∈ [f,g,h]):=λh hh=>(Xi L _).mp (by
  cases e:agree L [f,g,h]with
  |true=>rfl
  |false=>exact absurd ⟨h,hh,e⟩ no)
 have mf:∀{h:Fs},f∈[f,g,h]:=λ{h}=>by simp
 have mg:∀{h:Fs},g∈[f,g,h]:=λ{h}=>by simp
 have mh:∀{h:Fs},h∈[f,g,h]:=λ{h}=>by simp
 have le1:L f g≠.behind->rk L gs f<=rk L gs g:=λa=>Jq λh hh e=>by
  have w:=W h hh;have e' : L f h = .behind:=Ir e;have e2:L h f = .ahead:=by rw[w.anti f h mf mh,e'];rfl
  have e3:=w.zef mh mf mg e2 a;exact Iq (by rw[w.anti h g mh mg,e3];rfl)
 have le2:L g f≠.behind->rk L gs g<=rk L gs f:=λa=>Jq λh hh e=>by
  have w:=W h hh;have e' : L g h = .behind:=Ir e;have e2:L h g = .ahead:=by rw[w.anti g h mg mh,e'];rfl
  have e3:=w.zef mh mg mf e2 a;exact Iq (by rw[w.anti h f mh mf,e3];rfl)
 have lt1:L f g = .ahead->rk L gs f<rk L gs g:=λa=>Qj (λh hh e=>by
  have w:=W h hh;have e' : L f h = .behind:=Ir e;have e2:L h f = .ahead:=by rw[w.anti f h mf mh,e'];rfl
  have e3:=w.zef mh mf mg e2 (by rw[a];decide);exact Iq (by rw[w.anti h g mh mg,e3];rfl)) ⟨f,hf,by rw[(W f hf).self mf];decide,Iq (by rw[(W f hf).anti f g mf mg,a];rfl)⟩
 have lt2:L g f = .ahead->rk L gs g<rk L gs f:=λa=>Qj (λh hh e=>by
  have w:=W h hh;have e' : L g h = .behind:=Ir e;have e2:L h g = .ahead:=by rw[w.anti g h mg mh,e'];rfl
  have e3:=w.zef mh mg mf e2 (by rw[a];decide);exact Iq (by rw[w.anti h f mh mf,e3];rfl)) ⟨g,hg,by rw[(W g hg).self mg];decide,Iq (by rw[(W g hg).anti g f mg mf,a];rfl)⟩
 have anti:=(W f hf).anti f g mf mg;apply hb;unfold Vm;cases e:L f g with
 |ahead=>rw[IA (lt1 e)]
 |behind=>
  have e2:L g f = .ahead:=by rw[anti,e];rfl
  have:=lt2 e2;rw[Iw (by omega),IA this]
 |like=>
  have e2:L g f = .like:=by rw[anti,e];rfl
  have h1:=le1 (by rw[e];decide);have h2:=le2 (by rw[e2];decide);rw[Iw (by omega),Iw (by omega)]
def zhq{L:Fs->Fs->An}{gs:List Fs}{f g:Fs}(hf:f∈gs)(hg:g∈gs)(hb:L f g≠Vm (rk L gs f) (rk L gs g)):agree L gs=false:=by
 cases e:agree L gs with
 |false=>rfl
 |true=>unfold agree at e;exact absurd (Ir (Nz.mp (Nz.mp e f hf) g hg)) hb
def zbA{L:Fs->Fs->An}{gs hs:List Fs}(h:∀ f,f∈gs↔f∈hs):agree L gs=agree L hs:=by rw[Bool.eq_iff_iff,Xi,Xi];exact⟨λw=>w.sub λf hf=>(h f).mpr hf,λw=>w.sub λf hf=>(h f).mp hf⟩
end Look
namespace K29
open PySem L2 Frac Lw Dig PySem.NumText Nm
variable {x y:Str}{G H:Hp}{σ:St}{ta tb:TE}{book:LB}{num:Int->Int->Prop}{f:List (Int×Int)}
noncomputable def top(i:Nat):Stmt:=PySem.Challenge.pw_ordertext_k29_no_row.main.body.getD i (.Pass ⟨0,0,0,0⟩)
abbrev Ud:Stmt:=top 15
abbrev zcx:Stmt:=top 16
abbrev Qw:Stmt:=top 17
abbrev Ja:Stmt:=top 18
abbrev zad:Stmt:=top 19
abbrev zaE:Stmt:=top 20
abbrev Wo:Stmt:=top 21
abbrev Jc:Stmt:=top 22
abbrev za2:Stmt:=top 23
abbrev WT:Stmt:=top 24
abbrev J3:Stmt:=top 26
abbrev Vr:Stmt:=top 28
abbrev JW:Stmt:=top 29
abbrev YW:Stmt:=top 31
abbrev Vd:Stmt:=top 32
abbrev Qy:Stmt:=top 33
abbrev J8:Stmt:=top 34
abbrev Qa:Stmt:=top 35
abbrev Jz:Stmt:=top 36
abbrev Wy:Stmt:=top 37
abbrev Wc:Stmt:=top 38
abbrev W7:Stmt:=top 39
abbrev Qf:Stmt:=top 40
abbrev U6:Stmt:=top 41
abbrev Jg:Stmt:=top 43
abbrev Jr:Stmt:=top 44
abbrev Jm:Stmt:=top 45
abbrev Qx:Stmt:=top 47
abbrev WD:Stmt:=top 48
abbrev QB:Stmt:=top 49
abbrev Qc:Stmt:=top 50
abbrev QF:Stmt:=top 51
abbrev WL:Stmt:=top 52
abbrev Wq:Stmt:=top 53
abbrev WF:Stmt:=top 54
abbrev J2:Stmt:=top 55
abbrev Jo:Stmt:=top 56
abbrev W0:Stmt:=top 57
abbrev zag:Stmt:=top 58
def Vs:ZG ["order", "by_field", "by_mark", "told", "word"] ["order", "by_field", "by_mark"] (Zi Ud):=⟨rfl,rfl,rfl,by decide +kernel,rfl,by decide +kernel,by decide +kernel⟩
def zdB:ZG ["told", "many", "parts"] ["told", "many"] (Zi zcx):=⟨rfl,rfl,rfl,by decide +kernel,rfl,by decide +kernel,by decide +kernel⟩
def zbx:ZG ["word", "parts", "by_field", "by_mark"] ["word", "parts", "by_field", "by_mark"] (Zi Qw):=⟨rfl,rfl,rfl,by decide +kernel,rfl,by decide +kernel,by decide +kernel⟩
def Us:ZG ["word", "parts"] ["word", "parts"] (Zi Ja):=⟨rfl,rfl,rfl,by decide +kernel,rfl,by decide +kernel,by decide +kernel⟩
def zdF:ZG ["part"] ["part"] (Zi zad):=⟨rfl,rfl,rfl,by decide +kernel,rfl,by decide +kernel,by decide +kernel⟩
def zeI:ZG ["word", "how"] ["word", "how"] (Zi zaE):=⟨rfl,rfl,rfl,by decide +kernel,rfl,by decide +kernel,by decide +kernel⟩
def Ve:ZG ["one", "other"] ["one", "other"] (Zi Wo):=⟨rfl,rfl,rfl,by decide +kernel,rfl,by decide +kernel,by decide +kernel⟩
def U5:ZG ["part"] ["part"] (Zi Jc):=⟨rfl,rfl,rfl,by decide +kernel,rfl,by decide +kernel,by decide +kernel⟩
def zeY:ZG ["case", "one", "other"] ["case", "one", "other"] (Zi za2):=⟨rfl,rfl,rfl,by decide +kernel,rfl,by decide +kernel,by decide +kernel⟩
def QX:ZG ["truth", "word", "parts", "rest"] ["truth", "word", "parts"] (Zi WT):=⟨rfl,rfl,rfl,by decide +kernel,rfl,by decide +kernel,by decide +kernel⟩
def Xa:ZG ["places", "lies_ahead", "low", "high", "half"] ["places", "lies_ahead"] (Zi J3):=⟨rfl,rfl,rfl,by decide +kernel,rfl,by decide +kernel,by decide +kernel⟩
def Qv:ZG ["one", "other", "left", "right"] ["one", "other"] (Zi Vr):=⟨rfl,rfl,rfl,by decide +kernel,rfl,by decide +kernel,by decide +kernel⟩
def QG:ZG ["one", "other", "size"] ["one", "other"] (Zi JW):=⟨rfl,rfl,rfl,by decide +kernel,rfl,by decide +kernel,by decide +kernel⟩
def U9:ZG ["order", "book", "first", "second", "by_field", "by_mark"] ["order", "book", "first", "second"] (Zi YW):=⟨rfl,rfl,rfl,by decide +kernel,rfl,by decide +kernel,by decide +kernel⟩
def zcK:ZG ["order", "book", "things"] ["order", "book", "things"] (Zi Vd):=⟨rfl,rfl,rfl,by decide +kernel,rfl,by decide +kernel,by decide +kernel⟩
def J5:ZG ["things", "kept", "thing"] ["things"] (Zi Qy):=⟨rfl,rfl,rfl,by decide +kernel,rfl,by decide +kernel,by decide +kernel⟩
def zcN:ZG ["order", "book", "things"] ["order", "book", "things"] (Zi J8):=⟨rfl,rfl,rfl,by decide +kernel,rfl,by decide +kernel,by decide +kernel⟩
def zcl:ZG ["order", "book", "one", "things"] ["order", "book", "one", "things"] (Zi Qa):=⟨rfl,rfl,rfl,by decide +kernel,rfl,by decide +kernel,by decide +kernel⟩
def zam:ZG ["table"] ["table"] (Zi Jz):=⟨rfl,rfl,rfl,by decide +kernel,rfl,by decide +kernel,by decide +kernel⟩
def Yx:ZG ["table", "ranks", "one", "row", "other", "look"] ["table"] (Zi Wy):=⟨rfl,rfl,rfl,by decide +kernel,rfl,by decide +kernel,by decide +kernel⟩
def Xm:ZG ["table", "pair", "third", "three"] ["table"] (Zi Wc):=⟨rfl,rfl,rfl,by decide +kernel,rfl,by decide +kernel,by decide +kernel⟩
def za1:ZG ["row", "places"] ["row", "places"] (Zi W7):=⟨rfl,rfl,rfl,by decide +kernel,rfl,by decide +kernel,by decide +kernel⟩
def zcz:ZG ["table"] ["table"] (Zi Qf):=⟨rfl,rfl,rfl,by decide +kernel,rfl,by decide +kernel,by decide +kernel⟩
def zdG:ZG ["one", "other"] ["one", "other"] (Zi U6):=⟨rfl,rfl,rfl,by decide +kernel,rfl,by decide +kernel,by decide +kernel⟩
def Qh:ZG ["order", "book", "row", "ranks"] ["order", "book", "row"] (Zi Jg):=⟨rfl,rfl,rfl,by decide +kernel,rfl,by decide +kernel,by decide +kernel⟩
def Ys:ZG ["order", "book", "row", "apart", "table", "three", "ranks", "thing", "rank"] ["order", "book", "row"] (Zi Jr):=⟨rfl,rfl,rfl,by decide +kernel,rfl,by decide +kernel,by decide +kernel⟩
def Xb:ZG ["order", "book", "row", "many", "rising", "rank", "place"] ["order", "book", "row"] (Zi Jm):=⟨rfl,rfl,rfl,by decide +kernel,rfl,by decide +kernel,by decide +kernel⟩
def WR:ZG ["deck", "cells", "at", "mixed"] ["deck"] (Zi Qx):=⟨rfl,rfl,rfl,by decide +kernel,rfl,by decide +kernel,by decide +kernel⟩
def Yy:ZG ["deck", "cell", "more", "small", "some", "great"] ["deck"] (Zi WD):=⟨rfl,rfl,rfl,by decide +kernel,rfl,by decide +kernel,by decide +kernel⟩
def Yh:ZG ["deck", "letters", "cell", "many", "names", "place", "tail", "found", "k", "pad", "name"] ["deck"] (Zi QB):=⟨rfl,rfl,rfl,by decide +kernel,rfl,by decide +kernel,by decide +kernel⟩
def Qt:ZG ["deck", "book", "pool", "most", "row", "k"] ["deck", "book", "pool", "most"] (Zi Qc):=⟨rfl,rfl,rfl,by decide +kernel,rfl,by decide +kernel,by decide +kernel⟩
def VG:ZG ["deck", "book", "pool", "cell"] ["deck", "book", "pool"] (Zi QF):=⟨rfl,rfl,rfl,by decide +kernel,rfl,by decide +kernel,by decide +kernel⟩
def Xn:ZG ["deck", "book", "pool", "deep", "cell", "one"] ["deck", "book", "pool", "deep"] (Zi WL):=⟨rfl,rfl,rfl,by decide +kernel,rfl,by decide +kernel,by decide +kernel⟩
def Yr:ZG ["deck", "book", "pool", "deep", "cell", "leaf", "one", "other"] ["deck", "book", "pool", "deep"] (Zi Wq):=⟨rfl,rfl,rfl,by decide +kernel,rfl,by decide +kernel,by decide +kernel⟩
def Yn:ZG ["deck", "book", "cell", "place", "numbers", "bad", "row", "number", "thing", "field", "case", "arms"] ["deck", "book"] (Zi WF):=⟨rfl,rfl,rfl,by decide +kernel,rfl,by decide +kernel,by decide +kernel⟩
def Jv:ZG ["way", "order", "book", "row", "found", "e"] ["way", "order", "book", "row"] (Zi J2):=⟨rfl,rfl,rfl,by decide +kernel,rfl,by decide +kernel,by decide +kernel⟩
def Xw:ZG ["way", "order", "book", "row", "counts", "crossings", "place", "thing", "sides"] ["way", "order", "book", "row"] (Zi Jo):=⟨rfl,rfl,rfl,by decide +kernel,rfl,by decide +kernel,by decide +kernel⟩
def zbe:ZG ["order", "book", "row", "things"] ["order", "book", "row", "things"] (Zi W0):=⟨rfl,rfl,rfl,by decide +kernel,rfl,by decide +kernel,by decide +kernel⟩
def WY:ZG ["script", "deck", "k", "book", "pool", "order", "row", "good", "way", "found", "due"] ["script"] (Zi zag):=⟨rfl,rfl,rfl,by decide +kernel,rfl,by decide +kernel,by decide +kernel⟩
noncomputable def zlq:Stmt->Nat
 |.FunctionDef _ _ _ _ _ _ _ _ _ pos=>pos.line
 |_=>0
abbrev YF:Stmt:=(Yo YW).getD 0 (.Pass ⟨0,0,0,0⟩)
abbrev Wg:Str:=(Str.ofString "looked" ++ ".<locals>.") ++ "by_field"
def Qu:Xo (Zi YW) (Zi YF) ["word", "field"] ["place"] ["book", "first", "second"]:=⟨rfl,rfl,rfl,(by decide +kernel),(by show ∀ p∈(_:List (Str×NameKind)),p.2=NameKind.free->List.lookup p.1 (Zi YW).names=some NameKind.cell;decide +kernel),(by decide +kernel),(by decide +kernel),(by decide +kernel),(by decide +kernel)⟩
abbrev Y6:Stmt:=(Yo YW).getD 1 (.Pass ⟨0,0,0,0⟩)
abbrev Ws:Str:=(Str.ofString "looked" ++ ".<locals>.") ++ "by_mark"
def Vb:Xo (Zi YW) (Zi Y6) ["word", "field", "number"] ["place"] ["book", "first", "second"]:=⟨rfl,rfl,rfl,(by decide +kernel),(by show ∀ p∈(_:List (Str×NameKind)),p.2=NameKind.free->List.lookup p.1 (Zi YW).names=some NameKind.cell;decide +kernel),(by decide +kernel),(by decide +kernel),(by decide +kernel),(by decide +kernel)⟩
abbrev ZP:Nat->Nat->Option Str:=λl _=>if l=zlq YF then some Wg else some Ws
abbrev Xc:Str:=(Str.ofString "turning" ++ ".<locals>.") ++ "<lambda>"
abbrev YS:Str:=(Str.ofString "crossed" ++ ".<locals>.") ++ "<lambda>"
noncomputable def ziJ:Stmt->List Stmt
 |.ClassDef _ _ _ b _ _ _ _ _ _ _=>b
 |_=>[]
abbrev Xu:Stmt:=(ziJ (top 6)).getD 0 (.Pass ⟨0,0,0,0⟩)
def zbC:ZG ["self", "things"] ["self", "things"] (Zi Xu):=⟨rfl,rfl,rfl,by decide +kernel,rfl,by decide +kernel,by decide +kernel⟩
set_option genInjectivity false
structure Fn1(K:FG)(mg:Str->LF)(n:Str)(s:Stmt)(ps:LB) where
 f:AD
 fd:FuncData
 F:Fun K n n s f fd
 b:Binds K fd ps []
 m:mg n=some (.ref f)
abbrev Fn1.O{K:FG}{mg:Str->LF}{n:Str}{s:Stmt}{ps:LB}(T:Fn1 K mg n s ps)(P:Program)(w:World)(base:Heap)(k:Nat)(sp:Sp):Prop:=Ju P w K mg base CX0 k T.f T.fd ps sp
structure Top(K:FG)(mg:Str->LF) where
 Js:Fn1 K mg "telling" Ud ["order", "by_field", "by_mark"]
 za7:Fn1 K mg "taken" zcx ["told", "many"]
 YZ:Fn1 K mg "word_told" Qw ["word", "parts", "by_field", "by_mark"]
 Jb:Fn1 K mg "put_together" Ja ["word", "parts"]
 Wj:Fn1 K mg "is_open" zad ["part"]
 Qe:Fn1 K mg "answer" zaE ["word", "how"]
 Wn:Fn1 K mg "one_then_other" Wo ["one", "other"]
 Xl:Fn1 K mg "turned_about" Jc ["part"]
 zaT:Fn1 K mg "picked" za2 ["case", "one", "other"]
 Xz:Fn1 K mg "settled_by" WT ["truth", "word", "parts"]
 YK:Fn1 K mg "many_ahead" J3 ["places", "lies_ahead"]
 Va:Fn1 K mg "compared" Vr ["one", "other"]
 W8:Fn1 K mg "how_stands" JW ["one", "other"]
 WN:Fn1 K mg "looked" YW ["order", "book", "first", "second"]
 Ji:Fn1 K mg "is_order" Vd ["order", "book", "things"]
 Y0:Fn1 K mg "each_once" Qy ["things"]
 Jl:Fn1 K mg "table_of" J8 ["order", "book", "things"]
 Vk:Fn1 K mg "looks_of" Qa ["order", "book", "one", "things"]
 Wb:Fn1 K mg "looks_agree" Jz ["table"]
 Y5:Fn1 K mg "against_ranks" Wy ["table"]
 YH:Fn1 K mg "three_against" Wc ["table"]
 WQ:Fn1 K mg "picked_out" W7 ["row", "places"]
 Jf:Fn1 K mg "ranks_in" Qf ["table"]
 Uv:Fn1 K mg "by_size" U6 ["one", "other"]
 Z9:Fn1 K mg "turning" Jg ["order", "book", "row"]
 Z8:Fn1 K mg "ranks_of" Jr ["order", "book", "row"]
 Yb:Fn1 K mg "crossed" Jm ["order", "book", "row"]
 Yj:Fn1 K mg "_law_next" Qx ["deck"]
 XQ:Fn1 K mg "_law_fraction" WD ["deck"]
 JN:Fn1 K mg "_law_book" QB ["deck"]
 Qg:Fn1 K mg "_law_row" Qc ["deck", "book", "pool", "most"]
 JM:Fn1 K mg "_law_mark" QF ["deck", "book", "pool"]
 ZS:Fn1 K mg "_law_any_case" WL ["deck", "book", "pool", "deep"]
 ZW:Fn1 K mg "_law_any_order" Wq ["deck", "book", "pool", "deep"]
 JQ:Fn1 K mg "_law_long" WF ["deck", "book"]
 J0:Fn1 K mg "_law_asked" J2 ["way", "order", "book", "row"]
 Qd:Fn1 K mg "_law_due" Jo ["way", "order", "book", "row"]
 WW:Fn1 K mg "_law_shows" W0 ["order", "book", "row", "things"]
 zdl:AD
 ZR:AD
 cd_looked:WN.fd.code = .ref zdl
 ch_looked:codeHdIn K zdl ZR=true
 zbu:AD
 Wm:AD
 cd_turning:Z9.fd.code = .ref zbu
 ch_turning:codeHdIn K zbu Wm=true
 zcc:AD
 We:AD
 cd_crossed:Yb.fd.code = .ref zcc
 ch_crossed:codeHdIn K zcc We=true
 zaW:mg "len" = none
 Vw:mg "range" = none
 J6:mg "tuple" = none
 Wu:mg "isinstance" = none
 zmZ:mg "list" = none
 zfm:mg "reversed" = none
 Vj:mg "enumerate" = none
 znt:mg "zip" = none
 zfy:mg "sorted" = none
 int_:mg "int" = none
 bool_:mg "bool" = none
 zcP:mg "ValueError" = none
 tt:kitOne K (.type "tuple") (.type "tuple")=some true
 st:kitOne K (.type "str") (.type "tuple")=some false
 bt:kitOne K (.type "bool") (.type "tuple")=some false
 ib:kitOne K (.type "int") (.type "bool")=some false
 Yp:AD
 cm_OrderError:mg "OrderError" = some (.ref Yp)
 Y9:AD
 cm_NoNumber:mg "NoNumber" = some (.ref Y9)
 Wf:AD
 cm_NoOrder:mg "NoOrder" = some (.ref Wf)
 JH:AD
 cm_Clash:mg "Clash" = some (.ref JH)
 X4:AD
 cm_NoField:mg "NoField" = some (.ref X4)
 ZK:AD
 cm_NoRow:mg "NoRow" = some (.ref ZK)
 JC:AD
 cm_NoNet:mg "NoNet" = some (.ref JC)
 Wa:AD
 cm_NoPlace:mg "NoPlace" = some (.ref Wa)
 X5:AD
 cm_NoThing:mg "NoThing" = some (.ref X5)
 Jw:AD
 cm_NoAsk:mg "NoAsk" = some (.ref Jw)
 ifNR:AD
 ifdNR:FuncData
 iFNR:Fun K "__init__" "NoRow.__init__" Xu ifNR ifdNR
 ibNR:Binds K ifdNR ["self", "things"] []
 xf_NoRow:XF K ZK ifNR "things"
 xfn_NoRow:PySem.W.isFn K (.ref ifNR)=true
 xb:XB K Yp
 exm:exmOne K (.ref ZK) (.ref Yp)=some true
 oth:kitAny K (.ref ZK) [.ref JH,.ref Jw,.ref X4,.ref JC,.ref Y9,.ref Wf,.ref Wa,.ref X5]=some false
 own:kitOne K (.ref ZK) (.ref ZK)=some true
 vae:kitOne K (.ref ZK) (.type "ValueError")=some true
def peN{X:Cx}{st:Stmt}{ps:LB}{k:Nat}{sp:Sp}{e:Expr}{es:List Expr}{t:TA}{p pos:Pos}(T:Fn1 X.K X.mg x st ps)(F:Ju X.prog X.w X.K X.mg X.base CX0 k T.f T.fd ps sp)(hr:Wh k X.A)(ha:PA X (e::es) t)(hg:Gl X x:=by rfl)(hdb:(x==("__debug__" : Str))=false:=by decide)(he:starEach (e::es) X.env=(false,eval e X.env)::starEach es X.env:=by rfl)(hpl:(backTo pos (starEach es X.env)).any (·.1)=false:=by rfl):PE X (.Call (.Name x p) (e::es) [] pos) (zaf sp [] E0 t):=zjt F hr hg T.m T.F.kp T.b .nil zmo ha hdb he hpl
section
open Ord Look Rdo
abbrev Xj:List (Str×Str):=[(S "less",S "ahead"),(S "same",S "like"),(S "more",S "behind")]
abbrev Xg:List (Str×Str):=[(S "ahead",S "behind"),(S "like",S "like"),(S "behind",S "ahead")]
def OkL(P:Program)(w:World)(K:FG)(mg:Str->LF)(base:Heap):Prop:=∀(f:AD)(fd:FuncData)(F:Fun K "law" "law" zag f fd) (T:Top K mg) (W:Wds K w.params mg) (W1:Txs K w.params mg "AHEAD" Xj) (W2:Txs K w.params mg "OTHER_WAY" Xg) (M:Bs K mg base),Ju P w K mg base CX0 12 f fd ["script"] (zay K [(T.ZR,ZP),(T.Wm,λ_ _=>some Xc),(T.We,λ_ _=>some YS)])
structure EnC where
 P:Program
 w:World
 K:FG
 mg:Str->LF
 base:Heap
def zmL:Nonempty EnC:=⟨⟨default,⟨λ_ _=>0,by constructor <;> first | exact default | exact .refcount | exact λ_=>default | exact λ_ _=>default | exact λ_ _ _=>default⟩,default,default,default⟩⟩
noncomputable def e0:EnC:=@Classical.epsilon EnC zmL λe=>¬ OkL e.P e.w e.K e.mg e.base
noncomputable def P:Program:=e0.P
noncomputable def w:World:=e0.w
noncomputable def K:FG:=e0.K
noncomputable def mg:Str->LF:=e0.mg
noncomputable def base:Heap:=e0.base
end
open Ord
abbrev dF(p:Int×Int):PD:=.tuple [.int p.1,.int p.2]
theorem zb6{K:FG}:∀ ws:LB,Yl K G (ws.map V.str) (ws.map PyData.str)
 |[]=>ZC
 |w::ws=>Zv (Z5 w) (zb6 ws)
theorem Ux{K:FG}:∀{ws:LB}{xs:LC},Yl K G xs (ws.map PyData.str)->xs=ws.map V.str
 |[],_,h=>h.nil
 |w::ws,_,h=>by obtain⟨y,ys,rfl,hd,r⟩:=h.cons;rw[hd.str,Ux r];rfl
section
def Q4(ha:Ev K ta σ G (.str x))(hb:Ev K tb σ G (.str y)):Ev K (tOp rEq ta tb) σ G (.bool (decide (x=y))):=
 J4 ha hb λG1 H u v Q s1 s2 hx hy k=>by
  rw[hx.str,hy.str];refine⟨rfl,?_⟩;have e:decide (V.str x=V.str y)=decide (x=y):=by
   by_cases h:x=y
   .rw[Iq h,Iq (by rw[h])]
   .rw[Iy h,Iy λz=>h (by injection z)]
  rw[e];exact k _ G1 H (Yi.refl s2) (Yu _)
def zf6{xs ys:LA}(ha:Ev K ta σ G (.list xs))(hb:Ev K tb σ G (.list ys))(hl:xs.length+ys.length<=sizeLine):Ev K (tOp zmY ta tb) σ G (.list (xs++ys)):=
 J4 ha hb λG1 H u v Q s1 s2 hx hy k=>by obtain⟨p,us,rfl,hp,hus⟩:=hx.lst;obtain⟨q,vs,rfl,hq,hvs⟩:=hy.lst;refine⟨p,q,us,vs,rfl,rfl,s2 _ _ hp,s2 _ _ hq,by rw[hus.length,hvs.length];exact hl,λl hl=>?_⟩;have g:=Yd (o:=.lst (us++vs)) s2 hl;exact k _ _ _ g (YJ Zh ((Xv hus hvs).same g.gg))
end
open Ord Look
def Sz(p:Int×Int):Prop:=p.1.natAbs<10^40/\p.2.natAbs<10^40
def zm8:LA->PD->Prop:=λas d=>∃ p q:Int×Int,as=[dF p,dF q]/\Sz p/\Sz q/\d = .int (cmp p q)
def zmp:LA->PD->Prop:=λas d=>∃ p q:Int×Int,as=[dF p,dF q]/\Sz p/\Sz q/\d = .str (hsA p q).how
def zcF:LA->PD->Prop:=λas d=>((∃ x,as=[.str x])\/∃ b,as=[.bool b])/\d = .bool false
def zj0:LA->PD->Prop:=λas d=>∃ a:An,(as=[.str (S "look"),.str a.how]/\d = .str a.t)\/∃ x,x≠S "look" /\ as=[.str x,.str a.how]/\d = .bool (decide (a.how=x))
def zhm:LA->PD->Prop:=λas d=>∃ a:An,as=[.str a.t]/\d = .str a.turn.t
def zlH:LA->PD->Prop:=λas d=>∃ a b:An,as=[.str a.t,.str b.t]/\d = .str (if a = .like then b else a).t
def zk3:LA->PD->Prop:=λas d=>∃(c:Bool)(a b:An),as=[.bool c,.str a.t,.str b.t]/\d = .str (if c=true then a else b).t
def zj1:LA->PD->Prop:=λas d=>∃(t:Bool)(x:Str)(b c:Bool),as=[.bool t,.str x,.list [.bool b,.bool c]]/\d = .bool (if t=true then b||c else b&&c)
def zgL(a:An):Xj.find? (λr=>decide (r.1=a.how))=some (a.how,a.t):=by cases a <;> decide +kernel
def zgk(a:An):Xg.find? (λr=>decide (r.1=a.t))=some (a.t,a.turn.t):=by cases a <;> decide +kernel
def zib(a:An):decide (a.t=S "like")=decide (a = .like):=by cases a <;> decide +kernel
section
def zhx{z v:Str}{rs:List (Str×Str)}(W:Txs K w.params mg x rs)(hb:Ev K tb σ G (.str z))(h:rs.find? (λr=>decide (r.1=z))=some (z,v)):
  Ev K (tOp (λx y H Q=>∃ z a g v u,x = .ref a/\y = .str z/\zb0 K w.params a g/\g z=some (v,u)/\Q v H) (tC (.ref W.a)) tb) σ G (.str v):=
 λG1 H s1 s2 Q k=>hb G1 H s1 s2 _ λu G2 H2 g2 hu=>by obtain⟨u',hu'⟩:=W.yes z v h;rw[hu.str];exact⟨z,W.a,W.g,.str v,u',rfl,rfl,W.D,hu',k _ G2 H2 g2 (Z5 _)⟩
def zcp(T:Top K mg):T.Va.O P w base 1 (spP K zm8):=by
 refine T.Va.F.ok Qv (λvs H Q E h=>?_) (λcdv A outer s H vs Q E hr h=>?_)
 .obtain⟨G,as,d,sg,hv,⟨p,q,rfl,_⟩,_⟩:=h;rw[hv.length];rfl
 .obtain⟨G,as,d,sg,hv,⟨p,q,rfl,hp,hq,rfl⟩,k⟩:=h;obtain⟨v1,r1,rfl,h1,hv⟩:=hv.cons;obtain⟨v2,r2,rfl,h2,hv⟩:=hv.cons;cases hv.nil;have zz:∀{x:Int},x.natAbs<10^40->x.natAbs<10^100:=λh=>Iu h (by decide);refine⟨_,(Ze (Zy (i:=2) Qv.nd rfl (Or.inl rfl) (Zu Y4 (Z0 (X8 (K:=K) rfl) (pv 0) Zg (λ_ _=>rfl)) (Z0 (X8 (K:=K) rfl) (pv 1) Zg (λ_ _=>rfl))))
   (Ze (Zy (i:=3) Qv.nd rfl (Or.inl rfl) (Zu Y4 (Z0 (X8 (K:=K) rfl) (pv 1) Zg (λ_ _=>rfl)) (Z0 (X8 (K:=K) rfl) (pv 0) Zg (λ_ _=>rfl))))
   (Ze (YB (ZD zcV (pv 2) (pv 3) (ZQ _)) (Zo (Zx (zjI zfc Zg))) ZL)
   (Ze (YB (ZD zfV (pv 2) (pv 3) (ZQ _)) (Zo (Zx Zg)) ZL)
   (Zo (Zx Zg)))))) ,?_⟩
  refine Jt (K:=K) (zcX (JS (Zc rfl h1) Zq rfl rfl) (JS (Zc rfl h2) Zq rfl rfl) (mw (zz hp.1) (zz hq.2)) (Zr _)) sg λv3 G1 H1 g1 h3=>?_;refine Jt (K:=K) (zcX (JS (Zc rfl (h2.same g1.gg)) Zq rfl rfl) (JS (Zc rfl (h1.same g1.gg)) Zq rfl rfl) (mw (zz hq.1) (zz hp.2)) (Zr _)) g1.gh λv4 G2 H2 g2 h4=>?_;have g12:=g1.trans g2;refine QQ (ZM (K:=K) (Q3 (Zc rfl (h3.same g2.gg)) (Zc rfl h4) (Yu _))) g2.gh (λe G3 H3 g3=>?_) (λe G3 H3 g3=>?_)
  .have e':=Ir e;have:cmp p q = -1:=by unfold cmp;rw[IA e']
   exact⟨1,rfl,k (.int (-1)) G3 H3 (g12.trans g3) (by rw[this];exact Zr _)⟩
  .have e':=Nk e;refine QQ (ZM (K:=K) (Q3 (Zc rfl ((h3.same g2.gg).same g3.gg)) (Zc rfl (h4.same g3.gg)) (Yu _))) g3.gh (λf G4 H4 g4=>?_) (λf G4 H4 g4=>?_)
   .have f':=Ir f;have:cmp p q=1:=by unfold cmp;rw[Iw e',IA f']
    exact k (.int 1) G4 H4 ((g12.trans g3).trans g4) (by rw[this];exact Zr _)
   .have f':=Nk f;have:cmp p q=0:=by unfold cmp;rw[Iw e',Iw f']
    exact k (.int 0) G4 H4 ((g12.trans g3).trans g4) (by rw[this];exact Zr _)
def zhz(T:Top K mg):T.W8.O P w base 2 (spP K zmp):=by
 have G_compared:=@zcp T;refine T.W8.F.ok QG (λvs H Q E h=>?_) (λcdv A outer s H vs Q E hr h=>?_)
 .obtain⟨G,as,d,sg,hv,⟨p,q,rfl,_⟩,_⟩:=h;rw[hv.length];rfl
 .obtain⟨G,as,d,sg,hv,⟨p,q,rfl,hp,hq,rfl⟩,k⟩:=h;obtain⟨v1,r1,rfl,h1,hv⟩:=hv.cons;obtain⟨v2,r2,rfl,h2,hv⟩:=hv.cons;cases hv.nil;refine⟨_,(Ze (Zy (i:=2) QG.nd rfl (Or.inl rfl) (peN T.Va G_compared hr (Za (pv 0) (Za (pv 1) Zf Zd) Zd)))
   (Ze (YB (ZD Wl (pv 2) Zg (ZQ _)) (Zo (Zx Zz)) ZL)
   (Zo (Zx (W3 (ZD zcV (pv 2) Zg (ZQ _)) Zz Zz))))) ,?_⟩
  refine Jt (K:=K) (Yk (E:=E0) (R:=zm8) (d:=.int (cmp p q)) (Zb (Zc rfl h1) (Zb (Zc rfl h2) Zn)) ⟨p,q,rfl,hp,hq,rfl⟩) sg λv3 G1 H1 g1 h3=>?_;refine QQ (ZM (K:=K) (VB (Zc rfl h3) Zq)) g1.gh (λe G2 H2 g2=>?_) (λe G2 H2 g2=>?_)
  .refine ZX (K:=K) (G:=G2) (d:=.str (hsA p q).how) (JT ZJ ?_) g2.gh λv G3 H3 g3 hv=>k v G3 H3 ((g1.trans g2).trans g3) hv;have e':=Ir e;unfold cmp at e';unfold hsA;split at e'
   .cases e'
   .split at e'
    .cases e'
    .rename_i n1 n2;rw[Iw n1,Iw n2];rfl
  .refine ZX (K:=K) (G:=G2) (d:=.str (hsA p q).how) (VF (ZM (K:=K) (Q3 (Zc rfl (h3.same g2.gg)) Zq (Yu _))) (λf=>JT ZJ ?_) (λf=>JT ZJ ?_)) g2.gh λv G3 H3 g3 hv=>k v G3 H3 ((g1.trans g2).trans g3) hv
   .have f':=Ir f;unfold cmp at f';unfold hsA;split at f'
    .rename_i n1;rw[IA n1];rfl
    .split at f'
     .cases f'
     .cases f'
   .have f':=Nk f;have e':=Nk e;unfold cmp at f' e';unfold hsA;split at f'
    .exact absurd (by decide) f'
    .rename_i n1
     rw[Iw n1]at e' ⊢;split at f'
     .rename_i n2;rw[IA n2];rfl
     .rename_i n2;rw[Iw n2]at e';exact absurd rfl e'
def UW(T:Top K mg):T.Wj.O P w base 1 (spP K zcF):=by
 refine T.Wj.F.ok zdF (λvs H Q E h=>?_) (λcdv A outer s H vs Q E hr h=>?_)
 .obtain⟨G,as,d,sg,hv,⟨h1,_⟩,_⟩:=h;rw[hv.length];rcases h1 with⟨x,rfl⟩ | ⟨b,rfl⟩ <;> rfl
 .obtain⟨G,as,d,sg,hv,⟨h0,rfl⟩,k⟩:=h;refine⟨_,(Zo (Zx (Z6 (zdh (K:=K) rfl) (by rfl) T.Wu zj5 (Za (pv 0) (Za (zcE (v:=.ty "tuple") (by rfl) T.J6 zfx rfl) Zf))))) ,?_⟩;rcases h0 with⟨x,rfl⟩ | ⟨b,rfl⟩
  .obtain⟨v1,r1,rfl,h1,hv⟩:=hv.cons;cases hv.nil;exact ZX (K:=K) (zfZ (Zc rfl h1) T.st) sg k
  .obtain⟨v1,r1,rfl,h1,hv⟩:=hv.cons;cases hv.nil;exact ZX (K:=K) (zfZ (Zc rfl h1) T.bt) sg k
def zbE(T:Top K mg)(W1:Txs K w.params mg "AHEAD" Xj):T.Qe.O P w base 1 (spP K zj0):=by
 refine T.Qe.F.ok zeI (λvs H Q E h=>?_) (λcdv A outer s H vs Q E hr h=>?_)
 .obtain⟨G,as,d,sg,hv,⟨a,h1⟩,_⟩:=h;rw[hv.length];rcases h1 with⟨rfl,_⟩ | ⟨x,_,rfl,_⟩ <;> rfl
 .obtain⟨G,as,d,sg,hv,⟨a,h0⟩,k⟩:=h;refine⟨_,(Zo (Zx (W3 (ZD Wl (pv 0) Zz (ZQ _)) (Z0 zbb (Xr (v:=.ref W1.a) (by rfl) W1.m rfl) (pv 1) (λ_ _=>rfl)) (Ue Wl (pv 1) (pv 0) (ZQ _))))) ,?_⟩;rcases h0 with⟨rfl,rfl⟩ | ⟨x,hx,rfl,rfl⟩
  .obtain⟨v1,r1,rfl,h1,hv⟩:=hv.cons;obtain⟨v2,r2,rfl,h2,hv⟩:=hv.cons;cases hv.nil;exact ZX (K:=K) (VF (ZM (K:=K) (Q4 (Zc rfl h1) ZJ)) (λ_=>zhx W1 (Zc rfl h2) (zgL a)) (λz=>absurd (Nk z) (λn=>n rfl))) sg k
  .obtain⟨v1,r1,rfl,h1,hv⟩:=hv.cons;obtain⟨v2,r2,rfl,h2,hv⟩:=hv.cons;cases hv.nil;exact ZX (K:=K) (VF (ZM (K:=K) (Q4 (Zc rfl h1) ZJ)) (λz=>absurd (Ir z) hx) (λ_=>Q4 (Zc rfl h2) (Zc rfl h1))) sg k
def zbN(T:Top K mg)(W2:Txs K w.params mg "OTHER_WAY" Xg):T.Xl.O P w base 2 (spP K zhm):=by
 have G_is_open:=@UW T;refine T.Xl.F.ok U5 (λvs H Q E h=>?_) (λcdv A outer s H vs Q E hr h=>?_)
 .obtain⟨G,as,d,sg,hv,⟨a,rfl,_⟩,_⟩:=h;rw[hv.length];rfl
 .obtain⟨G,as,d,sg,hv,⟨a,rfl,rfl⟩,k⟩:=h;obtain⟨v1,r1,rfl,h1,hv⟩:=hv.cons;cases hv.nil;refine⟨_,(Zo (Zx (W3 (W6 (peN T.Wj G_is_open hr (Za (pv 0) Zf Zd))) (Yg (Za Zz (Za (pv 0) Zf Zd) Zj)) (Z0 zbb (Xr (v:=.ref W2.a) (by rfl) W2.m rfl) (pv 0) (λ_ _=>rfl))))) ,?_⟩;exact ZX (K:=K) (VF (zaG (K:=K) (Yk (E:=E0) (R:=zcF) (d:=.bool false) (Zb (Zc rfl h1) Zn) ⟨.inl ⟨_,rfl⟩,rfl⟩)) (λz=>nomatch z) (λ_=>zhx W2 (Zc rfl h1) (zgk a))) sg k
def zjg(T:Top K mg):T.Wn.O P w base 2 (spP K zlH):=by
 have G_is_open:=@UW T;refine T.Wn.F.ok Ve (λvs H Q E h=>?_) (λcdv A outer s H vs Q E hr h=>?_)
 .obtain⟨G,as,d,sg,hv,⟨a,b,rfl,_⟩,_⟩:=h;rw[hv.length];rfl
 .obtain⟨G,as,d,sg,hv,⟨a,b,rfl,rfl⟩,k⟩:=h;obtain⟨v1,r1,rfl,h1,hv⟩:=hv.cons;obtain⟨v2,r2,rfl,h2,hv⟩:=hv.cons;cases hv.nil;refine⟨_,(Ze (YB (W6 (peN T.Wj G_is_open hr (Za (pv 0) Zf Zd))) (Zo (Zx (Yg (Za Zz (Za (pv 0) (Za (pv 1) Zf Zd) Zd) Zj)))) ZL)
   (Zo (Zx (W3 (ZD Wl (pv 0) Zz (ZQ _)) (pv 1) (pv 0))))) ,?_⟩
  refine Jx (zaG (K:=K) (Yk (E:=E0) (R:=zcF) (d:=.bool false) (Zb (Zc rfl h1) Zn) ⟨.inl ⟨_,rfl⟩,rfl⟩)) sg λG1 H1 g1=>?_;refine ZX (K:=K) (G:=G1) (VF (ZM (K:=K) (Q4 (Zc rfl (h1.same g1.gg)) ZJ)) (λz=>?_) (λz=>?_)) g1.gh λv G' H' g hv=>k v G' H' (g1.trans g) hv
  .rw[zib]at z;rw[IA (Ir z)];exact Zc rfl (h2.same g1.gg)
  .rw[zib]at z;rw[Iw (Nk z)];exact Zc rfl (h1.same g1.gg)
def zf5(T:Top K mg):T.zaT.O P w base 2 (spP K zk3):=by
 have G_is_open:=@UW T;refine T.zaT.F.ok zeY (λvs H Q E h=>?_) (λcdv A outer s H vs Q E hr h=>?_)
 .obtain⟨G,as,d,sg,hv,⟨c,a,b,rfl,_⟩,_⟩:=h;rw[hv.length];rfl
 .obtain⟨G,as,d,sg,hv,⟨c,a,b,rfl,rfl⟩,k⟩:=h;obtain⟨v1,r1,rfl,h1,hv⟩:=hv.cons;obtain⟨v2,r2,rfl,h2,hv⟩:=hv.cons;obtain⟨v3,r3,rfl,h3,hv⟩:=hv.cons;cases hv.nil;refine⟨_,(Ze (YB (W6 (peN T.Wj G_is_open hr (Za (pv 0) Zf Zd))) (Zo (Zx (Yg (Za Zz (Za (pv 0) (Za (pv 1) (Za (pv 2) Zf Zd) Zd) Zd) Zj)))) ZL)
   (Zo (Zx (W3 (W6 (pv 0)) (pv 1) (pv 2))))) ,?_⟩
  refine Jx (zaG (K:=K) (Yk (E:=E0) (R:=zcF) (d:=.bool false) (Zb (Zc rfl h1) Zn) ⟨.inr ⟨_,rfl⟩,rfl⟩)) sg λG1 H1 g1=>?_;refine ZX (K:=K) (G:=G1) (VF (zaG (K:=K) (Zc rfl (h1.same g1.gg))) (λz=>?_) (λz=>?_)) g1.gh λv G' H' g hv=>k v G' H' (g1.trans g) hv
  .subst z;exact Zc rfl (h2.same g1.gg)
  .subst z;exact Zc rfl (h3.same g1.gg)
end
section
def zco{b:Bool}(h:Ev K ta σ G (.bool b)):Ev K (zlo ta) σ G (.bool (!b)):=λG1 H s1 s2 Q k=>h G1 H s1 s2 _ λv G2 H2 g2 hv=>⟨b,hv.bl,k _ G2 H2 g2 (Yu _)⟩
def zlP{t b c:Bool}(ha:Ev K ta σ G (.bool t))(hb:Ev K tb σ G (.list [.bool b,.bool c])):Ev K (tOp (rIn K false) ta tb) σ G (.bool (b==t||c==t)):=
 J4 ha hb λG1 H u v Q s1 s2 hu hv k=>by
  obtain⟨p,xs,rfl,hp,hx⟩:=hv.lst;obtain⟨y1,r1,rfl,h1,hx⟩:=hx.cons;obtain⟨y2,r2,rfl,h2,hx⟩:=hx.cons;cases hx.nil;rw[hu.bl];rw[h1.bl,h2.bl]at hp;refine⟨p,_,rfl,.inl (SqL.of (s2 _ _ hp)),rfl,rfl,?_⟩;have e:inV (.bl t) [.bl b,.bl c]=(b==t||c==t):=by cases t <;> cases b <;> cases c <;> rfl
  show Q (.bl (inV (.bl t) [.bl b,.bl c])) H;rw[e];exact k _ G1 H (Yi.refl s2) (Yu _)
def zaA(T:Top K mg):T.Xz.O P w base 2 (spP K zj1):=by
 have G_is_open:=@UW T;refine T.Xz.F.ok QX (λvs H Q E h=>?_) (λcdv A outer s H vs Q E hr h=>?_)
 .obtain⟨G,as,d,sg,hv,⟨t,x,b,c,rfl,_⟩,_⟩:=h;rw[hv.length];rfl
 .obtain⟨G,as,d,sg,hv,⟨t,x,b,c,rfl,rfl⟩,k⟩:=h;have hu:=hr.units;obtain⟨v1,r1,rfl,h1,hv⟩:=hv.cons;obtain⟨v2,r2,rfl,h2,hv⟩:=hv.cons;obtain⟨v3,r3,rfl,h3,hv⟩:=hv.cons;cases hv.nil;refine⟨_,(Ze (YB (ZD zbG (pv 0) (pv 2) (by rfl)) (Zo (Zx (pv 0))) ZL)
   (Ze (zg6 (x:= "part") (cap:=[]) (js:=[]) (i:=3) (y:= "rest") ⟨rfl,(by decide +kernel),(by decide +kernel),rfl,(by show ∀ p∈(_:List (Str×NameKind)),p.2=NameKind.free->List.lookup p.1 (Zi WT).names=some NameKind.cell;decide +kernel),(by decide +kernel),(by decide +kernel),(by decide +kernel)⟩ rfl rfl (λ_ _ h=>h) QX.nd rfl rfl (Vl (pv 2)) (λ_ _ _ _=>⟨(zft (W6 (peN T.Wj G_is_open hr (Za (pv 0) Zf Zd)))),(pv 0)⟩))
   (Ze (YB (ZD (zeU (K:=K) rfl hu) (pv 3) (Yv Zf) (ZQ _)) (Zo (Zx (zf4 (pv 0)))) ZL)
   (Zo (Zx (W3 (ZD Wl (Z6 (Ye (K:=K) rfl) (by rfl) T.zaW IJ (Za (pv 3) Zf Zd)) Zg (ZQ _)) (Z0 (Zw (K:=K) rfl) (pv 3) Zg (λ_ _=>rfl)) (Yg (Za (pv 1) (Za (Z0 (Zw (K:=K) rfl) (pv 3) Zg (λ_ _=>rfl)) (Za (Z0 (Zw (K:=K) rfl) (pv 3) Zg (λ_ _=>rfl)) Zf Zt) Zt) Zd)))))))) ,?_⟩
  refine QQ (ZM (K:=K) (zlP (Zc rfl h1) (Zc rfl h3))) sg (λz G1 H1 g1=>?_) (λz G1 H1 g1=>?_)
  .refine ZX (K:=K) (G:=G1) (d:=.bool (if t=true then b||c else b&&c)) (JT (Zc rfl (h1.same g1.gg)) ?_) g1.gh λv G' H' g hv=>k v G' H' (g1.trans g) hv;revert z;cases t <;> cases b <;> cases c <;> simp
  .have h3' : Dat K G1 v3 (.list ([b,c].map PyData.bool)):=h3.same g1.gg;refine(zda (K:=K) (G:=G1) [b,c] PyData.bool (λ_=>none) (Zc rfl h3') (by show 2<sizeLine;decide) (λG2 i a x sG ha hx=>?_)).use g1.gh λv4 G2 H2 g2 h4=>?_
   .exact .inr ⟨rfl,zaG (K:=K) (Yk (E:=E0) (R:=zcF) (d:=.bool false) (Zb (Zc rfl hx) Zn) ⟨.inr ⟨_,rfl⟩,rfl⟩)⟩
   .have h4' : Dat K G2 v4 (.list []):=by have e:[b,c].filterMap (λ_=>(none:Option PD))=[]:=rfl;rw[e]at h4;exact h4
    have pl0:Pl 2 (.list []):=zaC λx hx=>by cases hx
    refine QQ (ZM (K:=K) (zbS (Zc rfl h4') (Wx Zn (by decide)) pl0 pl0 (by decide))) g2.gh (λy G3 H3 g3=>?_) (λy=>?_)
    .refine ZX (K:=K) (G:=G3) (d:=.bool (if t=true then b||c else b&&c)) (JT (zco (Zc rfl (((h1.same g1.gg).same g2.gg).same g3.gg))) ?_) g3.gh λv G' H' g hv=>k v G' H' (((g1.trans g2).trans g3).trans g) hv;revert z;cases t <;> cases b <;> cases c <;> simp
    .rw[same_self]at y;cases y
def zey:Sp:=λvs H Q _=>∃(p:AD)(n:Nat)(xs:LC),vs=[.ref p,.int (n:Nat)]/\H p=some (.lst xs)/\n<=xs.length/\n<=1000/\
 ∀ l H',H l=none->l≠p->H' l=some (.lst (xs.drop (xs.length-n)).reverse)->H' p=some (.lst (xs.take (xs.length-n)))->(∀ b,b≠l->b≠p->H' b=H b)->Q (.ref l) H'
def zgA(T:Top K mg):T.za7.O P w base 1 zey:=by
 refine T.za7.F.ok zdB (λvs H Q E h=>?_) (λcdv A outer s H vs Q E hr h=>?_)
 .obtain⟨p,n,xs,rfl,_⟩:=h;rfl
 .obtain⟨p,n,xs,rfl,hp,hn,hm,k⟩:=h;have zl:(2000:Nat)<=sizeLine:=by decide
  refine⟨_,(Ze (Zy (i:=2) zdB.nd rfl (Or.inl rfl) (Yv Zf))
   (Ze (zaQ IT (ZD zcV (Z6 (Ye (K:=K) rfl) (by rfl) T.zaW IJ (Za (pv 2) Zf Zd)) (pv 1) (ZQ _)) (Zo (JK (VL Nf Nn Np Wv (pv 2) (Za (zlU Nf PySem.F.slot_list_pop PySem.F.type_list_pop zld (pv 0)) Zf YT)))))
   (Zo (Zx (pv 2))))) ,?_⟩
  refine⟨(by show 0<=sizeLine;decide),λl hl=>?_⟩;have nlp:l≠p:=λz=>by subst z;rw[hp]at hl;cases hl
  refine zba (fun σ H' => ∃ j,j<=n/\σ=[some (.ref p),some (.int (n:Nat)),some (.ref l)]/\H' l=some (.lst (xs.drop (xs.length-j)).reverse)/\H' p=some (.lst (xs.take (xs.length-j)))/\∀ b,b≠l->b≠p->H' b=H b) (fun σ H' => match H' l with | some (.lst ys)=>n-ys.length | _=>0)
   ⟨0,Nl _,rfl,by rw[Zh];simp,by rw[Zm (Ne.symm nlp),hp];simp,λb h1 h2=>by rw[Zm h1]⟩ ?_ ?_
  .rintro σ H1 ⟨j,hj,rfl,h1,h2,h3⟩;have hlen:((xs.drop (xs.length-j)).reverse).length=j:=by rw[length_reverse,Ot];omega
   have hlt:(xs.take (xs.length-j)).length=xs.length-j:=by rw[NV];omega
   have hmu:(match H1 l with | some (.lst ys)=>n-ys.length | _=>0)=n-j:=by rw[h1];show n-_=_;rw[hlen]
   refine⟨_,rfl,l,_,rfl,.inl (SqL.of h1),_,rfl,_,_,rfl,rfl,_,rfl,?_⟩;by_cases hjn:j<n
   .have e:decide (((xs.drop (xs.length-j)).reverse.length:Int)<(n:Nat))=true:=Iq (by rw[hlen];omega);rw[e];refine zie ?_;have hy:(xs.take (xs.length-j))[(xs.take (xs.length-j)).length-1]?=some (xs[xs.length-j-1]'(by omega)):=by rw[hlt,List.getElem?_take_of_lt (by omega),Ib]
    have edl:(xs.take (xs.length-j)).dropLast=xs.take (xs.length-(j+1)):=by rw[List.dropLast_eq_take,hlt,List.take_take];congr 1;omega
    have edr:(xs.drop (xs.length-j)).reverse++[xs[xs.length-j-1]'(by omega)]=(xs.drop (xs.length-(j+1))).reverse:=by
     have:xs.drop (xs.length-(j+1))=xs[xs.length-j-1]'(by omega)::xs.drop (xs.length-j):=by rw[List.drop_eq_getElem_cons (by omega:xs.length-(j+1)<xs.length)];congr 1;congr 1;omega
     rw[this,Oh]
    refine⟨_,rfl,.inl ⟨rfl,_,SqL.of h1⟩,_,rfl,.inl ⟨rfl,_,SqL.of h2⟩,p,_,_,rfl,rfl,h2,hy,l,_,_,rfl,rfl,(by rw[Zm nlp];exact h1),(by rw[hlen];omega),?_,?_⟩
    .refine⟨j+1,hjn,rfl,by rw[Zh,edr],by rw[Zm (Ne.symm nlp),Zh,edl],λb hb1 hb2=>by rw[Zm hb1,Zm hb2];exact h3 b hb1 hb2⟩
    .show(match L2.upd _ l _ l with | some (.lst ys)=>n-ys.length | _=>0)<_;rw[hmu,Zh];show n-_<_;rw[Iv,hlen];show n-(j+1)<n-j;omega
   .have e:decide (((xs.drop (xs.length-j)).reverse.length:Int)<(n:Nat))=false:=Iy (by rw[hlen];omega);rw[e];refine zeO ?_;have:j=n:=by omega
    subst this;exact⟨_,rfl,k l H1 hl nlp h1 h2 h3⟩
  .rintro σ H1 Q1 Q2 hq ⟨v,e1,p',ys,e2,e3,v2,e4,i,j,e5,e6,c,e7,e8⟩;exact⟨v,e1,p',ys,e2,e3,v2,e4,i,j,e5,e6,c,e7,hq _ _ e8⟩
end
def zmG:LA->PD->Prop:=λas d=>∃(x:Str)(n:Nat)(vs:List Tv),as=[.str x,.list (vs.map Tv.d)]/\d=(zcr ⟨λ_=>.like,λ_ _ _=>.like,λ_ _ _=>.like⟩ n vs).d/\
 ((x=S "then" /\ n=3/\∃ a b,vs=[.an a,.an b])\/(x=S "turn" /\ n=4/\∃ a,vs=[.an a])\/(x=S "pick" /\ n=5/\∃ c a b,vs=[.tr c,.an a,.an b])\/(x=S "not" /\ n=9/\∃ a,vs=[.tr a])\/(x=S "and" /\ n=10/\∃ a b,vs=[.tr a,.tr b])\/(x=S "or" /\ n=11/\∃ a b,vs=[.tr a,.tr b]))
def zhh:(S "turn" ≠ S "then" /\ S "pick" ≠ S "then" /\ S "pick" ≠ S "turn")/\(S "not" ≠ S "then" /\ S "not" ≠ S "turn" /\ S "not" ≠ S "pick")/\(S "and" ≠ S "then" /\ S "and" ≠ S "turn" /\ S "and" ≠ S "pick" /\ S "and" ≠ S "not")/\(S "or" ≠ S "then" /\ S "or" ≠ S "turn" /\ S "or" ≠ S "pick" /\ S "or" ≠ S "not")/\S "and" ≠ S "or" := by decide +kernel
section
def zdf{D:Ends}{tc:TT}{t u:TS}(h:EvT tc σ G true)(s:ZF G H)(k:∀ G' H',Yi G H G' H' -> t D σ H'):zjK tc t u D σ H:=QQ h s (λ_=>k) λz=>nomatch z
def zdj(ha:Ev K ta σ G (.str x))(hb:Ev K tb σ G (.str y))(e:x=y):EvT (zeK (tOp rEq ta tb)) σ G true:=zaV (ZM (K:=K) (Q4 ha hb)) (Iq e)
def YX(ha:Ev K ta σ G (.str x))(hb:Ev K tb σ G (.str y))(e:x≠y):EvT (zeK (tOp rEq ta tb)) σ G false:=zaV (ZM (K:=K) (Q4 ha hb)) (Iy e)
def zk5(T:Top K mg)(W2:Txs K w.params mg "OTHER_WAY" Xg):T.Jb.O P w base 3 (spP K zmG):=by
 have G_is_open:T.Wj.O P w base 2 (spP K zcF):=(UW T).mono (by decide);have G_one_then_other:=@zjg T;have G_turned_about:=@zbN T W2;have G_picked:=@zf5 T;have G_settled_by:=@zaA T;obtain⟨⟨n1,n2,n3⟩,⟨m1,m2,m3⟩,⟨a1,a2,a3,a4⟩,⟨o1,o2,o3,o4⟩,ao⟩:=zhh;refine T.Jb.F.ok Us (λvs H Q E h=>?_) (λcdv A outer s H vs Q E hr h=>?_)
 .obtain⟨G,as,d,sg,hv,⟨x,n,us,rfl,_⟩,_⟩:=h;rw[hv.length];rfl
 .obtain⟨G,as,d,sg,hv,⟨x,n,us,rfl,rfl,hx⟩,k⟩:=h;obtain⟨v1,r1,rfl,h1,hv⟩:=hv.cons;obtain⟨v2,r2,rfl,h2,hv⟩:=hv.cons;cases hv.nil;refine⟨_,(Ze (YB (ZD Wl (pv 0) Zz (ZQ _)) (Zo (Zx (peN T.Wn G_one_then_other hr (Za (Z0 (Zw (K:=K) rfl) (pv 1) Zg (λ_ _=>rfl)) (Za (Z0 (Zw (K:=K) rfl) (pv 1) Zg (λ_ _=>rfl)) Zf Zt) Zt)))) ZL)
   (Ze (YB (ZD Wl (pv 0) Zz (ZQ _)) (Zo (Zx (peN T.Xl G_turned_about hr (Za (Z0 (Zw (K:=K) rfl) (pv 1) Zg (λ_ _=>rfl)) Zf Zt)))) ZL)
   (Ze (YB (ZD Wl (pv 0) Zz (ZQ _)) (Zo (Zx (peN T.zaT G_picked hr (Za (Z0 (Zw (K:=K) rfl) (pv 1) Zg (λ_ _=>rfl)) (Za (Z0 (Zw (K:=K) rfl) (pv 1) Zg (λ_ _=>rfl)) (Za (Z0 (Zw (K:=K) rfl) (pv 1) Zg (λ_ _=>rfl)) Zf Zt) Zt) Zt)))) ZL)
   (Ze (YB (ZD Wl (pv 0) Zz (ZQ _)) (Zo (Zx (W3 (W6 (peN T.Wj G_is_open hr (Za (Z0 (Zw (K:=K) rfl) (pv 1) Zg (λ_ _=>rfl)) Zf Zt))) (Yg (Za Zz (Za (Z0 (Zw (K:=K) rfl) (pv 1) Zg (λ_ _=>rfl)) Zf Zt) Zj)) (zf4 (Z0 (Zw (K:=K) rfl) (pv 1) Zg (λ_ _=>rfl)))))) ZL)
   (Zo (Zx (peN T.Xz G_settled_by hr (Za (Ue Wl (pv 0) Zz (ZQ _)) (Za (pv 0) (Za (pv 1) Zf Zd) Zd) zdL)))))))) ,?_⟩
  rcases hx with⟨rfl,rfl,a,b,rfl⟩ | ⟨rfl,rfl,a,rfl⟩ | ⟨rfl,rfl,c,a,b,rfl⟩ | ⟨rfl,rfl,a,rfl⟩ | ⟨rfl,rfl,a,b,rfl⟩ | ⟨rfl,rfl,a,b,rfl⟩
  .refine zdf (zdj (Zc rfl h1) ZJ rfl) sg λG1 H1 g1=>?_;have h2':=h2.same g1.gg;exact ZX (K:=K) (G:=G1) (Yk (E:=E0) (R:=zlH) (Zb (YG (Zc rfl h2') Zq rfl rfl) (Zb (YG (Zc rfl h2') Zq rfl rfl) Zn)) ⟨a,b,rfl,rfl⟩) g1.gh λv G' H' g hv=>k v G' H' (g1.trans g) hv
  .refine Jx (YX (Zc rfl h1) ZJ n1) sg λG1 H1 g1=>?_;refine zdf (zdj (Zc rfl (h1.same g1.gg)) ZJ rfl) g1.gh λG2 H2 g2=>?_;have g12:=g1.trans g2;have h2':=h2.same g12.gg;exact ZX (K:=K) (G:=G2) (Yk (E:=E0) (R:=zhm) (Zb (YG (Zc rfl h2') Zq rfl rfl) Zn) ⟨a,rfl,rfl⟩) g2.gh λv G' H' g hv=>k v G' H' (g12.trans g) hv
  .refine Jx (YX (Zc rfl h1) ZJ n2) sg λG1 H1 g1=>?_;refine Jx (YX (Zc rfl (h1.same g1.gg)) ZJ n3) g1.gh λG2 H2 g2=>?_;have g12:=g1.trans g2;refine zdf (zdj (Zc rfl (h1.same g12.gg)) ZJ rfl) g2.gh λG3 H3 g3=>?_;have g13:=g12.trans g3;have h2':=h2.same g13.gg;exact ZX (K:=K) (G:=G3) (Yk (E:=E0) (R:=zk3) (Zb (YG (Zc rfl h2') Zq rfl rfl) (Zb (YG (Zc rfl h2') Zq rfl rfl) (Zb (YG (Zc rfl h2') Zq rfl rfl) Zn))) ⟨c,a,b,rfl,rfl⟩) g3.gh λv G' H' g hv=>k v G' H' (g13.trans g) hv
  .refine Jx (YX (Zc rfl h1) ZJ m1) sg λG1 H1 g1=>?_;refine Jx (YX (Zc rfl (h1.same g1.gg)) ZJ m2) g1.gh λG2 H2 g2=>?_;have g12:=g1.trans g2;refine Jx (YX (Zc rfl (h1.same g12.gg)) ZJ m3) g2.gh λG3 H3 g3=>?_;have g13:=g12.trans g3;refine zdf (zdj (Zc rfl (h1.same g13.gg)) ZJ rfl) g3.gh λG4 H4 g4=>?_;have g14:=g13.trans g4;have h2':=h2.same g14.gg;exact ZX (K:=K) (G:=G4) (VF (zaG (K:=K) (Yk (E:=E0) (R:=zcF) (d:=.bool false) (Zb (YG (Zc rfl h2') Zq rfl rfl) Zn) ⟨.inr ⟨_,rfl⟩,rfl⟩)) (λz=>nomatch z) (λ_=>zco (YG (Zc rfl h2') Zq rfl rfl))) g4.gh λv G' H' g hv=>k v G' H' (g14.trans g) hv
  .refine Jx (YX (Zc rfl h1) ZJ a1) sg λG1 H1 g1=>?_;refine Jx (YX (Zc rfl (h1.same g1.gg)) ZJ a2) g1.gh λG2 H2 g2=>?_;have g12:=g1.trans g2;refine Jx (YX (Zc rfl (h1.same g12.gg)) ZJ a3) g2.gh λG3 H3 g3=>?_;have g13:=g12.trans g3;refine Jx (YX (Zc rfl (h1.same g13.gg)) ZJ a4) g3.gh λG4 H4 g4=>?_;have g14:=g13.trans g4;exact ZX (K:=K) (G:=G4) (Yk (E:=E0) (R:=zj1) (Zb (JT (Q4 (Zc rfl (h1.same g14.gg)) ZJ) (by rw[Iy ao])) (Zb (Zc rfl (h1.same g14.gg)) (Zb (Zc rfl (h2.same g14.gg)) Zn))) ⟨false,_,a,b,rfl,rfl⟩) g4.gh λv G' H' g hv=>k v G' H' (g14.trans g) hv
  .refine Jx (YX (Zc rfl h1) ZJ o1) sg λG1 H1 g1=>?_;refine Jx (YX (Zc rfl (h1.same g1.gg)) ZJ o2) g1.gh λG2 H2 g2=>?_;have g12:=g1.trans g2;refine Jx (YX (Zc rfl (h1.same g12.gg)) ZJ o3) g2.gh λG3 H3 g3=>?_;have g13:=g12.trans g3;refine Jx (YX (Zc rfl (h1.same g13.gg)) ZJ o4) g3.gh λG4 H4 g4=>?_;have g14:=g13.trans g4;exact ZX (K:=K) (G:=G4) (Yk (E:=E0) (R:=zj1) (Zb (JT (Q4 (Zc rfl (h1.same g14.gg)) ZJ) (by rw[Iq rfl])) (Zb (Zc rfl (h1.same g14.gg)) (Zb (Zc rfl (h2.same g14.gg)) Zn))) ⟨true,_,a,b,rfl,rfl⟩) g4.gh λv G' H' g hv=>k v G' H' (g14.trans g) hv
end
def RBF(book:LB)(E:En):LA->PD->Prop:=λas d=>∃ z,z∈book/\((as=[.str (S "look"),.str z]/\d = .str (E.look z).t)\/(as=[.str (S "same"),.str z]/\d = .bool (isA (E.look z) .like)))
def RBM(book:LB)(num:Int->Int->Prop)(E:En):LA->PD->Prop:=λas d=>∃ z,z∈book/\∃ a b,num a b/\((as=[.str (S "less"),.str z,dF (a,b)]/\d = .list [.bool (isA (E.one z a b) .ahead),.bool (isA (E.two z a b) .ahead)])\/
 (as=[.str (S "same"),.str z,dF (a,b)]/\d = .list [.bool (isA (E.one z a b) .like),.bool (isA (E.two z a b) .like)]))
def RWT(book:LB)(num:Int->Int->Prop)(E:En):LA->PD->Prop:=λas d=>∃(x want:Str)(ps:LB)(vs:List Tv),as=[.str x,.list (vs.map Tv.d)]/\YM x=some (x,want,ps)/\Tys (· ∈ book) num ps vs/\d=(zcr E (wix x) vs).d
def cls2(P:Program)(w:World)(K:FG)(mg:Str->LF)(base:Heap)(book:LB)(num:Int->Int->Prop)(E:En)(f1 f2:AD):SH->Hp->Prop:=λs H=>zgb P w K mg base 3 f1 2 (spP K (RBF book E)) s H/\zgb P w K mg base 3 f2 3 (spP K (RBM book num E)) s H
def zi7{E:En}{f1 f2:AD}:∀(fs:LG)(s:SH)(H:Hp)(s' : SH)(H' : Hp),Un fs [] H H' s.heap s'.heap->cls2 P w K mg base book num E f1 f2 s H->cls2 P w K mg base book num E f1 f2 s' H' :=λ_ _ _ _ _ u C=>⟨C.1.un u,C.2.un u⟩
section
variable {book:LB}{num:Int->Int->Prop}(E:En){us:List Tv}
def zjl(h:Tys (· ∈ book) num [S "field"] us):∃ z,z∈book/\us.map Tv.d=[.str z]/\(zcr E (wix (S "up")) us).d = .str (E.look z).t/\(zcr E (wix (S "down")) us).d = .str (E.look z).turn.t/\(zcr E (wix (S "same")) us).d = .bool (isA (E.look z) .like):=by obtain⟨v,rfl,t1⟩:=go1 h;obtain⟨z,hz,rfl⟩:=t1.field;exact⟨z,hz,rfl,by rw[zak.2.1];rfl,by rw[zak.2.2.1];rfl,by rw[zak.2.2.2.2.2.2.1];rfl⟩
def zkq(h:Tys (· ∈ book) num [S "field",S "number"] us):∃ z a b,z∈book/\num a b/\us.map Tv.d=[.str z,dF (a,b)]/\(zcr E (wix (S "under")) us).d = .list [.bool (isA (E.one z a b) .ahead),.bool (isA (E.two z a b) .ahead)]/\(zcr E (wix (S "is")) us).d = .list [.bool (isA (E.one z a b) .like),.bool (isA (E.two z a b) .like)]:=by obtain⟨v,u,rfl,t1,t2⟩:=go2 h;obtain⟨z,hz,rfl⟩:=t1.field;obtain⟨a,b,hab,rfl⟩:=t2.number;exact⟨z,a,b,hz,hab,rfl,by rw[zak.2.2.2.2.2.2.2.2.2.2.2.2.1];rfl,by rw[zak.2.2.2.2.2.2.2.2.2.2.2.2.2];rfl⟩
def zlW(h:Tys (· ∈ book) num [S "mark"] us):∃ a b,us.map Tv.d=[.list [.bool a,.bool b]]/\(zcr E (wix (S "both")) us).d = .bool (if false=true then a||b else a&&b)/\(zcr E (wix (S "either")) us).d = .bool (if true=true then a||b else a&&b):=by obtain⟨v,rfl,t1⟩:=go1 h;obtain⟨a,b,rfl⟩:=t1.mark;exact⟨a,b,rfl,by rw[zak.2.2.2.2.2.2.2.1];rfl,by rw[zak.2.2.2.2.2.2.2.2.1];rfl⟩
def zmW{want:Str}{ps:LB}(hw:YM x=some (x,want,ps))(hty:Tys (· ∈ book) num ps us)(n1:x≠S "like")(n2:x≠S "up")(n3:x≠S "down")(n4:x≠S "same")(n5:x≠S "under")(n6:x≠S "is")(n7:x≠S "both")(n8:x≠S "either"):zmG [.str x,.list (us.map Tv.d)] (zcr E (wix x) us).d:=by
 obtain⟨w0,w1,w2,w3,w4,w5,w6,w7,w8,w9,w10,w11,w12,w13⟩:=zak;rcases zhO hw with q | q | q | q | q | q | q | q | q | q | q | q | q | q
 .exact absurd q.1 n1
 .exact absurd q.1 n2
 .exact absurd q.1 n3
 .obtain⟨v,u,e,t1,t2⟩:=go2 (q.2.2 ▸ hty);obtain⟨a,e1⟩:=t1.order;obtain⟨b,e2⟩:=t2.order;rw[q.1,w3,e,e1,e2];exact⟨_,3,_,rfl,rfl,.inl ⟨rfl,rfl,a,b,rfl⟩⟩
 .obtain⟨v,e,t1⟩:=go1 (q.2.2 ▸ hty);obtain⟨a,e1⟩:=t1.order;rw[q.1,w4,e,e1];exact⟨_,4,_,rfl,rfl,.inr (.inl ⟨rfl,rfl,a,rfl⟩)⟩
 .obtain⟨v,u,t,e,t1,t2,t3⟩:=go3 (q.2.2 ▸ hty);obtain⟨c,e1⟩:=t1.case;obtain⟨a,e2⟩:=t2.order;obtain⟨b,e3⟩:=t3.order;rw[q.1,w5,e,e1,e2,e3];exact⟨_,5,_,rfl,rfl,.inr (.inr (.inl ⟨rfl,rfl,c,a,b,rfl⟩))⟩
 .exact absurd q.1 n4
 .exact absurd q.1 n7
 .exact absurd q.1 n8
 .obtain⟨v,e,t1⟩:=go1 (q.2.2 ▸ hty);obtain⟨a,e1⟩:=t1.case;rw[q.1,w9,e,e1];exact⟨_,9,_,rfl,rfl,.inr (.inr (.inr (.inl ⟨rfl,rfl,a,rfl⟩)))⟩
 .obtain⟨v,u,e,t1,t2⟩:=go2 (q.2.2 ▸ hty);obtain⟨a,e1⟩:=t1.case;obtain⟨b,e2⟩:=t2.case;rw[q.1,w10,e,e1,e2];exact⟨_,10,_,rfl,rfl,.inr (.inr (.inr (.inr (.inl ⟨rfl,rfl,a,b,rfl⟩))))⟩
 .obtain⟨v,u,e,t1,t2⟩:=go2 (q.2.2 ▸ hty);obtain⟨a,e1⟩:=t1.case;obtain⟨b,e2⟩:=t2.case;rw[q.1,w11,e,e1,e2];exact⟨_,11,_,rfl,rfl,.inr (.inr (.inr (.inr (.inr ⟨rfl,rfl,a,b,rfl⟩))))⟩
 .exact absurd q.1 n5
 .exact absurd q.1 n6
end
section
def zhU{D:Ends}{t u:TS}(ha:Ev K ta σ G (.str x))(s:ZF G H)(k1:x=y->∀ G' H',Yi G H G' H' -> t D σ H')(k2:x≠y->∀ G' H',Yi G H G' H' -> u D σ H'):zjK (zeK (tOp rEq ta (tC (.str y)))) t u D σ H:=QQ (ZM (K:=K) (Q4 ha ZJ)) s (λe=>k1 (Ir e)) λe=>k2 (Nk e)
def zmN(T:Top K mg)(W2:Txs K w.params mg "OTHER_WAY" Xg)(book:LB)(num:Int->Int->Prop)(E:En)(f1 f2:AD):zaj P w K mg base 4 T.YZ.f T.YZ.fd ["word", "parts", "by_field", "by_mark"] (λs vs H Q=>cls2 P w K mg base book num E f1 f2 s H/\spC K f1 f2 (RWT book num E) vs H Q E0):=by
 have G_turned_about:T.Xl.O P w base 3 (spP K zhm):=(zbN T W2).mono (by decide);have G_settled_by:T.Xz.O P w base 3 (spP K zj1):=(zaA T).mono (by decide);have G_put_together:=@zk5 T W2;refine T.YZ.F.okS zbx (λs vs H Q h=>?_) (λcdv A outer s H vs Q hr h=>?_)
 .obtain⟨_,G,as,d,xs,rfl,sg,hv,⟨x,want,ps,us,rfl,_⟩,_⟩:=h;rw[Iv,hv.length];rfl
 .obtain⟨⟨C_by_field,C_by_mark⟩,G,as,d,xs,rfl,sg,hv,⟨x,want,ps,us,rfl,hw,hty,rfl⟩,k⟩:=h;have hu:=hr.units;obtain⟨v1,r1,rfl,h1,hv⟩:=hv.cons;obtain⟨v2,r2,rfl,h2,hv⟩:=hv.cons;cases hv.nil;have hP:∀{c y:Str}{p:LB},YM c=some (c,y,p)->x=c->Tys (· ∈ book) num p us:=λh e=>by rw[e,h]at hw;cases hw;exact hty
  refine⟨_,(Ze (YB (ZD Wl (pv 0) Zz (ZQ _)) (Zo (Zx Zz)) ZL)
   (Ze (YB (ZD Wl (pv 0) Zz (ZQ _)) (Zo (Zx (QW (i:=2) rfl (Or.inl rfl) (hr.mono (by decide)) rfl C_by_field (Za Zz (Za (Z0 (Zw (K:=K) rfl) (pv 1) Zg (λ_ _=>rfl)) Zf Zt) Zj)))) ZL)
   (Ze (YB (ZD Wl (pv 0) Zz (ZQ _)) (Zo (Zx (peN T.Xl G_turned_about hr (Za (QW (i:=2) rfl (Or.inl rfl) (hr.mono (by decide)) rfl C_by_field (Za Zz (Za (Z0 (Zw (K:=K) rfl) (pv 1) Zg (λ_ _=>rfl)) Zf Zt) Zj)) Zf YT)))) ZL)
   (Ze (YB (ZD Wl (pv 0) Zz (ZQ _)) (Zo (Zx (QW (i:=2) rfl (Or.inl rfl) (hr.mono (by decide)) rfl C_by_field (Za Zz (Za (Z0 (Zw (K:=K) rfl) (pv 1) Zg (λ_ _=>rfl)) Zf Zt) Zj)))) ZL)
   (Ze (YB (ZD Wl (pv 0) Zz (ZQ _)) (Zo (Zx (QW (i:=3) rfl (Or.inl rfl) (hr.mono (by decide)) rfl C_by_mark (Za Zz (Za (Z0 (Zw (K:=K) rfl) (pv 1) Zg (λ_ _=>rfl)) (Za (Z0 (Zw (K:=K) rfl) (pv 1) Zg (λ_ _=>rfl)) Zf Zt) Zt) Zj)))) ZL)
   (Ze (YB (ZD Wl (pv 0) Zz (ZQ _)) (Zo (Zx (QW (i:=3) rfl (Or.inl rfl) (hr.mono (by decide)) rfl C_by_mark (Za Zz (Za (Z0 (Zw (K:=K) rfl) (pv 1) Zg (λ_ _=>rfl)) (Za (Z0 (Zw (K:=K) rfl) (pv 1) Zg (λ_ _=>rfl)) Zf Zt) Zt) Zj)))) ZL)
   (Ze (YB (ZD Wl (pv 0) Zz (ZQ _)) (Zo (Zx (peN T.Xz G_settled_by hr (Za zby (Za Zz (Za (Z0 (Zw (K:=K) rfl) (pv 1) Zg (λ_ _=>rfl)) Zf Zt) Zj) Zj)))) ZL)
   (Ze (YB (ZD Wl (pv 0) Zz (ZQ _)) (Zo (Zx (peN T.Xz G_settled_by hr (Za zby (Za Zz (Za (Z0 (Zw (K:=K) rfl) (pv 1) Zg (λ_ _=>rfl)) Zf Zt) Zj) Zj)))) ZL)
   (Zo (Zx (peN T.Jb G_put_together hr (Za (pv 0) (Za (pv 1) Zf Zd) Zd)))))))))))) ,?_⟩
  refine zhU (Zc rfl h1) sg (λe G1 H1 q=>?_) λn1 G1 H1 q=>?_
  .rw[e,zak.1]at k;exact ZX (K:=K) ZJ q.gh λv G' H' g' hv=>k v G' H' (q.trans g') hv
  have g1:=q;refine zhU (Zc rfl (h1.same g1.gg)) g1.gh (λe G1 H1 q=>?_) λn2 G2 H2 q=>?_
  .obtain⟨z,hz,e1,eu,ed,es⟩:=zjl E (hP (show YM (S "up")=some (S "up",S "order",[S "field"])by decide +kernel) e);rw[e,eu]at k;have h2':=h2.same (g1.trans q).gg;rw[e1]at h2';exact ZX (K:=K) (QJ (R:=RBF book E) rfl (Zb ZJ (Zb (YG (Zc rfl h2') Zq rfl rfl) Zn)) rfl ⟨z,hz,.inl ⟨rfl,rfl⟩⟩) q.gh λv G' H' g' hv=>k v G' H' ((g1.trans q).trans g') hv
  have g2:=(g1.trans q)
  refine zhU (Zc rfl (h1.same g2.gg)) g2.gh (λe G1 H1 q=>?_) λn3 G3 H3 q=>?_
  .obtain⟨z,hz,e1,eu,ed,es⟩:=zjl E (hP (show YM (S "down")=some (S "down",S "order",[S "field"])by decide +kernel) e);rw[e,ed]at k;have h2':=h2.same (g2.trans q).gg;rw[e1]at h2';exact ZX (K:=K) (Yk (E:=E0) (R:=zhm) (Zb (QJ (R:=RBF book E) rfl (Zb ZJ (Zb (YG (Zc rfl h2') Zq rfl rfl) Zn)) rfl ⟨z,hz,.inl ⟨rfl,rfl⟩⟩) Zn) ⟨_,rfl,rfl⟩) q.gh λv G' H' g' hv=>k v G' H' ((g2.trans q).trans g') hv
  have g3:=(g2.trans q)
  refine zhU (Zc rfl (h1.same g3.gg)) g3.gh (λe G1 H1 q=>?_) λn4 G4 H4 q=>?_
  .obtain⟨z,hz,e1,eu,ed,es⟩:=zjl E (hP (show YM (S "same")=some (S "same",S "case",[S "field"])by decide +kernel) e);rw[e,es]at k;have h2':=h2.same (g3.trans q).gg;rw[e1]at h2';exact ZX (K:=K) (QJ (R:=RBF book E) rfl (Zb ZJ (Zb (YG (Zc rfl h2') Zq rfl rfl) Zn)) rfl ⟨z,hz,.inr ⟨rfl,rfl⟩⟩) q.gh λv G' H' g' hv=>k v G' H' ((g3.trans q).trans g') hv
  have g4:=(g3.trans q)
  refine zhU (Zc rfl (h1.same g4.gg)) g4.gh (λe G1 H1 q=>?_) λn5 G5 H5 q=>?_
  .obtain⟨z,a,b,hz,hab,e1,eu,es⟩:=zkq E (hP (show YM (S "under")=some (S "under",S "mark",[S "field",S "number"])by decide +kernel) e);rw[e,eu]at k;have h2':=h2.same (g4.trans q).gg;rw[e1]at h2';exact ZX (K:=K) (QJ (R:=RBM book num E) rfl (Zb ZJ (Zb (YG (Zc rfl h2') Zq rfl rfl) (Zb (YG (Zc rfl h2') Zq rfl rfl) Zn))) rfl ⟨z,hz,a,b,hab,.inl ⟨rfl,rfl⟩⟩) q.gh λv G' H' g' hv=>k v G' H' ((g4.trans q).trans g') hv
  have g5:=(g4.trans q)
  refine zhU (Zc rfl (h1.same g5.gg)) g5.gh (λe G1 H1 q=>?_) λn6 G6 H6 q=>?_
  .obtain⟨z,a,b,hz,hab,e1,eu,es⟩:=zkq E (hP (show YM (S "is")=some (S "is",S "mark",[S "field",S "number"])by decide +kernel) e);rw[e,es]at k;have h2':=h2.same (g5.trans q).gg;rw[e1]at h2';exact ZX (K:=K) (QJ (R:=RBM book num E) rfl (Zb ZJ (Zb (YG (Zc rfl h2') Zq rfl rfl) (Zb (YG (Zc rfl h2') Zq rfl rfl) Zn))) rfl ⟨z,hz,a,b,hab,.inr ⟨rfl,rfl⟩⟩) q.gh λv G' H' g' hv=>k v G' H' ((g5.trans q).trans g') hv
  have g6:=(g5.trans q)
  refine zhU (Zc rfl (h1.same g6.gg)) g6.gh (λe G1 H1 q=>?_) λn7 G7 H7 q=>?_
  .obtain⟨a,b,e1,eu,es⟩:=zlW E (hP (show YM (S "both")=some (S "both",S "case",[S "mark"])by decide +kernel) e);rw[e,eu]at k;have h2':=h2.same (g6.trans q).gg;rw[e1]at h2';exact ZX (K:=K) (Yk (E:=E0) (R:=zj1) (Zb zkE (Zb ZJ (Zb (YG (Zc rfl h2') Zq rfl rfl) Zn))) ⟨false,_,a,b,rfl,rfl⟩) q.gh λv G' H' g' hv=>k v G' H' ((g6.trans q).trans g') hv
  have g7:=(g6.trans q)
  refine zhU (Zc rfl (h1.same g7.gg)) g7.gh (λe G1 H1 q=>?_) λn8 G8 H8 q=>?_
  .obtain⟨a,b,e1,eu,es⟩:=zlW E (hP (show YM (S "either")=some (S "either",S "case",[S "mark"])by decide +kernel) e);rw[e,es]at k;have h2':=h2.same (g7.trans q).gg;rw[e1]at h2';exact ZX (K:=K) (Yk (E:=E0) (R:=zj1) (Zb zkE (Zb ZJ (Zb (YG (Zc rfl h2') Zq rfl rfl) Zn))) ⟨true,_,a,b,rfl,rfl⟩) q.gh λv G' H' g' hv=>k v G' H' ((g7.trans q).trans g') hv
  have g8:=(g7.trans q)
  exact ZX (K:=K) (Yk (E:=E0) (R:=zmG) (d:=(zcr E (wix x) us).d) (Zb (Zc rfl (h1.same g8.gg)) (Zb (Zc rfl (h2.same g8.gg)) Zn)) (zmW E hw hty n1 n2 n3 n4 n5 n6 n7 n8)) g8.gh λv G' H' g' hv=>k v G' H' (g8.trans g') hv
end
def zio{K:FG}{a:AD}{xs:LC}{g:TG}{tb:TS}{D:Ends}(Pv:Nat->St->Hp->Prop)(h0:Pv 0 σ H)(hl:∀ i σ H,i<=xs.length->Pv i σ H->SqT K H a xs)(hs:∀ i x σ H,xs.reverse[i]?=some x->Pv i σ H->g x σ H fun σ2 H2=>tb {D with nx:=Pv (i+1),ct:=Pv (i+1),bk:=D.nx} σ2 H2)(hd:∀ σ H,Pv xs.length σ H->D.nx σ H):
  ∃ W:Nat->Nat->St->Hp->Prop,(∃ m,W 0 m σ H)/\∀ i m σ H,W i m σ H->
   ((Itv K a xs.length).stop i H/\D.nx σ H)\/((Itv K a xs.length).go i H/\∃ N:St->Hp->Prop,(∀ σ' H',N σ' H' -> ∃ m',m'<m/\W (i+1) m' σ' H')/\∀ x H',(Itv K a xs.length).yld i H x H' -> g x σ H' fun σ2 H2=>tb {D with nx:=N,ct:=N,bk:=D.nx} σ2 H2):=by
 refine⟨λi m σ H=>m=xs.length-i/\i<=xs.length/\Pv i σ H,⟨xs.length,(by simp),Nl _,h0⟩,?_⟩;rintro i m σ H ⟨rfl,hi,p⟩;have q:=hl i σ H hi p;by_cases hlt:i<xs.length
 .refine .inr ⟨⟨hlt,xs,q,rfl⟩,Pv (i+1),fun σ' H' p' => ⟨xs.length-(i+1),(by omega),rfl,hlt,p'⟩,λx H' y=>?_⟩;obtain⟨e,y⟩:=y;subst e;exact hs i x σ _ (y xs q) p
 .have e:i=xs.length:=by omega
  subst e;exact .inl ⟨⟨rfl,xs,q⟩,hd σ H p⟩
theorem zdx{ad:Str->Prop}:∀{ws:List Wd}{st st' : LB},Run ad num st ws st' -> Kinds st->∀ j,∃ st2,Kinds st2/\Run ad num st2 (ws.drop j) st'
 |ws,st,_,h,hk,0=>⟨st,hk,h⟩
 |[],st,_,h,hk,j+1=>⟨st,hk,h⟩
 |w::ws,st,_,h,hk,j+1=>by
  cases h with
  |cons a b=>exact zdx b (Vv a hk) j
def zku(book:LB)(num:Int->Int->Prop)(E:En):LA->PD->Prop:=λas d=>∃(ws:List Wd)(a:An),as=[.tuple (ws.map Wd.d)]/\Jd (· ∈ book) num ws/\(∀ R,ev E ws R = .an a::R)/\ws.length<=900/\d = .str a.t
theorem zeT{E:En}:∀(ws:List Wd),(ev E ws []).length<=ws.length
 |[]=>Ih _
 |w::ws=>by
  have ih:=zeT (E:=E) ws;show(push E w (ev E ws [])).length<=ws.length+1;unfold push;split
  .rw[IE];omega
  .split
   .rw[IE,Ot];omega
   .rw[IE];omega
section
def zkP{r:Str×Str×LB}(W:Wds K w.params mg)(hb:Ev K tb σ G (.str x))(h:YM x=some r):
  Ev K (tOp (λx y H Q=>∃ z a g v u,x = .ref a/\y = .str z/\zb0 K w.params a g/\g z=some (v,u)/\Q v H) (tC (.ref W.a)) tb) σ G (.tuple [.str r.2.1,.tuple (r.2.2.map PyData.str)]):=
 λG1 H s1 s2 Q k=>hb G1 H s1 s2 _ λu G2 H2 g2 hu=>by obtain⟨v,u',hg,hd⟩:=W.yes x r h;rw[hu.str];exact⟨x,W.a,W.g,v,u',rfl,rfl,W.D,hg,k _ G2 H2 g2 (hd G2)⟩
def zdO(T:Top K mg)(W:Wds K w.params mg)(W2:Txs K w.params mg "OTHER_WAY" Xg)(book:LB)(num:Int->Int->Prop)(E:En)(hf:∀ z∈book,YM z=none)(f1 f2:AD):
  zaj P w K mg base 5 T.Js.f T.Js.fd ["order", "by_field", "by_mark"] (λs vs H Q=>cls2 P w K mg base book num E f1 f2 s H/\spC K f1 f2 (zku book num E) vs H Q E0):=by
 have G_word_told:zaj P w K mg base 4 T.YZ.f T.YZ.fd ["word", "parts", "by_field", "by_mark"] (λs vs H Q=>cls2 P w K mg base book num E f1 f2 s H/\spC K f1 f2 (RWT book num E) vs H Q E0):=zmN T W2 book num E f1 f2;have G_taken:T.za7.O P w base 4 zey:=(zgA T).mono (by decide);have hst:=zi7 (book:=book) (num:=num) (E:=E) (f1:=f1) (f2:=f2);refine T.Js.F.okS Vs (λs vs H Q h=>?_) (λcdv A outer s H vs Q hr h=>?_)
 .obtain⟨_,G,as,d,xs,rfl,sg,hv,⟨ws,a,rfl,_⟩,_⟩:=h;rw[Iv,hv.length];rfl
 .obtain⟨hC,G,as,d,xs,rfl,sg,hv,⟨ws,a,rfl,ho,hev,hlen,rfl⟩,k⟩:=h;have hu:=hr.units;have zl:(2000:Nat)<=sizeLine:=by decide
  obtain⟨v1,r1,rfl,h1,hv⟩:=hv.cons;cases hv.nil;obtain⟨po,os,rfl,hpo,hos⟩:=h1.tup;have hol:os.length=ws.length:=by rw[hos.length,Ig]
  refine⟨_,(Ze (Zy (i:=3) Vs.nd rfl (Or.inl rfl) (Yv Zf))
   (Ze (JR IT rfl (zkL (by rfl) T.zfm (pv 0)) (YD (i:=4) Vs.nd rfl (Or.inl rfl)) (Zo (YB (ZD (zi5 hu) (pv 4) (Xr (v:=.ref W.a) (by rfl) W.m rfl) (by rfl)) (Zo (JK (VL Nf Nn Np Wv (pv 3) (Za (zgJ G_word_told hC hst rfl hr (by rfl) T.YZ.m T.YZ.F.kp T.YZ.b (Za (pv 4) (Za (peN T.za7 G_taken hr (Za (pv 3) (Za (Z6 (Ye (K:=K) rfl) (by rfl) T.zaW IJ (Za (Z0 (X8 (K:=K) rfl) (Z0 zbb (Xr (v:=.ref W.a) (by rfl) W.m rfl) (pv 4) (λ_ _=>rfl)) Zg (λ_ _=>rfl)) Zf Zt)) Zf YT) Zd)) (Za (pv 1) (Za (pv 2) Zf Zd) Zd) YT) Zd)) Zf YT)))) (Zo (JK (VL Nf Nn Np Wv (pv 3) (Za (pv 4) Zf Zd)))))))
   (Zo (Zx (Z0 (Zw (K:=K) rfl) (pv 3) Zg (λ_ _=>rfl)))))) ,?_⟩
  refine⟨(by show 0<=sizeLine;decide),λpt hpt=>?_⟩;refine⟨_,rfl,po,os,rfl,(ZZ hpt).tup (sg.tup hpo),zio (λi σ H' => ∃(v:Option V)(xs:LC)(G' : Hp),σ=[some (.ref po),some (.ref f1),some (.ref f2),some (.ref pt),v]/\H' pt=some (.lst xs)/\Yl K G' xs ((ev E (ws.drop (ws.length-i)) []).map Tv.d).reverse/\ZF G G' /\ ZF G' H' /\ G' pt=none/\ZF H H')
   ⟨_,[],G,rfl,Zh,by rw[Nat.sub_zero,List.drop_length];exact ZC,ZF.refl _,sg.trans (ZZ hpt),sg.free hpt,ZZ hpt⟩ ?_ ?_ ?_⟩
  .rintro i σ H' _ ⟨v,xs,G',rfl,_,_,g1,g2,_,_⟩;exact(g1.trans g2).tup hpo
  .rintro i x σ H' hx ⟨v,xs,G',rfl,hp,hxs,g1,g2,g3,g4⟩;have hi:i<ws.length:=by have:=(Ik.mp hx).1;rw[length_reverse,hol]at this;exact this
   have hdr:ws.drop (ws.length-(i+1))=ws[ws.length-(i+1)]::ws.drop (ws.length-i):=by rw[List.drop_eq_getElem_cons (by omega:ws.length-(i+1)<ws.length)];congr 2;omega
   obtain⟨st,hks,hrun⟩:=zdx ho zfG (ws.length-(i+1));rw[hdr]at hrun;have hxd:Dat K G x (ws[ws.length-(i+1)]).d:=by
    obtain⟨d,e1,e2⟩:=(za3 hos).zel hx;rw[List.getElem?_reverse (by rw[Ig];exact hi),Ig,Io,Ib (by omega)]at e1;have e1:some (ws[ws.length-1-i]).d=some d:=e1;injection e1 with e1;have e3:ws[ws.length-(i+1)]=ws[ws.length-1-i]:=by congr 1;omega
    rw[e3,e1];exact e2
   have hevs:ev E (ws.drop (ws.length-(i+1))) []=push E ws[ws.length-(i+1)] (ev E (ws.drop (ws.length-i)) []):=by rw[hdr];rfl
   have hsl:=zeT (E:=E) (ws.drop (ws.length-i));rw[Ot]at hsl;rw[hevs];generalize ws[ws.length-(i+1)]=wd at hrun hxd;generalize ws.drop (ws.length-i)=wr at hrun hxs hsl;cases hrun with
   |@cons _ st1 _ _ _ sa sb=>
    obtain⟨hty,_⟩:=zla (E:=E) hf sb (Vv sa hks) (vs:=[]) .nil;generalize ev E wr []=stk at hty hxs hsl;have hxl:xs.length=stk.length:=by rw[hxs.length,length_reverse,Ig]
    have hxd':=hxd.same g1;rcases Rdo.Uc sa hks with⟨z,st0,rfl,rfl,hz,rfl⟩ | ⟨b,c,st0,rfl,rfl,hbc,rfl⟩ | ⟨want,z,ps,st0,rfl,rfl,n1,n2,hw,hl3,rfl⟩
    .have e:push E (.t z) stk = .wd (.t z)::stk:=by unfold push;dsimp only;rw[hf z hz]
     rw[e];have ez:x=V.str z:=hxd'.str;subst ez;refine⟨_,rfl,W.a,W.g,rfl,W.D,.inl ⟨z,rfl,?_⟩⟩;rw[W.no z (hf z hz)];refine⟨_,rfl,zeO ?_⟩;refine⟨_,rfl,.inl ⟨rfl,_,SqL.of hp⟩,_,rfl,pt,_,_,rfl,rfl,hp,(by omega),?_⟩;refine⟨_,_,G',rfl,Zh,?_,g1,JD g2 g3,g3,JD g4 hpt⟩;rw[Nb,Oh];exact Wi hxs (Z5 z)
    .obtain⟨pn,ns,rfl,hpn,hns⟩:=hxd'.tup;obtain⟨y1,s1,rfl,d1,hns⟩:=hns.cons;obtain⟨y2,s2,rfl,d2,hns⟩:=hns.cons;cases hns.nil;rw[d1.int,d2.int]at hpn;refine⟨_,rfl,W.a,W.g,rfl,W.D,.inr ⟨pn,b,c,rfl,g2.tup hpn,?_⟩⟩;refine⟨_,rfl,zeO ?_⟩;refine⟨_,rfl,.inl ⟨rfl,_,SqL.of hp⟩,_,rfl,pt,_,_,rfl,rfl,hp,(by omega),?_⟩;refine⟨_,_,G',rfl,Zh,?_,g1,JD g2 g3,g3,JD g4 hpt⟩;show Yl K G' _ ((Tv.wd (.n b c)::stk).map Tv.d).reverse;rw[Nb,Oh];exact Wi hxs hxd'
    .have e:push E (.t z) stk=zcr E (wix z) (stk.take ps.length)::stk.drop ps.length:=by unfold push;dsimp only;rw[hw]
     rw[e];have ez:x=V.str z:=hxd'.str;subst ez;obtain⟨u,v',hg,_⟩:=W.yes z _ hw;refine⟨_,rfl,W.a,W.g,rfl,W.D,.inl ⟨z,rfl,?_⟩⟩;rw[hg];refine⟨_,rfl,zie ?_⟩;have hpl:ps.length<=stk.length:=by have:=hty.length;rw[Iv]at this;omega
     have hLn:stk.length-(stk.length-ps.length)=ps.length:=by omega
     refine⟨_,rfl,.inl ⟨rfl,_,SqL.of hp⟩,_,rfl,_,rfl,?_⟩;refine(Qq (K:=K) (G:=G') (Zb (JS (zkP W (Zc rfl (Z5 z)) hw) Zq rfl rfl) Zn)).use g2 λv6 G6 H6 g6 h6=>?_;rw[h6.int,Ig];have hp6:=g6.hh _ _ hp;have g6pt:G6 pt=none:=by
      cases e:G6 pt with
      |none=>rfl
      |some o=>
       rcases g6.fr pt o e with q | q
       .rw[g3]at q;cases q
       .rw[hp]at q;cases q
     refine⟨pt,ps.length,xs,rfl,hp6,by rw[hxl];exact hpl,(by omega),λl H7 hl nlp h7l h7p h7o=>?_⟩;have g6l:G6 l=none:=g6.gh.free hl;have s67:ZF (L2.upd G6 l (.lst (xs.drop (xs.length-ps.length)).reverse)) H7:=λb o q=>by
      by_cases hb:b=l
      .subst hb;rw[Zh]at q;rw[← q];exact h7l
      .rw[Zm hb]at q;have hbp:b≠pt:=λz=>by subst z;rw[g6pt]at q;cases q
       rw[h7o b hb hbp];exact g6.gh _ _ q
     have hxs6:=hxs.same g6.gg;have hys:Yl K G6 (xs.drop (xs.length-ps.length)).reverse ((stk.take ps.length).map Tv.d):=by have q:=za3 (UJ (xs.length-ps.length) hxs6);rw[List.drop_reverse,List.reverse_reverse,Ig,hxl,hLn,← map_take]at q;rw[hxl];exact q
     refine⟨_,rfl,_,rfl,L2.upd G6 l (.lst (xs.drop (xs.length-ps.length)).reverse),[.str z,.list ((stk.take ps.length).map Tv.d)],_,[.str z,.ref l],rfl,s67,Zv (Z5 z) (Zv (YJ Zh (hys.same (ZZ g6l))) ZC),⟨z,want,ps,_,rfl,hw,(Uo hty).1,rfl⟩,λv8 G8 H8 g8 h8=>?_⟩;have g8pt:G8 pt=none:=by
      cases e:G8 pt with
      |none=>rfl
      |some o=>
       rcases g8.fr pt o e with q | q
       .rw[Zm (Ne.symm nlp),g6pt]at q;cases q
       .rw[h7p]at q;cases q
     have s68:ZF G6 G8:=(ZZ g6l).trans g8.gg;refine⟨pt,_,_,rfl,rfl,g8.hh _ _ h7p,by rw[NV];omega,?_⟩;refine⟨_,_,G8,rfl,Zh,?_,(g1.trans g6.gg).trans s68,JD g8.gh g8pt,g8pt,λb o q=>?_⟩
     .rw[Nb,Oh];refine Wi ?_ h8;have q:=Uj (xs.length-ps.length) (hxs6.same s68);rw[List.take_reverse,Ig,hxl,hLn,← map_drop]at q;rw[hxl];exact q
     .have hbp:b≠pt:=Zk q hpt;have q6:=g6.hh _ _ (g4 _ _ q);have hbl:b≠l:=Zk q6 hl;rw[Zm hbp];exact g8.hh _ _ (by rw[h7o b hbl hbp];exact q6)
  .rintro σ H' ⟨v,xs,G',rfl,hp,hxs,g1,g2,g3,g4⟩;rw[hol,Nat.sub_self,List.drop_zero,hev]at hxs;obtain⟨y,ys,rfl,hy,hr'⟩:=hxs.cons;cases hr'.nil;rw[show y=V.str a.t from hy.str]at hp;exact⟨_,rfl,pt,_,0,_,rfl,rfl,SqL.of hp,rfl,k _ G H' ⟨ZF.refl _,g1.trans g2,g4,λ_ _ h=>.inl h⟩ (Z5 _)⟩
end
section
def zcg{n:Nat}(h:n<f.length):(f.map dF)[n]?=some (dF (f.getD n (0,1))):=by rw[Io,Im,Ib h];rfl
def getD_mem{n:Nat}(h:n<f.length):f.getD n (0,1)∈f:=by rw[Im,Ib h];exact NO h
def zig{i:Nat}{ws:LB}{z:Str}{p:AD}(hi:σ[i]?=some (some (.ref p)))(hp:G p=some (.tup (ws.map V.str)))(hb:Ev K tb σ G (.str z))(hz:z∈ws):Ev K (tTM (ze2 K) (XH i) (Z4 tb Qk)) σ G (.int (ws.idxOf z:Nat)):=
 λG1 H s1 s2 Q k=>⟨_,hi,⟨p,_,rfl,s2 _ _ (s1 _ _ hp)⟩,hb G1 H s1 s2 _ λu G3 H3 g3 hu=>by
  rw[hu.str];exact⟨p,ws,z,rfl,rfl,SqT.of (g3.hh _ _ (s2 _ _ (s1 _ _ hp))),hz,k _ G3 H3 g3 (Zr _)⟩⟩
def za0(ws:List (Int×Int)):noL (.tuple (ws.map dF))=true:=by
 unfold noL
 induction ws with
 |nil=>rfl
 |cons x r ih=>rw[Nb];unfold zky;rw[ih];rfl
def zdT(T:Top K mg)(W1:Txs K w.params mg "AHEAD" Xj){g:List (Int×Int)}(hfl:f.length=book.length)(hgl:g.length=book.length)(hf:∀ p∈f,Sz p)(hg:∀ p∈g,Sz p){H0:Hp}{pb:AD}{vf vg:V}(hb:H0 pb=some (.tup (book.map V.str)))(hvf:Dat K H0 vf (.tuple (f.map dF)))(hvg:Dat K H0 vg (.tuple (g.map dF))){A:Around}{outer:LI}{s' : SH}{H' : Hp}{vs:LC}{Q:VK}{fa c' : AD}{cl:List (Str×AD)}(hr:Wh 2 (A.deeper (zjb Wg (Zi YF) s'.heap.objs.size fa (.ref c') cl)))(kp:Kp H0 H')(h:spP K (RBF book (zfe book f g)) vs H' Q E0):
  ∃ t,PSs (zal P w K mg base ((["word", "field"]:LB)++(["place"]:LB)++(["book", "first", "second"]:LB)) Wg (Zi YF) fa c' cl A outer s' H') (Yo YF) t/\t {nx:=λ_ H' => Q .non H',rt:=Q} (vs.map some++List.replicate (["place"]:LB).length none++[some (.ref pb),some vf,some vg]) H':=by
 have G_answer:T.Qe.O P w base 2 (spP K zj0):=(zbE T W1).mono (by decide);have G_how_stands:=@zhz T;have hu:=hr.units;obtain⟨G,as,d,sg,hv,⟨z,hz,hx⟩,k⟩:=h;have hi:book.idxOf z<book.length:=List.idxOf_lt_length_of_mem hz;have hb':=kp.1 _ _ hb;have hf':=kp.dat _ _ (za0 _) hvf;have hg':=kp.dat _ _ (za0 _) hvg;have key:∀{x:Str}{e:PD}{v1 v2:V},Dat K H' v1 (.str x)->Dat K H' v2 (.str z)->zj0 [.str x,.str (hsA (f.getD (book.idxOf z) (0,1)) (g.getD (book.idxOf z) (0,1))).how] e->(∀ v G' H'',Yi H' H' G' H'' -> Dat K G' v e->Q v H'')->
   ∃ t,PSs (zal P w K mg base ((["word", "field"]:LB)++(["place"]:LB)++(["book", "first", "second"]:LB)) Wg (Zi YF) fa c' cl A outer s' H') (Yo YF) t/\t {nx:=λ_ H' => Q .non H',rt:=Q} [some v1,some v2,none,some (.ref pb),some vf,some vg] H':=λ{x e v1 v2} h1 h2 hR hk=>by
  refine⟨_,(Ze (Zy (i:=2) Qu.nd rfl (Or.inl rfl) (zlC PySem.F.slot_tuple_index PySem.F.type_tuple_index (zbH (K:=K) rfl) (pv 3) (Za (pv 1) Zf Zd)))
   (Zo (Zx (peN T.Qe G_answer hr (Za (pv 0) (Za (peN T.W8 G_how_stands hr (Za (Z0 (X8 (K:=K) rfl) (pv 4) (pv 2) (λ_ _=>rfl)) (Za (Z0 (X8 (K:=K) rfl) (pv 5) (pv 2) (λ_ _=>rfl)) Zf Zt) Zt)) Zf YT) Zd))))) ,?_⟩
  refine Jt (K:=K) (G:=H') (zig rfl hb' (Zc rfl h2) hz) (ZF.refl _) λv3 G1 H1 g1 h3=>?_;refine ZX (K:=K) (G:=G1) (Yk (E:=E0) (R:=zj0) (Zb (Zc rfl (h1.same g1.gg)) (Zb (Yk (E:=E0) (R:=zmp) (Zb (JS (Zc rfl (hf'.same g1.gg)) (Zc rfl h3) (XN (by rw[Ig];omega)) (zcg (by omega))) (Zb (JS (Zc rfl (hg'.same g1.gg)) (Zc rfl h3) (XN (by rw[Ig];omega)) (zcg (by omega))) Zn)) ⟨_,_,rfl,hf _ (getD_mem (by omega)),hg _ (getD_mem (by omega)),rfl⟩) Zn)) hR) g1.gh λv G' H'' g hv=>hk v G' H'' (g1.trans g) hv
 rcases hx with⟨rfl,rfl⟩ | ⟨rfl,rfl⟩
 .obtain⟨v1,r1,rfl,h1,hv⟩:=hv.cons;obtain⟨v2,r2,rfl,h2,hv⟩:=hv.cons;cases hv.nil;exact key (h1.same sg) (h2.same sg) ⟨_,.inl ⟨rfl,rfl⟩⟩ λv G' H'' g hv=>by rw[hv.str];exact k _ G H'' ⟨ZF.refl _,sg.trans g.hh,g.hh,λ_ _ h=>.inl h⟩ (Z5 _)
 .obtain⟨v1,r1,rfl,h1,hv⟩:=hv.cons;obtain⟨v2,r2,rfl,h2,hv⟩:=hv.cons;cases hv.nil;refine key (e:=.bool (isA (hsA (f.getD (book.idxOf z) (0,1)) (g.getD (book.idxOf z) (0,1))) .like)) (h1.same sg) (h2.same sg) ⟨_,.inr ⟨_,(by decide +kernel),rfl,?_⟩⟩ λv G' H'' g hv=>by rw[hv.bl];exact k _ G H'' ⟨ZF.refl _,sg.trans g.hh,g.hh,λ_ _ h=>.inl h⟩ (Yu _)
  congr 1;generalize hsA _ _=a;cases a <;> decide +kernel
end
noncomputable def wid(G H:Hp):Hp:=λb=>match G b with
 |some o=>some o
 |none=>match H b with
  |some (.lst _)=>none
  |o=>o
def zgg :ZF G (wid G H):=λb o e=>by unfold wid;rw[e]
def zk8(s:ZF G H):ZF (wid G H) H:=λb o e=>by
 unfold wid at e;cases hg:G b with
 |some o' => rw[hg]at e;dsimp only at e;rw[← e];exact s _ _ hg
 |none=>
  rw[hg]at e;dsimp only at e;split at e
  .cases e
  .exact e
def zkg(s:ZF G H):Kp H (wid G H):=by
 refine⟨λb xs e=>?_,λb o u e=>?_,λb cr e=>?_⟩
 all_goals
  unfold wid;cases hg:G b with
  |some o' => rw[s _ _ hg]at e;exact e
  |none=>dsimp only;rw[e]
def zgY{K:FG}{G' H':Hp}{v:V}{ds:LA}(s:ZF G H)(g:Yi (wid G H) H G' H')(hv:Dat K G' v (.list ds))(hf:∀{G1 G2:Hp}{xs:LC},Yl K G1 xs ds->Yl K G2 xs ds):∃ G'',Yi G H G'' H' /\ Dat K G'' v (.list ds):=by
 obtain⟨p,xs,rfl,hp,hx⟩:=hv.lst;cases hg:G p with
 |some o=>have e:=g.gg _ _ (zgg (H:=H) _ _ hg);rw[hp]at e;injection e with e;refine⟨G,⟨ZF.refl _,s.trans g.hh,g.hh,λ_ _ h=>.inl h⟩,YJ (xs:=xs) (by rw[hg,← e]) (hf hx)⟩
 |none=>
  have hn:H p=none:=by
   rcases g.fr p _ hp with q | q
   .have hH:=zk8 s _ _ q;unfold wid at q;rw[hg]at q;dsimp only at q;rw[hH]at q;cases q
   .exact q
  have sG:ZF G (L2.upd G p (.lst xs)):=ZZ hg;refine⟨L2.upd G p (.lst xs),⟨sG,λb o e=>?_,g.hh,λb o e=>?_⟩,YJ Zh (hf hx)⟩
  .by_cases hb:b=p
   .subst hb;rw[Zh]at e;rw[← e];exact g.gh _ _ hp
   .rw[Zm hb]at e;exact g.hh _ _ (s _ _ e)
  .by_cases hb:b=p
   .subst hb;exact .inr hn
   .rw[Zm hb]at e;exact .inl e
def zk0{a:An}{b:An}(h:b.how=x):decide (a.how=x)=isA a b:=by subst h;cases a <;> cases b <;> decide +kernel
section
def zf1(T:Top K mg)(W1:Txs K w.params mg "AHEAD" Xj){g:List (Int×Int)}(hnum:∀ a b,num a b->Sz (a,b))(hfl:f.length=book.length)(hgl:g.length=book.length)(hf:∀ p∈f,Sz p)(hg:∀ p∈g,Sz p){H0:Hp}{pb:AD}{vf vg:V}(hb:H0 pb=some (.tup (book.map V.str)))(hvf:Dat K H0 vf (.tuple (f.map dF)))(hvg:Dat K H0 vg (.tuple (g.map dF))){A:Around}{outer:LI}{s' : SH}{H' : Hp}{vs:LC}{Q:VK}{fa c' : AD}{cl:List (Str×AD)}(hr:Wh 2 (A.deeper (zjb Ws (Zi Y6) s'.heap.objs.size fa (.ref c') cl)))(kp:Kp H0 H')(h:spP K (RBM book num (zfe book f g)) vs H' Q E0):
  ∃ t,PSs (zal P w K mg base ((["word", "field", "number"]:LB)++(["place"]:LB)++(["book", "first", "second"]:LB)) Ws (Zi Y6) fa c' cl A outer s' H') (Yo Y6) t/\t {nx:=λ_ H' => Q .non H',rt:=Q} (vs.map some++List.replicate (["place"]:LB).length none++[some (.ref pb),some vf,some vg]) H':=by
 have G_answer:T.Qe.O P w base 2 (spP K zj0):=(zbE T W1).mono (by decide);have G_how_stands:=@zhz T;have hu:=hr.units;obtain⟨G,as,d,sg,hv,⟨z,hz,a,b,hab,hx⟩,k⟩:=h;have hi:book.idxOf z<book.length:=List.idxOf_lt_length_of_mem hz;have kw:=kp.trans (zkg sg);have hb':=kw.1 _ _ hb;have hf':=kw.dat _ _ (za0 _) hvf;have hg':=kw.dat _ _ (za0 _) hvg;have key:∀{x:Str}{c:An}{v1 v2 v3:V},x≠S "look" -> c.how=x->Dat K G v1 (.str x)->Dat K G v2 (.str z)->Dat K G v3 (dF (a,b))->
   (∀ v G' H'',Yi G H' G' H'' -> Dat K G' v (.list [.bool (isA (hsA (f.getD (book.idxOf z) (0,1)) (a,b)) c),.bool (isA (hsA (g.getD (book.idxOf z) (0,1)) (a,b)) c)])->Q v H'')->
   ∃ t,PSs (zal P w K mg base ((["word", "field", "number"]:LB)++(["place"]:LB)++(["book", "first", "second"]:LB)) Ws (Zi Y6) fa c' cl A outer s' H') (Yo Y6) t/\t {nx:=λ_ H' => Q .non H',rt:=Q} [some v1,some v2,some v3,none,some (.ref pb),some vf,some vg] H':=λ{x c v1 v2 v3} hxl hc h1 h2 h3 hk=>by
  have h1':=h1.same (zgg (H:=H'));have h2':=h2.same (zgg (H:=H'));have h3':=h3.same (zgg (H:=H'));refine⟨_,(Ze (Zy (i:=3) Vb.nd rfl (Or.inr rfl) (zlC PySem.F.slot_tuple_index PySem.F.type_tuple_index (zbH (K:=K) rfl) (pv 4) (Za (pv 1) Zf Zd)))
   (Zo (Zx (UL (x:= "thing") (cap:=["word", "place", "number"]) (js:=[0,3,2]) ⟨rfl,(by decide +kernel),(by decide +kernel),rfl,(by show ∀ p∈(_:List (Str×NameKind)),p.2=NameKind.free->List.lookup p.1 (Zi Y6).names=some NameKind.cell;decide +kernel),(by decide +kernel),(by decide +kernel),(by decide +kernel)⟩ rfl rfl (λ_ _ h=>h) (Ql (Yg (Za (pv 5) (Za (pv 6) Zf Zd) Zd))) (λ_ _ _ _=>⟨XJ,(peN T.Qe G_answer hr (Za (pv 1) (Za (peN T.W8 G_how_stands hr (Za (Z0 (X8 (K:=K) rfl) (pv 0) (pv 2) (λ_ _=>rfl)) (Za (pv 3) Zf Zd) Zt)) Zf YT) Zd))⟩))))) ,?_⟩
  refine Jt (K:=K) (G:=wid G H') (zig rfl hb' (Zc rfl h2') hz) (zk8 sg) λv4 G1 H1 g1 h4=>?_;refine ZX (K:=K) (G:=G1) (d:=.list [.bool (isA (hsA (f.getD (book.idxOf z) (0,1)) (a,b)) c),.bool (isA (hsA (g.getD (book.idxOf z) (0,1)) (a,b)) c)])
   (Ui (K:=K) [f,g] (λl=>.tuple (l.map dF)) (λl=>some (.bool (isA (hsA (l.getD (book.idxOf z) (0,1)) (a,b)) c))) (Xf (Zb (Zc rfl (hf'.same g1.gg)) (Zb (Zc rfl (hg'.same g1.gg)) Zn)) (by show 2<=sizeLine;decide)) (by show 2<sizeLine;decide) (λG2 i l y sG hl hy=>?_)) g1.gh λv G' H'' g2 hv=>?_
  .have hll:l.length=book.length/\∀ p∈l,Sz p:=by
    match i,hl with
    |0,hl=>cases hl;exact⟨hfl,hf⟩
    |1,hl=>cases hl;exact⟨hgl,hg⟩
   refine .inl ⟨_,rfl,X7,Yk (E:=E0) (R:=zj0) (Zb (Zc rfl ((h1'.same g1.gg).same sG)) (Zb (Yk (E:=E0) (R:=zmp) (Zb (JS (Zc rfl hy) (Zc rfl (h4.same sG)) (XN (by rw[Ig];omega)) (zcg (by omega))) (Zb (Zc rfl ((h3'.same g1.gg).same sG)) Zn)) ⟨_,(a,b),rfl,hll.2 _ (getD_mem (by omega)),hnum a b hab,rfl⟩) Zn)) ⟨_,.inr ⟨x,hxl,rfl,?_⟩⟩⟩;rw[zk0 hc]
  .obtain⟨G'',g3,hv'⟩:=zgY sg (g1.trans g2) hv (λ{G1 G2 xs} hd=>by
    obtain⟨y1,r1,rfl,d1,hd⟩:=hd.cons;obtain⟨y2,r2,rfl,d2,hd⟩:=hd.cons;cases hd.nil;rw[d1.bl,d2.bl];exact Zv (Yu _) (Zv (Yu _) ZC))
   exact hk v G'' H'' g3 hv'
 rcases hx with⟨rfl,rfl⟩ | ⟨rfl,rfl⟩
 .obtain⟨v1,r1,rfl,h1,hv⟩:=hv.cons;obtain⟨v2,r2,rfl,h2,hv⟩:=hv.cons;obtain⟨v3,r3,rfl,h3,hv⟩:=hv.cons;cases hv.nil;exact key (c:=.ahead) (by decide +kernel) rfl h1 h2 h3 k
 .obtain⟨v1,r1,rfl,h1,hv⟩:=hv.cons;obtain⟨v2,r2,rfl,h2,hv⟩:=hv.cons;obtain⟨v3,r3,rfl,h3,hv⟩:=hv.cons;cases hv.nil;exact key (c:=.like) (by decide +kernel) rfl h1 h2 h3 k
end
def zhP(K:FG)(Pt:AD)(cr:Nat->Nat->Option Str):Sp:=λvs H Q _=>∃(G:Hp)(ws:List Wd)(book:LB)(f g:List (Int×Int))(num:Int->Int->Prop)(a:An)(vo vf vg:V)(pb:AD),vs=[vo,.ref pb,vf,vg]/\G Pt=some (.tbl cr)/\ZF G H/\G pb=some (.tup (book.map V.str))/\
 (Dat K G vo (.tuple (ws.map Wd.d))/\Dat K G vf (.tuple (f.map dF))/\Dat K G vg (.tuple (g.map dF)))/\Jd (· ∈ book) num ws/\(∀ a b,num a b->Sz (a,b))/\(f.length=book.length/\g.length=book.length/\(∀ p∈f,Sz p)/\∀ p∈g,Sz p)/\(∀ z∈book,YM z=none)/\ws.length<=900/\
 (∀ R,ev (zfe book f g) ws R = .an a::R)/\∀ G' H',Yi G H G' H' -> Q (.str a.t) H'
section
def zbV(T:Top K mg)(M:Bs K mg base)(W:Wds K w.params mg)(W1:Txs K w.params mg "AHEAD" Xj)(W2:Txs K w.params mg "OTHER_WAY" Xg):T.WN.O P w base 6 (zhP K T.ZR ZP):=by
 refine T.WN.F.okC U9 (λvs H Q E h=>?_) (λcdv A outer s H vs Q E hcd hr h=>?_)
 .obtain⟨G,ws,book,f,g,num,a,vo,vf,vg,pb,rfl,_⟩:=h;rfl
 .obtain⟨G,ws,book,f,g,num,a,vo,vf,vg,pb,rfl,hP,sg,hpb,⟨ho,hvf,hvg⟩,hord,hnum,⟨hfl,hgl,hf,hg⟩,hwd,hlen,hev,k⟩:=h;have hu:=hr.units;have G_telling:=λf1 f2=>zdO T W W2 book num (zfe book f g) hwd f1 f2
  let RH:AD->AD->St->Hp->Prop:=λf1 f2 σ H1=>(Vp H1 f1 "by_field" Wg (X6 YF) (Yo YF) (Zi YF) (JG (PyProof.Rows.envOfC "looked" (Zi YW) s.heap.objs.size T.WN.f cdv) (Zi YF).names [])/\
   Vp H1 f2 "by_mark" Ws (X6 Y6) (Yo Y6) (Zi Y6) (JG (PyProof.Rows.envOfC "looked" (Zi YW) s.heap.objs.size T.WN.f cdv) (Zi Y6).names []))/\
   σ=[some vo,some (.ref pb),some vf,some vg,some (.ref f1),some (.ref f2)]/\H1 pb=some (.tup (book.map V.str))/\Dat K H1 vf (.tuple (f.map dF))/\Dat K H1 vg (.tuple (g.map dF))
  have hC:∀(aa:List (Addr×Obj))(σ:St)(H1:Hp)(s1:SH)(f1 f2:AD),Inv (VD CX0 P w K mg base ["order", "book", "first", "second", "by_field", "by_mark"] "looked" (Zi YW) T.WN.f cdv A outer s H E).nox aa σ H1 s1->RH f1 f2 σ H1->cls2 P w K mg base book num (zfe book f g) f1 f2 s1 H1:=by
   rintro aa σ H1 s1 f1 f2 I ⟨⟨L1,L2⟩,rfl,hb1,hf1,hg1⟩;refine⟨zlG (js:=[1,2,3]) I Qu rfl L1 (λcl us hl doc pm ctv c' => ?_) (λA outer s' H' vs Q fa c' cl hr' kp hl h=>zdT T W1 hfl hgl hf hg hb1 hf1 hg1 hr' kp h),zlG (js:=[1,2,3]) I Vb rfl L2 (λcl us hl doc pm ctv c' => ?_) (λA outer s' H' vs Q fa c' cl hr' kp hl h=>zf1 T W1 hnum hfl hgl hf hg hb1 hf1 hg1 hr' kp h)⟩
   .match us,hl with
    |[_,_],_=>rfl
   .match us,hl with
    |[_,_,_],_=>rfl
  refine⟨_,(Ze (zh1 (i:=4) (P:=T.ZR) (cr:=ZP) (q:=Wg) Qu (hcd.trans T.cd_looked) (codeHd_of_K M.kin T.ch_looked) M.bm rfl rfl U9.nd rfl rfl)
   (Ze (zh1 (i:=5) (P:=T.ZR) (cr:=ZP) (q:=Ws) Vb (hcd.trans T.cd_looked) (codeHd_of_K M.kin T.ch_looked) M.bm rfl rfl U9.nd rfl rfl)
   (Zo (Zx (zjk (C:=cls2 P w K mg base book num (zfe book f g)) (sp2:=λf1 f2 _=>spC K f1 f2 (zku book num (zfe book f g))) (RH:=RH) (λf1 f2 _=>G_telling f1 f2) hC hr (by rfl) T.Js.m T.Js.F.kp T.Js.b (Za (pv 0) (Za (pv 4) (Za (pv 5) Zf Zd) Zd) Zd)))))) ,?_⟩
  refine⟨sg _ _ hP,λf1 H1 hf1 s1 L1=>⟨s1 _ _ (sg _ _ hP),λf2 H2 hf2 s2 L2=>?_⟩⟩;have sH:=s1.trans s2;have sG:=sg.trans sH;refine⟨_,rfl,_,rfl,_,rfl,f1,f2,⟨⟨L1.same λb o u e=>s2 _ _ e,L2⟩,rfl,sG _ _ hpb,hvf.same sG,hvg.same sG⟩,?_⟩;refine⟨G,[.tuple (ws.map Wd.d)],.str a.t,[vo],rfl,sG,Zv ho ZC,⟨ws,a,rfl,hord,hev,hlen,rfl⟩,λv G' H' g' hv=>?_⟩;rw[hv.str];exact k G H' ⟨ZF.refl _,sG.trans g'.hh,sH.trans g'.hh,λ_ _ h=>.inl h⟩
end
abbrev dOs(ws:List Wd):PD:=.tuple (ws.map Wd.d)
section
def zly(ha:Ev K ta σ G (.str x))(hb:Ev K tb σ G (.str y)):Ev K (tOp rNe ta tb) σ G (.bool (!decide (x=y))):=
 J4 ha hb λG1 H u v Q s1 s2 hu hv k=>by rw[hu.str,hv.str];refine⟨rfl,?_⟩;have e:decide (V.str x=V.str y)=decide (x=y):=NY.mpr ⟨λz=>by injection z,λz=>by rw[z]⟩;rw[e];exact k _ G1 H (Yi.refl s2) (Yu _)
def zfq{tf tg:TE}{i:Nat}{ws:List Wd}{g:List (Int×Int)}{a:An}{pb Pt:AD}{cr:Nat->Nat->Option Str}(hT:G Pt=some (.tbl cr))(hpb:G pb=some (.tup (book.map V.str)))(hz:(f.length=book.length/\g.length=book.length/\(∀ p∈f,Sz p)/\∀ p∈g,Sz p)/\(∀ a b,num a b->Sz (a,b))/\∀ z∈book,YM z=none)(hi:σ[i]?=some (some (.ref pb)))(ha:Ev K ta σ G (dOs ws))(hf:Ev K tf σ G (.tuple (f.map dF)))(hg:Ev K tg σ G (.tuple (g.map dF)))(hord:Jd (· ∈ book) num ws)(hlen:ws.length<=900)(hev:∀ R,ev (zfe book f g) ws R = .an a::R):Ev K (zaf (zhP K Pt cr) [] E0 (Z4 ta (Z4 (XH i) (Z4 tf (Z4 tg Qk))))) σ G (.str a.t):=
 λG1 H s1 s2 Q k=>ha G1 H s1 s2 _ λv1 G2 H2 g2 h1=>⟨_,hi,hf G2 H2 (s1.trans g2.gg) g2.gh _ λv2 G3 H3 g3 h2=>hg G3 H3 ((s1.trans g2.gg).trans g3.gg) g3.gh _ λv3 G4 H4 g4 h3=>by
  have g24:=(g2.trans g3).trans g4;have sG:=s1.trans g24.gg;exact⟨G4,ws,book,f,g,num,a,v1,v2,v3,pb,rfl,sG _ _ hT,g4.gh,sG _ _ hpb,⟨(h1.same g3.gg).same g4.gg,h2.same g4.gg,h3⟩,hord,hz.2.1,hz.1,hz.2.2,hlen,hev,λG' H' g' => k _ G' H' (g24.trans g') (Z5 _)⟩⟩
end
end K29
namespace L2
open PySem PySem.Spec PyProof.Rows
theorem countIn_strs(z:Str):∀ ss:LB,countIn (.str z) (ss.map PyData.str)=((ss.countP λs=>decide (s=z):Nat):Int)
 |[]=>rfl
 |s::r=>by
  have ih:=countIn_strs z r;rw[Nb,countIn,countP_cons,ih];by_cases h:s=z
  .subst h;simp[same];omega
  .have h' : ¬ z=s:=λe=>h e.symm;simp[same,h,h']
section
variable {X:Cx}
def zhZ(K:FG):V->LC->Hp->VK->Prop:=λx vs H Q=>∃(p:AD)(ss:LB)(z:Str),x = .ref p/\vs=[.str z]/\SqL K H p (ss.map V.str)/\Q (.int ((ss.countP λs=>decide (s=z):Nat):Int)) H
def zaZ{K:FG}(eK:X.K=K):MtM X "list.count" (zhZ K):=by subst eK;intro aa s σ H x vs v us Q I rx rv h;obtain⟨p,ss,z,rfl,rfl,hp,q⟩:=h;cases rx;obtain⟨u,rfl,ru⟩:=vals1 rv;obtain⟨t,rfl⟩:=ru;obtain⟨its,r,pl,hl⟩:=I.list hp;exact count_list_strs pl.isList (zd9 r) ⟨.int _,H,I.tok _,⟨_,by rw[countIn_strs]⟩,q⟩
def zlb{K:FG}(eK:X.K=K){o e:Expr}{es:List Expr}{to:TE}{t:TA}{name:Str}{apos cpos:Pos}{T id:String}{r:V->LC->Hp->VK->Prop}(pa:PlainAttrs T)(slot:Slot T name id)(hty:typeOf (.builtin id)=pure (.type "method_descriptor"))(hm:MtR X id r)(ho:PE X o to)(ha:PA X (e::es) t)(h1:attributeBase o name X.env (eval o X.env)=eval o X.env:=by rfl)(h2:((backTo cpos (starEach (e::es) X.env)).all (λx=>!x.1)&&(backToKw cpos (keywordEach [] X.env)).all (λx=>x.1.isSome)&&decide ((e::es).length+([]:List Keyword).length+(if([]:List Keyword).isEmpty then 0 else 1)<30))=true:=by rfl)(h3:(apos.endLine==cpos.line)=true:=by rfl)(h4:starEach (e::es) X.env=(false,eval e X.env)::starEach es X.env:=by rfl)(h5:(backTo cpos (starEach es X.env)).any (·.1)=false:=by rfl):PE X (.Call (.Attribute o name apos) (e::es) [] cpos) (tBM K T r to t):=by subst eK;exact VL pa slot hty hm ho ha h1 h2 h3 h4 h5
def zbt{K:FG}{a:AD}{xs:LC}{g:TG}{tb:TS}{D:Ends}{σ:St}{H:Hp}(Pv:Nat->St->Hp->Prop)(h0:Pv 0 σ H)(hl:∀ i σ H,i<=xs.length->Pv i σ H->SqL K H a xs)(hs:∀ i x σ H p,xs[i]?=some x->Pv i σ H->H p=none->g (.ref p) σ (upd H p (.tup [.int i,x])) fun σ2 H2=>tb {D with nx:=Pv (i+1),ct:=Pv (i+1),bk:=D.nx} σ2 H2)(hd:∀ σ H,Pv xs.length σ H->D.nx σ H):
  ∃ W:Nat->Nat->St->Hp->Prop,(∃ m,W 0 m σ H)/\∀ i m σ H,W i m σ H->
   ((zk4 K a).stop i H/\D.nx σ H)\/((zk4 K a).go i H/\∃ N:St->Hp->Prop,(∀ σ' H',N σ' H' -> ∃ m',m'<m/\W (i+1) m' σ' H')/\∀ x H',(zk4 K a).yld i H x H' -> g x σ H' fun σ2 H2=>tb {D with nx:=N,ct:=N,bk:=D.nx} σ2 H2):=by
 refine⟨λi m σ H=>m=xs.length-i/\i<=xs.length/\Pv i σ H,⟨xs.length,(by simp),Nl _,h0⟩,?_⟩;rintro i m σ H ⟨rfl,hi,p⟩;have q:=hl i σ H hi p;by_cases hlt:i<xs.length
 .refine .inr ⟨⟨xs,_,q,Ib hlt⟩,Pv (i+1),fun σ' H' p' => ⟨xs.length-(i+1),(by omega),rfl,hlt,p'⟩,λx H' y=>?_⟩;obtain⟨p',x',hp',rfl,rfl,hx⟩:=y;exact hs i x' σ H p' (hx xs q) p hp'
 .have e:i=xs.length:=by omega
  subst e;exact .inl ⟨⟨xs,q,Ih _⟩,hd σ H p⟩
end
end L2
namespace K29
open PySem L2 Frac Lw Dig PySem.NumText Nm
open Ord Look Rdo
abbrev dT(f:Fs):PD:=.tuple (f.map dF)
def OC(book:LB)(num:Int->Int->Prop)(ws:List Wd):Prop:=Jd (· ∈ book) num ws/\(∀ a b,num a b->Sz (a,b))/\(∀ z∈book,YM z=none)/\ws.length<=900
def FZ(n:Nat)(f:Fs):Prop:=f.length=n/\∀ p∈f,Sz p
def spB(K:FG)(Pt:AD)(cr:Nat->Nat->Option Str)(R:LB->LA->PD->Prop):Sp:=λvs H Q _=>∃(G:Hp)(book:LB)(vo:V)(pb:AD)(us:LC)(ds:LA)(d:PD),vs=vo :: .ref pb::us/\G Pt=some (.tbl cr)/\ZF G H/\G pb=some (.tup (book.map V.str))/\Yl K G (vo::us) ds/\R book ds d/\
 ∀ v G' H',Yi G H G' H' -> Dat K G' v d->Q v H'
def zlN(book:LB):LA->PD->Prop:=λds d=>∃(ws:List Wd)(num:Int->Int->Prop)(f:Fs)(gs:List Fs),ds=[dOs ws,dT f,.list (gs.map dT)]/\OC book num ws/\FZ book.length f/\(∀ g∈gs,FZ book.length g)/\gs.length<=1000/\d = .list (gs.map λg=>.str (Z3 book ws f g).t)
noncomputable def zgH(L:Fs->Fs->An)(gs:List Fs):PD:=.list (gs.map λf=>.list (gs.map λg=>.str (L f g).t))
def zmb(book:LB):LA->PD->Prop:=λds d=>∃(ws:List Wd)(num:Int->Int->Prop)(gs:List Fs),ds=[dOs ws,.list (gs.map dT)]/\OC book num ws/\(∀ g∈gs,FZ book.length g)/\gs.length<=1000/\d=zgH (Z3 book ws) gs
def zcB:LA->PD->Prop:=λds d=>∃ gs:List Fs,ds=[.tuple (gs.map dT)]/\gs.length<=1000/\d = .list ((Y7 gs).map dT)
def zeR:LA->PD->Prop:=λds d=>∃(L:Fs->Fs->An)(gs:List Fs),ds=[zgH L gs]/\gs.length<=1000/\d = .list (gs.map λf=>.int (rk L gs f:Nat))
def zkG:LA->PD->Prop:=λds d=>∃ i j:Nat,ds=[.int (i:Nat),.int (j:Nat)]/\d = .str (Vm i j).t
def zdm:LA->PD->Prop:=λds d=>∃(L:Fs->Fs->An)(gs:List Fs),ds=[zgH L gs]/\gs.length<=1000/\d = .bool (agree L gs)
def zbz(K:FG):Sp:=λvs H Q _=>∃(G:Hp)(v1:V)(L:Fs->Fs->An)(gs:List Fs),vs=[v1]/\ZF G H/\Dat K G v1 (zgH L gs)/\gs.length<=1000/\(∀ G' H',Yi G H G' H' -> agree L gs=true->Q .non H')/\∀ p (i j:Nat) (f g:Fs) G' H',Yi G H G' H' -> gs[i]?=some f->gs[j]?=some g->L f g≠Vm (rk L gs f) (rk L gs g)->Dat K G' (.ref p) (.tuple [.int (i:Nat),.int (j:Nat)])->Q (.ref p) H'
noncomputable def zbh(f:Fs):KX:=f.map λp=>[.inl p.1,.inl p.2]
def VV(f:Fs):zbm (zbh f)=dT f:=by unfold zbm zbh;rw[Oy];rfl
def zc1{f g:Fs}(h:zbh f=zbh g):f=g:=by unfold zbh at h;refine(List.map_inj_right λp q z=>?_).mp h;injection z with z1 z2;injection z1 with z1;injection z2 with z2 _;injection z2 with z2;exact Prod.ext z1 z2
def V2(gs:List Fs):(Y7 gs).length<=gs.length:=by
 have key:∀(l acc:List Fs),(l.foldl (λacc f=>if(acc.any λg=>decide (g=f))=true then acc else acc++[f]) acc).length<=acc.length+l.length:=by
  intro l
  induction l with
  |nil=>intro acc;simp
  |cons x r ih=>
   intro acc;rw[foldl_cons];refine Nj (ih _) ?_;split
   .rw[IE];omega
   .simp only[Iv,IE,Oc];omega
 have:=key gs [];unfold Y7;simpa using this
def zf8(gs:List Fs)(f:Fs):Y7 (gs++[f])=if((Y7 gs).any λg=>decide (g=f))=true then Y7 gs else Y7 gs++[f]:=by unfold Y7;rw[List.foldl_append];rfl
section
def W9{σ:St}{G:Hp}{ta:TE}{t:TA}{i:Nat}{pb Pt:AD}{cr:Nat->Nat->Option Str}{book:LB}{d0 d:PD}{ds:LA}{R:LB->LA->PD->Prop}(hT:G Pt=some (.tbl cr))(hpb:G pb=some (.tup (book.map V.str)))(hi:σ[i]?=some (some (.ref pb)))(ha:Ev K ta σ G d0)(h:EvA K t σ G ds)(hR:R book (d0::ds) d):
  Ev K (zaf (spB K Pt cr R) [] E0 (Z4 ta (Z4 (XH i) t))) σ G d:=λG1 H s1 s2 Q k=>ha G1 H s1 s2 _ λv1 G2 H2 g2 h1=>⟨_,hi,h G2 H2 (s1.trans g2.gg) g2.gh _ λvs G3 H3 g3 h3=>by
  have g23:=g2.trans g3;have sG:=s1.trans g23.gg;refine⟨G3,book,v1,pb,vs,d0::ds,d,(by simp),sG _ _ hT,g3.gh,sG _ _ hpb,Zv (h1.same g3.gg) h3,hR,λv G' H' g' hv=>k v G' H' (g23.trans g') hv⟩⟩
def zd2(T:Top K mg)(M:Bs K mg base)(W:Wds K w.params mg)(W1:Txs K w.params mg "AHEAD" Xj)(W2:Txs K w.params mg "OTHER_WAY" Xg):T.Vk.O P w base 7 (spB K T.ZR ZP zlN):=by
 have G_looked:=@zbV T M W W1 W2;refine T.Vk.F.ok zcl (λvs H Q E h=>?_) (λcdv A outer s H vs Q E hr h=>?_)
 .obtain⟨G,book,vo,pb,us,ds,d,rfl,_,_,_,hd,⟨ws,num,f,gs,rfl,_⟩,_⟩:=h;have:=hd.length;simp only[IE,Oc]at this ⊢;omega
 .obtain⟨G,book,vo,pb,us,ds,d,rfl,hT,sg,hpb,hd,⟨ws,num,f,gs,rfl,⟨o1,o2,o3,o4⟩,hf,hgs,hl,rfl⟩,k⟩:=h;obtain⟨v0,r0,e0,h0,hd⟩:=hd.cons;cases e0
  rename Yl K G us _=>hd
  obtain⟨v1,r1,rfl,h1,hd⟩:=hd.cons;obtain⟨v2,r2,rfl,h2,hd⟩:=hd.cons;cases hd.nil;have zl:(2000:Nat)<=sizeLine:=by decide
  refine⟨_,(Zo (Zx (UL (x:= "other") (cap:=["order", "book", "one"]) (js:=[0,1,2]) ⟨rfl,(by decide +kernel),(by decide +kernel),rfl,(by show ∀ p∈(_:List (Str×NameKind)),p.2=NameKind.free->List.lookup p.1 (Zi Qa).names=some NameKind.cell;decide +kernel),(by decide +kernel),(by decide +kernel),(by decide +kernel)⟩ rfl rfl (λ_ _ h=>h) (Vl (pv 3)) (λ_ _ _ _=>⟨XJ,(peN T.WN G_looked hr (Za (pv 1) (Za (pv 2) (Za (pv 3) (Za (pv 0) Zf Zd) Zd) Zd) Zd))⟩)))) ,?_⟩;refine ZX (K:=K) (zda (js:=[0,1,2]) gs dT (λg=>some (.str (Z3 book ws f g).t)) (Zc rfl h2) (by omega) λG2 i g x s3 hg hx=>lc1 X7 (zfq (s3 _ _ hT) (s3 _ _ hpb) ⟨⟨hf.1,(hgs g (Ii hg)).1,hf.2,(hgs g (Ii hg)).2⟩,o2,o3⟩ rfl (Zc rfl (h0.same s3)) (Zc rfl (h1.same s3)) (Zc rfl hx) o1 o4 (zdD f g o3 o1))) sg λv G' H' g' hv=>k v G' H' g' ?_;rw[Wz]at hv;exact hv
def za5(T:Top K mg)(M:Bs K mg base)(W:Wds K w.params mg)(W1:Txs K w.params mg "AHEAD" Xj)(W2:Txs K w.params mg "OTHER_WAY" Xg):T.Jl.O P w base 8 (spB K T.ZR ZP zmb):=by
 have G_looks_of:=@zd2 T M W W1 W2;refine T.Jl.F.ok zcN (λvs H Q E h=>?_) (λcdv A outer s H vs Q E hr h=>?_)
 .obtain⟨G,book,vo,pb,us,ds,d,rfl,_,_,_,hd,⟨ws,num,gs,rfl,_⟩,_⟩:=h;have:=hd.length;simp only[IE,Oc]at this ⊢;omega
 .obtain⟨G,book,vo,pb,us,ds,d,rfl,hT,sg,hpb,hd,⟨ws,num,gs,rfl,oc,hgs,hl,rfl⟩,k⟩:=h;obtain⟨v0,r0,e0,h0,hd⟩:=hd.cons;cases e0
  rename Yl K G us _=>hd
  obtain⟨v2,r2,rfl,h2,hd⟩:=hd.cons;cases hd.nil;have zl:(2000:Nat)<=sizeLine:=by decide
  refine⟨_,(Zo (Zx (UL (x:= "one") (cap:=["order", "book", "things"]) (js:=[0,1,2]) ⟨rfl,(by decide +kernel),(by decide +kernel),rfl,(by show ∀ p∈(_:List (Str×NameKind)),p.2=NameKind.free->List.lookup p.1 (Zi J8).names=some NameKind.cell;decide +kernel),(by decide +kernel),(by decide +kernel),(by decide +kernel)⟩ rfl rfl (λ_ _ h=>h) (Vl (pv 2)) (λ_ _ _ _=>⟨XJ,(peN T.Vk G_looks_of hr (Za (pv 1) (Za (pv 2) (Za (pv 0) (Za (pv 3) Zf Zd) Zd) Zd) Zd))⟩)))) ,?_⟩;refine ZX (K:=K) (zda (js:=[0,1,2]) gs dT (λf=>some (.list (gs.map λg=>.str (Z3 book ws f g).t))) (Zc rfl h2) (by omega) λG2 i f x s3 hf hx=>lc1 X7 (W9 (s3 _ _ hT) (s3 _ _ hpb) rfl (Zc rfl (h0.same s3)) (Zb (Zc rfl hx) (Zb (Zc rfl (h2.same s3)) Zn)) ⟨ws,num,f,gs,rfl,oc,hgs f (Ii hf),hgs,hl,rfl⟩)) sg λv G' H' g' hv=>k v G' H' g' ?_;rw[Wz]at hv;exact hv
def zcO(T:Top K mg):T.Y0.O P w base 2 (spP K zcB):=by
 refine T.Y0.F.ok J5 (λvs H Q E h=>?_) (λcdv A outer s H vs Q E hr h=>?_)
 .obtain⟨G,as,d,sg,hv,⟨gs,rfl,_⟩,_⟩:=h;rw[hv.length];rfl
 .obtain⟨G,as,d,sg,hv,⟨gs,rfl,hl,rfl⟩,k⟩:=h;obtain⟨v1,r1,rfl,h1,hv⟩:=hv.cons;cases hv.nil;have hu:=hr.units;have zl:(2000:Nat)<=sizeLine:=by decide
  obtain⟨pt,vs,rfl,hpt,hvs⟩:=h1.tup;have hvl:vs.length=gs.length:=by rw[hvs.length,Ig]
  refine⟨_,(Ze (Zy (i:=1) J5.nd rfl (Or.inl rfl) (zgE rfl rfl))
   (Ze (JR IT rfl (Ql (pv 0)) (YD (i:=2) J5.nd rfl (Or.inl rfl)) (Zo (zgp (K:=K) rfl rfl rfl hu (pv 1) (pv 2) zby (by rfl))))
   (Zo (Zx (Xk (zd6 rfl rfl rfl) (by rfl) T.zmZ zhf (Za (pv 1) Zf Zd)))))) ,?_⟩
  refine λpk hpk=>?_;have gpk:G pk=none:=sg.free hpk;refine⟨_,rfl,pt,rfl,⟨vs,(sg.trans (ZZ hpk)).tup hpt⟩,zjQ (xs:=vs) (λi σ H' => ∃(v:Option V)(xs:List (KX×AD)),σ=[some (.ref pt),some (.ref pk),v]/\(∀ b o,b≠pk->H b=some o->H' b=some o)/\H' pk=some (dX P w pk xs)/\xs.map (·.1)=(Y7 (gs.take i)).map zbh/\(∀ z∈xs,Dat K G (.ref z.2) (zbm z.1))/\∀ b,H b=none->b≠pk->H' b=none)
   ⟨_,[],rfl,λb o n e=>by rw[Zm n];exact e,Zh,rfl,(λz hz=>(by cases hz)),λb e n=>by rw[Zm n];exact e⟩ ?_ ?_ ?_⟩
  .rintro i σ H' _ ⟨v,xs,rfl,kp,_⟩;have sG' : ZF G H':=λb o e=>kp b o (Zk e gpk) (sg b o e);exact sG'.tup hpt
  .rintro i x σ H' hx ⟨v,xs,rfl,kp,hk,hkeys,hdat,hfr⟩;have hi:i<gs.length:=by have:=(Ik.mp hx).1;omega
   obtain⟨dd,hdd,hxd⟩:=hvs.zel hx;rw[Io,Ib hi]at hdd;have hdd:some (dT gs[i])=some dd:=hdd;injection hdd with hdd;subst hdd;obtain⟨px,ys,rfl,hpx,hys⟩:=hxd.tup;have sG' : ZF G H':=λb o e=>kp b o (Zk e gpk) (sg b o e);have hlx:xs.length<=gs.length:=by
    have e1:xs.length=(Y7 (gs.take i)).length:=by have:=Na List.length hkeys;simpa using this
    have:=V2 (gs.take i);rw[NV]at this;omega
   have hxk:Dat K G (.ref px) (zbm (zbh gs[i])):=by rw[VV];exact hxd
   refine⟨_,rfl,_,rfl,pk,px,zbh gs[i],xs,G,rfl,rfl,rfl,hk,sG',hxk,hdat,(by omega),?_⟩;refine⟨_,zhk xs (zbh gs[i]) px,rfl,λb o n e=>by rw[Zm n];exact kp b o n e,Zh,?_,λz hz=>?_,λb e n=>by rw[Zm n];exact hfr b e n⟩
   .have ht:gs.take (i+1)=gs.take i++[gs[i]]:=by rw[take_succ,Ib hi];rfl
    rw[ht,zf8];have hiff:zlT xs (zbh gs[i])=true↔((Y7 (gs.take i)).any λg=>decide (g=gs[i]))=true:=by
     rw[zaK,hkeys,any_eq_true];constructor
     .intro h;obtain⟨g,hg,e⟩:=NI.mp h;exact⟨g,hg,Iq (zc1 e)⟩
     .rintro⟨g,hg,e⟩;exact NI.mpr ⟨g,hg,by rw[Ir e]⟩
    unfold zhk;by_cases h:zlT xs (zbh gs[i])=true
    .rw[IA h,IA (hiff.mp h)];exact hkeys
    .rw[Iw h,Iw (λz=>h (hiff.mpr z)),Ni,Ni,hkeys];rfl
   .unfold zhk at hz;split at hz
    .exact hdat z hz
    .rcases NN.mp hz with hz | hz
     .exact hdat z hz
     .rw[IN.mp hz];exact hxk
  .rintro σ H' ⟨v,xs,rfl,kp,hk,hkeys,hdat,hfr⟩;refine⟨_,rfl,pk,xs,rfl,hk,λl hlf=>?_⟩;have sG' : ZF G H':=λb o e=>kp b o (Zk e gpk) (sg b o e);have sH' : ZF H H':=λb o e=>kp b o (Zk e hpk) e;have g1:=Yd (o:=.lst (xs.map λx=>V.ref x.2)) sG' hlf;refine k _ _ _ ((Vy sg sH').trans g1) (YJ Zh ?_);have ht:gs.take vs.length=gs:=by rw[hvl];exact take_length
   rw[ht]at hkeys;have key:∀(xs:List (KX×AD))(us:List Fs),xs.map (·.1)=us.map zbh->(∀ z∈xs,Dat K G (.ref z.2) (zbm z.1))->Yl K G (xs.map λx=>V.ref x.2) (us.map dT):=by
    intro xs
    induction xs with
    |nil=>
     intro us e _;cases us with
     |nil=>exact ZC
     |cons u r=>cases e
    |cons x r ih=>
     intro us e hd;cases us with
     |nil=>cases e
     |cons u q=>simp only[Nb,List.cons.injEq]at e;have:=hd x IC;rw[e.1,VV]at this;exact Zv this (ih q e.2 λz hz=>hd z (Iz _ hz))
   exact(key xs _ hkeys hdat).same g1.gg
def zc4(T:Top K mg):T.Jf.O P w base 1 (spP K zeR):=by
 refine T.Jf.F.ok zcz (λvs H Q E h=>?_) (λcdv A outer s H vs Q E hr h=>?_)
 .obtain⟨G,as,d,sg,hv,⟨L,gs,rfl,_⟩,_⟩:=h;rw[hv.length];rfl
 .obtain⟨G,as,d,sg,hv,⟨L,gs,rfl,hl,rfl⟩,k⟩:=h;obtain⟨v1,r1,rfl,h1,hv⟩:=hv.cons;cases hv.nil;have zl:(2000:Nat)<=sizeLine:=by decide
  refine⟨_,(Zo (Zx (UL (x:= "row") (cap:=[]) (js:=[]) ⟨rfl,(by decide +kernel),(by decide +kernel),rfl,(by show ∀ p∈(_:List (Str×NameKind)),p.2=NameKind.free->List.lookup p.1 (Zi Qf).names=some NameKind.cell;decide +kernel),(by decide +kernel),(by decide +kernel),(by decide +kernel)⟩ rfl rfl (λ_ _ h=>h) (Vl (pv 0)) (λ_ _ _ _=>⟨XJ,(zlb (K:=K) rfl Nf slot_list_count type_list_count (zaZ (K:=K) rfl) (pv 0) (Za Zz Zf Zj))⟩)))) ,?_⟩;refine ZX (K:=K) (zda (js:=[]) gs (λf=>.list (gs.map λg=>.str (L f g).t)) (λf=>some (.int (rk L gs f:Nat))) (Zc rfl h1) (by omega) λG2 i f x s3 hf hx=>lc1 X7 ?_) sg λv G' H' g' hv=>k v G' H' g' (by rw[Wz]at hv;exact hv);refine λG1 H1 s1 s2 Q' k' => ?_;have hx':=hx.same s1;obtain⟨p,ys,rfl,hp,hys⟩:=hx'.lst;have e:ys=(gs.map λg=>(L f g).t).map V.str:=Ux (ws:=gs.map λg=>(L f g).t) (by rw[Oy];exact hys);subst e;have hp':=s2 _ _ hp;refine⟨_,rfl,.inl ⟨rfl,_,SqL.of hp'⟩,p,gs.map λg=>(L f g).t,S "behind",rfl,rfl,SqL.of hp',k' _ G1 H1 (Yi.refl s2) ?_⟩;have ec:(gs.map λg=>(L f g).t).countP (λs=>decide (s=S "behind"))=rk L gs f:=by rw[List.countP_map];unfold rk;congr 1;funext g;show decide ((L f g).t=An.behind.t)=decide (L f g = .behind);exact NY.mpr ziK
  rw[ec];exact Zr _
def zin(T:Top K mg):T.Uv.O P w base 1 (spP K zkG):=by
 refine T.Uv.F.ok zdG (λvs H Q E h=>?_) (λcdv A outer s H vs Q E hr h=>?_)
 .obtain⟨G,as,d,sg,hv,⟨i,j,rfl,_⟩,_⟩:=h;rw[hv.length];rfl
 .obtain⟨G,as,d,sg,hv,⟨i,j,rfl,rfl⟩,k⟩:=h;obtain⟨v1,r1,rfl,h1,hv⟩:=hv.cons;obtain⟨v2,r2,rfl,h2,hv⟩:=hv.cons;cases hv.nil;refine⟨_,(Ze (YB (ZD zcV (pv 0) (pv 1) (ZQ _)) (Zo (Zx Zz)) ZL)
   (Zo (Zx (W3 (ZD zfV (pv 0) (pv 1) (ZQ _)) Zz Zz)))) ,?_⟩
  refine QQ (ZM (K:=K) (Q3 (Zc rfl h1) (Zc rfl h2) (Yu _))) sg (λe G1 H1 g1=>?_) (λe G1 H1 g1=>?_)
  .have e' : (i:Int)<j:=Ir e;have:Vm i j = .ahead:=by unfold Vm;rw[IA (by omega)]
   exact k _ G1 H1 g1 (by rw[this];exact Z5 _)
  .have e' : ¬ (i:Int)<j:=Nk e;refine ZX (K:=K) (d:=.str (Vm i j).t) (VF (ZM (K:=K) (Q3 (Zc rfl (h1.same g1.gg)) (Zc rfl (h2.same g1.gg)) (Yu _))) (λz=>?_) (λz=>?_)) g1.gh λv G2 H2 g2 hv=>k v G2 H2 (g1.trans g2) hv
   .have z' : (i:Int)>j:=Ir z;have:Vm i j = .behind:=by unfold Vm;rw[Iw (by omega),IA (by omega)]
    rw[this];exact ZJ
   .have z' : ¬ (i:Int)>j:=Nk z;have:Vm i j = .like:=by unfold Vm;rw[Iw (by omega),Iw (by omega)]
    rw[this];exact ZJ
end
section
def Uk{α:Type}{l:List α}{i:Nat}{x:α}(h:l[i]?=some x){p:α->Prop}(h1:∀ y∈l.take i,p y)(h2:p x):∀ y∈l.take (i+1),p y:=λy hy=>by
 rw[take_succ,h]at hy;rcases NN.mp hy with hy | hy
 .exact h1 y hy
 .have:y=x:=by simpa using hy
  rw[this];exact h2
def zaz(T:Top K mg):T.Y5.O P w base 2 (zbz K):=by
 have G_ranks_in:=@zc4 T;have G_by_size:=@zin T;refine T.Y5.F.ok Yx (λvs H Q E h=>?_) (λcdv A outer s H vs Q E hr h=>?_)
 .obtain⟨G,v1,L,gs,rfl,_⟩:=h;rfl
 .obtain⟨G,v1,L,gs,rfl,sg,h1,hl,k1,k2⟩:=h;have zl:(2000:Nat)<=sizeLine:=by decide
  refine⟨_,(Ze (Zy (i:=1) Yx.nd rfl (Or.inl rfl) (peN T.Jf G_ranks_in hr (Za (pv 0) Zf Zd)))
   (Ze (JR IT rfl (zds (by rfl) T.Vj (Za (pv 0) Zf Zd)) (zb4 (n:=2) rfl (Xq (YD (i:=2) Yx.nd rfl (Or.inl rfl)) (Xq (YD (i:=3) Yx.nd rfl (Or.inl rfl)) Vo)) (by rfl)) (Zo (JR IT rfl (zds (by rfl) T.Vj (Za (pv 3) Zf Zd)) (zb4 (n:=2) rfl (Xq (YD (i:=4) Yx.nd rfl (Or.inl rfl)) (Xq (YD (i:=5) Yx.nd rfl (Or.inl rfl)) Vo)) (by rfl)) (Zo (YB (ZD zmr (pv 5) (peN T.Uv G_by_size hr (Za (Z0 (Zw (K:=K) rfl) (pv 1) (pv 2) (λ_ _=>rfl)) (Za (Z0 (Zw (K:=K) rfl) (pv 1) (pv 4) (λ_ _=>rfl)) Zf Zt) Zt)) (ZQ _)) (Zo (Zx (Yg (Za (pv 2) (Za (pv 4) Zf Zd) Zd)))) ZL)))))
   (Zo (Zx QH)))) ,?_⟩
  refine Jt (K:=K) (Yk (E:=E0) (R:=zeR) (Zb (Zc rfl h1) Zn) ⟨L,gs,rfl,hl,rfl⟩) sg λv2 G1 H1 g1 h2=>?_;have h11:=h1.same g1.gg;obtain⟨pt,af,rfl,hpt,hrows⟩:=h11.lst;have hrl:af.length=gs.length:=by rw[hrows.length,Ig]
  have RKx:∀{σ' : St}{G' : Hp}{j i:Nat},ZF G1 G' -> σ'[1]?=some (some v2)->σ'[j]?=some (some (.int (i:Nat)))->∀ f,gs[i]?=some f->Ev K (tOp (zgt K) (XH 1) (XH j)) σ' G' (.int (rk L gs f:Nat)):=λ{σ' G' j i} s e1 e2 f hf=>by have hi:i<gs.length:=(Ik.mp hf).1;exact YG (n:=i) (Zc e1 (h2.same s)) (Zc e2 (Zr _)) (by rw[Ig];exact XN hi) (by rw[Io,hf];rfl)
  refine⟨_,rfl,pt,rfl,⟨af,SqL.of (g1.gh _ _ hpt)⟩,zbt (xs:=af) (λi σ H' => ∃(v2' v3 v4 v5:Option V)(G' : Hp),σ=[some (.ref pt),some v2,v2',v3,v4,v5]/\Yi G1 H1 G' H' /\ ∀ f∈gs.take i,∀ g∈gs,L f g=Vm (rk L gs f) (rk L gs g)) ⟨_,_,_,_,G1,rfl,Yi.refl g1.gh,λf hf=>by simp at hf⟩ ?_ ?_ ?_⟩
  .rintro i σ H' _ ⟨v2',v3,v4,v5,G',rfl,g,_⟩;exact SqL.of (g.hh _ _ (g1.gh _ _ hpt))
  .rintro i x σ H' p hx ⟨v2',v3,v4,v5,G',rfl,g,ac⟩ hp;have hi:i<gs.length:=by have:=(Ik.mp hx).1;omega
   have hgi:gs[i]?=some gs[i]:=Ib hi;obtain⟨dd,hdd,hxd⟩:=hrows.zel hx;rw[Io,hgi]at hdd;have hdd:some (PyData.list (gs.map λg=>.str (L gs[i] g).t))=some dd:=hdd;injection hdd with hdd;subst hdd;generalize gs[i]=f at hgi hxd;have gp:=Yd (o:=.tup [.int (i:Nat),x]) g.gh hp;have gA:=g.trans gp;refine⟨p,_,rfl,SqT.of Zh,rfl,_,_,rfl,_,_,rfl,rfl,?_⟩;obtain⟨px,ys,rfl,hpx,hys⟩:=hxd.lst;have hyl:ys.length=gs.length:=by rw[hys.length,Ig]
   have hpx':=gA.hh _ _ (g1.gh _ _ hpx);refine⟨_,rfl,px,rfl,⟨ys,SqL.of hpx'⟩,zbt (xs:=ys) (λj σ H' => ∃(v4 v5:Option V)(G' : Hp),σ=[some (.ref pt),some v2,some (.int (i:Nat)),some (.ref px),v4,v5]/\Yi G1 H1 G' H' /\ ∀ g∈gs.take j,L f g=Vm (rk L gs f) (rk L gs g)) ⟨_,_,_,rfl,gA,λg hg=>by simp at hg⟩ ?_ ?_ ?_⟩
   .rintro j σ H' _ ⟨v4,v5,G',rfl,g,_⟩;exact SqL.of (g.hh _ _ (g1.gh _ _ hpx))
   .rintro j y σ H2 q hy ⟨v4,v5,G2,rfl,gB,hok2⟩ hq;have hj:j<gs.length:=by have:=(Ik.mp hy).1;omega
    have hgj:gs[j]?=some gs[j]:=Ib hj;obtain⟨dd,hdd,hyd⟩:=hys.zel hy;rw[Io,hgj]at hdd;have hdd:some (PyData.str (L f gs[j]).t)=some dd:=hdd;injection hdd with hdd;subst hdd;generalize gs[j]=g' at hgj hyd;have gq:=Yd (o:=.tup [.int (j:Nat),y]) gB.gh hq;have gC:=gB.trans gq;refine⟨q,_,rfl,SqT.of Zh,rfl,_,_,rfl,_,_,rfl,rfl,?_⟩;refine QQ (ZM (K:=K) (zly (Zc rfl (hyd.same gC.gg)) (Yk (E:=E0) (R:=zkG) (Zb (RKx gC.gg rfl rfl f hgi) (Zb (RKx gC.gg rfl rfl g' hgj) Zn)) ⟨_,_,rfl,rfl⟩))) gC.gh (λe G3 H3 g3=>?_) (λe G3 H3 g3=>?_)
    .refine⟨_,rfl,_,rfl,(by show 2<=sizeLine;decide),λt ht=>?_⟩;have gD:=gC.trans g3;have gt:=Yd (o:=.tup [V.int (i:Nat),V.int (j:Nat)]) gD.gh ht;refine k2 t i j f g' _ _ (g1.trans (gD.trans gt)) hgi hgj (λz=>?_) (Xy (SqT.of Zh) (Zv (Zr _) (Zv (Zr _) ZC)));rw[z,Iq rfl]at e;cases e
    .have e' : L f g'=Vm (rk L gs f) (rk L gs g'):=by
      by_cases z:(L f g').t=(Vm (rk L gs f) (rk L gs g')).t
      .exact ziK.mp z
      .rw[Iy z]at e;cases e
     exact⟨_,_,G3,rfl,gC.trans g3,Uk hgj hok2 e'⟩
   .rintro σ H2 ⟨v4,v5,G2,rfl,gB,hok2⟩;have ht:gs.take ys.length=gs:=by rw[hyl];exact take_length
    rw[ht]at hok2;exact⟨_,_,_,_,G2,rfl,gB,Uk hgi ac hok2⟩
  .rintro σ H' ⟨v2',v3,v4,v5,G',rfl,g,ac⟩;have ht:gs.take af.length=gs:=by rw[hrl];exact take_length
   rw[ht]at ac;refine k1 G' H' (g1.trans g) ?_;unfold agree;exact Nz.mpr λf hf=>Nz.mpr λg hg=>Iq (ac f hf g hg)
def zdo(T:Top K mg):T.Wb.O P w base 3 (spP K zdm):=by
 have G_against_ranks:=@zaz T;refine T.Wb.F.ok zam (λvs H Q E h=>?_) (λcdv A outer s H vs Q E hr h=>?_)
 .obtain⟨G,as,d,sg,hv,⟨L,gs,rfl,_⟩,_⟩:=h;rw[hv.length];rfl
 .obtain⟨G,as,d,sg,hv,⟨L,gs,rfl,hl,rfl⟩,k⟩:=h;obtain⟨v1,r1,rfl,h1,hv⟩:=hv.cons;cases hv.nil;refine⟨_,(Zo (Zx (Ue zhH (peN T.Y5 G_against_ranks hr (Za (pv 0) Zf Zd)) QH (ZQ _)))) ,?_⟩;refine⟨_,rfl,G,v1,L,gs,rfl,sg,h1,hl,λG' H' g ha=>?_,λp i j f' g' G' H' g h1 h2 h3 _=>?_⟩
  .refine⟨rfl,?_⟩;rw[ha]at k;exact k _ G' H' g (Yu _)
  .refine⟨rfl,?_⟩;rw[zhq (Ii h1) (Ii h2) h3]at k;exact k _ G' H' g (Yu _)
end
end K29
namespace L2
open PySem PySem.Spec PyProof.Rows
variable {ta tb te:TE}{js:List Nat}
abbrev YE:=KX×AD×Int
def zkd(x:YE)(z:KX×AD×Value):Prop:=z.1=x.1/\z.2.1=x.2.1/\∃ t,z.2.2 = .int x.2.2 t
def zm1(P:Program)(w:World)(a:AD)(xs:List YE)(h:Heap):Prop:=(a==sysModules)=false/\xs.length<=sizeLine/\∃(zs:List (KX×AD×Value))(o:Obj)(es:Array DictEntry)(ep:Nat),h.get? a=some o/\o.ExactDict/\o.data = .dict es ep/\es.toList=zs.map (entryOfKey (zgr (Xh P w)))/\Paired zkd xs zs/\(xs.map (·.1)).Nodup
noncomputable def dY(P:Program)(w:World)(a:AD)(xs:List YE):HO:=.ext (zm1 P w a xs)
def zhX{P:Program}{w:World}{H:Hp}{h:Heap}{a:AD}{xs:List YE}(x:zm1 P w a xs h):Yt P w H h a (dY P w a xs):=by
 refine⟨x,?_,λh1 h2 y k=>?_⟩
 .obtain⟨_,_,_,o,_,_,e,_⟩:=x;exact⟨o,e⟩
 .obtain⟨z1,z2,zs,o,es,ep,e,r⟩:=y;exact⟨z1,z2,zs,o,es,ep,k o e,r⟩
theorem yk:∀{xs:List YE}{zs:List (KX×AD×Value)},Paired zkd xs zs->zs.map (·.1)=xs.map (·.1)/\∀ z∈zs,∃ x∈xs,zkd x z
 |_,_,.nil=>⟨rfl,λ_ h=>by cases h⟩
 |_,_,.cons r t=>by
  obtain⟨h1,h2⟩:=yk t;refine⟨by rw[Nb,Nb,h1,r.1],λz hz=>?_⟩;rcases ID.mp hz with rfl | hz
  .exact⟨_,IC,r⟩
  .obtain⟨x,hx,e⟩:=h2 z hz;exact⟨x,Iz _ hx,e⟩
def zdE{zs:List (KX×AD×Value)}{k:KX}(h:k∉zs.map (·.1)):atKey zs k=none:=by unfold atKey;rw[Option.map_eq_none_iff,List.find?_eq_none];intro z hz e;exact h (NI.mpr ⟨z,hz,Ir e⟩)
theorem zeE:∀{xs:List YE}{zs:List (KX×AD×Value)},Paired zkd xs zs->∀{k:KX}{b:AD}{n:Int},(xs.map (·.1)).Nodup->(k,b,n)∈xs->∃ t,atKey zs k=some (b,.int n t)
 |_,_,.nil,k,b,n,_,h=>by cases h
 |_,_,.cons (a:=x) (b:=z) r t,k,b,n,hn,h=>by
  unfold atKey;rcases ID.mp h with e | h
  .obtain⟨r1,r2,u,r3⟩:=r;subst e;refine⟨u,?_⟩;rw[OF,Iq r1];show some z.2=some (b,.int n u);congr 1;exact Prod.ext r2 r3
  .have hn' : x.1∉_/\_:=nodup_cons.mp hn;have ne:¬ z.1=k:=λe=>hn'.1 (NI.mpr ⟨_,h,by rw[← e,r.1]⟩);rw[OF,Iy ne];exact zeE t hn'.2 h
section
variable {X:Cx}{aa:List (Addr×Obj)}{σ:St}{H G:Hp}{s:SH}
def zlA(P:Program)(w:World):TE:=λ_ H Q=>∀ p,H p=none->Q (.ref p) (upd H p (dY P w p []))
def zg5{P:Program}{w:World}(eP:X.prog=P)(ew:X.w=w){pos:Pos}:PE X (.Dict [] [] pos) (zlA P w):=by
 subst eP ew;exact λaa s σ H Q I h=>
 wpAny_Dict_empty ⟨.ref s.heap.objs.size,_,I.laid (a:=s.heap.objs.size) (o:=dY X.prog X.w s.heap.objs.size []) (t':=s.toks) (λ_ _ q=>Ie _ q) (Ih _)
  (zhX ⟨beq_eq_false_iff_ne.mpr (Ne.symm (IM I.big)),Nl _,[],_,#[],0,Il _ rfl,⟨rfl,rfl,rfl⟩,rfl,rfl,.nil,nodup_nil⟩),rfl,h _ (I.ac.fresh (Ih _))⟩
def zlk(I:Inv X aa σ H s)(sg:ZF G H){a:AD}{xs:List YE}(ha:H a=some (dY X.prog X.w a xs))(hxs:∀ z∈xs,Dat X.K G (.ref z.2.1) (zbm z.1)):(a==sysModules)=false/\∃ zs,Paired zkd xs zs/\s.heap.DictOfH (zgr (Xh X.prog X.w)) a zs/\(xs.map (·.1)).Nodup:=by
 obtain⟨⟨hsm,_,zs,o',es,ep,h1,h2,h3,h4,h5,h6⟩,_⟩:=(show Yt X.prog X.w H s.heap a (dY X.prog X.w a xs)from I.ac a _ ha)
 obtain⟨q1,q2⟩:=yk h5;refine⟨hsm,zs,h5,⟨o',es,ep,h1,h2,h3,h4,λz hz=>?_,by rw[q1];exact h6⟩,h6⟩;obtain⟨x,hx,r⟩:=q2 z hz;have:=zb1 I sg (hxs x hx);rw[← r.1,← r.2.1]at this;exact this
def zkF(P:Program)(w:World)(K:FG)(td ty tv:TE):TS:=λD σ H=>tv σ H λv H1=>td σ H1 λx H2=>ty σ H2 λy H3=>∃(n:Int)(a b:AD)(k:KX)(xs:List YE)(G:Hp),v = .int n/\x = .ref a/\y = .ref b/\H3 a=some (dY P w a xs)/\ZF G H3/\Dat K G (.ref b) (zbm k)/\(∀ z∈xs,Dat K G (.ref z.2.1) (zbm z.1))/\k∉xs.map (·.1)/\xs.length<sizeLine/\D.nx σ (upd H3 a (dY P w a (xs++[(k,b,n)])))
def zhu{P:Program}{w:World}{K:FG}(eP:X.prog=P)(ew:X.w=w)(eK:X.K=K){o i value:Expr}{pos pos' : Pos}{td ty tv:TE}(hu:X.A.units+64<cLine)(ho:PE X o td)(hi:PE X i ty)(hv:PE X value tv)(hs:swapsWith value (some (.Subscript o i pos')) pos.line X.env=pure false):
  PS X (.Assign [.Subscript o i pos'] value pos) (zkF P w K td ty tv):=by
 subst eP ew eK;intro aa s σ H D I h;refine wpAny_Assign_Subscript (thn (hv aa s σ H _ I h) λr s1 ⟨v,H1,I1,rv,q1⟩=>thn (ho aa s1 σ H1 _ I1 q1) λu s2 ⟨x,H2,I2,rx,q2⟩=>thn (hi aa s2 σ H2 _ I2 q2) λiv s3 ⟨y,H3,I3,ry,n,a,b,k,xs,G,ev,ex,ey,ha,sg,hb,hxs,hk,hl,q3⟩=>?_) hs;subst ev ex ey;obtain⟨tk,rfl⟩:∃ t,r=Value.int n t:=rv;obtain rfl:u=Value.ref a:=rx;obtain rfl:iv=Value.ref b:=ry;obtain⟨hsm,zs,pr,dd,hnd⟩:=zlk I3 sg ha hxs;obtain⟨q1,_⟩:=yk pr;have hlz:zs.length=xs.length:=by have:=Na List.length q1;simpa using this
 refine wpAny_setItem_heap (hsz:=by omega) (show X.A.units+1+1<cLine by omega) (zb1 I3 sg hb) dd λh' dd' hs=>?_;rw[storedH_new (zdE (by rw[q1];exact hk))]at dd';obtain⟨q,es',ep',hq,g2,g3,g4,_,g5⟩:=dd';refine⟨σ,_,zfz I3 (by rw[ha];exact True.intro) hs ⟨q,hq⟩ (zhX ⟨hsm,?_,zs++[(k,b,.int n tk)],q,es',ep',hq,g2,g3,g4,pr.snoc ⟨rfl,rfl,tk,rfl⟩,?_⟩),q3⟩
 .rw[Iv];show xs.length+1<=sizeLine;omega
 .rw[Ni]at g5 ⊢;rw[← q1];exact g5
def znh(P:Program)(w:World)(K:FG):R2:=λx y H Q=>∃(n:Int)(a b b' : AD)(k:KX)(xs:List YE)(G:Hp),x = .ref a/\y = .ref b/\H a=some (dY P w a xs)/\ZF G H/\Dat K G (.ref b) (zbm k)/\(∀ z∈xs,Dat K G (.ref z.2.1) (zbm z.1))/\(k,b',n)∈xs/\Q (.int n) H
def zmJ{P:Program}{w:World}{K:FG}(eP:X.prog=P)(ew:X.w=w)(eK:X.K=K)(hu:X.A.units+64<cLine):IxR X (znh P w K):=by
 subst eP ew eK;intro value slice aa s σ H x y v u Q I rx ry h hs;obtain⟨n,a,b,b',k,xs,G,rfl,rfl,ha,sg,hb,hxs,hm,q⟩:=h;cases rx;cases ry;obtain⟨hsm,zs,pr,dd,hnd⟩:=zlk I sg ha hxs;obtain⟨t,ht⟩:=zeE pr hnd hm;have hT:s.TypeIs (.ref a) "dict" := dd.typeIs;have h2:wpAny (model X.prog X.w) X.A (getItem (.ref a) (.ref b)) (EP X aa σ Q) X.xe s:=wpAny_getItem_heap (show X.A.units+1+1<cLine by omega) (zb1 I sg hb) dd ht ⟨.int n,H,I.tok _,⟨t,rfl⟩,q⟩;unfold subscriptTail;refine Ia ?_;rw[getitemInPython_of_ne hT.not_modules];refine Ia (NC hT slot_dict_getitem.lookup ?_);have fin:wpAny (model X.prog X.w) X.A (subscripted slice false (.ref a) (.ref b)) (λr s₃=>wpAny (model X.prog X.w) X.A (letTemporaryGo value (.ref a) r >>= λ_=>pure r) (EP X aa σ Q) X.xe s₃) X.xe s:=by rw[hs];exact wpAny_operating (IK h2 (λr s₃ h₃=>Ia (wpAny_letTemporaryGo (Ic h₃))) λ_ _ x=>x)
 first
  |exact Ic (Ia fin)
  |exact Ia (Ic (Ia fin))
  |exact Ia fin
end
open PySem PySem.Spec PyProof.Rows Lw Nm Frac
structure DkA(n:Nat)(H:Hp)(d c:AD):Prop where
 ex:∃(k:Int)(ns:List Int),H d=some (.lst [.ref c,.int k])/\H c=some (.lst (ns.map V.int))/\ns.length<=63/\0<=k/\k+n<=10^9
section
variable {d c:AD}{G H G' H' : Hp}{m n:Nat}
def DkA.mono(D:DkA n H d c)(h:m<=n):DkA m H d c:=by obtain⟨k,ns,h1,h2,h3,h4,h5⟩:=D.ex;exact⟨k,ns,h1,h2,h3,h4,(by omega)⟩
def DkA.same(D:DkA n H d c)(s:ZF H H'):DkA n H' d c:=by obtain⟨k,ns,h1,h2,r⟩:=D.ex;exact⟨k,ns,s _ _ h1,s _ _ h2,r⟩
def DkA.ne(D:DkA n H d c):c≠d:=by
 obtain⟨k,ns,h1,h2,_⟩:=D.ex;rintro rfl;rw[h1]at h2;injection h2 with h2;injection h2 with h2;cases ns with
 |nil=>cases h2
 |cons x r=>simp at h2
theorem DkA.some(D:DkA n H d c):(∃ o,H d=some o)/\∃ o,H c=some o:=by obtain⟨k,ns,h1,h2,_⟩:=D.ex;exact⟨⟨_,h1⟩,_,h2⟩
def V1(k:J1 d c H H')(D:DkA n H' d c){p:AD}(h:H' p=none):H p=none:=by
 obtain⟨⟨o1,h1⟩,⟨o2,h2⟩⟩:=D.some;cases e:H p with
 |none=>rfl
 |some o=>
  have nd:p≠d:=λq=>by rw[q,h1]at h;cases h
  have nc:p≠c:=λq=>by rw[q,h2]at h;cases h
  rw[k p o e nd nc]at h;cases h
structure Dk(n:Nat)(d c:AD)(G H G' H' : Hp):Prop where
 gg:ZF G G'
 gh:ZF G' H'
 fr:∀ b o,G' b=some o->G b=some o\/H b=none
 kp:J1 d c H H'
 D0:DkA 0 H' d c
 cn:∀ N,DkA (N+n) H d c->DkA N H' d c
def Dk.out(k:Dk n d c G H G' H'){p:AD}{o:HO}(hp:H p=some o)(hg:G p=none):G' p=none:=by
 cases e:G' p with
 |none=>rfl
 |some u=>
  rcases k.fr p u e with h | h
  .rw[hg]at h;cases h
  .rw[hp]at h;cases h
def Dk.gd(k:Dk n d c G H G' H')(D:DkA m H d c)(hg:G d=none):G' d=none:=by obtain⟨⟨o,h⟩,_⟩:=D.some;exact k.out h hg
def Dk.gc(k:Dk n d c G H G' H')(D:DkA m H d c)(hg:G c=none):G' c=none:=by obtain⟨_,⟨o,h⟩⟩:=D.some;exact k.out h hg
def Yi.dk(g:Yi G H G' H')(D:DkA m H d c):Dk 0 d c G H G' H':=⟨g.gg,g.gh,g.fr,ZF.but g.hh,(D.mono (Nl _)).same g.hh,λN h=>h.same g.hh⟩
theorem Dk.refl(s:ZF G H)(D:DkA m H d c):Dk 0 d c G H G H:=(Yi.refl s).dk D
theorem Dk.trans{G1 H1:Hp}(a:Dk m d c G H G1 H1)(b:Dk n d c G1 H1 G' H'):Dk (m+n) d c G H G' H':=by
 refine⟨a.gg.trans b.gg,b.gh,λx o e=>?_,a.kp.trans b.kp,b.D0,λN h=>b.cn N (a.cn (N+n) (by rw[add_assoc,Nat.add_comm n m];exact h))⟩;rcases b.fr x o e with h | h
 .exact a.fr x o h
 .exact .inr (V1 a.kp a.D0 h)
def Dk.up(k:Dk m d c G H G' H')(h:m<=n):Dk n d c G H G' H':=⟨k.gg,k.gh,k.fr,k.kp,k.D0,λN D=>k.cn N (D.mono (by omega))⟩
def Dk.zeg(k:Dk m d c G H G' H')(D:DkA (m+n) H d c):DkA n H' d c:=k.cn n (by rw[Nat.add_comm];exact D)
def zjU(s:ZF G H)(hd:G d=none)(hc:G c=none)(D:DkA 0 H' d c)(cn:∀ N,DkA (N+n) H d c->DkA N H' d c)(k:J1 d c H H'):Dk n d c G H G H' :=⟨ZF.refl _,λb o e=>k b o (s b o e) (Zk e hd) (Zk e hc),λ_ _ e=>.inl e,k,D,cn⟩
variable {K:FG}{σ:St}
def Dv(K:FG)(d c:AD)(n:Nat)(t:TE)(σ:St)(G:Hp)(R:PD->Prop):Prop:=∀ G1 H,ZF G G1->ZF G1 H->G1 d=none->G1 c=none->DkA n H d c->∀ Q:VK,(∀ v x G' H',R x->Dk n d c G1 H G' H' -> Dat K G' v x->Q v H')->t σ H Q
def DvA(K:FG)(d c:AD)(n:Nat)(t:TA)(σ:St)(G:Hp)(R:LA->Prop):Prop:=∀ G1 H,ZF G G1->ZF G1 H->G1 d=none->G1 c=none->DkA n H d c->∀ Q:LC->Hp->Prop,(∀ vs xs G' H',R xs->Dk n d c G1 H G' H' -> Yl K G' vs xs->Q vs H')->t σ H Q
def Dv.imp{t:TE}{R R' : PD->Prop}(h:Dv K d c n t σ G R)(hi:∀ x,R x->R' x):Dv K d c n t σ G R':=λG1 H s1 s2 a b D Q k=>h G1 H s1 s2 a b D Q λv x G' H' r=>k v x G' H' (hi x r)
def zeq{t:TE}{x:PD}{R:PD->Prop}(h:Ev K t σ G x)(hR:R x):Dv K d c 0 t σ G R:=λG1 H s1 s2 a b D Q k=>h G1 H s1 s2 _ λv G' H' g hv=>k v x G' H' hR (g.dk D) hv
def zmF{t:TE}{x:PD}(h:Ev K t σ G x):Dv K d c 0 t σ G (· = x):=zeq h rfl
def ziL:DvA K d c 0 Qk σ G (· = []):=λG1 H s1 s2 a b D Q k=>k [] [] G1 H rfl (Dk.refl s2 D) ZC
def zgz{t:TA}{R:PD->Prop}{Rs:LA->Prop}(h:Dv K d c m ta σ G R)(h' : DvA K d c n t σ G Rs):DvA K d c (m+n) (Z4 ta t) σ G (λxs=>∃ x r,xs=x::r/\R x/\Rs r):=λG1 H s1 s2 a b D Q k=>h G1 H s1 s2 a b (D.mono (by omega)) _ λv x G2 H2 hx k2 hv=>h' G2 H2 (s1.trans k2.gg) k2.gh (k2.gd D a) (k2.gc D b) (k2.zeg D) _ λvs xs G3 H3 hxs k3 hvs=>k _ _ G3 H3 ⟨x,xs,rfl,hx,hxs⟩ (k2.trans k3) (Zv (hv.same k3.gg) hvs)
def ziE{r:R2}{Ra Rb R:PD->Prop}(ha:Dv K d c m ta σ G Ra)(hb:Dv K d c n tb σ G Rb)(hr:∀ a b va vb G',Ra a->Rb b->ZF G G' -> Dat K G' va a->Dat K G' vb b->∃ x,R x/\Ev K (tOp r (tC va) (tC vb)) σ G' x):Dv K d c (m+n) (tOp r ta tb) σ G R:=λG1 H s1 s2 a b D Q k=>
 ha G1 H s1 s2 a b (D.mono (by omega)) _ λva x G2 H2 hx k2 hva=>hb G2 H2 (s1.trans k2.gg) k2.gh (k2.gd D a) (k2.gc D b) (k2.zeg D) _ λvb y G3 H3 hy k3 hvb=>by have k23:=k2.trans k3;obtain⟨z,hz,he⟩:=hr x y va vb G3 hx hy (s1.trans k23.gg) (hva.same k3.gg) hvb;exact he G3 H3 (ZF.refl _) k3.gh Q λv G4 H4 g4 hv=>k v z G4 H4 hz (k23.trans (g4.dk k3.D0)) hv
def zgM{q:Int}{R:PD->Prop}(ha:Dv K d c m ta σ G λx=>∃ ds:LA,x = .list ds/\(ds.length:Int)=q/\∀ e∈ds,R e)(hb:Dv K d c n tb σ G λx=>∃ r:Int,x = .int r/\0<=r/\r<q):Dv K d c (m+n) (tOp (zgt K) ta tb) σ G R:=
 ziE ha hb λa b va vb G' h1 h2 s hva hvb=>by
  obtain⟨ds,rfl,hl,hR⟩:=h1;obtain⟨r,rfl,r0,r1⟩:=h2;obtain⟨j,rfl⟩:=NF r0;have hj:j<ds.length:=by omega
  exact⟨ds[j],hR _ (NO hj),YG (n:=j) (zgI hva) (zgI hvb) (XN hj) (Ib hj)⟩
def Dv.use{t:TE}{R:PD->Prop}{Q:VK}(h:Dv K d c n t σ G R)(s:ZF G H)(gd:G d=none)(gc:G c=none)(D:DkA n H d c)(k:∀ v x G' H',R x->Dk n d c G H G' H' -> Dat K G' v x->Q v H'):t σ H Q:=h G H (ZF.refl _) s gd gc D Q k
def zj4{Ed:Ends}{i:Nat}{R:PD->Prop}(h:Dv K d c n te σ G R)(s:ZF G H)(gd:G d=none)(gc:G c=none)(D:DkA n H d c)(k:∀ v x G' H',R x->Dk n d c G H G' H' -> Dat K G' v x->Ed.nx (σ.set i (some v)) H'):zjZ te (VP i) Ed σ H:=h.use s gd gc D k
def zbZ{Ed:Ends}{R:PD->Prop}(h:Dv K d c n te σ G R)(s:ZF G H)(gd:G d=none)(gc:G c=none)(D:DkA n H d c)(k:∀ v x G' H',R x->Dk n d c G H G' H' -> Dat K G' v x->Ed.rt v H'):zmg te Ed σ H:=h.use s gd gc D k
def V4(K:FG)(n:Nat)(R:LA->PD->Prop):Sp:=λvs H Q _=>∃(d c:AD)(G:Hp)(us:LC)(ds:LA),vs = .ref d::us/\ZF G H/\G d=none/\G c=none/\DkA n H d c/\Yl K G us ds/\(∃ x,R ds x)/\∀ v x G' H',R ds x->Dk n d c G H G' H' -> Dat K G' v x->Q v H'
def Xx{E:XK}{i:Nat}{t:TA}{ds:LA}{R:LA->PD->Prop}(hi:σ[i]?=some (some (.ref d)))(h:EvA K t σ G ds)(hR:∃ x,R ds x):Dv K d c n (zaf (V4 K n R) [] E (Z4 (XH i) t)) σ G (R ds):=
 λG1 H s1 s2 a b D Q k=>⟨_,hi,h G1 H s1 s2 _ λvs G2 H2 g2 hv=>by
  have k2:=g2.dk D;show V4 K n R ((.ref d::vs)++[]) H2 Q E;rw[Ng];exact⟨d,c,G2,vs,ds,rfl,k2.gh,k2.gd D a,k2.gc D b,D.same g2.hh,hv,hR,λv x G' H' r k3 hx=>k v x G' H' r ((k2.trans k3).up (by omega)) hx⟩⟩
structure WalkG(J:It)(q:Nat)(G:Hp)(items:Nat->V->Prop):Prop where
 go:∀ i H',ZF G H' -> i<q->J.go i H'
 stop:∀ i H',ZF G H' -> q<=i->J.stop i H'
 yld:∀ i H' x H'',ZF G H' -> J.yld i H' x H'' -> H''=H' /\ items i x
def zk9{wi:TI}{H:Hp}{Q:VK}{q p B:Nat}{R:PD->Prop}(items:Hp->Nat->V->Prop){G1:Hp}(D:DkA (p+B*n) H d c)(s2:ZF G1 H)(gd:G1 d=none)(gc:G1 c=none)(hw:∀ Rw:It->Hp->Prop,(∀ J q G2 H2,q<=B->q<sizeLine->Dk p d c G1 H G2 H2->WalkG J q G2 (items G2)->(∀ v ds G' H',ds.length=q->(∀ e∈ds,R e)->Dk (p+B*n) d c G1 H G' H' -> Dat K G' v (.list ds)->Q v H')->Rw J H2)->wi σ H Rw)(hc:∀ G2 i x,ZF G1 G2->i<B->items G2 i x->Dv K d c n te (some x::WM σ js) G2 R):tLC wi js zaM te σ H Q:=by
 refine hw _ λJ q G2 H2 hq hz k2 W k=>?_;have D2:DkA (B*n) H2 d c:=k2.zeg D;refine⟨λi m ys H' => m=q-i/\i<=q/\∃(G' : Hp)(ds:LA),Dk (i*n) d c G2 H2 G' H' /\ ds.length=i/\Yl K G' ys ds/\∀ e∈ds,R e,⟨q,(by omega),(by omega),G2,[],by rw[Nat.zero_mul];exact Dk.refl k2.gh k2.D0,rfl,ZC,λe he=>by cases he⟩,?_⟩;rintro i m ys H' ⟨rfl,hi,G',ds,k3,hl,hys,hall⟩;have hyl:=hys.length;have k23:=k2.trans k3;refine⟨(by omega),?_⟩;by_cases h:i=q
 .subst h;refine .inl ⟨W.stop i H' (k3.gg.trans k3.gh) (Ih _),λx hp=>?_⟩;have g:=Yd (o:=.lst ys) k3.gh hp;exact k _ ds _ _ hl hall ((k23.trans (g.dk k3.D0)).up (Nat.add_le_add_left (Nat.mul_le_mul_right n hq) p)) (YJ Zh (hys.same g.gg))
 .refine .inr ⟨W.go i H' (k3.gg.trans k3.gh) (by omega),λx H'' hy=>?_⟩;obtain⟨rfl,hit⟩:=W.yld i H' x H'' (k3.gg.trans k3.gh) hy;refine zc2 ?_;have hb:i<B:=by omega
  have eB:B*n=n+((B-i-1)*n+i*n):=by
   have:B=1+((B-i-1)+i):=by omega
   conv=>lhs;rw[this]
   rw[Nat.add_mul,Nat.add_mul,Nat.one_mul]
  have D3:DkA n H'' d c:=(k3.cn (n+(B-i-1)*n) (by rw[add_assoc,← eB];exact D2)).mono (by omega);refine hc G2 i x k2.gg hb hit G' H'' k3.gg k3.gh (k23.gd D gd) (k23.gc D gc) D3 _ λv e G4 H4 re k4 hv=>?_;refine⟨q-(i+1),(by omega),rfl,(by omega),G4,ds++[e],by rw[Nat.add_mul,Nat.one_mul];exact k3.trans k4,by simp[hl],Xv (hys.same k4.gg) (Zv hv ZC),λz hz=>?_⟩;rcases NN.mp hz with hz | hz
  .exact hall z hz
  .rw[IN.mp hz];exact re
def zlu{t:TA}{p B:Nat}{R:PD->Prop}{Rn:Nat->Prop}(hj:DvA K d c p t σ G λxs=>∃ q:Nat,xs=[.int (q:Nat)]/\Rn q/\q<=B)(hB:B<sizeLine)(he:∀ G2 (i:Nat),ZF G G2->i<B->Dv K d c n te (some (.int (0+(i:Int)))::WM σ js) G2 R):
  Dv K d c (p+B*n) (tLC (ziC t) js zaM te) σ G λx=>∃ ds:LA,x = .list ds/\Rn ds.length/\ds.length<=B/\∀ e∈ds,R e:=λG1 H s1 s2 a b D Q k=>
 zk9 (q:=B) (R:=R) (λ_ i x=>x = .int (0+(i:Int))) D s2 a b (λRw hR=>hj G1 H s1 s2 a b (D.mono (by omega)) _ λvs xs G2 H2 hx k2 hv=>by
  obtain⟨q,rfl,hq,hqB⟩:=hx;obtain⟨y,ys,rfl,hy,r⟩:=hv.cons;rw[r.nil,hy.int];have z:sizeLine<2^62:=by decide
  refine⟨(q:Int),rfl,(by omega),(by omega),hR _ q G2 H2 hqB (by omega) k2 ⟨λi H' _ h=>?_,λi H' _ h=>?_,λi H' x H'' _ y=>y⟩ λv ds G' H' hl hall kk hv=>k v _ G' H' ⟨ds,rfl,by rw[hl];exact hq,(by omega),hall⟩ kk hv⟩
  .show i<(q:Int).toNat;omega
  .show(q:Int).toNat<=i;omega) λG2 i x s3 hi hx=>by subst hx;exact he G2 i (s1.trans s3) hi
def zkJ{tl:TE}{α:Type}{R:PD->Prop}(as:List α)(enc:α->PD)(h:Ev K tl σ G (.tuple (as.map enc)))(hB:as.length<sizeLine)(he:∀ G2 (i:Nat) x,ZF G G2->i<as.length->Dv K d c n te (some x::WM σ js) G2 R):
  Dv K d c (as.length*n) (tLC (zlx K tl) js zaM te) σ G λx=>∃ ds:LA,x = .list ds/\ds.length=as.length/\∀ e∈ds,R e:=λG1 H s1 s2 a b D Q k=>
 zk9 (q:=as.length) (p:=0) (B:=as.length) (R:=R) (λ_ i x=>True) (by rw[Oz];exact D) s2 a b (λRw hR=>h G1 H s1 s2 _ λv G2 H2 g2 hv=>by
  obtain⟨p,xs,rfl,hp,hxs⟩:=hv.tup;have hl:xs.length=as.length:=by rw[hxs.length,Ig]
  refine⟨p,rfl,⟨xs,g2.gh.tup hp⟩,hR _ as.length G2 H2 (Ih _) hB (g2.dk D) ⟨λi H' s hi=>⟨xs,_,s.tup hp,Ib (by omega)⟩,λi H' s hi=>⟨xs,s.tup hp,(by omega)⟩,λi H' x H'' s y=>⟨y.1,True.intro⟩⟩ λv ds G' H' hl' hall kk hv=>k v _ G' H' ⟨ds,rfl,hl',hall⟩ (by rw[Oz]at kk;exact kk) hv⟩) λG2 i x s3 hi _=>he G2 i x (s1.trans s3) hi
end
section
variable {K:FG}{d c l:AD}{G H G' H' : Hp}{m n:Nat}{σ:St}
theorem DkA.upd{o:HO}(D:DkA n H d c)(hd:l≠d)(hc:l≠c):DkA n (L2.upd H l o) d c:=by obtain⟨k,ns,h1,h2,r⟩:=D.ex;exact⟨k,ns,by rw[Zm (Ne.symm hd)];exact h1,by rw[Zm (Ne.symm hc)];exact h2,r⟩
def Dk.wr(k:Dk n d c G H G' H')(h0:H l=none)(hg:G' l=none)(hd:l≠d)(hc:l≠c)(o:HO):Dk n d c G H G' (L2.upd H' l o):=⟨k.gg,JD k.gh hg,k.fr,λb u e h1 h2=>by rw[Zm (Zk e h0)];exact k.kp b u e h1 h2,k.D0.upd hd hc,λN D=>(k.cn N D).upd hd hc⟩
def Dk.put{o:HO}(k:Dk n d c G H G' H')(h0:H l=none)(hl:H' l=some o)(hg:G l=none)(hg' : G' l=none):Dk n d c G H (L2.upd G' l o) H':=by
 refine⟨λb u e=>?_,λb u e=>?_,λb u e=>?_,k.kp,k.D0,k.cn⟩
 .rw[Zm (Zk e hg)];exact k.gg b u e
 .by_cases h:b=l
  .subst h;rw[Zh]at e;rw[hl,e]
  .rw[Zm h]at e;exact k.gh b u e
 .by_cases h:b=l
  .subst h;exact .inr h0
  .rw[Zm h]at e;exact k.fr b u e
def Dk.ned(D:DkA n H d c)(h:H l=none):l≠d/\l≠c:=by obtain⟨⟨o,h1⟩,⟨u,h2⟩⟩:=D.some;exact⟨λz=>(by subst z;rw[h1]at h;cases h),λz=>(by subst z;rw[h2]at h;cases h)⟩
def DvA.imp{t:TA}{R R' : LA->Prop}(h:DvA K d c n t σ G R)(hi:∀ x,R x->R' x):DvA K d c n t σ G R':=λG1 H s1 s2 a b D Q k=>h G1 H s1 s2 a b D Q λv x G' H' r=>k v x G' H' (hi x r)
def zjn{g:Int->Int->V}{C:Int->Int->Prop}{Ra Rb:Int->Prop}{R:PD->Prop}(ha:Dv K d c m ta σ G λx=>∃ i:Int,x = .int i/\Ra i)(hb:Dv K d c n tb σ G λx=>∃ i:Int,x = .int i/\Rb i)(hr:∀ i j,Ra i->Rb j->C i j/\∃ x,R x/\∀ G',Dat K G' (g i j) x):Dv K d c (m+n) (tOp (rI C g) ta tb) σ G R:=
 ziE ha hb λa b va vb G' h1 h2 s hva hvb=>by obtain⟨i,rfl,hi⟩:=h1;obtain⟨j,rfl,hj⟩:=h2;obtain⟨hc,x,hx,hd⟩:=hr i j hi hj;exact⟨x,hx,zcX (zgI hva) (zgI hvb) hc (hd G')⟩
end
section
variable {K:FG}{d c:AD}{G H:Hp}{n:Nat}{σ:St}{te:TE}{x:PD}{D:Ends}{rest:TS}{i:Nat}
def Yw(h:Ev K te σ G x)(s:ZF G H)(k:∀ v G' H',Yi G H G' H' -> Dat K G' v x->rest D (σ.set i (some v)) H'):zi8 (zjZ te (VP i)) rest D σ H:=Jt h s k
def Ww{R:PD->Prop}(h:Dv K d c n te σ G R)(s:ZF G H)(gd:G d=none)(gc:G c=none)(D0:DkA n H d c)(k:∀ v x G' H',R x->Dk n d c G H G' H' -> Dat K G' v x->rest D (σ.set i (some v)) H'):zi8 (zjZ te (VP i)) rest D σ H:=zj4 h s gd gc D0 k
def Vz{tc:TT}{t u:TS}{b:Bool}(h:EvT tc σ G b)(s:ZF G H)(k1:b=true->∀ G' H',Yi G H G' H' -> t {D with nx:=rest D} σ H')(k2:b=false->∀ G' H',Yi G H G' H' -> u {D with nx:=rest D} σ H'):zi8 (zjK tc t u) rest D σ H:=QQ h s k1 k2
def zkY{tc:TT}{t u:TS}(h:EvT tc σ G false)(s:ZF G H)(k:∀ G' H',Yi G H G' H' -> u {D with nx:=rest D} σ H'):zi8 (zjK tc t u) rest D σ H:=Jx h s k
def Dk.back{G' H' : Hp}(k:Dk n d c G H G' H'):Dk n d c G H G H':=⟨ZF.refl _,k.gg.trans k.gh,λ_ _ e=>.inl e,k.kp,k.D0,k.cn⟩
end
end L2
namespace K29
open PySem L2 Frac Lw Dig PySem.NumText Nm
open Ord Look Rdo
def zcR(K:FG):Sp:=λvs H Q _=>∃(G:Hp)(v1:V)(L:Fs->Fs->An)(gs:List Fs),vs=[v1]/\ZF G H/\Dat K G v1 (zgH L gs)/\gs.length<=1000/\(∀ G' H',Yi G H G' H' -> agree L gs=true->Q .non H')/\∀ p (i j k:Nat) (f g h:Fs) G' H',Yi G H G' H' -> gs[i]?=some f->gs[j]?=some g->gs[k]?=some h->agree L [f,g,h]=false->Dat K G' (.ref p) (.tuple [.int (i:Nat),.int (j:Nat),.int (k:Nat)])->Q (.ref p) H'
def zeN:LA->PD->Prop:=λds d=>∃(L:Fs->Fs->An)(f:Fs)(gs:List Fs)(ps:List Nat)(hs:List Fs),ds=[.list (gs.map λg=>.str (L f g).t),.tuple (ps.map λn=>PyData.int (n:Nat))]/\ps.length<=10/\(ps.map λn=>gs[n]?)=hs.map some/\d = .list (hs.map λg=>.str (L f g).t)
def znG{gs:List Fs}{i j k:Nat}{f g h x:Fs}(e1:gs[i]?=some f)(e2:gs[j]?=some g)(e3:gs[k]?=some h)(hx:x∈[f,g,h]):x∈gs:=by
 simp only[ID,IX,NK]at hx;rcases hx with rfl | rfl | rfl
 .exact Ii e1
 .exact Ii e2
 .exact Ii e3
def zne(book:LB):LA->PD->Prop:=λds d=>∃(ws:List Wd)(num:Int->Int->Prop)(gs:List Fs),ds=[dOs ws,.tuple (gs.map dT)]/\OC book num ws/\(∀ g∈gs,FZ book.length g)/\gs.length<=1000/\Wk (Z3 book ws) (· ∈ gs)/\d = .list (gs.map λg=>.int (rk (Z3 book ws) (Y7 gs) g:Nat))
section
def zaF(T:Top K mg):T.WQ.O P w base 1 (spP K zeN):=by
 refine T.WQ.F.ok za1 (λvs H Q E h=>?_) (λcdv A outer s H vs Q E hr h=>?_)
 .obtain⟨G,as,d,sg,hv,⟨L,f,gs,ps,hs,rfl,_⟩,_⟩:=h;rw[hv.length];rfl
 .obtain⟨G,as,d,sg,hv,⟨L,f,gs,ps,hs,rfl,hl,hm,rfl⟩,k⟩:=h;obtain⟨v1,r1,rfl,h1,hv⟩:=hv.cons;obtain⟨v2,r2,rfl,h2,hv⟩:=hv.cons;cases hv.nil;have zl:(2000:Nat)<=sizeLine:=by decide
  have hlen:ps.length=hs.length:=by have:=Na List.length hm;simpa using this
  have hat:∀(i n:Nat),ps[i]?=some n->∃ g,hs[i]?=some g/\gs[n]?=some g:=λi n e=>by
   have:=Na (λl=>l[i]?) hm;simp only[Io,e,OG]at this;cases e2:hs[i]? with
   |none=>rw[e2]at this;cases this
   |some g=>rw[e2]at this;exact⟨g,rfl,Ip this⟩
  refine⟨_,(Zo (Zx (UL (x:= "place") (cap:=["row"]) (js:=[0]) ⟨rfl,(by decide +kernel),(by decide +kernel),rfl,(by show ∀ p∈(_:List (Str×NameKind)),p.2=NameKind.free->List.lookup p.1 (Zi W7).names=some NameKind.cell;decide +kernel),(by decide +kernel),(by decide +kernel),(by decide +kernel)⟩ rfl rfl (λ_ _ h=>h) (Ql (pv 1)) (λ_ _ _ _=>⟨XJ,(Z0 (Zw (K:=K) rfl) (pv 1) (pv 0) (λ_ _=>rfl))⟩)))) ,?_⟩;refine ZX (K:=K) (Ui (js:=[0]) ps (λn=>PyData.int (n:Nat)) (λn=>some (.str (L f (gs.getD n [])).t)) (Zc rfl h2) (by omega) λG2 i n x s3 hn hx=>lc1 X7 ?_) sg λv G' H' g' hv=>k v G' H' g' ?_
  .obtain⟨g,_,e⟩:=hat i n hn;have hi:n<gs.length:=(Ik.mp e).1;refine YG (n:=n) (Zc rfl (h1.same s3)) (Zc rfl hx) (by rw[Ig];exact XN hi) ?_;rw[Io,e,Im,e];rfl
  .rw[Wz]at hv;have e:(ps.map λn=>PyData.str (L f (gs.getD n [])).t)=hs.map λg=>.str (L f g).t:=by
    refine List.ext_getElem? λi=>?_;rw[Io,Io];cases e:ps[i]? with
    |none=>
     have:hs[i]?=none:=by rw[List.getElem?_eq_none_iff]at e ⊢;omega
     rw[this];rfl
    |some n=>obtain⟨g,e1,e2⟩:=hat i n e;rw[e1,OG,OG,Im,e2];rfl
   rw[← e];exact hv
def zdq(T:Top K mg):T.YH.O P w base 4 (zcR K):=by
 have G_against_ranks:T.Y5.O P w base 3 (zbz K):=(zaz T).mono (by decide);have G_looks_agree:=@zdo T;have G_picked_out:T.WQ.O P w base 3 (spP K zeN):=(zaF T).mono (by decide);refine T.YH.F.ok Xm (λvs H Q E h=>?_) (λcdv A outer s H vs Q E hr h=>?_)
 .obtain⟨G,v1,L,gs,rfl,_⟩:=h;rfl
 .obtain⟨G,v1,L,gs,rfl,sg,h1,hl,k1,k2⟩:=h;have zl:(2000:Nat)<=sizeLine:=by decide
  refine⟨_,(Ze (Zy (i:=1) Xm.nd rfl (Or.inl rfl) (peN T.Y5 G_against_ranks hr (Za (pv 0) Zf Zd)))
   (Ze (YB (ZD zhH (pv 1) QH (ZQ _)) (Zo (Zx QH)) ZL)
   (Ze (JR IT rfl (Wt (by rfl) T.Vw (Za (Z6 (Ye (K:=K) rfl) (by rfl) T.zaW IJ (Za (pv 0) Zf Zd)) Zf YT)) (YD (i:=2) Xm.nd rfl (Or.inl rfl)) (Ze (Zy (i:=3) Xm.nd rfl (Or.inr rfl) (Yg (Za (Z0 (X8 (K:=K) rfl) (pv 1) Zg (λ_ _=>rfl)) (Za (Z0 (X8 (K:=K) rfl) (pv 1) Zg (λ_ _=>rfl)) (Za (pv 2) Zf Zd) Zt) Zt)))
   (Zo (YB (zbr (W6 (peN T.Wb G_looks_agree hr (Za (UL (x:= "place") (cap:=["table", "three"]) (js:=[0,3]) ⟨rfl,(by decide +kernel),(by decide +kernel),rfl,(by show ∀ p∈(_:List (Str×NameKind)),p.2=NameKind.free->List.lookup p.1 (Zi Wc).names=some NameKind.cell;decide +kernel),(by decide +kernel),(by decide +kernel),(by decide +kernel)⟩ rfl rfl (λ_ _ h=>h) (Ql (pv 3)) (λ_ _ _ _=>⟨XJ,(peN T.WQ G_picked_out hr (Za (Z0 (Zw (K:=K) rfl) (pv 1) (pv 0) (λ_ _=>rfl)) (Za (pv 2) Zf Zd) Zt))⟩)) Zf JF)))) (Zo (Zx (pv 3))) ZL))))
   (Zo (Zx QH))))) ,?_⟩
  refine⟨_,rfl,G,v1,L,gs,rfl,sg,h1,hl,λG' H' g ha=>?_,λp i j f g G' H' gr hf hg hb hp=>?_⟩
  .exact⟨_,rfl,rfl,_,rfl,zie (k1 _ _ g ha)⟩
  refine⟨_,rfl,rfl,_,rfl,zeO ?_⟩;have h1':=h1.same gr.gg;obtain⟨pt,af,rfl,hpt,hrows⟩:=Dat.lst h1';have hrl:af.length=gs.length:=by rw[hrows.length,Ig]
  refine⟨_,rfl,pt,af,rfl,.inl (SqL.of (gr.gh _ _ hpt)),?_⟩;rw[hrl];have g1:Yi G' H' G' H':=Yi.refl gr.gh;refine⟨(gs.length:Nat),rfl,(by omega),(by omega),J7 (n:=gs.length) (λi σ H2=>∃(v2 v3:Option V)(G2:Hp),σ=[some (.ref pt),some (.ref p),v2,v3]/\Yi G H G2 H2/\ZF G' G2/\∀ h∈gs.take i,agree L [f,g,h]=true) ⟨_,_,G',rfl,gr,ZF.refl _,λh hh=>by simp at hh⟩ ?_ ?_⟩
  .rintro t σ H2 ht ⟨v2,v3,G2,rfl,g2,s2,hall⟩;have ht:t<gs.length:=by simpa using ht
   have hgt:gs[t]?=some gs[t]:=Ib ht;generalize gs[t]=h at hgt;have hp2:=hp.same (g1.gg.trans s2);refine Yw (K:=K) (x:=.tuple ([i,j,t].map λn=>PyData.int (n:Nat))) (JT (Xf (Zb (JS (n:=0) (Zc rfl hp2) Zq rfl rfl) (Zb (JS (n:=1) (Zc rfl hp2) Zq rfl rfl) (Zb (Zc rfl (Zr _)) Zn))) (by show 3<=sizeLine;decide)) (by show PyData.tuple _=PyData.tuple _;simp)) g2.gh λv3' G3 H3 g3 hv3=>?_;have h13:=h1'.same (g1.gg.trans (s2.trans g3.gg));have hmap:([i,j,t].map λn=>gs[n]?)=[f,g,h].map some:=by simp only[Nb,map_nil,hf,hg,hgt]
   refine QQ (zcL (zaG (K:=K) (Yk (σ:=[some (.ref pt),some (.ref p),some (.int (0+(t:Int))),some v3']) (E:=E0) (R:=zdm) (d:=.bool (agree L [f,g,h])) (Zb (JT (Ui (js:=[0,3]) [i,j,t] (λn=>PyData.int (n:Nat)) (λn=>some (.list ([f,g,h].map λo=>.str (L (gs.getD n []) o).t))) (Zc (i:=3) rfl hv3) (by show 3<sizeLine;decide) λG4 q n x s4 hn hx=>lc1 X7 ?_) ?_) Zn) ⟨L,[f,g,h],rfl,by show 3<=1000;decide,rfl⟩))) g3.gh (λe G4 H4 g4=>?_) (λe G4 H4 g4=>?_)
   .have hn' : ∃ o,gs[n]?=some o:=by
     have hm:=Ii hn;simp only[ID,IX,NK]at hm;rcases hm with rfl | rfl | rfl
     .exact⟨f,hf⟩
     .exact⟨g,hg⟩
     .exact⟨h,hgt⟩
    obtain⟨o,ho⟩:=hn';have hi:n<gs.length:=(Ik.mp ho).1;have eo:gs.getD n []=o:=by rw[Im,ho];rfl
    rw[eo];exact Yk (E:=E0) (R:=zeN) (Zb (YG (n:=n) (Zc rfl (h13.same s4)) (Zc rfl hx) (by rw[Ig];exact XN hi) (by rw[Io,ho];rfl)) (Zb (Zc rfl (hv3.same s4)) Zn)) ⟨L,o,gs,[i,j,t],[f,g,h],rfl,by show 3<=10;decide,hmap,rfl⟩
   .rw[Wz];have e1:gs.getD i []=f:=by rw[Im,hf];rfl
    have e2:gs.getD j []=g:=by rw[Im,hg];rfl
    have e3:gs.getD t []=h:=by rw[Im,hgt];rfl
    unfold zgH;simp only[Nb,map_nil,e1,e2,e3]
   .refine ZX (K:=K) (Zc rfl (hv3.same g4.gg)) g4.gh λv G5 H5 g5 hv=>?_;obtain⟨pp,us,rfl,_,_⟩:=id (Dat.tup hv);exact k2 pp i j t f g h G5 H5 (g2.trans (g3.trans (g4.trans g5))) hf hg hgt (by rw[Bool.not_eq_true']at e;exact e) (by simpa using hv)
   .refine⟨_,_,G4,rfl,g2.trans (g3.trans g4),s2.trans (g3.gg.trans g4.gg),Uk hgt hall ?_⟩;rw[Bool.not_eq_false']at e;exact e
  .rintro σ H2 ⟨v2,v3,G2,rfl,g2,s2,hall⟩;rw[take_length]at hall;obtain⟨h,hh,e⟩:=zfd (Ii hf) (Ii hg) hb;rw[hall h hh]at e;cases e
def zkn{σ:St}{G:Hp}{tb:TE}{i:Nat}{pd b' : AD}{xs:List YE}{k:KX}{n:Int}(hG:G pd=some (dY P w pd xs))(hx:∀ z∈xs,Dat K G (.ref z.2.1) (zbm z.1))(ha:σ[i]?=some (some (.ref pd)))(hb:Ev K tb σ G (zbm k))(hm:(k,b',n)∈xs):Ev K (tOp (znh P w K) (XH i) tb) σ G (.int n):=
 λG1 H s1 s2 Q kk=>⟨_,ha,hb G1 H s1 s2 _ λv G2 H2 g2 hv=>by
  obtain⟨p,us,rfl,_,_⟩:=Dat.tup hv;exact⟨n,pd,p,b',k,xs,G2,rfl,rfl,g2.gh _ _ (g2.gg _ _ (s1 _ _ hG)),g2.gh,hv,λz hz=>(hx z hz).same (s1.trans g2.gg),hm,kk _ G2 H2 g2 (Zr _)⟩⟩
def zdU(gs:List Fs):(Y7 gs).Nodup:=by
 have key:∀(l acc:List Fs),acc.Nodup->(l.foldl (λacc f=>if(acc.any λg=>decide (g=f))=true then acc else acc++[f]) acc).Nodup:=by
  intro l
  induction l with
  |nil=>intro acc h;exact h
  |cons x r ih=>
   intro acc h;rw[foldl_cons];refine ih _ ?_;by_cases z:(acc.any λg=>decide (g=x))=true
   .rw[IA z];exact h
   .rw[Iw z];refine nodup_append.mpr ⟨h,(by simp),λa ha b hb e=>?_⟩;have hb' : b=x:=by simpa using hb
    exact z (any_eq_true.mpr ⟨a,ha,Iq (e.trans hb')⟩)
 exact key gs [] nodup_nil
def zaw(T:Top K mg)(M:Bs K mg base)(W:Wds K w.params mg)(W1:Txs K w.params mg "AHEAD" Xj)(W2:Txs K w.params mg "OTHER_WAY" Xg):T.Z8.O P w base 9 (spB K T.ZR ZP zne):=by
 have G_table_of:=@za5 T M W W1 W2;have G_each_once:T.Y0.O P w base 8 (spP K zcB):=(zcO T).mono (by decide);have G_three_against:T.YH.O P w base 8 (zcR K):=(zdq T).mono (by decide);have G_ranks_in:T.Jf.O P w base 8 (spP K zeR):=(zc4 T).mono (by decide);refine T.Z8.F.ok Ys (λvs H Q E h=>?_) (λcdv A outer s H vs Q E hr h=>?_)
 .obtain⟨G,book,vo,pb,us,ds,d,rfl,_,_,_,hd,⟨ws,num,gs,rfl,_⟩,_⟩:=h;have:=hd.length;simp only[IE,Oc]at this ⊢;omega
 .obtain⟨G,book,vo,pb,us,ds,d,rfl,hT,sg,hpb,hd,⟨ws,num,gs,rfl,oc,hgs,hl,wk,rfl⟩,k⟩:=h;obtain⟨v0,r0,e0,h0,hd⟩:=hd.cons;cases e0
  rename Yl K G us _=>hd
  obtain⟨v2,r2,rfl,h2,hd⟩:=hd.cons;cases hd.nil;have hu:=hr.units;have hul:=V2 gs;have zl:(2000:Nat)<=sizeLine:=by decide
  refine⟨_,(Ze (Zy (i:=3) Ys.nd rfl (Or.inr rfl) (peN T.Y0 G_each_once hr (Za (pv 2) Zf Zd)))
   (Ze (Zy (i:=4) Ys.nd rfl (Or.inl rfl) (peN T.Jl G_table_of hr (Za (pv 0) (Za (pv 1) (Za (pv 3) Zf Zd) Zd) Zd)))
   (Ze (Zy (i:=5) Ys.nd rfl (Or.inl rfl) (peN T.YH G_three_against hr (Za (pv 4) Zf Zd)))
   (Ze (YB (ZD ze8 (pv 5) QH (ZQ _)) Q6 ZL)
   (Ze (Zy (i:=6) Ys.nd rfl (Or.inr rfl) (zg5 rfl rfl))
   (Ze (JR IT rfl (zi1 (K:=K) rfl (by rfl) T.znt (Za (pv 3) (Za (peN T.Jf G_ranks_in hr (Za (pv 4) Zf Zd)) Zf YT) Zd)) (zb4 (n:=2) rfl (Xq (YD (i:=7) Ys.nd rfl (Or.inl rfl)) (Xq (YD (i:=8) Ys.nd rfl (Or.inl rfl)) Vo)) (by rfl)) (Zo (zhu (K:=K) rfl rfl rfl hu (pv 6) (pv 7) (pv 8) (by rfl))))
   (Zo (Zx (UL (x:= "thing") (cap:=["ranks"]) (js:=[6]) ⟨rfl,(by decide +kernel),(by decide +kernel),rfl,(by show ∀ p∈(_:List (Str×NameKind)),p.2=NameKind.free->List.lookup p.1 (Zi Jr).names=some NameKind.cell;decide +kernel),(by decide +kernel),(by decide +kernel),(by decide +kernel)⟩ rfl rfl (λ_ _ h=>h) (Ql (pv 2)) (λ_ _ _ _=>⟨XJ,(Z0 (zmJ (K:=K) rfl rfl rfl hu) (pv 1) (pv 0) (λ_ _=>rfl))⟩)))))))))) ,?_⟩
  refine Jt (K:=K) (Yk (E:=E0) (R:=zcB) (Zb (Zc rfl h2) Zn) ⟨gs,rfl,hl,rfl⟩) sg λv3 G1 H1 g1 h3=>?_;refine Jt (K:=K) (W9 (R:=zmb) (d:=zgH (Z3 book ws) (Y7 gs)) (g1.gg _ _ hT) (g1.gg _ _ hpb) rfl (Zc rfl (h0.same g1.gg)) (Zb (Zc rfl h3) Zn) ⟨ws,num,Y7 gs,rfl,oc,λg hg=>hgs g ((YC gs g).mp hg),(by omega),rfl⟩) g1.gh λv4 G2 H2 g2 h4=>?_;have ag:agree (Z3 book ws) (Y7 gs)=true:=(Xi _ _).mpr (wk.sub λf hf=>(YC gs f).mp hf);refine⟨_,rfl,G2,v4,Z3 book ws,Y7 gs,rfl,g2.gh,h4,(by omega),λG3 H3 g3 _=>?_,λp i j k f g h G3 H3 g3 e1 e2 e3 e4 _=>?_⟩
  rotate_left
  .rw[(Xi _ _).mpr (wk.sub λx hx=>(YC gs x).mp (znG e1 e2 e3 hx))]at e4;cases e4
  refine⟨_,rfl,rfl,_,rfl,zeO ?_⟩;refine λpd hpd=>?_;have g03:=(g1.trans g2).trans g3;have gpd:G3 pd=none:=g3.gh.free hpd;have s3:ZF G3 (upd H3 pd (dY P w pd [])):=g3.gh.trans (ZZ hpd);have h3':=h3.same (g2.gg.trans g3.gg);obtain⟨p3,ys,rfl,hp3,hys⟩:=h3'.lst;have hyl:ys.length=(Y7 gs).length:=by rw[hys.length,Ig]
  refine⟨_,rfl,_,rfl,G3,_,_,s3,Zv (h4.same g3.gg) ZC,⟨Z3 book ws,Y7 gs,rfl,(by omega),rfl⟩,λv5 G4 H4 g4 h5=>?_⟩;obtain⟨p5,zs,rfl,hp5,hzs⟩:=h5.lst;have hzl:zs.length=(Y7 gs).length:=by rw[hzs.length,Ig]
  have gpd4:G4 pd=none:=by
   cases e:G4 pd with
   |none=>rfl
   |some o=>
    rcases g4.fr pd o e with h | h
    .rw[gpd]at h;cases h
    .rw[Zh]at h;cases h
  have np3:p3≠pd:=Zk hp3 gpd;have np5:p5≠pd:=Zk hp5 gpd4;refine⟨p3,p5,rfl,⟨ys,SqL.of (g4.gh _ _ (g4.gg _ _ hp3))⟩,⟨zs,SqL.of (g4.gh _ _ hp5)⟩,zgi (xs:=ys) (ys:=zs) (λi σ H' => ∃(vt vr:Option V)(xs:List YE),σ=[some vo,some (.ref pb),some v2,some (.ref p3),some v4,some .non,some (.ref pd),vt,vr]/\(∀ b o,b≠pd->H4 b=some o->H' b=some o)/\H' pd=some (dY P w pd xs)/\xs.map (λx=>(x.1,x.2.2))=((Y7 gs).take i).map (λf=>(zbh f,((rk (Z3 book ws) (Y7 gs) f:Nat):Int)))/\∀ z∈xs,Dat K G4 (.ref z.2.1) (zbm z.1))
   ⟨_,_,[],rfl,λb o n e=>e,g4.hh _ _ Zh,rfl,λz hz=>by cases hz⟩ (by omega) ?_ ?_ ?_⟩
  .rintro i σ H' _ ⟨vt,vr,xs,rfl,kp,_⟩;exact⟨SqL.of (kp _ _ np3 (g4.gh _ _ (g4.gg _ _ hp3))),SqL.of (kp _ _ np5 (g4.gh _ _ hp5))⟩
  .rintro i x y σ H' p hx hy ⟨vt,vr,xs,rfl,kp,hk,hxs,hdat⟩ hp;have hi:i<(Y7 gs).length:=by have:=(Ik.mp hx).1;omega
   have hgi:(Y7 gs)[i]?=some (Y7 gs)[i]:=Ib hi;obtain⟨dd,hdd,hxd⟩:=hys.zel hx;rw[Io,hgi]at hdd;have hdd:some (dT (Y7 gs)[i])=some dd:=hdd;injection hdd with hdd;subst hdd;obtain⟨de,hde,hyd⟩:=hzs.zel hy;rw[Io,hgi]at hde;have hde:some (PyData.int (rk (Z3 book ws) (Y7 gs) (Y7 gs)[i]:Nat))=some de:=hde;injection hde with hde;subst hde;have nd:=zdU gs;have hnew:(Y7 gs)[i]∉(Y7 gs).take i:=λh=>by obtain⟨j,hj,e⟩:=List.mem_take_iff_getElem.mp h;exact N4.mp nd j i (by omega) hi (by omega) e
   generalize (Y7 gs)[i]=f at hgi hxd hyd hnew;obtain⟨px,us,rfl,hpx,hus⟩:=Dat.tup hxd;have ey:=hyd.int;subst ey;refine⟨p,_,rfl,SqT.of Zh,rfl,_,_,rfl,_,_,rfl,rfl,?_⟩;have npp:pd≠p:=λe=>by rw[← e,hk]at hp;cases hp
   have sG4:ZF G4 (upd H' p (.tup [.ref px,.int (rk (Z3 book ws) (Y7 gs) f:Nat)])):=λb o e=>ZZ hp b o (kp b o (Zk e gpd4) (g4.gh b o e));have hkeys:xs.map (·.1)=((Y7 gs).take i).map zbh:=by have:=Na (List.map Prod.fst) hxs;rw[Oy,Oy]at this;exact this
   have hxl:xs.length<=(Y7 gs).length:=by have:=Na List.length hkeys;rw[Ig,Ig,NV]at this;omega
   have hpx4:Dat K G4 (.ref px) (zbm (zbh f)):=by rw[VV];exact hxd.same g4.gg
   refine⟨_,rfl,_,rfl,_,rfl,_,pd,px,zbh f,xs,G4,rfl,rfl,rfl,by rw[Zm npp];exact hk,sG4,hpx4,hdat,?_,(by omega),?_⟩
   .rw[hkeys];intro h;obtain⟨g,hg,e⟩:=NI.mp h;rw[zc1 e]at hg;exact hnew hg
   .refine⟨_,_,xs++[(zbh f,px,((rk (Z3 book ws) (Y7 gs) f:Nat):Int))],rfl,λb o n e=>?_,Zh,?_,λz hz=>?_⟩
    .rw[Zm n];exact ZZ hp b o (kp b o n e)
    .rw[Ni,hxs,take_succ,hgi,Ni];rfl
    .rcases NN.mp hz with hz | hz
     .exact hdat z hz
     .rw[IN.mp hz];exact hpx4
  .rintro σ H5 ⟨vt,vr,xs,rfl,kp,hk,hxs,hdat⟩;have ht:(Y7 gs).take ys.length=Y7 gs:=by rw[hyl];exact take_length
   rw[ht]at hxs;have g35:Yi G3 H3 (upd G4 pd (dY P w pd xs)) H5:=by
    refine⟨λb o e=>?_,λb o e=>?_,λb o e=>?_,λb o e=>?_⟩
    .rw[Zm (Zk e gpd)];exact g4.gg b o e
    .by_cases hb:b=pd
     .subst hb;rw[Zh]at e;rw[hk];exact e
     .rw[Zm hb]at e;exact kp b o hb (g4.gh b o e)
    .have hb:b≠pd:=Zk e hpd;exact kp b o hb (g4.hh b o (by rw[Zm hb];exact e))
    .by_cases hb:b=pd
     .subst hb;exact .inr hpd
     .rw[Zm hb]at e;rcases g4.fr b o e with h | h
      .exact .inl h
      .rw[Zm hb]at h;exact .inr h
   have s45:ZF G4 (upd G4 pd (dY P w pd xs)):=λb o e=>by rw[Zm (Zk e gpd4)];exact e
   have g05:=g03.trans g35;refine ZX (K:=K) (Ui (js:=[6]) gs dT (λg=>some (.int (rk (Z3 book ws) (Y7 gs) g:Nat))) (Zc rfl (h2.same g05.gg)) (by omega) λG6 i g x s6 hg hx=>lc1 X7 ?_) g35.gh λv G' H' g' hv=>k v G' H' (g05.trans g') (by rw[Wz]at hv;exact hv);have hm:(zbh g,((rk (Z3 book ws) (Y7 gs) g:Nat):Int))∈xs.map (λx=>(x.1,x.2.2)):=by rw[hxs];exact NI.mpr ⟨g,(YC gs g).mpr (Ii hg),rfl⟩
   obtain⟨⟨k1,b',n'⟩,hm1,hm2⟩:=NI.mp hm;injection hm2 with hm2 hm3;have hm2:k1=zbh g:=hm2;have hm3:n'=((rk (Z3 book ws) (Y7 gs) g:Nat):Int):=hm3;subst hm2 hm3;exact zkn (s6 _ _ Zh) (λz hz=>(hdat z hz).same (s45.trans s6)) rfl (Zc rfl (by rw[VV];exact hx)) hm1
end
def znf(K:FG)(Pt Pn:AD)(R:LB->LA->PD->Prop):Sp:=λvs H Q _=>∃(G:Hp)(book:LB)(vo:V)(pb:AD)(us:LC)(ds:LA)(d:PD),vs=vo :: .ref pb::us/\(G Pt=some (.tbl ZP)/\G Pn=some (.tbl λ_ _=>some Xc))/\ZF G H/\G pb=some (.tup (book.map V.str))/\Yl K G (vo::us) ds/\R book ds d/\
 ∀ v G' H',Yi G H G' H' -> Dat K G' v d->Q v H'
def zna(book:LB):LA->PD->Prop:=λds d=>∃(ws:List Wd)(num:Int->Int->Prop)(gs:List Fs),ds=[dOs ws,.tuple (gs.map dT)]/\OC book num ws/\(∀ g∈gs,FZ book.length g)/\gs.length<64/\Wk (Z3 book ws) (· ∈ gs)/\d=dN (tn (Z3 book ws) gs)
section
def zed(T:Top K mg)(M:Bs K mg base)(W:Wds K w.params mg)(W1:Txs K w.params mg "AHEAD" Xj)(W2:Txs K w.params mg "OTHER_WAY" Xg):T.Z9.O P w base 10 (znf K T.ZR T.Wm zna):=by
 have G_ranks_of:=@zaw T M W W1 W2;refine T.Z9.F.okC Qh (λvs H Q E h=>?_) (λcdv A outer s H vs Q E hcd hr h=>?_)
 .obtain⟨G,book,vo,pb,us,ds,d,rfl,_,_,_,hd,⟨ws,num,gs,rfl,_⟩,_⟩:=h;have:=hd.length;simp only[IE,Oc]at this ⊢;omega
 .obtain⟨G,book,vo,pb,us,ds,d,rfl,⟨hT,hC⟩,sg,hpb,hd,⟨ws,num,gs,rfl,oc,hgs,hl,wk,rfl⟩,k⟩:=h;obtain⟨v0,r0,e0,h0,hd⟩:=hd.cons;cases e0
  rename Yl K G us _=>hd
  obtain⟨v2,r2,rfl,h2,hd⟩:=hd.cons;cases hd.nil;have hu:=hr.units;refine⟨_,(Ze (Zy (i:=3) Qh.nd rfl (Or.inr rfl) (peN T.Z8 G_ranks_of hr (Za (pv 0) (Za (pv 1) (Za (pv 2) Zf Zd) Zd) Zd)))
   (Zo (Zx (Xk (YL (K:=K) rfl) (by rfl) T.J6 zfx (Za (zjN (kk:=1) (y:= "place") (cap:=["ranks"]) (js:=[3]) (q:=Xc) (cr:=λ_ _=>some Xc) (hr.mono (by decide)) rfl (by rfl) T.zfy (by rfl) T.Vw ⟨rfl,rfl,rfl,(by decide +kernel),(by decide +kernel),(by show ∀ p∈(_:List (Str×NameKind)),p.2=NameKind.free->List.lookup p.1 (Zi Jg).names=some NameKind.cell;decide +kernel),(by decide +kernel),(by decide +kernel),(by decide +kernel)⟩ rfl (hcd.trans T.cd_turning) (codeHd_of_K M.kin T.ch_turning) M.bm rfl rfl (λ_ _ _ _ _=>rfl) (Z6 (Ye (K:=K) rfl) (by rfl) T.zaW IJ (Za (pv 2) Zf Zd)) (λ_ _ _ _ _ _ _ hr2=>(Z0 (Zw (K:=K) rfl) (pv 1) (pv 0) (λ_ _=>rfl)))) Zf YT))))) ,?_⟩
  refine Yw (K:=K) (W9 (R:=zne) hT hpb rfl (Zc rfl h0) (Zb (Zc rfl h2) Zn) ⟨ws,num,gs,rfl,oc,hgs,(by omega),wk,rfl⟩) sg λv3 G1 H1 g1 h3=>?_;refine ZX (K:=K) (QV (Zb (zjo (n:=gs.length) (g:=rkZ (Z3 book ws) gs) (g1.gg _ _ hC) (JT (Qq (Zb (Zc rfl (h2.same g1.gg)) Zn)) (by rw[Ig])) hl λi hi=>?_) Zn)) g1.gh λv G' H' g' hv=>k v G' H' (g1.trans g') hv;refine YG (n:=i) (Zc rfl h3) (Zc rfl (Zr _)) (by rw[Ig];exact XN hi) ?_;rw[Io,Ib hi];unfold rkZ th;rw[Im,Ib hi];rfl
end
end K29
namespace Look
open PySem Ord Rdo
noncomputable def zfk(rs:List Nat)(i:Nat):Nat:=((List.range i).map λj=>(rs.take j).countP λx=>decide (rs.getD j 0<x)).sum
def zbQ(rs:List Nat)(i:Nat):zfk rs (i+1)=zfk rs i+(rs.take i).countP λx=>decide (rs.getD i 0<x):=by unfold zfk;rw[OE,Ni,List.sum_append];simp
theorem zdu:∀{l:List Nat}(h:l.Pairwise (· <= ·))(r s:Nat)(hs:s<l.length),(l.getD s 0<=r↔s<l.countP λx=>decide (x<=r))
 |[],_,_,_,hs=>by cases hs
 |x::l,h,r,s,hs=>by
  obtain⟨h1,h2⟩:=pairwise_cons.mp h;rw[countP_cons];by_cases hx:x<=r
  .rw[Iq hx,IA rfl];cases s with
   |zero=>exact⟨λ_=>by omega,λ_=>hx⟩
   |succ s=>have:=zdu h2 r s (by simpa using hs);rw[List.getD_cons_succ,this];omega
  .rw[Iy hx];have z:l.countP (λx=>decide (x<=r))=0:=List.countP_eq_zero.mpr λy hy e=>by have:=h1 y hy;have:=Ir e;omega
   rw[z];have hn:¬ (x::l).getD s 0<=r:=by
    cases s with
    |zero=>exact hx
    |succ s=>
     rw[List.getD_cons_succ];have hs' : s<l.length:=by simpa using hs
     have:=h1 _ (NO hs');rw[Im,Ib hs'];show ¬ l[s]<=r;omega
   exact⟨λh=>absurd h hn,λh=>by simp at h⟩
def zaI{l:List Nat}(h:l.Pairwise (· <= ·))(r:Nat):(∀ a∈l.take (l.countP λx=>decide (x<=r)),a<=r)/\∀ a∈l.drop (l.countP λx=>decide (x<=r)),r<a:=by
 constructor
 .intro a ha;obtain⟨j,hj,rfl⟩:=List.mem_take_iff_getElem.mp ha;have:=(zdu h r j (by omega)).mpr (by omega);rw[Im,Ib (by omega)]at this;exact this
 .intro a ha;have key:∀ m (hm:m<l.length),(l.countP λx=>decide (x<=r))<=m->r<l[m]:=λm hm hc=>by
   have:=zdu h r m hm;rw[Im,Ib hm]at this;have h3:¬ l[m]<=r:=λz=>by have:=this.mp z;omega
   omega
  obtain⟨j,hj,rfl⟩:=List.mem_drop_iff_getElem.mp ha;exact key _ _ (by omega)
def zjr{l:List Nat}(h:l.Pairwise (· <= ·))(r:Nat):(l.take (l.countP λx=>decide (x<=r))++r::l.drop (l.countP λx=>decide (x<=r))).Pairwise (· <= ·):=by
 obtain⟨a1,a2⟩:=zaI h r;refine List.pairwise_append.mpr ⟨h.sublist (List.take_sublist _ _),pairwise_cons.mpr ⟨λa ha=>Od (a2 a ha),h.sublist (List.drop_sublist _ _)⟩,λa ha b hb=>?_⟩;rcases ID.mp hb with rfl | hb
 .exact a1 a ha
 .exact Nj (a1 a ha) (Od (a2 b hb))
def zg8(l:List Nat)(k r:Nat):(l.take k++r::l.drop k).Perm (l++[r]):=by have h1:(l.take k++r::l.drop k).Perm (r::(l.take k++l.drop k)):=List.perm_middle;rw[List.take_append_drop]at h1;exact h1.trans (List.perm_append_singleton r l).symm
def zi4(l:List Nat)(r:Nat):l.length=(l.countP λx=>decide (x<=r))+l.countP λx=>decide (r<x):=by have:=List.length_eq_countP_add_countP (λx=>decide (x<=r)) (l:=l);rw[this];congr 1;refine List.countP_congr λx _=>?_;simp
end Look
namespace K29
open PySem L2 Frac Lw Dig PySem.NumText Nm
def zi9{i:Int}:Vu i 2:=⟨(by decide),Iu (show(2:Int).natAbs<2^2 by decide) (Nat.pow_le_pow_right (by decide) (by decide))⟩
section
def zmB(T:Top K mg)(kk:Nat):zaj P w K mg base (kk+3) T.YK.f T.YK.fd ["places", "lies_ahead"] (zmc P w K mg base kk):=by
 refine T.YK.F.okS (k:=kk+2) Xa (λs vs H Q h=>?_) (λcdv A outer s H vs Q hr h=>?_)
 .obtain⟨n,f,q,params,body,fr,sc,cl,y,cap,vals,te,g,rfl,_⟩:=h;rfl
 .obtain⟨n,f,q,params,body,fr,sc,cl,y,cap,vals,te,g,rfl,hn,S,hcap,L,C,hvl,hbind,hbody,hev,fin⟩:=h;refine⟨_,(Ze (Zy (i:=2) Xa.nd rfl (Or.inl rfl) Zg) (Ze (Zy (i:=3) Xa.nd rfl (Or.inl rfl) (pv 0))
   (Ze (zaQ IT (ZD zcV (pv 2) (pv 3) (ZQ _)) (Ze (Zy (i:=4) Xa.nd rfl (Or.inl rfl) (Zu Ym (Zu Jp (pv 2) (pv 3)) Zg))
    (Zo (YB (W6 (zgD (i:=1) rfl (Or.inl rfl) (hr.mono (by omega)) rfl L C S hcap hbind hvl hbody (Za (pv 4) Zf Zd)))
     (Zo (Zy (i:=2) Xa.nd rfl (Or.inl rfl) (Zu Jp (pv 4) Zg))) (Zo (Zy (i:=3) Xa.nd rfl (Or.inl rfl) (pv 4)))))))
   (Zo (Zx (pv 2)))))),?_⟩
  refine⟨_,rfl,?_⟩;refine zba (fun σ H' => ∃(low high:Nat)(v:Option V),σ=[some (.int (n:Nat)),some (.ref f),some (.int (low:Nat)),some (.int (high:Nat)),v]/\high<=n/\hv g low high=hv g 0 n/\ZF H H') (fun σ _=>match σ with | [_,_,some (.int l),some (.int h),_]=>(h-l).toNat | _=>0)
   ⟨0,n,none,rfl,Ih _,rfl,ZF.refl _⟩ ?_ ?_
  .rintro σ H1 ⟨low,high,v,rfl,c2,c3,s1⟩;refine⟨_,rfl,_,rfl,_,_,rfl,rfl,_,rfl,?_⟩;by_cases hlt:(low:Int)<high
   .rw[Iq hlt];refine zie ?_;have hlt' : low<high:=by omega
    refine⟨_,rfl,_,rfl,_,_,rfl,rfl,_,_,rfl,rfl,zi9,?_⟩;obtain⟨half,hhalf⟩:∃ half:Nat,((low:Int)+high) / 2=half:=⟨(((low:Int)+high) / 2).toNat,(by omega)⟩
    have hh:(low+high) / 2=half:=by omega
    (try dsimp only)
    rw[hhalf];have b1:low<=half:=by omega
    have b2:half<high:=by omega
    have e3:hv g low high=if g half then hv g (half+1) high else hv g low half:=by rw[hv,dif_pos hlt',hh]
    refine QQ (c:=g half) (G:=H1) ?_ (ZF.refl _) (λe G2 H2 g2=>?_) (λe G2 H2 g2=>?_)
    .refine λG1 H2 sa sb Q1 k1=>⟨rfl,_,rfl,rfl,?_⟩
     exact(hev half (by omega)) G1 H2 (s1.trans sa) sb _ λv' G' H' g' hv' => ⟨_,hv'.bl,k1 G' H' g'⟩
    .refine⟨_,rfl,_,_,rfl,rfl,⟨half+1,high,_,rfl,c2,?_,s1.trans g2.hh⟩,?_⟩
     .rw[← c3,e3,IA e]
     .show((high:Int)-((half:Int)+1)).toNat<((high:Int)-low).toNat;omega
    .refine⟨_,rfl,⟨low,half,_,rfl,(by omega),?_,s1.trans g2.hh⟩,?_⟩
     .rw[← c3,e3,Iw (by rw[e];exact Ij)]
     .show((half:Int)-low).toNat<((high:Int)-low).toNat;omega
   .rw[Iy hlt];refine zeO ?_;refine⟨_,rfl,?_⟩;have e3:hv g low high=low:=by rw[hv,dif_neg (by omega)]
    rw[← e3,c3];exact fin H1 s1
  .rintro σ H1 Q1 Q2 hq ⟨a,e1,b,e2,i,j,e3,e4,c,e5,q⟩;exact⟨a,e1,b,e2,i,j,e3,e4,c,e5,hq _ _ q⟩
end
open Ord Look Rdo
def zm3(K:FG)(Pt Pc:AD)(R:LB->LA->PD->Prop):Sp:=λvs H Q _=>∃(G:Hp)(book:LB)(vo:V)(pb:AD)(us:LC)(ds:LA)(d:PD),vs=vo :: .ref pb::us/\(G Pt=some (.tbl ZP)/\G Pc=some (.tbl λ_ _=>some YS))/\ZF G H/\G pb=some (.tup (book.map V.str))/\Yl K G (vo::us) ds/\R book ds d/\
 ∀ v G' H',Yi G H G' H' -> Dat K G' v d->Q v H'
noncomputable def rks(book:LB)(ws:List Wd)(gs:List Fs):List Nat:=gs.map λg=>rk (Z3 book ws) (Y7 gs) g
def zia(book:LB):LA->PD->Prop:=λds d=>∃(ws:List Wd)(num:Int->Int->Prop)(gs:List Fs),ds=[dOs ws,.tuple (gs.map dT)]/\OC book num ws/\(∀ g∈gs,FZ book.length g)/\gs.length<=1000/\Wk (Z3 book ws) (· ∈ gs)/\d = .int (zfk (rks book ws gs) gs.length:Nat)
abbrev vI(l:List Nat):LC:=l.map λn=>V.int (n:Nat)
section
def zdZ(T:Top K mg)(M:Bs K mg base)(W:Wds K w.params mg)(W1:Txs K w.params mg "AHEAD" Xj)(W2:Txs K w.params mg "OTHER_WAY" Xg):T.Yb.O P w base 10 (zm3 K T.ZR T.We zia):=by
 have G_many_ahead:zaj P w K mg base 4 T.YK.f T.YK.fd ["places", "lies_ahead"] (zmc P w K mg base 1):=zmB T 1;have G_ranks_of:=@zaw T M W W1 W2;refine T.Yb.F.okC Xb (λvs H Q E h=>?_) (λcdv A outer s H vs Q E hcd hr h=>?_)
 .obtain⟨G,book,vo,pb,us,ds,d,rfl,_,_,_,hd,⟨ws,num,gs,rfl,_⟩,_⟩:=h;have:=hd.length;simp only[IE,Oc]at this ⊢;omega
 .obtain⟨G,book,vo,pb,us,ds,d,rfl,⟨hT,hC⟩,sg,hpb,hd,⟨ws,num,gs,rfl,oc,hgs,hl,wk,rfl⟩,k⟩:=h;obtain⟨v0,r0,e0,h0,hd⟩:=hd.cons;cases e0
  rename Yl K G us _=>hd
  obtain⟨v2,r2,rfl,h2,hd⟩:=hd.cons;cases hd.nil;have hu:=hr.units;have zl:(2000:Nat)<=sizeLine:=by decide
  refine⟨_,(Ze (Zy (i:=3) Xb.nd rfl (Or.inl rfl) Zg)
   (Ze (Zy (i:=4) Xb.nd rfl (Or.inr rfl) (Yv Zf))
   (Ze (JR IT rfl (Vl (peN T.Z8 G_ranks_of hr (Za (pv 0) (Za (pv 1) (Za (pv 2) Zf Zd) Zd) Zd))) (YD (i:=5) Xb.nd rfl (Or.inr rfl)) (Ze (Zy (i:=6) Xb.nd rfl (Or.inl rfl) (zmq (kk:=1) (y:= "spot") (cap:=["rising", "rank"]) (js:=[4,5]) (q:=YS) (cr:=λ_ _=>some YS) G_many_ahead (hr.mono (by decide)) (by rfl) T.YK.m T.YK.F.kp T.YK.b (λ_ _ h=>h) ⟨rfl,rfl,rfl,(by decide +kernel),(by decide +kernel),(by show ∀ p∈(_:List (Str×NameKind)),p.2=NameKind.free->List.lookup p.1 (Zi Jm).names=some NameKind.cell;decide +kernel),(by decide +kernel),(by decide +kernel),(by decide +kernel)⟩ rfl (hcd.trans T.cd_crossed) (codeHd_of_K M.kin T.ch_crossed) M.bm rfl rfl (λ_ _ _ _ _=>rfl) (Z6 (Ye (K:=K) rfl) (by rfl) T.zaW IJ (Za (pv 4) Zf Zd)) (λ_ _ _ _ _ _ _ hr2=>(Ue zmC (Z0 (Zw (K:=K) rfl) (pv 1) (pv 0) (λ_ _=>rfl)) (pv 2) (ZQ _)))))
   (Ze (Zy (i:=3) Xb.nd rfl (Or.inl rfl) (Zu XR (Zu Jp (pv 3) (Z6 (Ye (K:=K) rfl) (by rfl) T.zaW IJ (Za (pv 4) Zf Zd))) (pv 6)))
   (Zo (JK (VL Nf PySem.F.slot_list_insert PySem.F.type_list_insert zfN (pv 4) (Za (pv 6) (Za (pv 5) Zf Zd) Zd)))))))
   (Zo (Zx (pv 3)))))) ,?_⟩
  refine⟨(by show 0<=sizeLine;decide),λpr hpr=>?_⟩;have gpr:G pr=none:=sg.free hpr;have s1:ZF G (upd H pr (.lst [])):=sg.trans (ZZ hpr);refine⟨_,rfl,_,rfl,_,rfl,G,book,vo,pb,[v2],_,_,rfl,hT,s1,hpb,Zv h0 (Zv h2 ZC),⟨ws,num,gs,rfl,oc,hgs,hl,wk,rfl⟩,λv5 G1 H1 g1 h5=>?_⟩;obtain⟨p5,zs,rfl,hp5,hzs⟩:=h5.lst;have hzl:zs.length=gs.length:=by rw[hzs.length,Ig]
  have gpr1:G1 pr=none:=by
   cases e:G1 pr with
   |none=>rfl
   |some o=>
    rcases g1.fr pr o e with h | h
    .rw[gpr]at h;cases h
    .rw[Zh]at h;cases h
  have np5:p5≠pr:=Zk hp5 gpr1;have ez:zs=vI (rks book ws gs):=by
   have hz' : Yl K G1 zs ((rks book ws gs).map λn=>PyData.int (n:Nat)):=by unfold rks;rw[Oy];exact hzs
   exact hz'.nats
  subst ez;have rl:(rks book ws gs).length=gs.length:=by unfold rks;rw[Ig]
  generalize rks book ws gs=rs at rl hp5 hzs hzl k;refine⟨p5,rfl,⟨_,SqL.of (g1.gh _ _ hp5)⟩,zhe (xs:=vI rs) (λi σ H' => ∃(v5 v6:Option V)(ris:List Nat),σ=[some vo,some (.ref pb),some v2,some (.int (zfk rs i:Nat)),some (.ref pr),v5,v6]/\(∀ b o,b≠pr->H1 b=some o->H' b=some o)/\H' pr=some (.lst (vI ris))/\ris.Pairwise (· <= ·)/\ris.Perm (rs.take i))
   ⟨_,_,[],rfl,λb o n e=>e,g1.hh _ _ Zh,List.Pairwise.nil,(by simp)⟩ ?_ ?_ ?_⟩
  .rintro i σ H' _ ⟨v5,v6,ris,rfl,kp,_⟩;exact SqL.of (kp _ _ np5 (g1.gh _ _ hp5))
  .rintro i x σ H' hx ⟨v5,v6,ris,rfl,kp,hk,hsr,hpm⟩;have hi:i<rs.length:=by have:=(Ik.mp hx).1;rw[Ig]at this;exact this
   have ex:x=V.int (rs.getD i 0:Nat):=by rw[Io,Ib hi]at hx;rw[Im,Ib hi];exact(Ip hx).symm
   subst ex;have hrl:ris.length=i:=by have:=hpm.length_eq;rw[NV]at this;omega
   have ec:=zbQ rs i;have etk:rs.take (i+1)=rs.take i++[rs.getD i 0]:=by rw[take_succ,Im,Ib hi];rfl
   rw[ec,etk];generalize rs.getD i 0=r;have hcnt:(rs.take i).countP (λx=>decide (r<x))=ris.countP λx=>decide (r<x):=(hpm.countP_eq _).symm;rw[hcnt];have hcl:=zi4 ris r;have hP:H' T.We=some (.tbl λ_ _=>some YS):=kp _ _ (Zk hC gpr) (g1.gh _ _ (g1.gg _ _ hC));have hR:Dat K H' (.ref pr) (.list (ris.map λn=>PyData.int (n:Nat))):=YJ hk (Uz _);refine Jt (K:=K) (G:=H') (zmT (n:=ris.length) (g:=λs=>decide (ris.getD s 0<=r)) hP (JT (Ur (Zb (Zc rfl hR) Zn)) (by rw[Ig])) (by omega) λs hs=>?_) (ZF.refl _) λv6' G2 H2 g2 hv6=>?_
   .refine JT (Q3 (YG (n:=s) (Zc rfl hR) (Zc rfl (Zr _)) (by rw[Ig];exact XN hs) (by rw[Io,Ib hs];rfl)) (Zc rfl (Zr (r:Nat))) (Yu _)) ?_;show PyData.bool _=PyData.bool _;congr 1;rw[Im,Ib hs];exact NY.mpr ⟨λz=>by have:((ris[s]:Nat):Int)<=(r:Nat):=z;show ris[s]<=r;omega,λz=>by have:ris[s]<=r:=z;show((ris[s]:Nat):Int)<=(r:Nat);omega⟩
   rw[hv6.int];have ehv:hv (λs=>decide (ris.getD s 0<=r)) 0 ris.length=ris.countP λx=>decide (x<=r):=zmK 0 ris.length (λs hs=>by rw[NP];exact zdu hsr r s hs) (Nl _) List.countP_le_length;rw[ehv];have hR2:=hR.same g2.hh;refine Jt (K:=K) (G:=H2) (d:=.int ((zfk rs i+ris.countP (λx=>decide (r<x)):Nat):Int)) (JT (Q3 (Q3 (Zc rfl (Zr _)) (Ur (Zb (Zc rfl hR2) Zn)) (Zr _)) (Zc rfl (Zr _)) (Zr _)) ?_) (ZF.refl _) λv3' G3 H3 g3 hv3=>?_
   .congr 1;rw[Ig];omega
   rw[hv3.int];have hk3:=g3.hh _ _ (g2.hh _ _ hk);refine⟨_,rfl,.inl ⟨rfl,_,SqL.of hk3⟩,_,rfl,_,rfl,pr,_,_,_,rfl,rfl,hk3,Int.natCast_nonneg _,?_,?_,?_⟩
   .have:=List.countP_le_length (p:=λx=>decide (x<=r)) (l:=ris);rw[Ig];omega
   .rw[Ig];omega
   .refine⟨_,_,ris.take (ris.countP λx=>decide (x<=r))++r::ris.drop (ris.countP λx=>decide (x<=r)),rfl,λb o n e=>?_,?_,zjr hsr r,(zg8 _ _ _).trans (hpm.append_right _)⟩
    .rw[Zm n];exact g3.hh _ _ (g2.hh _ _ (kp b o n e))
    .rw[Zh];congr 2;show _=List.map _ (_++_::_);rw[Ni,Nb,map_take,map_drop];rfl
  .rintro σ H' ⟨v5,v6,ris,rfl,kp,hk,_⟩;have e:(vI rs).length=gs.length:=by rw[Ig,rl]
   rw[e];have gf:Yi G H G1 H':=by
    refine⟨g1.gg,λb o e=>kp b o (Zk e gpr1) (g1.gh b o e),λb o e=>kp b o (Zk e hpr) (g1.hh b o (by rw[Zm (Zk e hpr)];exact e)),λb o e=>?_⟩;rcases g1.fr b o e with h | h
    .exact .inl h
    .rw[Zm (Zk e gpr1)]at h;exact .inr h
   exact⟨_,rfl,k _ G1 H' gf (Zr _)⟩
end
abbrev dT3(f g h:Fs):PD:=.tuple [dT f,dT g,dT h]
def ziT(K:FG)(Pt:AD)(cr:Nat->Nat->Option Str)(C:AD):Sp:=λvs H _ E=>∃(G:Hp)(book:LB)(vo:V)(pb:AD)(vr:V)(ws:List Wd)(num:Int->Int->Prop)(gs:List Fs),vs=[vo,.ref pb,vr]/\G Pt=some (.tbl cr)/\ZF G H/\G pb=some (.tup (book.map V.str))/\Dat K G vo (dOs ws)/\Dat K G vr (.tuple (gs.map dT))/\OC book num ws/\(∀ g∈gs,FZ book.length g)/\gs.length<=1000/\agree (Z3 book ws) (Y7 gs)=false/\
 ∀ f g h,f∈gs->g∈gs->h∈gs->agree (Z3 book ws) [f,g,h]=false->XD K C "things" G H E (dT3 f g h)
section
def ziD(T:Top K mg):Ju P w K mg base CX0 1 T.ifNR T.ifdNR ["self", "things"] (zgl T.ZK "things"):=zko T.iFNR zbC T.xf_NoRow λcdv A outer s H hr=>Ze (JK (ziZ T.xb (by rfl) T.cm_OrderError (Za (pv 0) (Za (pv 1) Zf Zd) Zd))) (Zo (zjL (pv 0) (pv 1) (by rfl)))
def zbi(T:Top K mg)(M:Bs K mg base)(W:Wds K w.params mg)(W1:Txs K w.params mg "AHEAD" Xj)(W2:Txs K w.params mg "OTHER_WAY" Xg):Ju P w K mg base (CX1 P w) 9 T.Z8.f T.Z8.fd ["order", "book", "row"] (ziT K T.ZR ZP T.ZK):=by
 have G_table_of:=@za5 T M W W1 W2;have G_each_once:T.Y0.O P w base 8 (spP K zcB):=(zcO T).mono (by decide);have G_three_against:T.YH.O P w base 8 (zcR K):=(zdq T).mono (by decide);have G_ini_NoRow:Ju P w K mg base CX0 1 T.ifNR T.ifdNR ["self", "things"] (zgl T.ZK "things"):=ziD T;refine T.Z8.F.ok1 Ys (λvs H Q E h=>?_) (λcdv A outer s H vs Q E hr h=>?_)
 .obtain⟨G,book,vo,pb,vr,ws,num,gs,rfl,_⟩:=h;rfl
 .obtain⟨G,book,vo,pb,vr,ws,num,gs,rfl,hT,sg,hpb,h0,h2,oc,hgs,hl,hna,kx⟩:=h;have hul:=V2 gs;have hu:=hr.units;refine⟨_,(Ze (Zy (i:=3) Ys.nd rfl (Or.inr rfl) (peN T.Y0 G_each_once hr (Za (pv 2) Zf Zd)))
   (Ze (Zy (i:=4) Ys.nd rfl (Or.inl rfl) (peN T.Jl G_table_of hr (Za (pv 0) (Za (pv 1) (Za (pv 3) Zf Zd) Zd) Zd)))
   (Ze (Zy (i:=5) Ys.nd rfl (Or.inl rfl) (peN T.YH G_three_against hr (Za (pv 4) Zf Zd)))
   (Ze (YB (ZD ze8 (pv 5) QH (ZQ _)) (Zo (zgc ziP T.xf_NoRow T.xfn_NoRow G_ini_NoRow (hr.mono (by decide)) T.ibNR hr.hd (by rfl) T.cm_NoRow (PA.nox (Za (Xk (YL (K:=K) rfl) (by rfl) T.J6 zfx (Za (UL (x:= "place") (cap:=["apart"]) (js:=[3]) ⟨rfl,(by decide +kernel),(by decide +kernel),rfl,(by show ∀ p∈(_:List (Str×NameKind)),p.2=NameKind.free->List.lookup p.1 (Zi Jr).names=some NameKind.cell;decide +kernel),(by decide +kernel),(by decide +kernel),(by decide +kernel)⟩ rfl rfl (λ_ _ h=>h) (Ql (pv 5)) (λ_ _ _ _=>⟨XJ,(Z0 (Zw (K:=K) rfl) (pv 1) (pv 0) (λ_ _=>rfl))⟩)) Zf JF)) Zf YT)))) ZL)
   Q6)))) ,?_⟩
  refine Yw (K:=K) (Yk (E:=E0) (R:=zcB) (Zb (Zc rfl h2) Zn) ⟨gs,rfl,hl,rfl⟩) sg λv3 G1 H1 g1 h3=>?_;refine Yw (K:=K) (W9 (R:=zmb) (d:=zgH (Z3 book ws) (Y7 gs)) (g1.gg _ _ hT) (g1.gg _ _ hpb) rfl (Zc rfl (h0.same g1.gg)) (Zb (Zc rfl h3) Zn) ⟨ws,num,Y7 gs,rfl,oc,λg hg=>hgs g ((YC gs g).mp hg),(by omega),rfl⟩) g1.gh λv4 G2 H2 g2 h4=>?_;refine⟨_,rfl,G2,v4,Z3 book ws,Y7 gs,rfl,g2.gh,h4,(by omega),λG3 H3 g3 ha=>by(rw[hna]at ha;cases ha),λp i j k f g h G3 H3 g3 e1 e2 e3 e4 hp=>?_⟩;refine⟨_,rfl,rfl,_,rfl,zie ?_⟩;have g03:=(g1.trans g2).trans g3;have h33:=h3.same (g2.gg.trans g3.gg);refine zfJ (K:=K) (d:=dT3 f g h) (JT (QV (Zb (Ui (js:=[3]) [i,j,k] (λn=>PyData.int (n:Nat)) (λn=>some (dT ((Y7 gs).getD n []))) (Zc (i:=5) rfl hp) (by show 3<sizeLine;decide) λG4 q n x s4 hn hx=>lc1 X7 ?_) Zn)) ?_) g3.gh ((kx f g h ((YC gs f).mp (Ii e1)) ((YC gs g).mp (Ii e2)) ((YC gs h).mp (Ii e3)) e4).grow g03)
  .have hn' : ∃ o,(Y7 gs)[n]?=some o:=by
    have hm:=Ii hn;simp only[ID,IX,NK]at hm;rcases hm with rfl | rfl | rfl
    .exact⟨f,e1⟩
    .exact⟨g,e2⟩
    .exact⟨h,e3⟩
   obtain⟨o,ho⟩:=hn';have hi:n<(Y7 gs).length:=(Ik.mp ho).1;refine YG (n:=n) (Zc rfl (h33.same s4)) (Zc rfl hx) (by rw[Ig];exact XN hi) ?_;rw[Io,ho,Im,ho];rfl
  .rw[Wz];have a1:(Y7 gs).getD i []=f:=by rw[Im,e1];rfl
   have a2:(Y7 gs).getD j []=g:=by rw[Im,e2];rfl
   have a3:(Y7 gs).getD k []=h:=by rw[Im,e3];rfl
   simp only[Nb,map_nil,a1,a2,a3]
def zcn(T:Top K mg)(M:Bs K mg base)(W:Wds K w.params mg)(W1:Txs K w.params mg "AHEAD" Xj)(W2:Txs K w.params mg "OTHER_WAY" Xg):Ju P w K mg base (CX1 P w) 10 T.Z9.f T.Z9.fd ["order", "book", "row"] (ziT K T.ZR ZP T.ZK):=by
 have G_ranks_of:Ju P w K mg base (CX1 P w) 9 T.Z8.f T.Z8.fd ["order", "book", "row"] (ziT K T.ZR ZP T.ZK):=zbi T M W W1 W2;refine T.Z9.F.ok1 Qh (λvs H Q E h=>?_) (λcdv A outer s H vs Q E hr h=>?_)
 .obtain⟨G,book,vo,pb,vr,ws,num,gs,rfl,_⟩:=h;rfl
 .have hu:=hr.units;obtain⟨G,book,vo,pb,vr,ws,num,gs,rfl,r⟩:=h;exact⟨_,(Ze (Zy (i:=3) Qh.nd rfl (Or.inr rfl) (PEX.pe zeP (zc3 G_ranks_of (hr.mono (by decide)) (by rfl) T.Z8.m T.Z8.F.kp T.Z8.b (ze7 (Za (pv 0) (Za (pv 1) (Za (pv 2) Zf Zd) Zd) Zd)))))
   Q6) ,⟨_,rfl,_,rfl,_,rfl,G,book,vo,pb,vr,ws,num,gs,rfl,r⟩⟩
def zcS(T:Top K mg)(M:Bs K mg base)(W:Wds K w.params mg)(W1:Txs K w.params mg "AHEAD" Xj)(W2:Txs K w.params mg "OTHER_WAY" Xg):Ju P w K mg base (CX1 P w) 10 T.Yb.f T.Yb.fd ["order", "book", "row"] (ziT K T.ZR ZP T.ZK):=by
 have G_ranks_of:Ju P w K mg base (CX1 P w) 9 T.Z8.f T.Z8.fd ["order", "book", "row"] (ziT K T.ZR ZP T.ZK):=zbi T M W W1 W2;refine T.Yb.F.ok1 Xb (λvs H Q E h=>?_) (λcdv A outer s H vs Q E hr h=>?_)
 .obtain⟨G,book,vo,pb,vr,ws,num,gs,rfl,_⟩:=h;rfl
 .have hu:=hr.units;obtain⟨G,book,vo,pb,vr,ws,num,gs,rfl,hT,sg,hpb,h0,h2,oc,hgs,hl,hna,kx⟩:=h;refine⟨_,(Ze (Zy (i:=3) Xb.nd rfl (Or.inl rfl) Zg) (Ze (Zy (i:=4) Xb.nd rfl (Or.inr rfl) (Yv Zf)) (Ze (zjP (PEX.pe zeP (zc3 G_ranks_of (hr.mono (by decide)) (by rfl) T.Z8.m T.Z8.F.kp T.Z8.b (ze7 (Za (pv 0) (Za (pv 1) (Za (pv 2) Zf Zd) Zd) Zd))))) Q6))),?_⟩;refine⟨(by show 0<=sizeLine;decide),λpr hpr=>?_⟩;have s1:ZF H (upd H pr (.lst [])):=ZZ hpr;exact⟨_,rfl,_,rfl,_,rfl,G,book,vo,pb,vr,ws,num,gs,rfl,hT,sg.trans s1,hpb,h0,h2,oc,hgs,hl,hna,λf g h a b c e=>(kx f g h a b c e).into sg s1⟩
end
noncomputable def zj3(book:LB)(ws:List Wd)(gs:List Fs):Nat->PD
 |0=>dN (tn (Z3 book ws) gs)
 |_=>.int (zfk (rks book ws gs) gs.length:Nat)
def zmD(K:FG)(Pl Pt Pc:AD):Sp:=λvs H Q _=>∃(G:Hp)(book:LB)(way:Nat)(vo:V)(pb:AD)(vr:V)(ws:List Wd)(num:Int->Int->Prop)(gs:List Fs),vs=[.int (way:Nat),vo,.ref pb,vr]/\way<2/\(G Pl=some (.tbl ZP)/\G Pt=some (.tbl λ_ _=>some Xc)/\G Pc=some (.tbl λ_ _=>some YS))/\ZF G H/\G pb=some (.tup (book.map V.str))/\Dat K G vo (dOs ws)/\Dat K G vr (.tuple (gs.map dT))/\OC book num ws/\(∀ g∈gs,FZ book.length g)/\gs.length<64/\
 (agree (Z3 book ws) gs=true->∀ v G' H',Yi G H G' H' -> Dat K G' v (.list [.str (S "told"),zj3 book ws gs way])->Q v H')/\
 (agree (Z3 book ws) gs=false->∀ f g h,f∈gs->g∈gs->h∈gs->agree (Z3 book ws) [f,g,h]=false->∀ v G' H',Yi G H G' H' -> Dat K G' v (.list [.str (S "refused"),dT3 f g h])->Q v H')
section
def zgR(T:Top K mg)(M:Bs K mg base)(W:Wds K w.params mg)(W1:Txs K w.params mg "AHEAD" Xj)(W2:Txs K w.params mg "OTHER_WAY" Xg):T.J0.O P w base 11 (zmD K T.ZR T.Wm T.We):=by
 have G_turning:Ju P w K mg base (CX1 P w) 10 T.Z9.f T.Z9.fd ["order", "book", "row"] _:=(zed T M W W1 W2).x1.either (zcn T M W W1 W2);have G_crossed:Ju P w K mg base (CX1 P w) 10 T.Yb.f T.Yb.fd ["order", "book", "row"] _:=(zdZ T M W W1 W2).x1.either (zcS T M W W1 W2);refine T.J0.F.ok Jv (λvs H Q E h=>?_) (λcdv A outer s H vs Q E hr h=>?_)
 .obtain⟨G,book,way,vo,pb,vr,ws,num,gs,rfl,_⟩:=h;rfl
 .obtain⟨G,book,way,vo,pb,vr,ws,num,gs,rfl,hw,⟨hT,hC1,hC2⟩,sg,hpb,h0,h3,oc,hgs,hl,kok,kno⟩:=h;have hu:=hr.units;refine⟨_,(Ze (Zy (i:=4) Jv.nd rfl (Or.inl rfl) QH)
   (Ze (ziF (i:=4) (j:=5) (zfi (Z0 (Zw (K:=K) rfl) (Yv (Za (Xr (v:=.ref T.Z9.f) (by rfl) T.Z9.m rfl) (Za (Xr (v:=.ref T.Yb.f) (by rfl) T.Yb.m rfl) Zf Zd) Zd)) (pv 0) (λ_ _=>rfl)) G_turning G_crossed (hr.mono (by decide)) T.Z9.F.kp T.Yb.F.kp T.Z9.b T.Yb.b (ze7 (Za (pv 1) (Za (pv 2) (Za (pv 3) Zf Zd) Zd) Zd))) rfl rfl Jv.nd rfl (Or.inl rfl) (by rfl) T.cm_OrderError rfl rfl (λ_=>(Ze (YB (W6 (Z6 (zaX (K:=K) rfl) (by rfl) T.Wu zj5 (Za (pv 5) (Za (Yg (Za (Xr (v:=.ref T.JH) (by rfl) T.cm_Clash rfl) (Za (Xr (v:=.ref T.Jw) (by rfl) T.cm_NoAsk rfl) (Za (Xr (v:=.ref T.X4) (by rfl) T.cm_NoField rfl) (Za (Xr (v:=.ref T.JC) (by rfl) T.cm_NoNet rfl) (Za (Xr (v:=.ref T.Y9) (by rfl) T.cm_NoNumber rfl) (Za (Xr (v:=.ref T.Wf) (by rfl) T.cm_NoOrder rfl) (Za (Xr (v:=.ref T.Wa) (by rfl) T.cm_NoPlace rfl) (Za (Xr (v:=.ref T.X5) (by rfl) T.cm_NoThing rfl) Zf Zd) Zd) Zd) Zd) Zd) Zd) Zd) Zd)) Zf)))) (Zo (Zx Zz)) ZL)
   (Ze (YB ((pw_or (zbr (W6 (Z6 (zaX (K:=K) rfl) (by rfl) T.Wu zj5 (Za (pv 5) (Za (Xr (v:=.ref T.ZK) (by rfl) T.cm_NoRow rfl) Zf))))) (pw_or1 (zbr (W6 (Z6 (zaX (K:=K) rfl) (by rfl) T.Wu zj5 (Za (pv 5) (Za (zcE (v:=.ty "ValueError") (by rfl) T.zcP zcG rfl) Zf)))))))).pt (Zo (Zx Zz)) ZL)
   (Zo (Zx (Yv (Za Zz (Za (zgQ (K:=K) rfl (pv 5) (by rfl)) Zf zcb) Zj))))))))
   (Zo (Zx (Yv (Za Zz (Za (pv 4) Zf Zd) Zj)))))) ,?_⟩
  have hag:agree (Z3 book ws) (Y7 gs)=agree (Z3 book ws) gs:=zbA λf=>YC gs f;refine⟨(by show 2<=sizeLine;decide),λl hlf=>⟨_,rfl,l,_,(way:Nat),(if way=0 then .ref T.Z9.f else .ref T.Yb.f),rfl,rfl,SqL.of Zh,?_,?_⟩⟩
  .have:way=0\/way=1:=by omega
   rcases this with rfl | rfl <;> rfl
  have s1:ZF H (upd H l (.lst [.ref T.Z9.f,.ref T.Yb.f])):=ZZ hlf;have g1:Yi G H G (upd H l (.lst [.ref T.Z9.f,.ref T.Yb.f])):=Vy sg s1;generalize upd H l (.lst [.ref T.Z9.f,.ref T.Yb.f])=H1 at s1 g1;cases ea:agree (Z3 book ws) gs with
  |true=>
   have wk:Wk (Z3 book ws) (· ∈ gs):=(Xi _ _).mp ea;have fin:∀ v G' H',Yi G H1 G' H' -> Dat K G' v (zj3 book ws gs way)->zmg (zhB (Z4 (tC (.str (S "told"))) (Z4 (XH 4) Qk))) {nx:=λ_ H' => Q .non H',rt:=Q} [some (.int (way:Nat)),some vo,some (.ref pb),some vr,some v,none] H':=λv G' H' g' hv=>by refine ZX (K:=K) (Wx (Zb ZJ (Zb (Zc (i:=4) rfl hv) Zn)) (by show 2<=sizeLine;decide)) g'.gh λv2 G2 H2 g2 hv2=>?_;exact kok ea v2 G2 H2 (g1.trans (g'.trans g2)) hv2
   have:way=0\/way=1:=by omega
   rcases this with rfl | rfl
   .refine .inl ⟨rfl,_,rfl,_,rfl,_,rfl,.inl ⟨G,book,vo,pb,[vr],_,_,rfl,⟨hT,hC1⟩,g1.gh,hpb,Zv h0 (Zv h3 ZC),⟨ws,num,gs,rfl,oc,hgs,hl,wk,rfl⟩,λv G' H' g' hv=>?_⟩⟩;exact fin v G' H' g' hv
   .refine .inr ⟨rfl,_,rfl,_,rfl,_,rfl,.inl ⟨G,book,vo,pb,[vr],_,_,rfl,⟨hT,hC2⟩,g1.gh,hpb,Zv h0 (Zv h3 ZC),⟨ws,num,gs,rfl,oc,hgs,(by omega),wk,rfl⟩,λv G' H' g' hv=>?_⟩⟩;exact fin v G' H' g' hv
  |false=>
   have key:∀(E' : XK)(Q' : VK),(∀ f g h,f∈gs->g∈gs->h∈gs->agree (Z3 book ws) [f,g,h]=false->XD K T.ZK "things" G H1 E' (dT3 f g h))->
     (((if way=0 then V.ref T.Z9.f else V.ref T.Yb.f)=V.ref T.Z9.f/\Z4 (XH 1) (Z4 (XH 2) (Z4 (XH 3) Qk)) [some (.int (way:Nat)),some vo,some (.ref pb),some vr,some .non,none] H1 λvs H2=>(znf K T.ZR T.Wm zna vs H2 Q' E' \/ ziT K T.ZR ZP T.ZK vs H2 Q' E'))\/
     ((if way=0 then V.ref T.Z9.f else V.ref T.Yb.f)=V.ref T.Yb.f/\Z4 (XH 1) (Z4 (XH 2) (Z4 (XH 3) Qk)) [some (.int (way:Nat)),some vo,some (.ref pb),some vr,some .non,none] H1 λvs H2=>(zm3 K T.ZR T.We zia vs H2 Q' E' \/ ziT K T.ZR ZP T.ZK vs H2 Q' E'))):=λE' Q' XX=>by
    have:way=0\/way=1:=by omega
    rcases this with rfl | rfl
    .exact .inl ⟨rfl,_,rfl,_,rfl,_,rfl,.inr ⟨G,book,vo,pb,vr,ws,num,gs,rfl,hT,g1.gh,hpb,h0,h3,oc,hgs,(by omega),by rw[hag];exact ea,XX⟩⟩
    .exact .inr ⟨rfl,_,rfl,_,rfl,_,rfl,.inr ⟨G,book,vo,pb,vr,ws,num,gs,rfl,hT,g1.gh,hpb,h0,h3,oc,hgs,(by omega),by rw[hag];exact ea,XX⟩⟩
   refine key _ _ λf g h a1 a2 a3 e dx v G' H' g' hdx hgx hv=>⟨T.ZK,rfl,T.exm,λa ha=>?_⟩
   have nad:dx≠a:=Zk hdx ha;have s2:ZF H' (upd H' a (xcO a T.ZK (some dx))):=ZZ ha;have hA:upd H' a (xcO a T.ZK (some dx)) a=some (xcO a T.ZK (some dx)):=Zh;have hD:upd H' a (xcO a T.ZK (some dx)) dx=some (.xd [("things",v)]):=s2 _ _ hdx;generalize upd H' a (xcO a T.ZK (some dx))=H2 at s2 hA hD;refine⟨_,rfl,(by show 8<=sizeLine;decide),λt ht=>⟨_,_,_,false,rfl,.exc (dc:=some dx) (by rw[Zm (Zk hA ht)];exact hA) T.xf_NoRow.c,.inr ⟨t,_,[.ref T.JH,.ref T.Jw,.ref T.X4,.ref T.JC,.ref T.Y9,.ref T.Wf,.ref T.Wa,.ref T.X5],rfl,Zh,rfl,T.oth⟩,⟨_,rfl,zeO ?_⟩⟩⟩;have s3:ZF H2 (upd H2 t (.tup [.ref T.JH,.ref T.Jw,.ref T.X4,.ref T.JC,.ref T.Y9,.ref T.Wf,.ref T.Wa,.ref T.X5])):=ZZ ht;have hA3:=s3 _ _ hA;have hD3:=s3 _ _ hD;have g3:Yi G H1 G' _:=g'.trans (Vy g'.gh (s2.trans s3));refine⟨_,rfl,_,_,_,true,rfl,.exc (dc:=some dx) hA3 T.xf_NoRow.c,.inl ⟨_,rfl,T.own⟩,⟨_,rfl,zeO ?_⟩⟩;refine⟨_,rfl,_,_,_,true,rfl,.exc (dc:=some dx) hA3 T.xf_NoRow.c,.inl ⟨_,rfl,T.vae⟩,⟨_,rfl,zeO ?_⟩⟩;refine⟨_,rfl,a,T.ZK,T.ifNR,dx,_,v,rfl,hA3,T.xf_NoRow,hD3,rfl,(by show 2<=sizeLine;decide),λl2 hl2=>?_⟩;have g4:=Yd (o:=.lst [.str (S "refused"),v]) g3.gh hl2;exact kno ea f g h a1 a2 a3 e _ _ _ (g1.trans (g3.trans g4)) (YJ Zh (Zv (Z5 _) (Zv (hv.same g4.gg) ZC)))
end
end K29
namespace L2
open PySem PySem.Spec PyProof.Rows
def zlM:R2:=λx y H Q=>∃(c:Nat)(n:Int),x = .str ⟨#[c]⟩/\y = .int n/\0<=n/\n<=1000/\Q (.str ⟨(List.replicate n.toNat c).toArray⟩) H
def zit(c:Nat)(n:Int)(h:0<=n):Txt.mul ⟨#[c]⟩ n=⟨(List.replicate n.toNat c).toArray⟩:=by
 unfold Txt.mul;have f0:∀(m:Nat)(acc:List Nat),List.foldl (λx1 x2=>x1++x2) acc.toArray (List.replicate m #[c])=(acc++List.replicate m c).toArray:=λm=>by
  induction m with
  |zero=>intro acc;simp
  |succ m ih=>
   intro acc;rw[NS,foldl_cons];have e:acc.toArray ++ #[c]=(acc++[c]).toArray:=by simp
   rw[e,ih,NS,append_assoc];rfl
 by_cases h1:n<1
 .rw[IA h1];have:n.toNat=0:=by omega
  rw[this];rfl
 .rw[Iw h1];have:=f0 n.toNat [];rw[nil_append]at this;split
  .rename_i z
   have z1:n=1:=by
    rcases(Bool.or_eq_true _ _).mp z with h | h
    .simpa using h
    .cases h
   subst z1;rfl
  .exact Na Str.mk this
def zfp{X:Cx}:OpR X (binaryOp .Mult) zlM:=by
 intro aa s σ H x y v u Q I rx ry h;obtain⟨c,n,rfl,rfl,h0,h1,q⟩:=h;obtain⟨t,rfl⟩:=rx;obtain⟨t',rfl⟩:=ry;refine SB.mul ⟨?_,λhn _=>?_,λhn _=>?_⟩ λt' k=>⟨.str ⟨(List.replicate n.toNat c).toArray⟩,H,I.tok _,⟨t',by rw[zit c n h0]⟩,q⟩
 .rw[Iy (by omega),Iy (by omega)];rfl
 .show ¬ (1:Int)>_;have:(1:Int)<=(2^63-1) / n:=(Int.le_ediv_iff_mul_le (by omega)).mpr (by omega);omega
 .show Builtin.Str.tooLong (1*n.toNat)=false;have:(1000:Nat)<=sizeLine:=by decide
  unfold Builtin.Str.tooLong
  first
   |exact Iy (by omega)
   |simp;omega
def zfj{K:FG}{σ:St}{G:Hp}{ta tb:TE}{c:Nat}{n:Int}(ha:Ev K ta σ G (.str ⟨#[c]⟩))(hb:Ev K tb σ G (.int n))(h0:0<=n)(h1:n<=1000):Ev K (tOp zlM ta tb) σ G (.str ⟨(List.replicate n.toNat c).toArray⟩):=
 J4 ha hb λG1 H x y Q s1 s2 hx hy k=>by rw[hx.str,hy.int];exact⟨c,n,rfl,rfl,h0,h1,k _ G1 H (Yi.refl s2) (Z5 _)⟩
def zhD{K:FG}{σ:St}{G:Hp}{ta tb:TE}{z:Str}{i:Int}{c:Nat}(ha:Ev K ta σ G (.str z))(hb:Ev K tb σ G (.int i))(hz:z.length<=sizeLine)(hc:atI z.cps.toList i=some c):Ev K (tOp znm ta tb) σ G (.str ⟨#[c]⟩):=
 J4 ha hb λG1 H x y Q s1 s2 hx hy k=>by rw[hx.str,hy.int];exact⟨z,i,c,rfl,rfl,hz,hc,k _ G1 H (Yi.refl s2) (Z5 _)⟩
end L2
namespace K29
open PySem L2 Frac Lw Dig PySem.NumText Nm
open Ord Look Rdo
variable {σ:St}{G:Hp}{ta tb:TE}{i j:Int}{book:LB}{pool:List (Int×Int)}
def SzP(p:Int×Int):Prop:=Sz p/\1<=p.2
def RNx:LA->PD->Prop:=λds x=>ds=[]/\∃ r:Int,x = .int r
def RFr:LA->PD->Prop:=λds x=>ds=[]/\∃ p,x=dF p/\SzP p
def DkA.step{N:Nat}{H:Hp}{d c:AD}{k0:Int}(D:DkA (N+1) H d c)(h:H d=some (.lst [.ref c,.int k0])):DkA N (upd H d (.lst [.ref c,.int (k0+1)])) d c:=by
 have ne:=D.ne;obtain⟨k,ns,h1,h2,h3,h4,h5⟩:=D.ex;rw[h1]at h;injection h with h;injection h with h;simp at h;subst h;refine⟨k+1,ns,Zh,by rw[Zm ne];exact h2,h3,(by omega),?_⟩
 push_cast at h5 ⊢
 omega
def m2(i j:Int)(h:0<j):0<=i % j/\i % j<j:=⟨NT _ (by omega),Nv _ h⟩
section
def Qz(T:Top K mg):T.Yj.O P w base 1 (V4 K 1 RNx):=by
 refine T.Yj.F.ok WR (λvs H Q E h=>?_) (λcdv A outer s H vs Q E hr h=>?_)
 .obtain⟨d,c,G,us,ds,rfl,_,_,_,_,hd,⟨x,rfl,_⟩,_⟩:=h;rw[IE,hd.length];rfl
 .obtain⟨d,c,G,us,ds,rfl,sg,gd,gc,D,hd,⟨x,rfl,_⟩,kk⟩:=h;cases hd.nil;have nedc:=D.ne;obtain⟨k,ns,hdk,hck,few,h0,hk⟩:=id D.ex;have fin:∀ r:Int,Q (.int r) (upd H d (.lst [.ref c,.int (k+1)])):=λr=>by refine kk _ _ G _ ⟨rfl,r,rfl⟩ (zjU sg gd gc (DkA.step (N:=0) D hdk) (λN D' => DkA.step D' hdk) λb o e h1 h2=>by rw[Zm h1];exact e) (Zr _)
  have hk9:k<10^9:=by omega
  have hc:SqL K (upd H d (.lst [.ref c,.int (k+1)])) c (ns.map V.int):=SqL.of (by rw[Zm nedc];exact hck);refine⟨_,(Ze (Zy (i:=1) WR.nd rfl (Or.inl rfl) (Z0 (Zw (K:=K) rfl) (pv 0) Zg (λ_ _=>rfl)))
   (Ze (Zy (i:=2) WR.nd rfl (Or.inl rfl) (Z0 (Zw (K:=K) rfl) (pv 0) Zg (λ_ _=>rfl)))
   (Ze (zfF (Zu Jp (pv 2) Zg) (zhG (pv 0) Zg set_list))
   (Ze (YB (ZD zcV (pv 2) (Z6 (Ye (K:=K) rfl) (by rfl) T.zaW IJ (Za (pv 1) Zf Zd)) (ZQ _)) (Zo (Zx (Z0 (Zw (K:=K) rfl) (pv 1) (pv 2) (λ_ _=>rfl)))) ZL)
   (Ze (YB (ZD Wl (Z6 (Ye (K:=K) rfl) (by rfl) T.zaW IJ (Za (pv 1) Zf Zd)) Zg (ZQ _)) (Zo (Zx (Zu Jp (Zu Y4 (Zu Y4 (pv 2) (pv 2)) Zg) (pv 2)))) ZL)
   (Ze (Zy (i:=3) WR.nd rfl (Or.inl rfl) (Zu ZV (Zu Y4 (Zu Jp (Zu Jp (Zu ZV (Z0 (Zw (K:=K) rfl) (pv 1) (Zu ZV (pv 2) (Z6 (Ye (K:=K) rfl) (by rfl) T.zaW IJ (Za (pv 1) Zf Zd))) (λ_ _=>rfl)) Zg) (Zu Y4 (pv 2) Zg)) Zg) Zg) Zg))
   (Zo (Zx (Zu ZV (Zu Y4 (pv 3) (pv 3)) Zg))))))))) ,?_⟩
  refine⟨_,rfl,d,_,0,_,rfl,rfl,SqL.of hdk,rfl,?_⟩;refine⟨_,rfl,d,_,1,_,rfl,rfl,SqL.of hdk,rfl,?_⟩;refine⟨_,rfl,_,_,rfl,rfl,_,rfl,d,_,1,1,rfl,rfl,hdk,rfl,?_⟩;refine⟨_,rfl,_,rfl,c,_,rfl,.inl hc,_,_,rfl,rfl,_,rfl,?_⟩;refine zm2 (λh=>?_) (λh=>?_)
  .have h' : k<ns.length:=by have:=Ir h;rw[Ig]at this;exact this
   obtain⟨z,j,hat,_,_⟩:=zdC (ns:=ns) h0 h';exact⟨_,rfl,_,rfl,c,_,_,_,rfl,rfl,hc,hat,fin z⟩
  .refine⟨_,rfl,c,_,rfl,.inl hc,rfl,_,rfl,?_⟩;refine zm2 (λ_=>?_) (λh2=>?_)
   .have m1:(k*k).natAbs<=10^9*10^9:=znK (by omega) (by omega);exact⟨_,rfl,_,rfl,_,_,rfl,rfl,mw (by omega) (by omega),_,_,rfl,rfl,mw (by omega) (by decide),_,rfl,_,_,rfl,rfl,fin _⟩
   .have hp:0<ns.length:=by have h3:¬ (V.int ((ns.map V.int).length:Nat)=V.int 0):=λz=>h2 (Iq z);rw[Ig]at h3;have:ns.length≠0:=λz=>h3 (by rw[z];rfl);omega
    have hi0:0<=k % ((ns.map V.int).length:Int):=NT _ (by rw[Ig];omega);have hi1:k % ((ns.map V.int).length:Int)<ns.length:=by have:=Nv k (show(0:Int)<((ns.map V.int).length:Int)by rw[Ig];omega);rw[Ig]at this ⊢;exact this
    obtain⟨z,j,hat,_,_⟩:=zdC hi0 hi1;have hb1:(0:Int)<=z % 2147483629/\z % 2147483629<2147483629:=⟨NT _ (by decide),Nv _ (by decide)⟩
    refine⟨_,rfl,_,rfl,_,rfl,c,_,rfl,.inl hc,_,_,rfl,rfl,(by rw[Ig];omega),c,_,_,_,rfl,rfl,hc,hat,_,_,rfl,rfl,(by show(0:Int)<2147483629;decide),?_⟩;refine⟨_,rfl,_,_,rfl,rfl,mw (by omega) (by decide),_,_,rfl,rfl,_,_,rfl,rfl,_,_,rfl,rfl,mw (by omega) (by decide),_,_,rfl,rfl,(by show(0:Int)<2147483587;decide),?_⟩
    (try dsimp only)
    generalize hM:(z % 2147483629+k*7919+5)*50021 % 2147483587=m;have hm:0<=m/\m<2147483587:=by rw[← hM];exact⟨NT _ (by decide),Nv _ (by decide)⟩
    exact⟨_,rfl,_,rfl,_,_,rfl,rfl,mw (by omega) (by omega),_,_,rfl,rfl,(by show(0:Int)<2147483563;decide),fin _⟩
def JB{ds:LA}(ha:Ev K ta σ G (.list ds))(hb:Ev K tb σ G (.int i))(h0:0<=i)(h1:i<ds.length):∃ e,ds[i.toNat]?=some e/\Ev K (tOp (zgt K) ta tb) σ G e:=by
 obtain⟨j,rfl⟩:=NF h0;have hj:j<ds.length:=by omega
 exact⟨ds[j],by rw[OB];exact Ib hj,YG (n:=j) ha hb (XN hj) (Ib hj)⟩
def zao{r:Int}(h:zg2 i j)(e:i^j.toNat=r):Ev K (tOp (rI zg2 λi j=>.int (i^j.toNat)) (tC (.int i)) (tC (.int j))) σ G (.int r):=JT (zcX Zq Zq h (Zr _)) (by rw[e])
def zhJ(h:Ev K ta σ G (.int i)):Ev K (tUn (rU λi=>.int (-i)) ta) σ G (.int (-i)):=λG1 H s1 s2 Q k=>h G1 H s1 s2 _ λv G2 H2 g2 hv=>⟨i,hv.int,k _ G2 H2 g2 (Zr _)⟩
def Yc(ha:Ev K ta σ G (.int i))(hb:Ev K tb σ G (.int j))(h:0<j):Ev K (tOp (rI (λ_ j=>0<j) λi j=>.int (i % j)) ta tb) σ G (.int (i % j)):=zcX ha hb h (Zr _)
def XS(ha:Ev K ta σ G (.int i))(hb:Ev K tb σ G (.int j))(h:0<j)(h' : j.natAbs<10^100):Ev K (tOp (rI Vu λi j=>.int (i / j)) ta tb) σ G (.int (i / j)):=zcX ha hb ⟨h,w0 h'⟩ (Zr _)
def Qn(ha:Ev K ta σ G (.int i))(hb:Ev K tb σ G (.int j))(h:i.natAbs<10^100)(h' : j.natAbs<10^100):Ev K (tOp (rI VN λi j=>.int (i*j)) ta tb) σ G (.int (i*j)):=zcX ha hb (mw h h') (Zr _)
def zax(ha:Ev K ta σ G (.int i))(hb:Ev K tb σ G (.int j)):Ev K (tOp (rI0 λi j=>.int (i+j)) ta tb) σ G (.int (i+j)):=Q3 ha hb (Zr _)
def WX(ha:Ev K ta σ G (.int i))(hb:Ev K tb σ G (.int j)):Ev K (tOp (rI0 λi j=>.int (i-j)) ta tb) σ G (.int (i-j)):=Q3 ha hb (Zr _)
def Qp{a b:Int}(ha:Ev K ta σ G (.int a))(hb:Ev K tb σ G (.int b)):Ev K (zdN (Z4 ta (Z4 tb Qk))) σ G (dF (a,b)):=Xf (Zb ha (Zb hb Zn)) (by show 2<=sizeLine;decide)
def ziI{m:Int}(hm:σ[2]?=some (some (.int m))):Ev K (zhB (Z4 (zdN (Z4 (tOp (rI0 λi j=>.int (i-j)) (tOp (rI (λ_ j=>0<j) λi j=>.int (i % j)) (XH 2) (tC (.int 9))) (tC (.int 4))) (Z4 (tC (.int 1)) Qk))) (Z4 (zdN (Z4 (tOp (rI0 λi j=>.int (i-j)) (tOp (rI VN λi j=>.int (i*j)) (tC (.int 2)) (tOp (rI (λ_ j=>0<j) λi j=>.int (i % j)) (XH 2) (tC (.int 5)))) (tC (.int 5))) (Z4 (tC (.int 2)) Qk))) (Z4 (zdN (Z4 (tOp (rI0 λi j=>.int (i-j)) (tOp (rI VN λi j=>.int (i*j)) (tC (.int 3)) (tOp (rI (λ_ j=>0<j) λi j=>.int (i % j)) (XH 2) (tC (.int 5)))) (tC (.int 5))) (Z4 (tC (.int 3)) Qk))) (Z4 (zdN (Z4 (tOp (rI0 λi j=>.int (i-j)) (tOp (rI VN λi j=>.int (i*j)) (tC (.int 4)) (tOp (rI (λ_ j=>0<j) λi j=>.int (i % j)) (XH 2) (tC (.int 6)))) (tC (.int 11))) (Z4 (tC (.int 4)) Qk))) Qk))))) σ G (.list ([(m % 9-4,1),(2*(m % 5)-5,2),(3*(m % 5)-5,3),(4*(m % 6)-11,4)].map dF)):=by
 have b9:=m2 m 9 (by decide);have b5:=m2 m 5 (by decide);have b6:=m2 m 6 (by decide);have b900:=m2 m 900 (by decide);have b19:=m2 m 10000000000000000000 (by decide);have b17:=m2 m 100000000000000000 (by decide);have b3:=m2 m 1000 (by decide);exact Wx (Zb (Qp (WX (Yc (Zc hm (Zr m)) Zq (by decide)) Zq) Zq)
   (Zb (Qp (WX (Qn Zq (Yc (Zc hm (Zr m)) Zq (by decide)) (by decide) (by omega)) Zq) Zq)
   (Zb (Qp (WX (Qn Zq (Yc (Zc hm (Zr m)) Zq (by decide)) (by decide) (by omega)) Zq) Zq)
   (Zb (Qp (WX (Qn Zq (Yc (Zc hm (Zr m)) Zq (by decide)) (by decide) (by omega)) Zq) Zq) Zn)))) (by show 4<=sizeLine;decide)
def zis{m:Int}(hm:σ[2]?=some (some (.int m))):Ev K (zhB (Z4 (zdN (Z4 (tOp (rI0 λi j=>.int (i-j)) (tOp (rI VN λi j=>.int (i*j)) (tC (.int 7)) (tOp (rI (λ_ j=>0<j) λi j=>.int (i % j)) (XH 2) (tC (.int 9)))) (tC (.int 31))) (Z4 (tC (.int 7)) Qk))) (Z4 (zdN (Z4 (tOp (rI0 λi j=>.int (i-j)) (tOp (rI VN λi j=>.int (i*j)) (tC (.int 100)) (tOp (rI (λ_ j=>0<j) λi j=>.int (i % j)) (XH 2) (tC (.int 900)))) (tC (.int 40007))) (Z4 (tC (.int 100)) Qk))) (Z4 (zdN (Z4 (tOp (rI (λ_ j=>0<j) λi j=>.int (i % j)) (XH 2) (tOp (rI zg2 λi j=>.int (i^j.toNat)) (tC (.int 10)) (tC (.int 19)))) (Z4 (tC (.int 1)) Qk))) Qk)))) σ G (.list ([(7*(m % 9)-31,7),(100*(m % 900)-40007,100),(m % 10000000000000000000,1)].map dF)):=by
 have b9:=m2 m 9 (by decide);have b5:=m2 m 5 (by decide);have b6:=m2 m 6 (by decide);have b900:=m2 m 900 (by decide);have b19:=m2 m 10000000000000000000 (by decide);have b17:=m2 m 100000000000000000 (by decide);have b3:=m2 m 1000 (by decide);exact Wx (Zb (Qp (WX (Qn Zq (Yc (Zc hm (Zr m)) Zq (by decide)) (by decide) (by omega)) Zq) Zq)
   (Zb (Qp (WX (Qn Zq (Yc (Zc hm (Zr m)) Zq (by decide)) (by decide) (by omega)) Zq) Zq)
   (Zb (Qp (Yc (Zc hm (Zr m)) (zao ⟨(by decide),(by decide),(by decide)⟩ (by decide +kernel)) (by decide)) Zq) Zn))) (by show 3<=sizeLine;decide)
def zjx{m:Int}(hm:σ[2]?=some (some (.int m))):Ev K (zhB (Z4 (zdN (Z4 (tOp (rI0 λi j=>.int (i-j)) (tUn (rU λi=>.int (-i)) (tC (.int 5))) (tOp (rI (λ_ j=>0<j) λi j=>.int (i % j)) (XH 2) (tOp (rI zg2 λi j=>.int (i^j.toNat)) (tC (.int 10)) (tC (.int 19))))) (Z4 (tC (.int 1)) Qk))) (Z4 (zdN (Z4 (tOp (rI0 λi j=>.int (i+j)) (tOp (rI VN λi j=>.int (i*j)) (tC (.int 10)) (tOp (rI (λ_ j=>0<j) λi j=>.int (i % j)) (XH 2) (tOp (rI zg2 λi j=>.int (i^j.toNat)) (tC (.int 10)) (tC (.int 17))))) (tC (.int 1))) (Z4 (tOp (rI zg2 λi j=>.int (i^j.toNat)) (tC (.int 10)) (tC (.int 15))) Qk))) (Z4 (zdN (Z4 (tOp (rI0 λi j=>.int (i-j)) (tOp (rI VN λi j=>.int (i*j)) (tUn (rU λi=>.int (-i)) (tC (.int 10))) (tOp (rI (λ_ j=>0<j) λi j=>.int (i % j)) (XH 2) (tOp (rI zg2 λi j=>.int (i^j.toNat)) (tC (.int 10)) (tC (.int 3))))) (tC (.int 1))) (Z4 (tOp (rI zg2 λi j=>.int (i^j.toNat)) (tC (.int 10)) (tC (.int 15))) Qk))) Qk)))) σ G (.list ([(-5-m % 10000000000000000000,1),(10*(m % 100000000000000000)+1,1000000000000000),(-10*(m % 1000)-1,1000000000000000)].map dF)):=by
 have b9:=m2 m 9 (by decide);have b5:=m2 m 5 (by decide);have b6:=m2 m 6 (by decide);have b900:=m2 m 900 (by decide);have b19:=m2 m 10000000000000000000 (by decide);have b17:=m2 m 100000000000000000 (by decide);have b3:=m2 m 1000 (by decide);exact Wx (Zb (Qp (WX (zhJ Zq) (Yc (Zc hm (Zr m)) (zao ⟨(by decide),(by decide),(by decide)⟩ (by decide +kernel)) (by decide))) Zq)
   (Zb (Qp (zax (Qn Zq (Yc (Zc hm (Zr m)) (zao ⟨(by decide),(by decide),(by decide)⟩ (by decide +kernel)) (by decide)) (by decide) (by omega)) Zq) (zao ⟨(by decide),(by decide),(by decide)⟩ (by decide +kernel)))
   (Zb (Qp (WX (Qn (zhJ Zq) (Yc (Zc hm (Zr m)) (zao ⟨(by decide),(by decide),(by decide)⟩ (by decide +kernel)) (by decide)) (by decide) (by omega)) Zq) (zao ⟨(by decide),(by decide),(by decide)⟩ (by decide +kernel))) Zn))) (by show 3<=sizeLine;decide)
def zct(T:Top K mg):T.XQ.O P w base 2 (V4 K 1 RFr):=by
 have G__law_next:=@Qz T;refine T.XQ.F.ok Yy (λvs H Q E h=>?_) (λcdv A outer s H vs Q E hr h=>?_)
 .obtain⟨d,c,G,us,ds,rfl,_,_,_,_,hd,⟨x,rfl,_⟩,_⟩:=h;rw[IE,hd.length];rfl
 .obtain⟨d,c,G,us,ds,rfl,sg,gd,gc,D,hd,⟨x,rfl,_⟩,kk⟩:=h;cases hd.nil;refine⟨_,(Ze (Zy (i:=1) Yy.nd rfl (Or.inl rfl) (peN T.Yj G__law_next hr (Za (pv 0) Zf Zd)))
   (Ze (Zy (i:=2) Yy.nd rfl (Or.inl rfl) (Zu Ym (pv 1) Zg))
   (Ze (Zy (i:=3) Yy.nd rfl (Or.inl rfl) (Yv (Za (Yg (Za (Zu XR (Zu ZV (pv 2) Zg) Zg) (Za Zg Zf Zj) Z7)) (Za (Yg (Za (Zu XR (Zu Y4 Zg (Zu ZV (pv 2) Zg)) Zg) (Za Zg Zf Zj) Z7)) (Za (Yg (Za (Zu XR (Zu Y4 Zg (Zu ZV (pv 2) Zg)) Zg) (Za Zg Zf Zj) Z7)) (Za (Yg (Za (Zu XR (Zu Y4 Zg (Zu ZV (pv 2) Zg)) Zg) (Za Zg Zf Zj) Z7)) Zf Yz) Yz) Yz) Yz)))
   (Ze (Zy (i:=4) Yy.nd rfl (Or.inl rfl) (Yv (Za (Yg (Za (Zu XR (Zu Y4 Zg (Zu ZV (pv 2) Zg)) Zg) (Za Zg Zf Zj) Z7)) (Za (Yg (Za (Zu XR (Zu Y4 Zg (Zu ZV (pv 2) Zg)) Zg) (Za Zg Zf Zj) Z7)) (Za (Yg (Za (Zu ZV (pv 2) (Zu zav Zg Zg)) (Za Zg Zf Zj) Z7)) Zf Yz) Yz) Yz)))
   (Ze (Zy (i:=5) Yy.nd rfl (Or.inl rfl) (Yv (Za (Yg (Za (Zu XR (zjI zfc Zg) (Zu ZV (pv 2) (Zu zav Zg Zg))) (Za Zg Zf Zj) Z7)) (Za (Yg (Za (Zu Jp (Zu Y4 Zg (Zu ZV (pv 2) (Zu zav Zg Zg))) Zg) (Za (Zu zav Zg Zg) Zf Z7) Z7)) (Za (Yg (Za (Zu XR (Zu Y4 (zjI zfc Zg) (Zu ZV (pv 2) (Zu zav Zg Zg))) Zg) (Za (Zu zav Zg Zg) Zf Z7) Z7)) Zf Yz) Yz) Yz)))
   (Zo (Zx (Z0 (Zw (K:=K) rfl) (Zu zeD (Zu zeD (pv 3) (pv 4)) (pv 5)) (Zu ZV (pv 1) Zg) (λ_ _=>rfl))))))))) ,?_⟩
  refine Ww (K:=K) (d:=d) (c:=c) (Xx (R:=RNx) rfl Zn ⟨.int 0,rfl,0,rfl⟩) sg gd gc D λv1 x G1 H1 hx k1 hv1=>?_;obtain⟨_,cell,rfl⟩:=hx;rw[hv1.int];refine Yw (K:=K) (XS (Zc rfl (Zr cell)) Zq (by decide) (by decide)) k1.gh λv2 G2 H2 g2 hv2=>?_;rw[hv2.int];generalize cell / 10=m;have b9:0<=m % 9/\m % 9<9:=⟨NT _ (by decide),Nv _ (by decide)⟩
  have b5:0<=m % 5/\m % 5<5:=⟨NT _ (by decide),Nv _ (by decide)⟩
  have b6:0<=m % 6/\m % 6<6:=⟨NT _ (by decide),Nv _ (by decide)⟩
  have b900:0<=m % 900/\m % 900<900:=⟨NT _ (by decide),Nv _ (by decide)⟩
  have b19:0<=m % 10000000000000000000/\m % 10000000000000000000<10000000000000000000:=⟨NT _ (by decide),Nv _ (by decide)⟩
  have b17:0<=m % 100000000000000000/\m % 100000000000000000<100000000000000000:=⟨NT _ (by decide),Nv _ (by decide)⟩
  have b3:0<=m % 1000/\m % 1000<1000:=⟨NT _ (by decide),Nv _ (by decide)⟩
  refine Yw (K:=K) (ziI (m:=m) rfl) g2.gh λv3 G3 H3 g3 hv3=>?_;refine Yw (K:=K) (zis (m:=m) rfl) g3.gh λv4 G4 H4 g4 hv4=>?_;refine Yw (K:=K) (zjx (m:=m) rfl) g4.gh λv5 G5 H5 g5 hv5=>?_;have bc:0<=cell % 10/\cell % 10<10:=⟨NT _ (by decide),Nv _ (by decide)⟩
  obtain⟨e,he,hev⟩:=JB (G:=G5) (i:=cell % 10) (zf6 (zf6 (Zc (i:=3) (σ:=[some (V.ref d),some (V.int cell),some (V.int m),some v3,some v4,some v5]) rfl (hv3.same (g4.gg.trans g5.gg))) (Zc (i:=4) rfl (hv4.same g5.gg)) (by show 7<=sizeLine;decide)) (Zc (i:=5) rfl hv5) (by show 10<=sizeLine;decide)) (Yc (Zc (i:=1) rfl (Zr cell)) Zq (by decide)) bc.1 bc.2;have hR:∃ p,e=dF p/\SzP p:=by
   have hm:=Ii he;rw[← Ni,← Ni]at hm;obtain⟨p,hp,rfl⟩:=NI.mp hm;refine⟨p,rfl,?_⟩;simp only[cons_append,nil_append,ID,IX,NK]at hp;have e40:(10:Nat)^40=10000000000000000000000000000000000000000:=by decide +kernel
   unfold SzP Sz;rw[e40];rcases hp with rfl | rfl | rfl | rfl | rfl | rfl | rfl | rfl | rfl | rfl <;> refine⟨⟨?_,?_⟩,?_⟩ <;> dsimp only <;> omega
  refine ZX (K:=K) hev g5.gh λv G' H' g' hv=>?_;exact kk v e G' H' ⟨rfl,hR⟩ ((((((k1.trans (g2.dk k1.D0)).trans (g3.dk (k1.D0.same g2.hh))).trans (g4.dk ((k1.D0.same g2.hh).same g3.hh))).trans (g5.dk (((k1.D0.same g2.hh).same g3.hh).same g4.hh))).trans (g'.dk ((((k1.D0.same g2.hh).same g3.hh).same g4.hh).same g5.hh))).up (by decide)) hv
end
def znb(K:FG):Sp:=λvs H Q _=>∃(d c:AD)(G:Hp),vs=[.ref d]/\ZF G H/\G d=none/\G c=none/\DkA 1 H d c/\
 ∀(book:LB)(pb:AD)(G' H' : Hp),1<=book.length->book.length<=4->(∀ z∈book,YM z=none)->Dk 1 d c G H G' H' -> G' pb=some (.tup (book.map V.str))->Q (.ref pb) H'
abbrev nms:LB:=[S "s",S "size",S "sizes",S "x",S "sizesize",S "si",S "xs",S "upp"]
abbrev zkX:LB:=[S "like",S "up",S "down",S "then",S "turn",S "pick",S "same",S "both",S "not",S "and",S "or",S "under",S "is"]
def zk7:∀ z∈nms,YM z=none:=by decide +kernel
def ziz:∀ z∈["like", "up", "down", "then", "turn", "pick", "same", "both", "either", "not", "and", "or", "under", "is"].map Str.ofString,z.cps.toList.getLast?≠some 120:=by decide +kernel
def znJ(z:Str):YM (z++S "x")=none:=zap λh=>ziz _ h (by
 have e:(z++S "x").cps.toList=z.cps.toList++[120]:=by show(z.cps++(S "x").cps).toList=_;rw[toList_append];rfl
 rw[e];simp)
noncomputable def Q8(p n:Nat):Str:=⟨(List.replicate n p).toArray⟩
theorem zfn(p q:Nat):∀ a b:Nat,List.replicate a p++q::List.replicate b p≠[101,105,116,104,101,114]
 |0,0=>by simp
 |0,1=>by simp
 |0,b+2=>by rw[NS,NS];intro h;simp at h;omega
 |1,0=>by simp[NS]
 |1,b+1=>by rw[NS,NS];intro h;simp at h;omega
 |a+2,b=>by rw[NS,NS];intro h;simp at h;omega
def zdW(p q a b:Nat):(Q8 p a++(⟨#[q]⟩:Str)++Q8 p b).cps.toList=List.replicate a p++q::List.replicate b p:=by show((List.replicate a p).toArray ++ #[q]++(List.replicate b p).toArray).toList=_;simp
def ziN(p q a b:Nat)(h:(Q8 p a++(⟨#[q]⟩:Str)++Q8 p b)∉zkX):YM (Q8 p a++(⟨#[q]⟩:Str)++Q8 p b)=none:=by
 refine zap λm=>?_;have ne:(Q8 p a++(⟨#[q]⟩:Str)++Q8 p b)≠S "either" := λe=>by have:=Na (λz:Str=>z.cps.toList) e;have this:(Q8 p a++(⟨#[q]⟩:Str)++Q8 p b).cps.toList=(S "either").cps.toList:=this;rw[zdW]at this;exact zfn p q a b this
 generalize (Q8 p a++(⟨#[q]⟩:Str)++Q8 p b)=z at h m ne;apply h;simp only[Nb,map_nil,ID,IX,NK]at m ⊢;rcases m with m | m | m | m | m | m | m | m | m | m | m | m | m | m
 .exact .inl m
 .exact .inr (.inl m)
 .exact .inr (.inr (.inl m))
 .exact .inr (.inr (.inr (.inl m)))
 .exact .inr (.inr (.inr (.inr (.inl m))))
 .exact .inr (.inr (.inr (.inr (.inr (.inl m)))))
 .exact .inr (.inr (.inr (.inr (.inr (.inr (.inl m))))))
 .exact .inr (.inr (.inr (.inr (.inr (.inr (.inr (.inl m)))))))
 .exact absurd m ne
 .exact .inr (.inr (.inr (.inr (.inr (.inr (.inr (.inr (.inl m))))))))
 .exact .inr (.inr (.inr (.inr (.inr (.inr (.inr (.inr (.inr (.inl m)))))))))
 .exact .inr (.inr (.inr (.inr (.inr (.inr (.inr (.inr (.inr (.inr (.inl m))))))))))
 .exact .inr (.inr (.inr (.inr (.inr (.inr (.inr (.inr (.inr (.inr (.inr (.inl m)))))))))))
 .exact .inr (.inr (.inr (.inr (.inr (.inr (.inr (.inr (.inr (.inr (.inr (.inr m)))))))))))
def zaa(p n:Nat):(Q8 p n).length=n:=by rw[Q7];show(List.replicate n p).length=n;exact Oe
def zcm(x y:Str):(x++y).length=x.length+y.length:=by rw[Q7,Q7,Q7];show(x.cps++y.cps).toList.length=_;simp
def zju{α:Type}(D:List α)(a:Nat)(ha:a<=D.length):(D.drop (HT.sIx D.length 0 (some (a:Int)))).take (HT.sIx D.length D.length none-HT.sIx D.length 0 (some (a:Int)))=D.drop a:=by rw[HT.zcA,HT.V3,Nat.min_eq_left ha,Oi (by rw[Ot];omega)]
def zmI{α:Type}(D:List α)(m:Nat):(D.drop (HT.sIx D.length 0 none)).take (HT.sIx D.length D.length (some (m:Int))-HT.sIx D.length 0 none)=D.take m:=by
 rw[HT.V3,HT.zcA,List.drop_zero,Nat.sub_zero];rcases Nat.le_total m D.length with h | h
 .rw[Nat.min_eq_left h]
 .rw[Nat.min_eq_right h,Oi h,Oi (Ih _)]
section
def zij{x:Str}{ys:LB}(ha:Ev K ta σ G (.str x))(hb:Ev K tb σ G (.list (ys.map PyData.str))):Ev K (tOp (rIn K false) ta tb) σ G (.bool (decide (x∈ys))):=
 J4 ha hb λG1 H u v Q s1 s2 hu hv k=>by
  obtain⟨p,xs,rfl,hp,hxs⟩:=hv.lst;have e:=Ux hxs;subst e;have fl:(ys.map V.str).all za9=true:=by rw[Nz];intro v m;obtain⟨s,_,rfl⟩:=NI.mp m;rfl
  have iv:inV (.str x) (ys.map V.str)=decide (x∈ys):=zhi x ys;rw[hu.str];refine⟨p,_,rfl,.inl (SqL.of (s2 _ _ hp)),rfl,fl,?_⟩;rw[Iw Ij,iv];exact k _ G1 H (Yi.refl s2) (Yu _)
def ziQ(T:Top K mg):T.JN.O P w base 2 (znb K):=by
 have G__law_next:=@Qz T;refine T.JN.F.ok Yh (λvs H Q E h=>?_) (λcdv A outer s H vs Q E hr h=>?_)
 .obtain⟨d,c,G,rfl,_⟩:=h;rfl
 .obtain⟨d,c,G,rfl,sg,gd,gc,D,kk⟩:=h;have zl:(2000:Nat)<=sizeLine:=by decide
  refine⟨_,(Ze (Zy (i:=1) Yh.nd rfl (Or.inl rfl) Zz)
   (Ze (Zy (i:=2) Yh.nd rfl (Or.inl rfl) (peN T.Yj G__law_next hr (Za (pv 0) Zf Zd)))
   (Ze (Zy (i:=3) Yh.nd rfl (Or.inl rfl) (Zu Jp Zg (Zu ZV (Zu Ym (pv 2) Zg) Zg)))
   (Ze (YB (ZD Wl (Zu ZV (Zu Ym (pv 2) Zg) Zg) Zg (ZQ _)) (Ze (Zy (i:=4) Yh.nd rfl (Or.inl rfl) (zhT (d:=(.list [(.str (Str.ofString "s")),(.str (Str.ofString "size")),(.str (Str.ofString "sizes")),(.str (Str.ofString "x")),(.str (Str.ofString "sizesize")),(.str (Str.ofString "si")),(.str (Str.ofString "xs")),(.str (Str.ofString "upp"))])) (by kernel_rfl)))
   (Zo (Zx (Xk (YL (K:=K) rfl) (by rfl) T.J6 zfx (Za (V9 (Ua (K:=K) rfl) (V9 (Ua (K:=K) rfl) (Zu zeD (pv 4) (pv 4)) (zbf (Zu ZV (Zu Ym (pv 2) Zg) Zg)) zbc) zbc (zbf (pv 3))) Zf Zt))))) ZL)
   (Ze (Zy (i:=5) Yh.nd rfl (Or.inl rfl) (Zu ZV (Zu Ym (pv 2) Zg) Zg))
   (Ze (Zy (i:=6) Yh.nd rfl (Or.inl rfl) (Zu ZV (Zu Ym (pv 2) Zg) (Zu XR Zg (pv 5))))
   (Ze (Zy (i:=7) Yh.nd rfl (Or.inl rfl) (Yv Zf))
   (Ze (JR IT rfl (Wt (by rfl) T.Vw (Za (pv 3) Zf Zd)) (YD (i:=8) Yh.nd rfl (Or.inl rfl)) (Ze (Zy (i:=9) Yh.nd rfl (Or.inl rfl) (Z0 zh4 (pv 1) (Zu ZV (pv 2) Zg) (λ_ _=>rfl)))
   (Ze (Zy (i:=10) Yh.nd rfl (Or.inl rfl) (Zu Vt (Zu Vt (Zu zfp (pv 9) (pv 5)) (Z0 zh4 (pv 1) (Zu ZV (Zu Jp (Zu Ym (pv 2) Zg) (Zu Y4 Zg (pv 8))) Zg) (λ_ _=>rfl))) (Zu zfp (pv 9) (pv 6))))
   (Ze (YB (ZD zbG (pv 10) (zhT (d:=(.list [(.str (Str.ofString "like")),(.str (Str.ofString "up")),(.str (Str.ofString "down")),(.str (Str.ofString "then")),(.str (Str.ofString "turn")),(.str (Str.ofString "pick")),(.str (Str.ofString "same")),(.str (Str.ofString "both")),(.str (Str.ofString "not")),(.str (Str.ofString "and")),(.str (Str.ofString "or")),(.str (Str.ofString "under")),(.str (Str.ofString "is"))])) (by kernel_rfl)) (by rfl)) (Zo (Zy (i:=10) Yh.nd rfl (Or.inl rfl) (Zu Vt (pv 10) Zz))) ZL)
   (Zo (JK (VL Nf Nn Np Wv (pv 7) (Za (pv 10) Zf Zd))))))))
   (Zo (Zx (Xk (YL (K:=K) rfl) (by rfl) T.J6 zfx (Za (pv 7) Zf Zd)))))))))))) ,?_⟩
  refine Yw (K:=K) ZJ sg λv0 G0 H0 g0 hv0=>?_;rw[hv0.str];have k0:=g0.dk D;refine Ww (K:=K) (d:=d) (c:=c) (Xx (R:=RNx) rfl Zn ⟨.int 0,rfl,0,rfl⟩) g0.gh (k0.gd D gd) (k0.gc D gc) (D.same g0.hh) λv1 x G1 H1 hx k1 hv1=>?_;obtain⟨_,cell,rfl⟩:=hx;rw[hv1.int];have k1:=k0.trans k1;have b4:=m2 (cell / 26) 4 (by decide);refine Yw (K:=K) (zax Zq (Yc (XS (Zc rfl (Zr cell)) Zq (by decide) (by decide)) Zq (by decide))) k1.gh λv3 G2 H2 g2 hv3=>?_;rw[hv3.int];obtain⟨many,hmany⟩:∃ m:Nat,1+cell / 26 % 4=m:=⟨(1+cell / 26 % 4).toNat,(by omega)⟩
  rw[hmany];have bm:1<=many/\many<=4:=by omega
  clear hmany b4;have k2:=k1.trans (g2.dk k1.D0);refine Vz (ZM (K:=K) (VB (Yc (XS (Zc rfl (Zr cell)) Zq (by decide) (by decide)) Zq (by decide)) Zq)) g2.gh (λ_ G3 H3 g3=>?_) (λ_ G3 H3 g3=>?_)
  .have k3:=k2.trans (g3.dk k2.D0);refine Yw (K:=K) (x:=.list (nms.map PyData.str)) zh2 g3.gh λv4 G4 H4 g4 hv4=>?_;have k4:=k3.trans (g4.dk k3.D0);have b8:=m2 (cell / 208) 8 (by decide);obtain⟨at_,hat⟩:∃ m:Nat,cell / 208 % 8=m:=⟨(cell / 208 % 8).toNat,(by omega)⟩
   have b8' : at_<8:=by omega
   have ev1:Ev K (tSl (zj7 K) (tSl (zj7 K) (tOp zmY (XH 4) (XH 4)) (zjX (tOp (rI (λ_ j=>0<j) λi j=>.int (i % j)) (tOp (rI Vu λi j=>.int (i / j)) (XH 2) (tC (.int 208))) (tC (.int 8)))) zcy) zcy (zjX (XH 3))) [some (V.ref d),some (V.str (Str.ofString "abcdefghijklmnopqrstuvwxyz")),some (V.int cell),some (V.int many),some v4,none,none,none,none,none,none] G4 (.list ((((nms++nms).drop at_).take many).map PyData.str)):=by refine JT (zfS (lo:=none) (hi:=some (many:Int)) (zfS (lo:=some (at_:Int)) (hi:=none) (zf6 (Zc rfl hv4) (Zc rfl hv4) (by show 16<=sizeLine;decide)) (λH Q q=>⟨_,rfl,_,_,rfl,rfl,⟨(by decide),w0 (by decide)⟩,_,_,rfl,rfl,(by show(0:Int)<8;decide),_,rfl,by rw[hat];exact q⟩) (λH Q q=>q)) (λH Q q=>q) (λH Q q=>⟨_,rfl,_,rfl,q⟩)) ?_;rw[← Ni,zju _ at_ (by show at_<=16;omega),zmI,map_take,map_drop]
   refine Ev.use ev1 g4.gh λv5 G5 H5 g5 hv5=>?_;obtain⟨p,ys,rfl,hp,hys⟩:=hv5.lst;have ey:=Ux hys;subst ey;refine⟨p,_,rfl,.inl ⟨SqL.of (g5.gh _ _ hp),λt ht=>?_⟩⟩;have g6:=Yd (o:=.tup ((((nms++nms).drop at_).take many).map V.str)) g5.gh ht;refine kk _ t _ _ ?_ ?_ ?_ ((k4.trans ((g5.trans g6).dk k4.D0)).up (by decide)) Zh
   .rw[NV,Ot];show 1<=min many (16-at_);omega
   .rw[NV];omega
   .intro z hz;have:=List.mem_of_mem_drop (List.mem_of_mem_take hz);rcases NN.mp this with h | h <;> exact zk7 z h
  .have k3:=k2.trans (g3.dk k2.D0);have b8:=m2 (cell / 208) 8 (by decide);obtain⟨place,hpl⟩:∃ m:Nat,cell / 208 % 8=m:=⟨(cell / 208 % 8).toNat,(by omega)⟩
   have bp:place<8:=by omega
   refine Yw (K:=K) (x:=.int (place:Nat)) (JT (Yc (XS (Zc rfl (Zr cell)) Zq (by decide) (by decide)) Zq (by decide)) (by rw[hpl])) g3.gh λv5 G4 H4 g4 hv5=>?_;rw[hv5.int];have k4:=k3.trans (g4.dk k3.D0);have b9:=m2 (cell / 1664) (8-place) (by omega);obtain⟨tail,htl⟩:∃ m:Nat,cell / 1664 % (8-(place:Int))=m:=⟨(cell / 1664 % (8-(place:Int))).toNat,(by omega)⟩
   have bt:tail<9:=by omega
   refine Yw (K:=K) (x:=.int (tail:Nat)) (JT (Yc (XS (Zc rfl (Zr cell)) Zq (by decide) (by decide)) (WX Zq (Zc rfl (Zr (place:Nat)))) (by omega)) (by rw[htl])) g4.gh λv6 G5 H5 g5 hv6=>?_;rw[hv6.int];have k5:=k4.trans (g5.dk k4.D0);clear htl b9 hpl b8;refine⟨(by show 0<=sizeLine;decide),λl hl=>?_⟩;obtain⟨nd,nc⟩:=Dk.ned k5.D0 hl;have gl:G5 l=none:=g5.gh.free hl;have k6:Dk 0 d c G5 H5 G5 (upd H5 l (.lst [])):=(Dk.refl g5.gh k5.D0).wr hl gl nd nc _;refine⟨_,rfl,(many:Int),rfl,(by omega),(by omega),J7 (n:=many) (λi σ H' => ∃(v8 v9 v10:Option V)(xs:LB),σ=[some (V.ref d),some (V.str (Str.ofString "abcdefghijklmnopqrstuvwxyz")),some (V.int cell),some (V.int many),none,some (V.int place),some (V.int tail),some (V.ref l),v8,v9,v10]/\Dk 0 d c G5 H5 G5 H' /\ H' l=some (.lst (xs.map V.str))/\xs.length=i/\∀ z∈xs,YM z=none) ⟨_,_,_,[],rfl,k6,Zh,rfl,λz hz=>by cases hz⟩ ?_ ?_⟩
   .rintro i σ H' hi ⟨v8,v9,v10,xs,rfl,k7,hk,hxl,hws⟩;have b26:=m2 cell 26 (by decide);have cp:=zh0 b26.1 b26.2;refine Yw (K:=K) (zhD (Zc rfl (Z5 letters)) (Yc (Zc rfl (Zr cell)) Zq (by decide)) (by rw[zfs];omega) cp) k7.gh λv9' G6 H6 g6 hv9=>?_;rw[hv9.str];generalize 97+(cell % 26).toNat=p;have b27:=m2 (cell / 13312+5*(0+(i:Int))) 26 (by decide);have cq:=zh0 b27.1 b27.2;generalize hq:97+((cell / 13312+5*(0+(i:Int))) % 26).toNat=q at cq;have e1:(⟨#[q]⟩:Str).length=1:=rfl;refine Yw (K:=K) (x:=.str (Q8 p place++(⟨#[q]⟩:Str)++Q8 p tail)) (zcQ (zcQ (zfj (n:=(place:Int)) (Zc rfl (Z5 _)) (Zc rfl (Zr _)) (by omega) (by omega)) (zhD (Zc rfl (Z5 letters)) (Yc (zax (XS (Zc rfl (Zr cell)) Zq (by decide) (by decide)) (Qn Zq (Zc rfl (Zr _)) (by decide) (by omega))) Zq (by decide)) (by rw[zfs];omega) cq) (by have:=zaa p place;show(Q8 p place).length+1<=sizeLine;omega)) (zfj (n:=(tail:Int)) (Zc rfl (Z5 _)) (Zc rfl (Zr _)) (by omega) (by omega)) (by
     have h1:=zaa p place;have h2:=zaa p tail;have h3:=zcm (Q8 p place) (⟨#[q]⟩:Str);show(Q8 p place++(⟨#[q]⟩:Str)).length+(Q8 p tail).length<=sizeLine;omega)) g6.gh λv10' G7 H7 g7 hv10=>?_
    have e10:=hv10.str;subst e10;have g67:=g6.trans g7;have hnl:(Q8 p place++(⟨#[q]⟩:Str)++Q8 p tail).length<=20:=by have h1:=zaa p place;have h2:=zaa p tail;have h3:=zcm (Q8 p place) (⟨#[q]⟩:Str);have h4:=zcm (Q8 p place++(⟨#[q]⟩:Str)) (Q8 p tail);omega
    refine Vz (ZM (K:=K) (zij (ys:=zkX) (Zc rfl (Z5 _)) zh2)) g7.gh (λ_ G8 H8 g8=>?_) (λhni G8 H8 g8=>?_)
    .refine Jt (K:=K) (zcQ (Zc rfl (Z5 _)) (ZJ (x:=S "x")) (by have:(S "x").length=1:=(by decide +kernel);omega)) g8.gh λv11 G9 H9 g9 hv11=>?_;rw[hv11.str];have g69:=(g67.trans g8).trans g9;have hkN:=g69.hh _ _ hk;refine⟨_,rfl,.inl ⟨rfl,_,SqL.of hkN⟩,_,rfl,l,_,_,rfl,rfl,hkN,(by rw[Ig];omega),?_⟩;refine⟨_,_,_,xs++[(Q8 p place++(⟨#[q]⟩:Str)++Q8 p tail)++S "x"],rfl,((k7.trans (g69.dk k7.D0)).wr hl (g69.out hk gl) nd nc _).back,by rw[Zh,Ni];rfl,by rw[Iv,hxl];rfl,λz hz=>?_⟩;rcases NN.mp hz with hz | hz
     .exact hws z hz
     .rw[IN.mp hz];exact znJ _
    .have g69:=g67.trans g8;have hkN:=g69.hh _ _ hk;refine⟨_,rfl,.inl ⟨rfl,_,SqL.of hkN⟩,_,rfl,l,_,_,rfl,rfl,hkN,(by rw[Ig];omega),?_⟩;refine⟨_,_,_,xs++[Q8 p place++(⟨#[q]⟩:Str)++Q8 p tail],rfl,((k7.trans (g69.dk k7.D0)).wr hl (g69.out hk gl) nd nc _).back,by rw[Zh,Ni];rfl,by rw[Iv,hxl];rfl,λz hz=>?_⟩;rcases NN.mp hz with hz | hz
     .exact hws z hz
     .rw[IN.mp hz];exact ziN p q place tail (Nk hni)
   .rintro σ H' ⟨v8,v9,v10,xs,rfl,k7,hk,hxl,hws⟩;refine⟨_,rfl,l,_,rfl,.inl ⟨SqL.of hk,λt ht=>?_⟩⟩;have g8:=Yd (o:=.tup (xs.map V.str)) k7.gh ht;exact kk xs t _ _ (by omega) (by omega) hws (((k5.trans k7).trans (g8.dk k7.D0)).up (by decide)) Zh
end
abbrev tNx(K:FG)(i:Nat):TE:=zaf (V4 K 1 RNx) [] E0 (Z4 (XH i) Qk)
abbrev zdI(a b:TE):TE:=tOp (rI (λ_ j=>0<j) λi j=>.int (i % j)) a b
abbrev tLn(K:FG)(i:Nat):TE:=tCB (λxs H Q=>∃ p ys,xs=[.ref p]/\(SqL K H p ys\/SqT K H p ys)/\Q (.int ys.length) H) (Z4 (XH i) Qk)
def FOk(n:Nat)(f:Fs):Prop:=f.length=n/\∀ p∈f,SzP p
def FOk.fz{n:Nat}{f:Fs}(h:FOk n f):FZ n f:=⟨h.1,λp hp=>(h.2 p hp).1⟩
def RRw:LA->PD->Prop:=λds x=>∃(book:LB)(pool:List (Int×Int))(most:Nat)(fs:List Fs),ds=[.tuple (book.map PyData.str),.list (pool.map dF),.int (most:Nat)]/\(book.length<=4/\1<=pool.length/\pool.length<=13/\most<=60)/\(∀ p∈pool,SzP p)/\x = .tuple (fs.map dT)/\fs.length<=most/\∀ f∈fs,FOk book.length f
theorem ziB:∀ ds:LA,(∀ e∈ds,∃ p,e=dF p/\SzP p)->∃ ps:List (Int×Int),ds=ps.map dF/\∀ p∈ps,SzP p
 |[],_=>⟨[],rfl,λf hf=>by cases hf⟩
 |x::r,h=>by
  obtain⟨fs,e,h'⟩:=ziB r λe he=>h e (Iz _ he);obtain⟨f,ef,hf⟩:=h x IC;exact⟨f::fs,by rw[e,ef];rfl,λg hg=>by
   rcases ID.mp hg with rfl | hg
   .exact hf
   .exact h' g hg⟩
def Ub{x y:LB}(h:x.map PyData.str=y.map PyData.str):x=y:=(List.map_inj_right (λ_ _ z=>by injection z)).mp h
def zlQ{p q:Int×Int}(h:dF p=dF q):p=q:=by injection h with z;injection z with z1 z2;injection z2 with z2 _;injection z1 with z1;injection z2 with z2;exact Prod.ext z1 z2
def zeS{x y:List (Int×Int)}(h:x.map dF=y.map dF):x=y:=(List.map_inj_right λ_ _ z=>zlQ z).mp h
section
variable {d c:AD}{G:Hp}{σ:St}
def zch{i:Nat}(hi:σ[i]?=some (some (.ref d))):Dv K d c 1 (tNx K i) σ G λx=>∃ r:Int,x = .int r/\True:=(Xx (R:=RNx) hi Zn ⟨.int 0,rfl,0,rfl⟩).imp λx h=>by obtain⟨_,r,rfl⟩:=h;exact⟨r,rfl,trivial⟩
def zhE{m n:Nat}{B:Int}(ha:Dv K d c m ta σ G λx=>∃ i:Int,x = .int i/\True)(hb:Dv K d c n tb σ G λx=>∃ i:Int,x = .int i/\(0<i/\i<=B)):Dv K d c (m+n) (zdI ta tb) σ G λx=>∃ r:Int,x = .int r/\0<=r/\r<B:=zjn ha hb λi j _ hj=>⟨hj.1,_,⟨i % j,rfl,by have:=m2 i j hj.1;omega,by have:=m2 i j hj.1;omega⟩,λ_=>Zr _⟩
def zke(T:Top K mg):T.Qg.O P w base 2 (V4 K 241 RRw):=by
 have G__law_next:=@Qz T;refine T.Qg.F.ok Qt (λvs H Q E h=>?_) (λcdv A outer s H vs Q E hr h=>?_)
 .obtain⟨d,c,G,us,ds,rfl,_,_,_,_,hd,⟨x,book,pool,most,fs,rfl,_⟩,_⟩:=h;rw[IE,hd.length];rfl
 .obtain⟨d,c,G,us,ds,rfl,sg,gd,gc,D,hd,⟨x,book,pool,most,fs0,rfl,⟨b1,b2,b3,b4⟩,hpl,_⟩,kk⟩:=h;obtain⟨v1,r1,rfl,h1,hd⟩:=hd.cons;obtain⟨v2,r2,rfl,h2,hd⟩:=hd.cons;obtain⟨v3,r3,rfl,h3,hd⟩:=hd.cons;cases hd.nil;rw[h3.int];have zl:(2000:Nat)<=sizeLine:=by decide
  refine⟨_,(Ze (Zy (i:=4) Qt.nd rfl (Or.inl rfl) (Yv Zf))
   (Ze (JR IT rfl (Wt (by rfl) T.Vw (Za (Zu ZV (peN T.Yj G__law_next hr (Za (pv 0) Zf Zd)) (Zu Jp (pv 3) Zg)) Zf Z7)) (YD (i:=5) Qt.nd rfl (Or.inl rfl)) (Zo (JK (VL Nf Nn Np Wv (pv 4) (Za (Xk (YL (K:=K) rfl) (by rfl) T.J6 zfx (Za (UL (x:= "name") (cap:=["pool", "deck"]) (js:=[2,0]) ⟨rfl,(by decide +kernel),(by decide +kernel),rfl,(by show ∀ p∈(_:List (Str×NameKind)),p.2=NameKind.free->List.lookup p.1 (Zi Qc).names=some NameKind.cell;decide +kernel),(by decide +kernel),(by decide +kernel),(by decide +kernel)⟩ rfl rfl (λ_ _ h=>h) (Ql (pv 1)) (λ_ _ _ _=>⟨XJ,(Z0 (Zw (K:=K) rfl) (pv 1) (Zu ZV (peN T.Yj G__law_next hr (Za (pv 2) Zf Zd)) (Z6 (Ye (K:=K) rfl) (by rfl) T.zaW IJ (Za (pv 1) Zf Zd))) (λ_ _=>rfl))⟩)) Zf JF)) Zf YT)))))
   (Zo (Zx (Xk (YL (K:=K) rfl) (by rfl) T.J6 zfx (Za (pv 4) Zf Zd)))))) ,?_⟩
  refine⟨(by show 0<=sizeLine;decide),λl hl=>?_⟩;obtain⟨nd,nc⟩:=Dk.ned D hl;have gl:G l=none:=sg.free hl;have k0:Dk 0 d c G H G (upd H l (.lst [])):=(Dk.refl sg D).wr hl gl nd nc _;have dv1:Dv K d c 1 (zdI (tNx K 0) (tOp (rI0 λi j=>.int (i+j)) (XH 3) (tC (.int 1)))) [some (V.ref d),some v1,some v2,some (V.int most),some (V.ref l),none] G (λx=>∃ r:Int,x = .int r/\0<=r/\r<most+1):=zhE (m:=1) (n:=0) (zch rfl) (zeq (zax (Zc rfl (Zr _)) Zq) ⟨_,rfl,(by omega),(by omega)⟩)
  refine Dv.use dv1 k0.gh gd gc (k0.cn 1 (D.mono (by decide))) λv5 x5 G1 H1 hx5 k1 hv5=>?_;obtain⟨r,rfl,r0,r1⟩:=hx5;obtain⟨many,rfl⟩:=NF r0;rw[hv5.int];have gl1:G1 l=none:=k1.out Zh gl;have hk1:H1 l=some (.lst []):=k1.kp _ _ Zh nd nc;have k1:=k0.trans k1;refine⟨(many:Int),rfl,(by omega),(by omega),J7 (n:=many) (λi σ H' => ∃(v5:Option V)(G' : Hp)(xs:LC)(fs:List Fs),σ=[some (V.ref d),some v1,some v2,some (V.int most),some (V.ref l),v5]/\Dk (1+i*4) d c G H G' H' /\ G' l=none/\H' l=some (.lst xs)/\Yl K G' xs (fs.map dT)/\fs.length=i/\∀ f∈fs,FOk book.length f) ⟨_,G1,[],[],rfl,k1,gl1,hk1,ZC,rfl,λf hf=>by cases hf⟩ ?_ ?_⟩
  .rintro i σ H' hi ⟨v5,G',xs,fs,rfl,k2,gl2,hk2,hxs,hfl,hfs⟩;have D2:DkA 4 H' d c:=k2.cn 4 (D.mono (by omega));have hp2:=h2.same k2.gg;refine⟨_,rfl,.inl ⟨rfl,_,SqL.of hk2⟩,?_⟩;have dv2:Dv K d c (book.length*1) (tLC (zlx K (XH 1)) [2,0] zaM (tOp (zgt K) (XH 1) (zdI (tNx K 2) (tLn K 1)))) [some (V.ref d),some v1,some v2,some (V.int most),some (V.ref l),some (V.int (0+(i:Int)))] G' (λx=>∃ ds:LA,x = .list ds/\ds.length=book.length/\∀ e∈ds,∃ p,e=dF p/\SzP p):=
    zkJ (n:=1) book PyData.str (Zc rfl (h1.same k2.gg)) (by omega) λG3 j x s3 hj=>zgM (m:=0) (n:=1) (q:=(pool.length:Nat)) (zeq (Zc rfl (hp2.same s3)) ⟨_,rfl,by rw[Ig],λe he=>by
     obtain⟨p,hp,rfl⟩:=NI.mp he;exact⟨p,rfl,hpl p hp⟩⟩) (zhE (m:=1) (n:=0) (zch rfl) (zeq (Ur (Zb (Zc rfl (hp2.same s3)) Zn)) ⟨_,rfl,by rw[Ig];omega,by rw[Ig];omega⟩))
   refine Dv.use dv2 k2.gh (k2.gd D gd) (k2.gc D gc) (D2.mono (by omega)) λv6 x6 G3 H3 hx6 k3 hv6=>?_;obtain⟨ds,rfl,hdl,hds⟩:=hx6;obtain⟨f,rfl,hf⟩:=ziB ds hds;obtain⟨p,ys,rfl,hp,hys⟩:=hv6.lst;refine⟨p,ys,rfl,.inl ⟨SqL.of (k3.gh _ _ hp),λt ht=>?_⟩⟩;have g4:=Yd (o:=.tup ys) k3.gh ht;have hk3:H3 l=some (.lst xs):=k3.kp _ _ hk2 nd nc;have gl3:G3 l=none:=k3.out hk2 gl2;have ntl:t≠l:=λz=>by subst z;rw[hk3]at ht;cases ht
   have hk4:upd H3 t (.tup ys) l=some (.lst xs):=by rw[Zm (Ne.symm ntl)];exact hk3
   refine⟨l,_,_,rfl,rfl,hk4,(by have:=hxs.length;rw[Ig]at this;omega),?_⟩;have k34:=k2.trans (k3.trans (g4.dk k3.D0));refine⟨_,upd G3 t (.tup ys),xs++[V.ref t],fs++[f],rfl,(k34.wr hl (by rw[Zm (Ne.symm ntl)];exact gl3) nd nc _).up (by omega),by rw[Zm (Ne.symm ntl)];exact gl3,Zh,?_,by rw[Iv,hfl];rfl,λg hg=>?_⟩
   .rw[Ni];exact Xv (hxs.same (k3.gg.trans g4.gg)) (Zv (Xy (SqT.of Zh) (hys.same g4.gg)) ZC)
   .rcases NN.mp hg with hg | hg
    .exact hfs g hg
    .rw[IN.mp hg];exact⟨by rw[Ig]at hdl;exact hdl,hf⟩
  .rintro σ H' ⟨v5,G',xs,fs,rfl,k2,gl2,hk2,hxs,hfl,hfs⟩;refine⟨_,rfl,l,_,rfl,.inl ⟨SqL.of hk2,λt ht=>?_⟩⟩;have g8:=Yd (o:=.tup xs) k2.gh ht;exact kk (.ref t) _ _ _ ⟨book,pool,most,fs,rfl,⟨b1,b2,b3,b4⟩,hpl,rfl,(by omega),hfs⟩ ((k2.trans (g8.dk k2.D0)).up (by omega)) (Xy (SqT.of Zh) (hxs.same g8.gg))
end
def MkW(book:LB)(pool:List (Int×Int))(m:List Wd):Prop:=zbL (· ∈ book) (λa b=>(a,b)∈pool) m/\m.length=3
def CsW(book:LB)(pool:List (Int×Int))(n:Nat)(cs:List Wd):Prop:=W4 (· ∈ book) (λa b=>(a,b)∈pool) cs/\cs.length<=n
def OrW(book:LB)(pool:List (Int×Int))(n:Nat)(ws:List Wd):Prop:=Jd (· ∈ book) (λa b=>(a,b)∈pool) ws/\ws.length<=n
def Bds(book:LB)(pool:List (Int×Int)):Prop:=1<=book.length/\book.length<=4/\1<=pool.length/\pool.length<=13
def RMk:LA->PD->Prop:=λds x=>∃(book:LB)(pool:List (Int×Int))(m:List Wd),ds=[.tuple (book.map PyData.str),.list (pool.map dF)]/\Bds book pool/\x=dOs m/\MkW book pool m
def RDp(Pr:LB->List (Int×Int)->List Wd->Prop)(n:Nat):LA->PD->Prop:=λds x=>∃(book:LB)(pool:List (Int×Int))(deep:Nat)(ws:List Wd),ds=[.tuple (book.map PyData.str),.list (pool.map dF),.int (deep:Nat)]/\deep<=n/\Bds book pool/\x=dOs ws/\Pr book pool ws
noncomputable def zaH:Nat->Nat
 |0=>2
 |n+1=>2*zaH n+1
noncomputable def zek:Nat->Nat
 |0=>4
 |n+1=>2*zek n+1
noncomputable def zcf:Nat->Nat
 |0=>1
 |n+1=>2*zcf n+6
noncomputable def zen:Nat->Nat
 |0=>2
 |n+1=>2*zen n+10
theorem zaS(n:Nat):2<=zaH n:=by cases n with | zero=>exact Ih _ | succ n=>show 2<=2*zaH n+1;have:=zaS n;omega
theorem zcW(n:Nat):4<=zek n:=by cases n with | zero=>exact Ih _ | succ n=>show 4<=2*zek n+1;have:=zcW n;omega
def zeu(n:Nat):1<=zcf n:=by cases n with | zero=>exact Ih _ | succ n=>show 1<=2*zcf n+6;omega
def zeL(n:Nat):2<=zen n:=by cases n with | zero=>exact Ih _ | succ n=>show 2<=2*zen n+10;omega
abbrev RCa(n:Nat):=RDp (λb p ws=>CsW b p (zek n) ws) n
abbrev ROd(n:Nat):=RDp (λb p ws=>OrW b p (zen n) ws) n
def JV{Pr:LB->List (Int×Int)->List Wd->Prop}{n:Nat}{x:PD}(h:RDp Pr n [.tuple (book.map PyData.str),.list (pool.map dF),.int i] x):∃ ws,x=dOs ws/\Pr book pool ws:=by obtain⟨bk,pl,dp,ws,e,_,_,rfl,g⟩:=h;injection e with e1 e;injection e with e2 e;injection e1 with e1;injection e2 with e2;have q1:=Ub e1;have q2:=zeS e2;subst q1 q2;exact⟨ws,rfl,g⟩
def zjm{x:PD}(h:RMk [.tuple (book.map PyData.str),.list (pool.map dF)] x):∃ ws,x=dOs ws/\MkW book pool ws:=by obtain⟨bk,pl,ws,e,_,rfl,g⟩:=h;injection e with e1 e;injection e with e2 e;injection e1 with e1;injection e2 with e2;have q1:=Ub e1;have q2:=zeS e2;subst q1 q2;exact⟨ws,rfl,g⟩
def book1(h:1<=book.length):∃ z,z∈book:=by
 cases book with
 |nil=>cases h
 |cons z r=>exact⟨z,IC⟩
def zkC(hb:Bds book pool):∃ x,RMk [.tuple (book.map PyData.str),.list (pool.map dF)] x:=by
 obtain⟨z,hz⟩:=book1 hb.1;cases pool with
 |nil=>cases hb.2.2.1
 |cons p r=>exact⟨_,book,p::r,[.t (S "under"),.t z,.n p.1 p.2],rfl,hb,rfl,zjh (.inl rfl) hz IC,rfl⟩
def zc5{n deep:Nat}(hd:deep<=n)(hb:Bds book pool):∃ x,RCa n [.tuple (book.map PyData.str),.list (pool.map dF),.int (deep:Nat)] x:=by obtain⟨z,hz⟩:=book1 hb.1;exact⟨_,book,pool,deep,[.t (S "same"),.t z],rfl,hd,hb,rfl,zhQ hz,by have:=zcW n;show 2<=_;omega⟩
def zhI{n deep:Nat}(hd:deep<=n)(hb:Bds book pool):∃ x,ROd n [.tuple (book.map PyData.str),.list (pool.map dF),.int (deep:Nat)] x:=⟨_,book,pool,deep,[.t (S "like")],rfl,hd,hb,rfl,zeM,by have:=zeL n;show 1<=_;omega⟩
def zlf:Sp:=λ_ _ _ _=>False
section
variable {d c:AD}{G:Hp}{σ:St}
def Vh{x y:List Wd}(ha:Ev K ta σ G (dOs x))(hb:Ev K tb σ G (dOs y))(hne:x≠[])(hl:x.length+y.length<=900):Ev K (tOp (zeZ K) ta tb) σ G (dOs (x++y)):=JT (ziU ha hb (by simpa using hne) (by rw[Ig,Ig];have:(2000:Nat)<=sizeLine:=(by decide);omega)) (by show PyData.tuple _=PyData.tuple _;rw[Ni])
def V7{x y:Str}(hb:Ev K tb σ G (.int i))(h0:0<=i)(h1:i<2):∃ z,(z=x\/z=y)/\Ev K (tOp (zgt K) (zhB (Z4 (tC (.str x)) (Z4 (tC (.str y)) Qk))) tb) σ G (.str z):=by
 obtain⟨e,he,hev⟩:=JB (Wx (Zb (ZJ (x:=x)) (Zb (ZJ (x:=y)) Zn)) (by show 2<=sizeLine;decide)) hb h0 h1;have:i=0\/i=1:=by omega
 rcases this with rfl | rfl
 .have e1:e = .str x:=(Ip he).symm;subst e1;exact⟨x,.inl rfl,hev⟩
 .have e1:e = .str y:=(Ip he).symm;subst e1;exact⟨y,.inr rfl,hev⟩
def zgG(ha:Ev K ta σ G (.list (pool.map dF)))(hb:Ev K tb σ G (.int i))(h0:0<=i)(h1:i<pool.length):∃ p,p∈pool/\Ev K (tOp (zgt K) ta tb) σ G (dF p):=by obtain⟨e,he,hev⟩:=JB ha hb h0 (by rw[Ig];exact h1);obtain⟨p,hp,rfl⟩:=NI.mp (Ii he);exact⟨p,hp,hev⟩
def za8(ha:Ev K ta σ G (.tuple (book.map PyData.str)))(hb:Ev K tb σ G (.int i))(h0:0<=i)(h1:i<book.length):∃ z,z∈book/\Ev K (tOp (zmi K) ta tb) σ G (.str z):=by
 obtain⟨j,rfl⟩:=NF h0;have hj:j<book.length:=by omega
 exact⟨book[j],NO hj,JS (n:=j) ha hb (by rw[Ig];exact XN hj) (by rw[Io,Ib hj];rfl)⟩
def Uh{t:TE}{ws:List Wd}(h:Ev K t σ G (dOs ws)):Dv K d c 0 t σ G λx=>∃ w,x=dOs w/\w=ws:=zeq h ⟨ws,rfl,rfl⟩
def QD{m n:Nat}{Ra Rb:List Wd->Prop}(ha:Dv K d c m ta σ G λx=>∃ w,x=dOs w/\Ra w)(hb:Dv K d c n tb σ G λx=>∃ w,x=dOs w/\Rb w)(h:∀ a b,Ra a->Rb b->a≠[]/\a.length+b.length<=900):Dv K d c (m+n) (tOp (zeZ K) ta tb) σ G λx=>∃ w,x=dOs w/\∃ a b,w=a++b/\Ra a/\Rb b:=
 ziE ha hb λa b va vb G' h1 h2 s hva hvb=>by obtain⟨x,rfl,hx⟩:=h1;obtain⟨y,rfl,hy⟩:=h2;exact⟨_,⟨x++y,rfl,x,y,rfl,hx,hy⟩,Vh (zgI hva) (zgI hvb) (h x y hx hy).1 (h x y hx hy).2⟩
def zii(T:Top K mg):T.JM.O P w base 2 (V4 K 1 RMk):=by
 have G__law_next:=@Qz T;refine T.JM.F.ok VG (λvs H Q E h=>?_) (λcdv A outer s H vs Q E hr h=>?_)
 .obtain⟨d,c,G,us,ds,rfl,_,_,_,_,hd,⟨x,book,pool,m,rfl,_⟩,_⟩:=h;rw[IE,hd.length];rfl
 .obtain⟨d,c,G,us,ds,rfl,sg,gd,gc,D,hd,⟨x,book,pool,m0,rfl,⟨b1,b2,p1,p2⟩,_⟩,kk⟩:=h;obtain⟨v1,r1,rfl,h1,hd⟩:=hd.cons;obtain⟨v2,r2,rfl,h2,hd⟩:=hd.cons;cases hd.nil;refine⟨_,(Ze (Zy (i:=3) VG.nd rfl (Or.inl rfl) (peN T.Yj G__law_next hr (Za (pv 0) Zf Zd)))
   (Zo (Zx (Yg (Za (Z0 (Zw (K:=K) rfl) (Yv (Za Zz (Za Zz Zf Zj) Zj)) (Zu ZV (pv 3) Zg) (λ_ _=>rfl)) (Za (Z0 (X8 (K:=K) rfl) (pv 1) (Zu ZV (Zu Ym (pv 3) Zg) (Z6 (Ye (K:=K) rfl) (by rfl) T.zaW IJ (Za (pv 1) Zf Zd))) (λ_ _=>rfl)) (Za (Z0 (Zw (K:=K) rfl) (pv 2) (Zu ZV (Zu Ym (pv 3) Zg) (Z6 (Ye (K:=K) rfl) (by rfl) T.zaW IJ (Za (pv 2) Zf Zd))) (λ_ _=>rfl)) Zf Zt) Zt) Zt))))) ,?_⟩
  refine Ww (K:=K) (d:=d) (c:=c) (zch rfl) sg gd gc D λv3 x G1 H1 hx k1 hv3=>?_;obtain⟨cell,rfl,_⟩:=hx;rw[hv3.int];have h11:=h1.same k1.gg;have h21:=h2.same k1.gg;have q1:=m2 cell 2 (by decide);have q2:=m2 (cell / 2) (book.length:Nat) (by omega);have q3:=m2 (cell / 8) (pool.length:Nat) (by omega);obtain⟨un,hun,evu⟩:=V7 (G:=G1) (x:=S "under") (y:=S "is") (σ:=[some (V.ref d),some v1,some v2,some (V.int cell)]) (tb:=zdI (XH 3) (tC (.int 2))) (Yc (Zc rfl (Zr cell)) Zq (by decide)) q1.1 q1.2;obtain⟨z,hz,evz⟩:=za8 (G:=G1) (book:=book) (σ:=[some (V.ref d),some v1,some v2,some (V.int cell)]) (ta:=XH 1) (tb:=zdI (tOp (rI Vu λi j=>.int (i / j)) (XH 3) (tC (.int 2))) (tLn K 1)) (Zc rfl h11) (Yc (XS (Zc rfl (Zr cell)) Zq (by decide) (by decide)) (JT (Qq (Zb (Zc rfl h11) Zn)) (by rw[Ig])) (by omega)) q2.1 q2.2;obtain⟨pq,hpq,evp⟩:=zgG (G:=G1) (pool:=pool) (σ:=[some (V.ref d),some v1,some v2,some (V.int cell)]) (ta:=XH 2) (tb:=zdI (tOp (rI Vu λi j=>.int (i / j)) (XH 3) (tC (.int 8))) (tLn K 2)) (Zc rfl h21) (Yc (XS (Zc rfl (Zr cell)) Zq (by decide) (by decide)) (JT (Ur (Zb (Zc rfl h21) Zn)) (by rw[Ig])) (by omega)) q3.1 q3.2;refine ZX (K:=K) (d:=dOs [.t un,.t z,.n pq.1 pq.2]) (Xf (Zb evu (Zb evz (Zb evp Zn))) (by show 3<=sizeLine;decide)) k1.gh λv G2 H2 g2 hv=>?_;exact kk v _ G2 H2 ⟨book,pool,_,rfl,⟨b1,b2,p1,p2⟩,rfl,zjh hun hz hpq,rfl⟩ (k1.trans (g2.dk k1.D0)) hv
def zcY(T:Top K mg)(N:Nat)(sp:Sp)(hsp:∀ m,N=m+1->sp=V4 K (zaH m) (RCa m))(hn:zek N<=400)(G__law_any_case:T.ZS.O P w base (N+2) sp):T.ZS.O P w base (N+3) (V4 K (zaH N) (RCa N)):=by
 have cn:=zaS N;have cl:=zcW N;have G__law_next:T.Yj.O P w base (N+2) (V4 K 1 RNx):=(Qz T).mono (by omega);have G__law_mark:T.JM.O P w base (N+2) (V4 K 1 RMk):=(zii T).mono (by omega);refine T.ZS.F.ok Xn (λvs H Q E h=>?_) (λcdv A outer s H vs Q E hr h=>?_)
 .obtain⟨d,c,G,us,ds,rfl,_,_,_,_,hd,⟨x,book,pool,deep,ws,rfl,_⟩,_⟩:=h;rw[IE,hd.length];rfl
 .obtain⟨d,c,G,us,ds,rfl,sg,gd,gc,D,hd,⟨x,book,pool,deep,ws0,rfl,hdeep,bd,_⟩,kk⟩:=h;obtain⟨b1,b2,p1,p2⟩:=id bd;obtain⟨v1,r1,rfl,h1,hd⟩:=hd.cons;obtain⟨v2,r2,rfl,h2,hd⟩:=hd.cons;obtain⟨v3,r3,rfl,h3,hd⟩:=hd.cons;cases hd.nil;rw[h3.int];have FIN:∀(v:V)(ws:List Wd)(G5 H5:Hp),Dk (zaH N) d c G H G5 H5->Dat K G5 v (dOs ws)->CsW book pool (zek N) ws->Q v H5:=λv ws G5 H5 g5 hv hc=>kk v _ G5 H5 ⟨book,pool,deep,ws,rfl,hdeep,bd,rfl,hc⟩ g5 hv;refine⟨_,(Ze (Zy (i:=4) Xn.nd rfl (Or.inl rfl) (peN T.Yj G__law_next hr (Za (pv 0) Zf Zd)))
   (Ze (YB ((pw_and (ZD zfV (pv 3) Zg (ZQ _)) (pw_and1 (ZD Wl (Zu ZV (pv 4) Zg) Zg (ZQ _))))).pt (Zo (Zx (Zu (Xp (K:=K) rfl) (Yg (Za Zz Zf Zj)) (peN T.ZS G__law_any_case hr (Za (pv 0) (Za (pv 1) (Za (pv 2) (Za (Zu XR (pv 3) Zg) Zf Z7) Zd) Zd) Zd))))) ZL)
   (Ze (YB ((pw_and (ZD zfV (pv 3) Zg (ZQ _)) (pw_and1 (ZD Wl (Zu ZV (pv 4) Zg) Zg (ZQ _))))).pt (Ze (Zy (i:=5) Xn.nd rfl (Or.inl rfl) (peN T.ZS G__law_any_case hr (Za (pv 0) (Za (pv 1) (Za (pv 2) (Za (Zu XR (pv 3) Zg) Zf Z7) Zd) Zd) Zd)))
   (Zo (Zx (Zu (Xp (K:=K) rfl) (Zu (Xp (K:=K) rfl) (Yg (Za (Z0 (Zw (K:=K) rfl) (Yv (Za Zz (Za Zz Zf Zj) Zj)) (Zu ZV (Zu Ym (pv 4) Zg) Zg) (λ_ _=>rfl)) Zf Zt)) (pv 5)) (peN T.ZS G__law_any_case hr (Za (pv 0) (Za (pv 1) (Za (pv 2) (Za (Zu XR (pv 3) Zg) Zf Z7) Zd) Zd) Zd)))))) ZL)
   (Ze (YB (ZD Wl (Zu ZV (pv 4) Zg) Zg (ZQ _)) (Zo (Zx (Yg (Za Zz (Za (Z0 (X8 (K:=K) rfl) (pv 1) (Zu ZV (Zu Ym (pv 4) Zg) (Z6 (Ye (K:=K) rfl) (by rfl) T.zaW IJ (Za (pv 1) Zf Zd))) (λ_ _=>rfl)) Zf Zt) Zj)))) ZL)
   (Zo (Zx (Zu (Xp (K:=K) rfl) (Yg (Za (Z0 (Zw (K:=K) rfl) (Yv (Za Zz (Za Zz Zf Zj) Zj)) (Zu ZV (Zu Ym (pv 4) Zg) Zg) (λ_ _=>rfl)) Zf Zt)) (peN T.JM G__law_mark hr (Za (pv 0) (Za (pv 1) (Za (pv 2) Zf Zd) Zd) Zd))))))))) ,?_⟩
  refine Ww (K:=K) (d:=d) (c:=c) (zch rfl) sg gd gc (D.mono (by omega)) λv4 x G1 H1 hx k1 hv4=>?_;obtain⟨cell,rfl,_⟩:=hx;rw[hv4.int];have DM:∀{σ' : St}{G' : Hp}{dp:Nat},σ'[3]?=some (some (.int ((dp+1:Nat):Int)))->Ev K (tOp (rI0 λi j=>.int (i-j)) (XH 3) (tC (.int 1))) σ' G' (.int (dp:Nat)):=λe=>JT (WX (Zc e (Zr _)) Zq) (by congr 1;omega);refine Vz (zes (ZM (K:=K) (Q3 (Zc rfl (Zr _)) Zq (Yu _))) λ_=>ZM (K:=K) (VB (Yc (Zc rfl (Zr cell)) Zq (by decide)) Zq)) k1.gh (λhe G2 H2 g2=>?_) (λ_ G2 H2 g2=>?_)
  .rw[Nd,decide_eq_true_eq]at he;obtain⟨dp,rfl⟩:∃ dp,deep=dp+1:=⟨deep-1,(by omega)⟩
   obtain⟨n,rfl⟩:∃ n,N=n+1:=⟨N-1,(by omega)⟩
   obtain rfl:=hsp n rfl;have cn':=zaS n;have cl' : 2*zek n+1<=400:=hn;have k2:=k1.trans (g2.dk k1.D0);refine zbZ (K:=K) (d:=d) (c:=c) (n:=0+zaH n) (QD (Uh (ws:=[.t (S "not")]) (Xf (Zb ZJ Zn) (by show 1<=sizeLine;decide))) ((Xx (R:=RCa n) rfl (Zb (Zc rfl (h1.same k2.gg)) (Zb (Zc rfl (h2.same k2.gg)) (Zb (DM rfl) Zn))) (zc5 (deep:=dp) (by omega) bd)).imp λx hx=>JV hx) λa b ha hb=>⟨by rw[ha];simp,by rw[ha];have:=hb.2;show 1+b.length<=900;omega⟩) g2.gh (k2.gd D gd) (k2.gc D gc) (k2.cn (0+zaH n) (D.mono (by show _<=2*zaH n+1;omega))) λv x G7 H7 hx k7 hv=>?_;obtain⟨ws,rfl,a,b,rfl,rfl,hb⟩:=hx;exact FIN v _ G7 H7 ((k2.trans k7).up (by show _<=2*zaH n+1;omega)) hv ⟨zks hb.1,by have:=hb.2;show b.length+1<=2*zek n+1;omega⟩
  have k2:=k1.trans (g2.dk k1.D0);refine Vz (zes (ZM (K:=K) (Q3 (Zc rfl (Zr _)) Zq (Yu _))) λ_=>ZM (K:=K) (VB (Yc (Zc rfl (Zr cell)) Zq (by decide)) Zq)) g2.gh (λhe G3 H3 g3=>?_) (λ_ G3 H3 g3=>?_)
  .rw[Nd,decide_eq_true_eq]at he;obtain⟨dp,rfl⟩:∃ dp,deep=dp+1:=⟨deep-1,(by omega)⟩
   obtain⟨n,rfl⟩:∃ n,N=n+1:=⟨N-1,(by omega)⟩
   obtain rfl:=hsp n rfl;have cn':=zaS n;have cl' : 2*zek n+1<=400:=hn;have k3:=k2.trans (g3.dk k2.D0);have D3:=k3.cn (zaH n+zaH n) (D.mono (by show _<=2*zaH n+1;omega));refine Ww (K:=K) (d:=d) (c:=c) (n:=zaH n) ((Xx (R:=RCa n) rfl (Zb (Zc rfl (h1.same k3.gg)) (Zb (Zc rfl (h2.same k3.gg)) (Zb (DM rfl) Zn))) (zc5 (deep:=dp) (by omega) bd)).imp λx hx=>JV hx) g3.gh (k3.gd D gd) (k3.gc D gc) (D3.mono (by omega)) λv5 x5 G4 H4 hx5 k4' hv5=>?_;obtain⟨one,rfl,gone⟩:=hx5;have l1:=gone.2;have D4:DkA (zaH n) H4 d c:=k4'.zeg D3;have k4:=k3.trans k4';have q1:=m2 (cell / 6) 2 (by decide);obtain⟨an,han,eva⟩:=V7 (G:=G4) (x:=S "and") (y:=S "or") (σ:=[some (V.ref d),some v1,some v2,some (V.int (dp+1:Nat)),some (V.int cell),some v5]) (tb:=zdI (tOp (rI Vu λi j=>.int (i / j)) (XH 4) (tC (.int 6))) (tC (.int 2))) (Yc (XS (Zc rfl (Zr cell)) Zq (by decide) (by decide)) Zq (by decide)) q1.1 q1.2;refine zbZ (K:=K) (d:=d) (c:=c) (n:=0+zaH n) (QD (Uh (Vh (x:=[.t an]) (y:=one) (Xf (Zb eva Zn) (by show 1<=sizeLine;decide)) (Zc rfl hv5) (by simp) (by show 1+one.length<=900;omega))) ((Xx (R:=RCa n) rfl (Zb (Zc rfl (h1.same k4.gg)) (Zb (Zc rfl (h2.same k4.gg)) (Zb (DM rfl) Zn))) (zc5 (deep:=dp) (by omega) bd)).imp λx hx=>JV hx) λa b ha hb=>⟨by rw[ha];simp,by rw[ha];have:=hb.2;show(one.length+1)+b.length<=900;omega⟩) k4.gh (k4.gd D gd) (k4.gc D gc) (D4.mono (by omega)) λv x G7 H7 hx k7 hv=>?_;obtain⟨ws,rfl,a,b,rfl,rfl,hb⟩:=hx;refine FIN v _ G7 H7 ((k4.trans k7).up (by show _<=2*zaH n+1;omega)) hv ⟨?_,by have:=hb.2;show(one++b).length+1<=2*zek n+1;rw[Iv];omega⟩;rcases han with rfl | rfl
   .exact zmV gone.1 hb.1
   .exact znC gone.1 hb.1
  have k3:=k2.trans (g3.dk k2.D0);have h13:=h1.same k3.gg;refine Vz (ZM (K:=K) (VB (Yc (Zc rfl (Zr cell)) Zq (by decide)) Zq)) g3.gh (λ_ G4 H4 g4=>?_) (λ_ G4 H4 g4=>?_)
  .have q2:=m2 (cell / 6) (book.length:Nat) (by omega);obtain⟨z,hz,evz⟩:=za8 (G:=G4) (book:=book) (σ:=[some (V.ref d),some v1,some v2,some (V.int deep),some (V.int cell),none]) (ta:=XH 1) (tb:=zdI (tOp (rI Vu λi j=>.int (i / j)) (XH 4) (tC (.int 6))) (tLn K 1)) (Zc rfl (h13.same g4.gg)) (Yc (XS (Zc rfl (Zr cell)) Zq (by decide) (by decide)) (JT (Qq (Zb (Zc rfl (h13.same g4.gg)) Zn)) (by rw[Ig])) (by omega)) q2.1 q2.2;refine ZX (K:=K) (d:=dOs [.t (S "same"),.t z]) (Xf (Zb ZJ (Zb evz Zn)) (by show 2<=sizeLine;decide)) g4.gh λv G5 H5 g5 hv=>?_;exact FIN v _ G5 H5 ((k3.trans ((g4.trans g5).dk k3.D0)).up (by omega)) hv ⟨zhQ hz,by show 2<=zek N;omega⟩
  .have k4:=k3.trans (g4.dk k3.D0);have q1:=m2 (cell / 6) 2 (by decide);obtain⟨bo,hbo,evb⟩:=V7 (G:=G4) (x:=S "both") (y:=S "either") (σ:=[some (V.ref d),some v1,some v2,some (V.int deep),some (V.int cell),none]) (tb:=zdI (tOp (rI Vu λi j=>.int (i / j)) (XH 4) (tC (.int 6))) (tC (.int 2))) (Yc (XS (Zc rfl (Zr cell)) Zq (by decide) (by decide)) Zq (by decide)) q1.1 q1.2;refine zbZ (K:=K) (d:=d) (c:=c) (n:=0+1) (QD (Uh (ws:=[.t bo]) (Xf (Zb evb Zn) (by show 1<=sizeLine;decide))) ((Xx (R:=RMk) rfl (Zb (Zc rfl (h1.same k4.gg)) (Zb (Zc rfl (h2.same k4.gg)) Zn)) (zkC bd)).imp λx hx=>zjm hx) λa b ha hb=>⟨by rw[ha];simp,by rw[ha,hb.2];show 1+3<=900;decide⟩) g4.gh (k4.gd D gd) (k4.gc D gc) (k4.cn (0+1) (D.mono (by omega))) λv x G7 H7 hx k7 hv=>?_;obtain⟨ws,rfl,a,b,rfl,rfl,hb⟩:=hx;refine FIN v _ G7 H7 ((k4.trans k7).up (by omega)) hv ⟨?_,by show b.length+1<=zek N;rw[hb.2];omega⟩;rcases hbo with rfl | rfl
   .exact zh3 hb.1
   .exact zdr hb.1
def zg7(T:Top K mg):T.ZS.O P w base 3 (V4 K (zaH 0) (RCa 0)):=zcY T 0 zlf (λm e=>by cases e) (by decide) (T.ZS.F.ok Xn (λvs H Q E h=>h.elim) (λcdv A outer s H vs Q E hr h=>h.elim))
def zgX(T:Top K mg):T.ZS.O P w base 4 (V4 K (zaH 1) (RCa 1)):=zcY T 1 _ (λm e=>by injection e with e;subst e;rfl) (by decide) (zg7 T)
def Uy(T:Top K mg)(N:Nat)(sp:Sp)(hsp:∀ m,N=m+1->sp=V4 K (zcf m) (ROd m))(hn:zen N<=400)(G__law_any_order:T.ZW.O P w base (N+4) sp):T.ZW.O P w base (N+5) (V4 K (zcf N) (ROd N)):=by
 have on:=zeu N;have ol:=zeL N;have G__law_next:T.Yj.O P w base (N+4) (V4 K 1 RNx):=(Qz T).mono (by omega);have G__law_any_case:T.ZS.O P w base (N+4) (V4 K 5 (RCa 1)):=(zgX T).mono (by omega);refine T.ZW.F.ok Yr (λvs H Q E h=>?_) (λcdv A outer s H vs Q E hr h=>?_)
 .obtain⟨d,c,G,us,ds,rfl,_,_,_,_,hd,⟨x,book,pool,deep,ws,rfl,_⟩,_⟩:=h;rw[IE,hd.length];rfl
 .obtain⟨d,c,G,us,ds,rfl,sg,gd,gc,D,hd,⟨x,book,pool,deep,ws0,rfl,hdeep,bd,_⟩,kk⟩:=h;obtain⟨b1,b2,p1,p2⟩:=id bd;obtain⟨v1,r1,rfl,h1,hd⟩:=hd.cons;obtain⟨v2,r2,rfl,h2,hd⟩:=hd.cons;obtain⟨v3,r3,rfl,h3,hd⟩:=hd.cons;cases hd.nil;rw[h3.int];have FIN:∀(v:V)(ws:List Wd)(G5 H5:Hp),Dk (zcf N) d c G H G5 H5->Dat K G5 v (dOs ws)->OrW book pool (zen N) ws->Q v H5:=λv ws G5 H5 g5 hv hc=>kk v _ G5 H5 ⟨book,pool,deep,ws,rfl,hdeep,bd,rfl,hc⟩ g5 hv;refine⟨_,(Ze (Zy (i:=4) Yr.nd rfl (Or.inl rfl) (peN T.Yj G__law_next hr (Za (pv 0) Zf Zd)))
   (Ze (Zy (i:=5) Yr.nd rfl (Or.inl rfl) (Yg (Za (Z0 (Zw (K:=K) rfl) (Yv (Za Zz (Za Zz Zf Zj) Zj)) (Zu ZV (Zu Ym (pv 4) Zg) Zg) (λ_ _=>rfl)) (Za (Z0 (X8 (K:=K) rfl) (pv 1) (Zu ZV (Zu Ym (pv 4) Zg) (Z6 (Ye (K:=K) rfl) (by rfl) T.zaW IJ (Za (pv 1) Zf Zd))) (λ_ _=>rfl)) Zf Zt) Zt)))
   (Ze (YB ((pw_or (ZD Wl (pv 3) Zg (ZQ _)) (pw_or1 (ZD zcV (Zu ZV (pv 4) Zg) Zg (ZQ _))))).pt (Zo (Zx (Z0 (Zw (K:=K) rfl) (Yv (Za (pv 5) (Za (pv 5) (Za (Yg (Za Zz Zf Zj)) Zf Yz) Zd) Zd)) (Zu ZV (Zu Ym (pv 4) Zg) Zg) (λ_ _=>rfl)))) ZL)
   (Ze (YB (ZD Wl (Zu ZV (pv 4) Zg) Zg (ZQ _)) (Zo (Zx (Zu (Xp (K:=K) rfl) (Yg (Za Zz Zf Zj)) (peN T.ZW G__law_any_order hr (Za (pv 0) (Za (pv 1) (Za (pv 2) (Za (Zu XR (pv 3) Zg) Zf Z7) Zd) Zd) Zd))))) ZL)
   (Ze (Zy (i:=6) Yr.nd rfl (Or.inl rfl) (peN T.ZW G__law_any_order hr (Za (pv 0) (Za (pv 1) (Za (pv 2) (Za (Zu XR (pv 3) Zg) Zf Z7) Zd) Zd) Zd)))
   (Ze (Zy (i:=7) Yr.nd rfl (Or.inl rfl) (peN T.ZW G__law_any_order hr (Za (pv 0) (Za (pv 1) (Za (pv 2) (Za (Zu XR (pv 3) Zg) Zf Z7) Zd) Zd) Zd)))
   (Ze (YB (ZD Wl (Zu ZV (pv 4) Zg) Zg (ZQ _)) (Zo (Zx (Zu (Xp (K:=K) rfl) (Zu (Xp (K:=K) rfl) (Yg (Za Zz Zf Zj)) (pv 6)) (pv 7)))) ZL)
   (Zo (Zx (Zu (Xp (K:=K) rfl) (Zu (Xp (K:=K) rfl) (Zu (Xp (K:=K) rfl) (Yg (Za Zz Zf Zj)) (peN T.ZS G__law_any_case hr (Za (pv 0) (Za (pv 1) (Za (pv 2) (Za Zg Zf Zj) Zd) Zd) Zd))) (pv 6)) (pv 7))))))))))) ,?_⟩
  refine Ww (K:=K) (d:=d) (c:=c) (zch rfl) sg gd gc (D.mono (by omega)) λv4 x G1 H1 hx k1 hv4=>?_;obtain⟨cell,rfl,_⟩:=hx;rw[hv4.int];have h11:=h1.same k1.gg;have q1:=m2 (cell / 7) 2 (by decide);have q2:=m2 (cell / 14) (book.length:Nat) (by omega);obtain⟨u,hu,evu⟩:=V7 (G:=G1) (x:=S "up") (y:=S "down") (σ:=[some (V.ref d),some v1,some v2,some (V.int deep),some (V.int cell),none,none,none]) (tb:=zdI (tOp (rI Vu λi j=>.int (i / j)) (XH 4) (tC (.int 7))) (tC (.int 2))) (Yc (XS (Zc rfl (Zr cell)) Zq (by decide) (by decide)) Zq (by decide)) q1.1 q1.2;obtain⟨z,hz,evz⟩:=za8 (G:=G1) (book:=book) (σ:=[some (V.ref d),some v1,some v2,some (V.int deep),some (V.int cell),none,none,none]) (ta:=XH 1) (tb:=zdI (tOp (rI Vu λi j=>.int (i / j)) (XH 4) (tC (.int 14))) (tLn K 1)) (Zc rfl h11) (Yc (XS (Zc rfl (Zr cell)) Zq (by decide) (by decide)) (JT (Qq (Zb (Zc rfl h11) Zn)) (by rw[Ig])) (by omega)) q2.1 q2.2;refine Yw (K:=K) (x:=dOs [.t u,.t z]) (Xf (Zb evu (Zb evz Zn)) (by show 2<=sizeLine;decide)) k1.gh λv5 G2 H2 g2 hv5=>?_;have hleaf:OrW book pool (zen N) [.t u,.t z]:=⟨by rcases hu with rfl | rfl;exact zmn hz;exact ze4 hz,ol⟩
  generalize hLf:([.t u,.t z]:List Wd)=leaf at hv5 hleaf;clear hLf;have k2:=k1.trans (g2.dk k1.D0);refine Vz (zfo (ZM (K:=K) (VB (Zc rfl (Zr _)) Zq)) λ_=>ZM (K:=K) (Q3 (Yc (Zc rfl (Zr cell)) Zq (by decide)) Zq (Yu _))) g2.gh (λ_ G4 H4 g4=>?_) (λhne G4 H4 g4=>?_)
  .have q3:=m2 (cell / 56) 3 (by decide);obtain⟨e,he,hev⟩:=JB (G:=G4) (i:=cell / 56 % 3) (σ:=[some (V.ref d),some v1,some v2,some (V.int deep),some (V.int cell),some v5,none,none]) (Wx (Zb (Zc (i:=5) rfl (hv5.same g4.gg)) (Zb (Zc (i:=5) rfl (hv5.same g4.gg)) (Zb (Xf (Zb (ZJ (x:=S "like")) Zn) (by show 1<=sizeLine;decide)) Zn))) (by show 3<=sizeLine;decide)) (Yc (XS (Zc (i:=4) rfl (Zr cell)) Zq (by decide) (by decide)) Zq (by decide)) q3.1 q3.2;have hR:∃ ws,e=dOs ws/\OrW book pool (zen N) ws:=by
    have hm:=Ii he;simp only[ID,IX,NK]at hm;rcases hm with rfl | rfl | rfl
    .exact⟨leaf,rfl,hleaf⟩
    .exact⟨leaf,rfl,hleaf⟩
    .exact⟨[.t (S "like")],rfl,zeM,by show 1<=_;omega⟩
   obtain⟨ws,rfl,hg⟩:=hR;exact ZX (K:=K) hev g4.gh λv G5 H5 g5 hv=>FIN v ws G5 H5 ((k2.trans ((g4.trans g5).dk k2.D0)).up (by omega)) hv hg
  have hd1:deep≠0:=by rintro rfl;rw[Bool.or_eq_false_iff]at hne;exact absurd hne.1 (by decide)
  obtain⟨dp,rfl⟩:∃ dp,deep=dp+1:=⟨deep-1,(by omega)⟩
  clear hne;obtain⟨n,rfl⟩:∃ n,N=n+1:=⟨N-1,(by omega)⟩
  obtain rfl:=hsp n rfl;have on':=zeu n;have ol' : 2*zen n+10<=400:=hn;have k4:=k2.trans (g4.dk k2.D0);have D4:=k4.cn (zcf n+(zcf n+5)) (D.mono (by show _<=2*zcf n+6;omega));have gd4:=k4.gd D gd;have gc4:=k4.gc D gc;have EX:∃ x,ROd n [.tuple (book.map PyData.str),.list (pool.map dF),.int (dp:Nat)] x:=zhI (by omega) bd;have DM:∀{σ' : St}{G' : Hp},σ'[3]?=some (some (.int ((dp+1:Nat):Int)))->Ev K (tOp (rI0 λi j=>.int (i-j)) (XH 3) (tC (.int 1))) σ' G' (.int (dp:Nat)):=λe=>JT (WX (Zc e (Zr _)) Zq) (by congr 1;omega);refine Vz (ZM (K:=K) (VB (Yc (Zc rfl (Zr cell)) Zq (by decide)) Zq)) g4.gh (λ_ G5 H5 g5=>?_) (λ_ G5 H5 g5=>?_)
  .have k5:=k4.trans (g5.dk k4.D0);refine zbZ (K:=K) (d:=d) (c:=c) (n:=0+zcf n) (QD (Uh (ws:=[.t (S "turn")]) (Xf (Zb ZJ Zn) (by show 1<=sizeLine;decide))) ((Xx (R:=ROd n) rfl (Zb (Zc rfl (h1.same k5.gg)) (Zb (Zc rfl (h2.same k5.gg)) (Zb (DM rfl) Zn))) EX).imp λx hx=>JV hx) λa b ha hb=>⟨by rw[ha];simp,by rw[ha];have:=hb.2;show 1+b.length<=900;omega⟩) g5.gh (k5.gd D gd) (k5.gc D gc) ((D4.same g5.hh).mono (by omega)) λv x G7 H7 hx k7 hv=>?_;obtain⟨ws,rfl,a,b,rfl,rfl,hb⟩:=hx;exact FIN v _ G7 H7 ((k5.trans k7).up (by show _<=2*zcf n+6;omega)) hv ⟨zlV hb.1,by have:=hb.2;show b.length+1<=2*zen n+10;omega⟩
  have k5:=k4.trans (g5.dk k4.D0);have D5:=D4.same g5.hh;refine Ww (K:=K) (d:=d) (c:=c) (n:=zcf n) ((Xx (R:=ROd n) rfl (Zb (Zc rfl (h1.same k5.gg)) (Zb (Zc rfl (h2.same k5.gg)) (Zb (DM rfl) Zn))) EX).imp λx hx=>JV hx) g5.gh (k5.gd D gd) (k5.gc D gc) (D5.mono (by omega)) λv6 x6 G6 H6 hx6 k6' hv6=>?_;obtain⟨one,rfl,gone⟩:=hx6;have l1:=gone.2;have D6:DkA (zcf n+5) H6 d c:=k6'.zeg D5;have k6:=k5.trans k6';refine Ww (K:=K) (d:=d) (c:=c) (n:=zcf n) ((Xx (R:=ROd n) rfl (Zb (Zc rfl (h1.same k6.gg)) (Zb (Zc rfl (h2.same k6.gg)) (Zb (DM rfl) Zn))) EX).imp λx hx=>JV hx) k6.gh (k6.gd D gd) (k6.gc D gc) (D6.mono (by omega)) λv7 x7 G7 H7 hx7 k7' hv7=>?_;obtain⟨other,rfl,goth⟩:=hx7;have l2:=goth.2;have D7:DkA 5 H7 d c:=k7'.zeg D6;have k7:=k6.trans k7';have hv6:=hv6.same k7'.gg;refine Vz (ZM (K:=K) (VB (Yc (Zc rfl (Zr cell)) Zq (by decide)) Zq)) k7.gh (λ_ G8 H8 g8=>?_) (λ_ G8 H8 g8=>?_)
  .refine ZX (K:=K) (Vh (x:=[.t (S "then")]++one) (y:=other) (Vh (x:=[.t (S "then")]) (y:=one) (Xf (Zb ZJ Zn) (by show 1<=sizeLine;decide)) (Zc rfl (hv6.same g8.gg)) (by simp) (by show 1+one.length<=900;omega)) (Zc rfl (hv7.same g8.gg)) (by simp) (by show(one.length+1)+other.length<=900;omega)) g8.gh λv G9 H9 g9 hv=>?_;exact FIN v _ G9 H9 ((k7.trans ((g8.trans g9).dk k7.D0)).up (by show _<=2*zcf n+6;omega)) hv ⟨zlv gone.1 goth.1,by show(one++other).length+1<=2*zen n+10;rw[Iv];omega⟩
  .have k8:=k7.trans (g8.dk k7.D0);refine zbZ (K:=K) (d:=d) (c:=c) (n:=0+5+0+0) (QD (QD (QD (Uh (ws:=[.t (S "pick")]) (Xf (Zb ZJ Zn) (by show 1<=sizeLine;decide))) ((Xx (R:=RCa 1) rfl (Zb (Zc rfl (h1.same k8.gg)) (Zb (Zc rfl (h2.same k8.gg)) (Zb (JT Zq (show PyData.int 1 = .int ((1:Nat):Int)from rfl)) Zn))) (zc5 (n:=1) (deep:=1) (by decide) bd)).imp λx hx=>JV hx) λa b ha hb=>⟨by rw[ha];simp,by rw[ha];have:b.length<=9:=hb.2;show 1+b.length<=900;omega⟩)
    (Uh (Zc rfl (hv6.same g8.gg))) λa b ha hb=>⟨by obtain⟨x,y,rfl,rfl,_⟩:=ha;simp,by obtain⟨x,y,rfl,rfl,hc⟩:=ha;have:y.length<=9:=hc.2;rw[hb];simp only[Iv,IE,Oc];omega⟩)
    (Uh (Zc rfl (hv7.same g8.gg))) λa b ha hb=>⟨by obtain⟨x,y,rfl,⟨x',y',rfl,rfl,_⟩,_⟩:=ha;simp,by obtain⟨x,y,rfl,⟨x',y',rfl,rfl,hc⟩,rfl⟩:=ha;have:y'.length<=9:=hc.2;rw[hb];simp only[Iv,IE,Oc];omega⟩) g8.gh (k8.gd D gd) (k8.gc D gc) (D7.same g8.hh) λv x Gb Hb hx kb hv=>?_
   obtain⟨ws,rfl,a,b,rfl,⟨a',b',rfl,⟨a'',cs,rfl,rfl,hcs⟩,rfl⟩,rfl⟩:=hx;have hcl:cs.length<=9:=hcs.2;refine FIN v _ Gb Hb ((k8.trans kb).up (by show _<=2*zcf n+6;omega)) hv ?_;have e:[.t (S "pick")]++cs++b'++b=(.t (S "pick")::(cs++(b'++b)):List Wd):=by simp[append_assoc]
   rw[e];exact⟨zeQ hcs.1 gone.1 goth.1,by show(cs++(b'++b)).length+1<=2*zen n+10;rw[Iv,Iv];omega⟩
def zf0(T:Top K mg):T.ZW.O P w base 7 (V4 K 22 (ROd 2)):=Uy T 2 _ (λm e=>by injection e with e;subst e;rfl) (by decide) (Uy T 1 _ (λm e=>by injection e with e;subst e;rfl) (by decide) (Uy T 0 zlf (λm e=>by cases e) (by decide) (T.ZW.F.ok Yr (λvs H Q E h=>h.elim) (λcdv A outer s H vs Q E hr h=>h.elim))))
end
end K29
namespace L2
open PySem PySem.Spec PyProof.Rows Lw
variable {js:List Nat}{tt:TT}{te:TE}{p:AD}
section
variable {K:FG}{σ:St}{G H G' H' : Hp}
def zfT{wi:TI}{Q:VK}{n:Nat}(f:Nat->Option PD)(items:Hp->Nat->V->Prop){G1:Hp}(s2:ZF G1 H)(hw:∀ R:It->Hp->Prop,(∀ J G2 H2,Yi G1 H G2 H2->Walk J n H2 (items G2)->R J H2)->wi σ H R)(hn:n<sizeLine)(hc:∀ G2 i x,ZF G1 G2->i<n->items G2 i x->Lc1 K tt te (some x::WM σ js) G2 (f i))(k:∀ p ys G' H',Yi G1 H G' H' -> H' p=none->Yl K G' ys ((List.range n).filterMap f)->Q (.ref p) (upd H' p (.lst ys))):tLC wi js tt te σ H Q:=by
 refine hw _ λJ G2 H2 g2 W=>?_;refine⟨λi m ys Hi=>m=n-i/\i<=n/\ys.length<=i/\∃ Gi,Yi G2 H2 Gi Hi/\Yl K Gi ys ((List.range i).filterMap f),⟨n,(by omega),(by omega),(by simp),G2,Yi.refl g2.gh,by simpa using ZC⟩,?_⟩;rintro i m ys Hi ⟨rfl,hi,hl,Gi,gi,hys⟩;refine⟨(by omega),?_⟩;by_cases h:i=n
 .subst h;exact .inl ⟨W.stop i Hi gi.hh (Ih _),λp hp=>k p ys Gi Hi (g2.trans gi) hp hys⟩
 .refine .inr ⟨W.go i Hi gi.hh (by omega),λx Hx hy=>?_⟩;obtain⟨rfl,hit⟩:=W.yld i Hi x Hx gi.hh hy;rcases hc G2 i x g2.gg (by omega) hit with⟨d,hf,ht,he⟩ | ⟨hf,ht⟩
  .refine ht Gi Hx gi.gg gi.gh _ λG4 H4 g4=>?_;rw[IA rfl];refine he G4 H4 (gi.gg.trans g4.gg) g4.gh _ λv G5 H5 g5 hv=>⟨n-(i+1),(by omega),rfl,(by omega),by rw[Iv];show ys.length+1<=i+1;omega,G5,(gi.trans g4).trans g5,?_⟩
   rw[OE,Op];simp only[NH,hf,filterMap_nil];exact Wi (hys.same (g4.gg.trans g5.gg)) hv
  .refine ht Gi Hx gi.gg gi.gh _ λG4 H4 g4=>?_;rw[Iw Ij];refine⟨n-(i+1),(by omega),rfl,(by omega),(by omega),G4,gi.trans g4,?_⟩;rw[OE,Op];simp only[NH,hf,filterMap_nil,Ng];exact hys.same g4.gg
def zhv{t:TA}{j:Int}{Q:VK}(f:Nat->Option PD)(h:EvA K t σ G [.int j])(h0:0<=j)(hj:j.toNat<sizeLine)(hc:∀ G2 (i:Nat),ZF G G2->i<j.toNat->Lc1 K tt te (some (.int (0+(i:Int)))::WM σ js) G2 (f i))(s:ZF G H)(k:∀ p ys G' H',Yi G H G' H' -> H' p=none->Yl K G' ys ((List.range j.toNat).filterMap f)->Q (.ref p) (upd H' p (.lst ys))):tLC (ziC t) js tt te σ H Q:=
 zfT f (λ_ i x=>x = .int (0+(i:Int))) s (λR hR=>h G H (ZF.refl _) s _ λvs G2 H2 g2 hv=>by
  obtain⟨y,ys,rfl,hy,r⟩:=hv.cons;rw[r.nil,hy.int];have z:sizeLine<2^62:=by decide
  exact⟨j,rfl,(by omega),(by omega),hR _ G2 H2 g2 (zdJ 0 _ H2)⟩) hj (λG2 i x s3 hi hx=>by subst hx;exact hc G2 i s3 hi) k
def zht{α:Type}{tl:TE}{Q:VK}(as:List α)(enc:α->PD)(f:α->Option PD)(h:Ev K tl σ G (.tuple (as.map enc)))(hj:as.length<sizeLine)(hc:∀ G2 (i:Nat) (a:α) x,ZF G G2->as[i]?=some a->Dat K G2 x (enc a)->Lc1 K tt te (some x::WM σ js) G2 (f a))(s:ZF G H)(k:∀ p ys G' H',Yi G H G' H' -> H' p=none->Yl K G' ys (as.filterMap f)->Q (.ref p) (upd H' p (.lst ys))):tLC (zlx K tl) js tt te σ H Q:=
 zfT (n:=as.length) (λi=>(as[i]?).bind f) (λG2 i x=>∃ a,as[i]?=some a/\Dat K G2 x (enc a)) s (λR hR=>h G H (ZF.refl _) s _ λv G2 H2 g2 hv=>by
  obtain⟨p,xs,rfl,hp,hxs⟩:=hv.tup;refine⟨p,rfl,⟨xs,g2.gh.tup hp⟩,hR _ G2 H2 g2 ?_⟩;have W:=zdd (K:=K) (H:=H2) (g2.gh.tup hp);rw[hxs.length,Ig]at W;refine⟨W.go,W.stop,λi H' x H'' s y=>⟨(W.yld i H' x H'' s y).1,?_⟩⟩;obtain⟨d,hd,hx⟩:=hxs.zel (W.yld i H' x H'' s y).2;rw[Io]at hd;cases e:as[i]? with
  |none=>rw[e]at hd;cases hd
  |some a=>rw[e]at hd;cases hd;exact⟨a,rfl,hx⟩) hj
  (λG2 i x s3 hi ⟨a,ha,hx⟩=>by
   show Lc1 K tt te (some x::WM σ js) G2 ((as[i]?).bind f);rw[ha];exact hc G2 i a x s3 ha hx) (by rw[J9];exact k)
noncomputable def zdn(G:Hp)(p:AD):Hp:=λb=>if b=p then none else G b
def zaJ{b:AD}(h:b≠p):zdn G p b=G b:=Iw h
def zbK :zdn G p p=none:=IA rfl
def zbv{b:AD}{o:HO}(h:zdn G p b=some o):b≠p/\G b=some o:=by
 by_cases z:b=p
 .rw[z,zbK]at h;cases h
 .rw[zaJ z]at h;exact⟨z,h⟩
def Yi.zmM{o:HO}(g:Yi (upd G p o) H G' H')(hp:G p=none):Yi G H (zdn G' p) H':=by
 refine⟨λb u e=>?_,λb u e=>g.gh b u (zbv e).2,g.hh,λb u e=>?_⟩
 .have nb:=Zk e hp;rw[zaJ nb];exact g.gg b u (by rw[Zm nb];exact e)
 .obtain⟨nb,e⟩:=zbv e;rcases g.fr b u e with z | z
  .rw[Zm nb]at z;exact .inl z
  .exact .inr z
end
end L2
namespace K29
open PySem L2 Frac Lw Dig PySem.NumText Nm
open Ord Look Rdo
def SqT.out{K:FG}{G:Hp}{p a:AD}{xs ys:LC}(h:SqT K G a xs)(hp:G p=some (.lst ys)):SqT K (zdn G p) a xs:=by
 rcases h with(h | ⟨o,h⟩) | h
 .exact .inl (.inl (by rw[zaJ (λz=>by rw[z,hp]at h;cases h)];exact h))
 .exact .inl (.inr ⟨o,by rw[zaJ (λz=>by rw[z,hp]at h;cases h)];exact h⟩)
 .exact .inr h
theorem zfD{K:FG}{G:Hp}{p:AD}{zs:LC}(hp:G p=some (.lst zs)):∀{ps:List (Int×Int)}{ys:LC},Yl K G ys (ps.map dF)->Yl K (zdn G p) ys (ps.map dF)
 |[],_,h=>by rw[h.nil];exact ZC
 |q::r,_,h=>by obtain⟨y,ys,rfl,hy,hr⟩:=h.cons;obtain⟨a,us,rfl,ha,hu⟩:=Dat.tup hy;obtain⟨u1,us1,rfl,h1,hu⟩:=hu.cons;obtain⟨u2,us2,rfl,h2,hu⟩:=hu.cons;rw[h1.int,h2.int,hu.nil]at ha;exact Zv (Xy (SqT.out ha hp) (Zv (Zr _) (Zv (Zr _) ZC))) (zfD hp hr)
def zkx{n:Nat}(ps:List (Int×Int)):Pl (n+2) (.list (ps.map dF)):=zaC λd hd=>by obtain⟨p,_,rfl⟩:=NI.mp hd;exact zeF [p.1,p.2]
def RLg:LA->PD->Prop:=λds x=>∃(book:LB)(fs:List Fs)(bad:Int×Int)(ws:List Wd),ds=[.tuple (book.map PyData.str)]/\(1<=book.length/\book.length<=4)/\x = .list [.tuple (fs.map dT),dOs ws]/\fs.length<64/\(∀ f∈fs,FZ book.length f)/\SzP bad/\Jd (· ∈ book) (λa b=>(a,b)=bad) ws/\ws.length<=20
def zlR{book:LB}(hb:1<=book.length/\book.length<=4):∃ x,RLg [.tuple (book.map PyData.str)] x:=⟨_,book,[],(0,1),[.t (S "like")],rfl,hb,rfl,(by decide),λf hf=>(by cases hf),⟨⟨(by decide),(by decide)⟩,(by decide)⟩,zeM,(by decide)⟩
def zfX{K:FG}{G:Hp}{xs:LC}{ps:List (Int×Int)}(h:Yl K G xs (ps.map dF)){k:Nat}(hk:k<ps.length):∃ y,xs[k]?=some y/\Dat K G y (dF ps[k]):=by have hl:=h.length;rw[Ig]at hl;have hx:xs[k]?=some xs[k]:=Ib (by omega);obtain⟨d,hd,hy⟩:=h.zel hx;rw[Io,Ib hk]at hd;have hd:some (dF ps[k])=some d:=hd;injection hd with hd;subst hd;exact⟨_,hx,hy⟩
theorem zas{K:FG}{G:Hp}:∀{ps:List (Int×Int)}{xs:LC}(k:Nat),Yl K G xs (ps.map dF)->Yl K G (xs.eraseIdx k) ((ps.eraseIdx k).map dF)
 |[],_,k,h=>by rw[h.nil];simpa using ZC
 |q::r,_,0,h=>by obtain⟨y,ys,rfl,hy,hr⟩:=h.cons;exact hr
 |q::r,_,k+1,h=>by obtain⟨y,ys,rfl,hy,hr⟩:=h.cons;exact Zv hy (zas k hr)
theorem zdg{K:FG}{G:Hp}{v:V}{a:Int×Int}(hv:Dat K G v (dF a)):∀{ps:List (Int×Int)}{xs:LC}(k:Nat),Yl K G xs (ps.map dF)->Yl K G (xs.set k v) ((ps.set k a).map dF)
 |[],_,k,h=>by rw[h.nil];simpa using ZC
 |q::r,_,0,h=>by obtain⟨y,ys,rfl,hy,hr⟩:=h.cons;exact Zv hv hr
 |q::r,_,k+1,h=>by obtain⟨y,ys,rfl,hy,hr⟩:=h.cons;exact Zv hy (zdg hv k hr)
section
variable {d c:AD}{G:Hp}{σ:St}
def zir(T:Top K mg):T.JQ.O P w base 2 (V4 K 17 RLg):=by
 have G__law_next:=@Qz T;refine T.JQ.F.ok Yn (λvs H Q E h=>?_) (λcdv A outer s H vs Q E hr h=>?_)
 .obtain⟨d,c,G,us,ds,rfl,_,_,_,_,hd,⟨x,book,fs,bad,ws,rfl,_⟩,_⟩:=h;rw[IE,hd.length];rfl
 .obtain⟨d,c,G,us,ds,rfl,sg,gd,gc,D,hd,⟨x,book,fs0,bad0,ws0,rfl,⟨b1,b2⟩,_⟩,kk⟩:=h;obtain⟨v1,r1,rfl,h1,hd⟩:=hd.cons;cases hd.nil;have hu:=hr.units;have zl:(2000:Nat)<=sizeLine:=by decide
  refine⟨_,(Ze (Zy (i:=2) Yn.nd rfl (Or.inl rfl) (peN T.Yj G__law_next hr (Za (pv 0) Zf Zd)))
   (Ze (Zy (i:=3) Yn.nd rfl (Or.inl rfl) (Zu ZV (pv 2) (Z6 (Ye (K:=K) rfl) (by rfl) T.zaW IJ (Za (pv 1) Zf Zd))))
   (Ze (Zy (i:=4) Yn.nd rfl (Or.inr rfl) (UL (x:= "k") (cap:=[]) (js:=[]) ⟨rfl,(by decide +kernel),(by decide +kernel),rfl,(by show ∀ p∈(_:List (Str×NameKind)),p.2=NameKind.free->List.lookup p.1 (Zi WF).names=some NameKind.cell;decide +kernel),(by decide +kernel),(by decide +kernel),(by decide +kernel)⟩ rfl rfl (λ_ _ h=>h) (Wt (by rfl) T.Vw (Za (Zu Jp Zg (Zu ZV (Zu Ym (pv 2) Zg) Zg)) Zf Z7)) (λ_ _ _ _=>⟨XJ,(Yg (Za (Zu XR (Zu Y4 Zg (pv 0)) Zg) (Za Zg Zf Zj) Z7))⟩)))
   (Ze (Zy (i:=5) Yn.nd rfl (Or.inl rfl) (Yg (Za (Zu XR (Zu XR (Zu Y4 Zg (Zu ZV (Zu Ym (pv 2) Zg) Zg)) Zg) (Zu ZV (Zu Ym (pv 2) Zg) Zg)) (Za Zg Zf Zj) Z7)))
   (Ze (Zy (i:=6) Yn.nd rfl (Or.inl rfl) (Yv Zf))
   (Ze (zaQ IT (ZD (zcj (K:=K) rfl hu) (pv 4) (Yv Zf) (ZQ _)) (Ze (Zy (i:=7) Yn.nd rfl (Or.inl rfl) (VL Nf PySem.F.slot_list_pop PySem.F.type_list_pop zgF (pv 4) (Za (Zu ZV (peN T.Yj G__law_next hr (Za (pv 0) Zf Zd)) (Z6 (Ye (K:=K) rfl) (by rfl) T.zaW IJ (Za (pv 4) Zf Zd))) Zf Z7)))
   (Ze (zg6 (x:= "name") (cap:=["numbers"]) (js:=[4]) (i:=8) (y:= "thing") ⟨rfl,(by decide +kernel),(by decide +kernel),rfl,(by show ∀ p∈(_:List (Str×NameKind)),p.2=NameKind.free->List.lookup p.1 (Zi WF).names=some NameKind.cell;decide +kernel),(by decide +kernel),(by decide +kernel),(by decide +kernel)⟩ rfl rfl (λ_ _ h=>h) Yn.nd rfl rfl (Ql (pv 1)) (λ_ _ _ _=>⟨XJ,(Yg (Za (Zu ZV (Z6 (Ye (K:=K) rfl) (by rfl) T.zaW IJ (Za (pv 1) Zf Zd)) Zg) (Za Zg Zf Zj) Z7))⟩))
   (Ze (zfF (pv 7) (zhG (pv 8) (pv 3) set_list))
   (Zo (JK (VL Nf Nn Np Wv (pv 6) (Za (Xk (YL (K:=K) rfl) (by rfl) T.J6 zfx (Za (pv 8) Zf Zd)) Zf YT))))))))
   (Ze (Zy (i:=9) Yn.nd rfl (Or.inl rfl) (Z0 (X8 (K:=K) rfl) (pv 1) (pv 3) (λ_ _=>rfl)))
   (Ze (Zy (i:=10) Yn.nd rfl (Or.inl rfl) (Z0 (Zw (K:=K) rfl) (Yv (Za (Yg (Za Zz (Za Zz (Za (pv 9) (Za (pv 5) Zf Zd) Zd) Zj) Zj)) (Za (Yg (Za Zz (Za Zz (Za Zz (Za (pv 9) (Za (pv 5) Zf Zd) Zd) Zj) Zj) Zj)) Zf Yz) Yz)) (Zu ZV (Zu Ym (pv 2) Zg) Zg) (λ_ _=>rfl)))
   (Ze (Zy (i:=11) Yn.nd rfl (Or.inl rfl) (Z0 (Zw (K:=K) rfl) (Yv (Za (Yg (Za Zz (Za (pv 9) (Za Zz (Za (pv 9) Zf Zd) Zj) Zd) Zj)) (Za (Yg (Za Zz (Za (pv 9) (Za Zz (Za (pv 9) Zf Zd) Zj) Zd) Zj)) Zf Yz) Yz)) (Zu ZV (Zu Ym (pv 2) Zg) Zg) (λ_ _=>rfl)))
   (Zo (Zx (Yv (Za (Xk (YL (K:=K) rfl) (by rfl) T.J6 zfx (Za (pv 6) Zf Zd)) (Za (Zu (Xp (K:=K) rfl) (Zu (Xp (K:=K) rfl) (Yg (Za Zz Zf Zj)) (pv 10)) (pv 11)) Zf Z7) YT))))))))))))) ,?_⟩
  refine Ww (K:=K) (d:=d) (c:=c) (zch rfl) sg gd gc (D.mono (by decide)) λv2 x G1 H1 hx k1 hv2=>?_;obtain⟨cell,rfl,_⟩:=hx;rw[hv2.int];have h11:=h1.same k1.gg;have q1:=m2 cell (book.length:Nat) (by omega);refine Yw (K:=K) (x:=.int (cell % (book.length:Nat))) (Yc (Zc rfl (Zr cell)) (JT (Qq (Zb (Zc rfl h11) Zn)) (by rw[Ig])) (by omega)) k1.gh λv3 G2 H2 g2 hv3=>?_;rw[hv3.int];obtain⟨pl,hpl⟩:=NF q1.1;have hplt:pl<book.length:=by have:=q1.2;rw[hpl]at this;omega
  rw[hpl];clear hv3 v3 hv2 v2;have q2:=m2 (cell / 4) 8 (by decide);refine zhv (K:=K) (G:=G2) (j:=9+cell / 4 % 8) (λk=>some (dF (3*(k:Int)-20,1))) (Zb (zax Zq (Yc (XS (Zc rfl (Zr cell)) Zq (by decide) (by decide)) Zq (by decide))) Zn) (by omega) (by omega) (λG' i s' hi=>lc1 X7 (JT (Xf (Zb (WX (Qn Zq (Zc rfl (Zr _)) (by decide) (by omega)) Zq) (Zb Zq Zn)) (by show 2<=sizeLine;decide)) (by show PyData.tuple _=PyData.tuple _;simp only[Int.zero_add]))) g2.gh λpn xs0 G3 H3 g3 hpn hxs0=>?_;obtain⟨m0,hm0⟩:∃ m0:Nat,(9+cell / 4 % 8).toNat=m0:=⟨_,rfl⟩
  have hm16:m0<=16:=by omega
  rw[hm0]at hxs0;have hxs0' : Yl K G3 xs0 (((List.range m0).map λ(k:Nat)=>((3*(k:Int)-20,1):Int×Int)).map dF):=by rw[Wz]at hxs0;rw[Oy];exact hxs0
  have hns0:∀ p∈(List.range m0).map λ(k:Nat)=>((3*(k:Int)-20,1):Int×Int),SzP p:=λp hp=>by
   obtain⟨k,hk,rfl⟩:=NI.mp hp;have:=mem_range.mp hk;have z:(10:Nat)^19<10^40:=by decide
   exact⟨⟨lt_trans (show(3*(k:Int)-20).natAbs<10^19 by omega) z,show(1:Int).natAbs<10^40 by decide⟩,show(1:Int)<=1 by decide⟩
  generalize hn0:((List.range m0).map λ(k:Nat)=>((3*(k:Int)-20,1):Int×Int))=ns0 at hxs0' hns0;have hl0:ns0.length=m0:=by rw[← hn0,Ig,ND]
  clear hxs0 hn0;have k3:=k1.trans ((g2.trans g3).dk k1.D0);obtain⟨nnd,nnc⟩:=Dk.ned k3.D0 hpn;have g3n:G3 pn=none:=g3.gh.free hpn;have hn1:H pn=none:=by have:=V1 k3.kp k3.D0 hpn;exact this
  have k4:=k3.wr hn1 g3n nnd nnc (.lst xs0);have hk4:upd H3 pn (.lst xs0) pn=some (.lst xs0):=Zh;generalize upd H3 pn (.lst xs0)=H4 at k4 hk4;have q3:=m2 (cell / 32) 17 (by decide);have q4:=m2 (cell / 544) 2 (by decide);refine Yw (K:=K) (x:=dF (3*(cell / 32 % 17)-20-cell / 544 % 2,1)) (Xf (Zb (WX (WX (Qn Zq (Yc (XS (Zc rfl (Zr cell)) Zq (by decide) (by decide)) Zq (by decide)) (by decide) (by omega)) Zq) (Yc (XS (Zc rfl (Zr cell)) Zq (by decide) (by decide)) Zq (by decide))) (Zb Zq Zn)) (by show 2<=sizeLine;decide)) k4.gh λv5 G5 H5 g5 hv5=>?_;have hbad:SzP (3*(cell / 32 % 17)-20-cell / 544 % 2,1):=by
   have z:(10:Nat)^19<10^40:=by decide
   exact⟨⟨lt_trans (show(3*(cell / 32 % 17)-20-cell / 544 % 2).natAbs<10^19 by omega) z,show(1:Int).natAbs<10^40 by decide⟩,show(1:Int)<=1 by decide⟩
  generalize ((3*(cell / 32 % 17)-20-cell / 544 % 2,1):Int×Int)=bad at hv5 hbad;refine⟨(by show 0<=sizeLine;decide),λpr hpr=>?_⟩;have k5:=k4.trans (g5.dk k4.D0);have hk5:=g5.hh _ _ hk4;have g5n:G5 pn=none:=g5.out hk4 g3n;obtain⟨nrd,nrc⟩:=Dk.ned k5.D0 hpr;have g5r:G5 pr=none:=k5.gh.free hpr;have hr1:H pr=none:=V1 k5.kp k5.D0 hpr;have nnr:pn≠pr:=Zk hk5 hpr;have k6:=k5.wr hr1 g5r nrd nrc (.lst []);have hk6:upd H5 pr (.lst []) pn=some (.lst xs0):=by rw[Zm nnr];exact hk5
  have hr6:upd H5 pr (.lst []) pr=some (.lst []):=Zh;generalize upd H5 pr (.lst [])=H6 at k6 hk6 hr6;have hx6:=hxs0'.same g5.gg;refine zba (fun σ H' => ∃(v7 v8:Option V)(G' : Hp)(xs ys:LC)(ns:List (Int×Int))(fs:List Fs),σ=[some (V.ref d),some v1,some (V.int cell),some (V.int (pl:Nat)),some (V.ref pn),some v5,some (V.ref pr),v7,v8,none,none,none]/\Dk (1+fs.length) d c G H G' H' /\ ZF G5 G' /\ G' pn=none/\G' pr=none/\H' pn=some (.lst xs)/\H' pr=some (.lst ys)/\Yl K G' xs (ns.map dF)/\Yl K G' ys (fs.map dT)/\(∀ p∈ns,SzP p)/\(∀ f∈fs,FZ book.length f)/\fs.length+ns.length=m0)
   (λ_ H' => match H' pn with | some (.lst xs)=>xs.length | _=>0) ⟨_,_,G5,xs0,[],ns0,[],rfl,k6.up (by show _<=1+0;omega),ZF.refl _,g5n,g5r,hk6,hr6,hx6,ZC,hns0,λf hf=>(by cases hf),by rw[hl0];exact Oz _⟩ ?_ ?_
  .rintro σ H7 ⟨v7,v8,G7,xs,ys,ns,fs,rfl,k7,s7,gn7,gr7,hn7,hr7,hxs,hys,hns,hfs,hlen⟩;have hxl:=hxs.length;rw[Ig]at hxl;have hyl:=hys.length;rw[Ig]at hyl;have hNum:Dat K H7 (.ref pn) (.list (ns.map dF)):=YJ hn7 (hxs.same k7.gh);have plN:Pl 6 (.list (ns.map dF)):=zkx ns;refine(ZM (K:=K) (zbS (g:=λb=>!b) (n:=6) (G:=H7) (Zc (i:=4) rfl hNum) (Wx (ds:=[]) Zn (by show 0<=sizeLine;decide)) plN (zkx []) (by decide))).use (ZF.refl _) λG8 H8 g8=>?_;have sH:=g8.hh;have k8:=k7.trans ((Vy k7.gh sH).dk k7.D0);have hn8:=sH _ _ hn7;have hr8:=sH _ _ hr7;cases ns with
   |nil=>
    have e0:(!PySem.Spec.same (PyData.list (List.map dF [])) (PyData.list []))=false:=by rfl
    rw[e0];refine zeO ?_;have hxs:xs=[]:=by simpa using hxl
    subst hxs;have k9:=k8.put hr1 hr8 (sg.free hr1) gr7;have hY:Dat K (upd G7 pr (.lst ys)) (.ref pr) (.list (fs.map dT)):=YJ Zh (hys.same (ZZ gr7));have s9:ZF G1 (upd G7 pr (.lst ys)):=(((g2.trans g3).gg.trans g5.gg).trans s7).trans (ZZ gr7);have hv9:Dat K (upd G7 pr (.lst ys)) v5 (dF bad):=hv5.same (s7.trans (ZZ gr7));generalize upd G7 pr (.lst ys)=G9 at k9 hY s9 hv9;have hpe:book[pl]?=some book[pl]:=Ib hplt;have hz:book[pl]∈book:=NO hplt;generalize book[pl]=z at hpe hz;refine Yw (K:=K) (x:=.str z) (JS (n:=pl) (Zc rfl (h11.same s9)) (Zc rfl (Zr _)) (by rw[Ig];exact XN hplt) (by rw[Io,hpe];rfl)) k9.gh λv9 Ga Ha ga hva=>?_;rw[hva.str];have qa:=m2 (cell / 1088) 2 (by decide);obtain⟨e,he,hev⟩:=JB (G:=Ga) (i:=cell / 1088 % 2) (σ:=[some (V.ref d),some v1,some (V.int cell),some (V.int (pl:Nat)),some (V.ref pn),some v5,some (V.ref pr),v7,v8,some (V.str z),none,none]) (tb:=zdI (tOp (rI Vu λi j=>.int (i / j)) (XH 2) (tC (.int 1088))) (tC (.int 2))) (Wx (Zb (Xf (Zb (ZJ (x:=S "either")) (Zb (ZJ (x:=S "is")) (Zb (Zc (i:=9) rfl (Z5 z)) (Zb (Zc (i:=5) rfl (hv9.same ga.gg)) Zn)))) (by show 4<=sizeLine;decide)) (Zb (Xf (Zb (ZJ (x:=S "not")) (Zb (ZJ (x:=S "both")) (Zb (ZJ (x:=S "is")) (Zb (Zc (i:=9) rfl (Z5 z)) (Zb (Zc (i:=5) rfl (hv9.same ga.gg)) Zn))))) (by show 5<=sizeLine;decide)) Zn)) (by show 2<=sizeLine;decide)) (Yc (XS (Zc rfl (Zr cell)) Zq (by decide) (by decide)) Zq (by decide)) qa.1 qa.2;have hcs:∃ cs,e=dOs cs/\W4 (· ∈ book) (λa b=>(a,b)=bad) cs/\cs.length<=5/\cs≠[]:=by
     have hmk:zbL (· ∈ book) (λa b=>(a,b)=bad) [.t (S "is"),.t z,.n bad.1 bad.2]:=zjh (.inr rfl) hz rfl;have hm:=Ii he;simp only[ID,IX,NK]at hm;rcases hm with rfl | rfl
     .exact⟨[.t (S "either"),.t (S "is"),.t z,.n bad.1 bad.2],rfl,zdr hmk,by show 4<=5;decide,(by simp)⟩
     .exact⟨[.t (S "not"),.t (S "both"),.t (S "is"),.t z,.n bad.1 bad.2],rfl,zks (zh3 hmk),by show 5<=5;decide,(by simp)⟩
    obtain⟨cs,rfl,hcs1,hcs2,hcs3⟩:=hcs;refine Yw (K:=K) hev ga.gh λva Gb Hb gb hvb=>?_;have gab:=ga.trans gb;have qb:=m2 (cell / 2176) 2 (by decide);obtain⟨e2,he2,hev2⟩:=JB (G:=Gb) (i:=cell / 2176 % 2) (σ:=[some (V.ref d),some v1,some (V.int cell),some (V.int (pl:Nat)),some (V.ref pn),some v5,some (V.ref pr),v7,v8,some (V.str z),some va,none]) (tb:=zdI (tOp (rI Vu λi j=>.int (i / j)) (XH 2) (tC (.int 2176))) (tC (.int 2))) (Wx (Zb (Xf (Zb (ZJ (x:=S "down")) (Zb (Zc (i:=9) rfl (Z5 z)) (Zb (ZJ (x:=S "up")) (Zb (Zc (i:=9) rfl (Z5 z)) Zn)))) (by show 4<=sizeLine;decide)) (Zb (Xf (Zb (ZJ (x:=S "up")) (Zb (Zc (i:=9) rfl (Z5 z)) (Zb (ZJ (x:=S "down")) (Zb (Zc (i:=9) rfl (Z5 z)) Zn)))) (by show 4<=sizeLine;decide)) Zn)) (by show 2<=sizeLine;decide)) (Yc (XS (Zc rfl (Zr cell)) Zq (by decide) (by decide)) Zq (by decide)) qb.1 qb.2;have har:∃ a b:List Wd,e2=dOs (a++b)/\Jd (· ∈ book) (λa b=>(a,b)=bad) a/\Jd (· ∈ book) (λa b=>(a,b)=bad) b/\(a++b).length=4:=by
     have hm:=Ii he2;simp only[ID,IX,NK]at hm;rcases hm with rfl | rfl
     .exact⟨[.t (S "down"),.t z],[.t (S "up"),.t z],rfl,ze4 hz,zmn hz,rfl⟩
     .exact⟨[.t (S "up"),.t z],[.t (S "down"),.t z],rfl,zmn hz,ze4 hz,rfl⟩
    obtain⟨a,b,rfl,ha1,hb1,hab⟩:=har;refine Yw (K:=K) hev2 gb.gh λvb Gc Hc gcc hvc=>?_;have gac:=gab.trans gcc;refine ZX (K:=K) (d:=.list [.tuple (fs.map dT),dOs ([.t (S "pick")]++cs++(a++b))]) (Wx (Zb (QV (Zb (Zc rfl (hY.same gac.gg)) Zn)) (Zb (Vh (x:=[.t (S "pick")]++cs) (y:=a++b) (Vh (x:=[.t (S "pick")]) (y:=cs) (Xf (Zb ZJ Zn) (by show 1<=sizeLine;decide)) (Zc rfl (hvb.same gcc.gg)) (by simp) (by show 1+cs.length<=900;omega)) (Zc rfl hvc) (by simp) (by rw[hab];show(cs.length+1)+4<=900;omega)) Zn)) (by show 2<=sizeLine;decide)) gcc.gh λv Gd Hd gdd hv=>?_;have hfl:fs.length=m0:=by rw[← hlen];rfl
    refine kk v _ Gd Hd ⟨book,fs,bad,_,rfl,⟨b1,b2⟩,rfl,(by omega),hfs,hbad,?_,?_⟩ ((k9.trans ((gac.trans gdd).dk k9.D0)).up (by omega)) hv
    .have e:[.t (S "pick")]++cs++(a++b)=(.t (S "pick")::(cs++(a++b)):List Wd):=by simp[append_assoc]
     rw[e];exact zeQ hcs1 ha1 hb1
    .rw[Iv,hab];show(cs.length+1)+4<=20;omega
   |cons n0 nr=>
    have hne:(!PySem.Spec.same (PyData.list ((n0::nr).map dF)) (PyData.list []))=true:=by rfl
    rw[hne];refine zie ?_;rw[IE]at hxl hlen;have D8:DkA 1 H8 d c:=k8.cn 1 (D.mono (by omega));refine⟨_,rfl,.inl ⟨rfl,_,SqL.of hn8⟩,?_⟩;refine Dv.use (t:=tNx K 0) (zch (d:=d) (c:=c) (i:=0) rfl) k8.gh (k8.gd D gd) (k8.gc D gc) D8 λvd xd G9 H9 hxd k9' hvd=>?_;obtain⟨r0,rfl,_⟩:=hxd;rw[hvd.int];have k9:=k8.trans k9';have hn9:H9 pn=some (.lst xs):=k9'.kp _ _ hn8 nnd nnc;have hr9:H9 pr=some (.lst ys):=k9'.kp _ _ hr8 nrd nrc;have gn9:G9 pn=none:=k9'.out hn8 gn7;have gr9:G9 pr=none:=k9'.out hr8 gr7;have hm:=m2 r0 (xs.length:Nat) (by omega);obtain⟨ix,hix⟩:=NF hm.1;have hixl:ix<xs.length:=by have:=hm.2;rw[hix]at this;omega
    refine⟨_,rfl,pn,xs,rfl,.inl (SqL.of hn9),_,_,rfl,rfl,(by omega),?_⟩;show zhN _ [.int (r0 % ((xs.length:Nat):Int))] H9 _;rw[hix];obtain⟨vn,hvn1,hvn2⟩:=zfX (hxs.same k9'.gg) (k:=ix) (by rw[IE];omega);refine⟨pn,xs,(ix:Nat),ix,vn,rfl,rfl,hn9,(by omega),(by omega),by unfold seqIndex?;simp;omega,hvn1,?_⟩;have hnm:(n0::nr)[ix]'(by rw[IE];omega)∈n0::nr:=NO _;have hsz:=hns _ hnm;have hera:=zas ix (hxs.same k9'.gg);have hmem:∀ p∈(n0::nr).eraseIdx ix,SzP p:=λp hp=>hns p (List.mem_of_mem_eraseIdx hp);have hlr:((n0::nr).eraseIdx ix).length=nr.length:=by rw[List.length_eraseIdx_of_lt (by rw[IE];omega),IE];rfl
    have hlx:(xs.eraseIdx ix).length=nr.length:=by rw[List.length_eraseIdx_of_lt hixl];omega
    generalize (n0::nr)[ix]'(by rw[IE];omega)=num at hvn2 hsz;generalize (n0::nr).eraseIdx ix=ms at hera hmem hlr;generalize xs.eraseIdx ix=xs' at hera hlx;have ka:=k9.wr hn1 gn9 nnd nnc (.lst xs');have hna:upd H9 pn (.lst xs') pn=some (.lst xs'):=Zh;have hra:upd H9 pn (.lst xs') pr=some (.lst ys):=by rw[Zm (Ne.symm nnr)];exact hr9
    generalize upd H9 pn (.lst xs')=Ha at ka hna hra;have hput:ZF G9 (upd G9 pn (.lst xs')):=ZZ gn9;have sput:ZF (upd G9 pn (.lst xs')) Ha:=λb o e=>by
     by_cases z:b=pn
     .subst z;rw[Zh]at e;rw[hna,e]
     .rw[Zm z]at e;exact ka.gh b o e
    have h1a:Dat K (upd G9 pn (.lst xs')) v1 (.tuple (book.map PyData.str)):=h11.same (((((g2.trans g3).gg.trans g5.gg).trans s7).trans k9'.gg).trans hput);have hNa:Dat K (upd G9 pn (.lst xs')) (.ref pn) (.list (ms.map dF)):=YJ Zh (hera.same hput);refine zht (K:=K) (G:=upd G9 pn (.lst xs')) book PyData.str (λ_=>some (dF (((nr.length % 3:Nat):Int),1))) (Zc rfl h1a) (by omega) (λGb i z x sb hz hx=>lc1 X7 (JT (Xf (Zb (Yc (Ur (Zb (Zc rfl (hNa.same sb)) Zn)) Zq (by decide)) (Zb Zq Zn)) (by show 2<=sizeLine;decide)) (by show PyData.tuple _=PyData.tuple _;rw[Ig,hlr];rfl))) sput λpt zs Gb Hb gb hpt hzs=>?_;rw[Wz]at hzs;have hzs' : Yl K Gb zs ((List.replicate book.length ((((nr.length % 3:Nat):Int),1):Int×Int)).map dF):=by rw[List.map_replicate,← List.map_const'];exact hzs
    have hzs2:=zfD (gb.gg _ _ Zh) hzs';have gb2:=gb.zmM gn9;have kb:=ka.trans (gb2.dk ka.D0);have hnb:=gb.hh _ _ hna;have hrb:=gb.hh _ _ hra;have gnb:zdn Gb pn pn=none:=zbK;have grb:zdn Gb pn pr=none:=gb2.out hra gr9;have hvb:Dat K (zdn Gb pn) vn (dF num):=hvn2.same gb2.gg;have hyb:Yl K (zdn Gb pn) ys (fs.map dT):=hys.same (k9'.gg.trans gb2.gg);have hmb:Yl K (zdn Gb pn) xs' (ms.map dF):=hera.same gb2.gg;have s7b:ZF G5 (zdn Gb pn):=s7.trans (k9'.gg.trans gb2.gg);have gtb:zdn Gb pn pt=none:=gb2.gh.free hpt;generalize zdn Gb pn=Gc at hzs2 gb2 kb gnb grb hvb hyb hmb s7b gtb;obtain⟨ntd,ntc⟩:=Dk.ned kb.D0 hpt;have ht1:H pt=none:=V1 kb.kp kb.D0 hpt;have ntn:pn≠pt:=Zk hnb hpt;have ntr:pr≠pt:=Zk hrb hpt;have hzl:zs.length=book.length:=by have:=hzs2.length;rw[Ig,Oe]at this;exact this
    refine⟨_,rfl,_,rfl,_,rfl,pt,zs,(pl:Nat),pl,rfl,rfl,Zh,by rw[hzl];exact XN hplt,?_⟩;have hset:=zdg hvb pl hzs2;have hthing:FZ book.length ((List.replicate book.length ((((nr.length % 3:Nat):Int),1):Int×Int)).set pl num):=by
     refine⟨by rw[List.length_set,Oe],λp hp=>?_⟩;rcases List.mem_or_eq_of_mem_set hp with hp | hp
     .rw[List.eq_of_mem_replicate hp];have z:(10:Nat)^19<10^40:=by decide
      exact⟨lt_trans (show(((nr.length % 3:Nat):Int)).natAbs<10^19 by omega) z,show(1:Int).natAbs<10^40 by decide⟩
     .rw[hp];exact hsz.1
    generalize (List.replicate book.length ((((nr.length % 3:Nat):Int),1):Int×Int)).set pl num=th0 at hset hthing;generalize zs.set pl vn=zs' at hset;have eU:upd (upd Hb pt (.lst zs)) pt (.lst zs')=upd Hb pt (.lst zs'):=by
     funext b;by_cases z:b=pt
     .rw[z,Zh,Zh]
     .rw[Zm z,Zm z,Zm z]
    rw[eU];have kc:=kb.wr ht1 gtb ntd ntc (.lst zs');have htc:upd Hb pt (.lst zs') pt=some (.lst zs'):=Zh;have hnc:upd Hb pt (.lst zs') pn=some (.lst xs'):=by rw[Zm ntn];exact hnb
    have hrc:upd Hb pt (.lst zs') pr=some (.lst ys):=by rw[Zm ntr];exact hrb
    generalize upd Hb pt (.lst zs')=Hc at kc htc hnc hrc;refine⟨_,rfl,.inl ⟨rfl,_,SqL.of hrc⟩,_,rfl,pt,zs',rfl,.inl ⟨SqL.of htc,λtt htt=>?_⟩⟩;have gd2:=Yd (o:=.tup zs') kc.gh htt;have hrd:upd Hc tt (.tup zs') pr=some (.lst ys):=by rw[Zm (Zk hrc htt)];exact hrc
    have hnd:upd Hc tt (.tup zs') pn=some (.lst xs'):=by rw[Zm (Zk hnc htt)];exact hnc
    refine⟨pr,_,_,rfl,rfl,hrd,(by omega),?_⟩;have kd:=kc.trans (gd2.dk kc.D0);have grd:upd Gc tt (.tup zs') pr=none:=by rw[Zm (Zk hrc htt)];exact grb
    have gnd:upd Gc tt (.tup zs') pn=none:=by rw[Zm (Zk hnc htt)];exact gnb
    refine⟨⟨_,_,upd Gc tt (.tup zs'),xs',ys++[.ref tt],ms,fs++[th0],rfl,(kd.wr hr1 grd nrd nrc _).up (by rw[Iv];show _<=1+(fs.length+1);omega),s7b.trans gd2.gg,gnd,grd,by rw[Zm nnr];exact hnd,Zh,hmb.same gd2.gg,?_,hmem,λf hf=>?_,by rw[Iv,hlr];show(fs.length+1)+nr.length=m0;omega⟩,?_⟩
    .rw[Ni];exact Xv (hyb.same gd2.gg) (Zv (Xy (SqT.of Zh) (hset.same gd2.gg)) ZC)
    .rcases NN.mp hf with hf | hf
     .exact hfs f hf
     .rw[IN.mp hf];exact hthing
    .show(match (upd (upd Hc tt (.tup zs')) pr (.lst (ys++[.ref tt]))) pn with | some (.lst xs)=>xs.length | _=>0)<(match H7 pn with | some (.lst xs)=>xs.length | _=>0);rw[Zm nnr,hnd,hn7];show xs'.length<xs.length;omega
  .rintro σ H' Q1 Q2 hq ⟨a1,e1,z,f⟩;refine⟨a1,e1,z,λl hl=>?_⟩;obtain⟨G0,a,b,h1,h2,h3,h4,c0,e,q⟩:=f l hl;exact⟨G0,a,b,h1,h2,h3,h4,c0,e,hq _ _ q⟩
end
end K29
namespace L2
open PySem PySem.Spec PyProof.Rows
def zgd{K:FG}{a:AD}{xs:LC}{g:TG}{tb:TS}{D:Ends}{σ:St}{H:Hp}(Pv:Nat->St->Hp->Prop)(h0:Pv 0 σ H)(hl:∀ i σ H,i<=xs.length->Pv i σ H->SqT K H a xs)(hs:∀ i x σ H p,xs[i]?=some x->Pv i σ H->H p=none->g (.ref p) σ (upd H p (.tup [.int i,x])) fun σ2 H2=>tb {D with nx:=Pv (i+1),ct:=Pv (i+1),bk:=D.nx} σ2 H2)(hd:∀ σ H,Pv xs.length σ H->D.nx σ H):
  ∃ W:Nat->Nat->St->Hp->Prop,(∃ m,W 0 m σ H)/\∀ i m σ H,W i m σ H->
   ((zkV K a).stop i H/\D.nx σ H)\/((zkV K a).go i H/\∃ N:St->Hp->Prop,(∀ σ' H',N σ' H' -> ∃ m',m'<m/\W (i+1) m' σ' H')/\∀ x H',(zkV K a).yld i H x H' -> g x σ H' fun σ2 H2=>tb {D with nx:=N,ct:=N,bk:=D.nx} σ2 H2):=by
 refine⟨λi m σ H=>m=xs.length-i/\i<=xs.length/\Pv i σ H,⟨xs.length,(by simp),Nl _,h0⟩,?_⟩;rintro i m σ H ⟨rfl,hi,p⟩;have q:=hl i σ H hi p;by_cases hlt:i<xs.length
 .refine .inr ⟨⟨xs,_,q,Ib hlt⟩,Pv (i+1),fun σ' H' p' => ⟨xs.length-(i+1),(by omega),rfl,hlt,p'⟩,λx H' y=>?_⟩;obtain⟨p',x',hp',rfl,rfl,hx⟩:=y;exact hs i x' σ H p' (hx xs q) p hp'
 .have e:i=xs.length:=by omega
  subst e;exact .inl ⟨⟨xs,q,Ih _⟩,hd σ H p⟩
def zjF{K:FG}{σ:St}{G:Hp}{tl:TE}{js:List Nat}{te:TE}(ps:List (Int×Int))(f:Int×Int->PD)(h:Ev K tl σ G (.list (ps.map dPr)))(hj:ps.length<sizeLine)(hc:∀ G2 (i:Nat) p,ZF G G2->ps[i]?=some p->Ev K te (some (.int p.1)::some (.int p.2)::WM σ js) G2 (f p)):Ev K (zm4 K (zjs K tl) js zaM te) σ G (.list (ps.map f)):=
 λG1 H s1 s2 Q k=>h G1 H s1 s2 _ λv G2 H2 g2 hv=>by
  obtain⟨p,xs,rfl,hp,hxs⟩:=hv.lst;have hl:xs.length=ps.length:=by rw[hxs.length,Ig]
  refine⟨p,rfl,⟨xs,SqL.of (g2.gh _ _ hp)⟩,λi m ys H' => m=ps.length-i/\i<=ps.length/\ys.length=i/\∃ G',Yi G2 H2 G' H' /\ Yl K G' ys ((ps.take i).map f),⟨ps.length,(by omega),(by omega),rfl,G2,Yi.refl g2.gh,by simpa using ZC⟩,?_⟩;rintro i m ys H' ⟨rfl,hi,hyl,G',g',hys⟩;have hp':=g'.hh _ _ (g2.gh _ _ hp);refine⟨(by omega),?_⟩;by_cases e:i=ps.length
  .subst e;refine .inl ⟨⟨xs,SqL.of hp',(by omega)⟩,λl hlf=>?_⟩;have g3:=Yd (o:=.lst ys) g'.gh hlf;rw[take_length]at hys;exact k _ _ _ ((g2.trans g').trans g3) (YJ Zh (hys.same g3.gg))
  .have hi' : i<ps.length:=by omega
   refine .inr ⟨⟨xs,_,SqL.of hp',Ib (by omega)⟩,λx H'' hy=>?_⟩;obtain⟨eH,hx⟩:=hy;subst eH;have hx:=hx xs (SqL.of hp');obtain⟨dd,hdd,hxd⟩:=hxs.zel hx;rw[Io,Ib hi']at hdd;have hdd:some (dPr ps[i])=some dd:=hdd;injection hdd with hdd;subst hdd;obtain⟨q,us,rfl,hq,hus⟩:=hxd.tup;obtain⟨y1,r1,rfl,h1,hus⟩:=hus.cons;obtain⟨y2,r2,rfl,h2,hus⟩:=hus.cons;cases hus.nil;rw[h1.int,h2.int]at hq;refine⟨q,_,_,rfl,((g2.gh.trans g'.hh)).tup hq,zc2 ?_⟩;refine hc G' i _ (s1.trans (g2.gg.trans g'.gg)) (Ib hi') G' H'' (ZF.refl _) g'.gh _ λv G4 H4 g4 hv=>⟨ps.length-(i+1),(by omega),rfl,(by omega),by rw[Iv,hyl];rfl,G4,g'.trans g4,?_⟩
   rw[take_succ,Ib hi',Ni];exact Wi (hys.same g4.gg) hv
end L2
namespace Look
open PySem Ord Rdo L2
noncomputable def pA(L:Fs->Fs->An)(gs:List Fs)(i:Nat):Int×Int:=((rk L gs (th gs i):Nat),(i:Nat))
def zli{L:Fs->Fs->An}{gs:List Fs}(wk:Wk L (· ∈ gs)){f:Fs}(hf:f∈gs):gs.countP (λo=>decide (L o f = .ahead))=rk L gs f:=by unfold rk;refine List.countP_congr λg hg=>?_;rw[wk.anti f g hf hg,NP,NP];cases L f g <;> decide
def zkZ{L:Fs->Fs->An}{gs:List Fs}(wk:Wk L (· ∈ gs))(hl:gs.length<1000){rs:List (Int×Int)}(hp:rs.Perm ((List.range gs.length).map (pA L gs)))(hs:rs.Pairwise λa b=>a.1*1000+a.2<=b.1*1000+b.2):rs=(tn L gs).map (pA L gs):=by
 obtain⟨Z,p,e⟩:=zbO hp rfl;subst e;have e:Z=tn L gs:=by refine zmt wk p ?_;have nd:Z.Nodup:=p.nodup_iff.mpr List.nodup_range;rw[List.pairwise_map]at hs;refine(List.Pairwise.and_mem.mp (hs.and nd)).imp λ{i j} ⟨hi,hj,h,hne⟩=>?_;have li:=mem_range.mp (p.mem_iff.mp hi);have lj:=mem_range.mp (p.mem_iff.mp hj);have a:=(Xi L gs).mpr wk;unfold agree at a;have q:=Ir (Nz.mp (Nz.mp a _ (zat li)) _ (zat lj));have h' : ((rk L gs (th gs i):Nat):Int)*1000+(i:Nat)<=((rk L gs (th gs j):Nat):Int)*1000+(j:Nat):=h;unfold ltL;rw[q,(Jk _ _).1,(Jk _ _).2.1];have:i≠j:=hne;omega
 rw[e]
end Look
namespace K29
open PySem L2 Frac Lw Dig PySem.NumText Nm
open Ord Look Rdo
def zkH(K:FG)(Pt:AD):Sp:=λvs H Q _=>∃(G:Hp)(book:LB)(way:Nat)(vo:V)(pb:AD)(vr:V)(ws:List Wd)(num:Int->Int->Prop)(gs:List Fs),vs=[.int (way:Nat),vo,.ref pb,vr]/\way<2/\G Pt=some (.tbl ZP)/\ZF G H/\G pb=some (.tup (book.map V.str))/\Dat K G vo (dOs ws)/\Dat K G vr (.tuple (gs.map dT))/\OC book num ws/\(∀ g∈gs,FZ book.length g)/\gs.length<64/\Wk (Z3 book ws) (· ∈ gs)/\
 ∀ v G' H',Yi G H G' H' -> Dat K G' v (zj3 book ws gs way)->Q v H'
def ziS{L:Fs->Fs->An}{gs:List Fs}(wk:Wk L (· ∈ gs)){f g:Fs}(hf:f∈gs)(hg:g∈gs):L f g=Vm (rk L (Y7 gs) f) (rk L (Y7 gs) g):=by have w:Wk L (· ∈ Y7 gs):=wk.sub λf h=>(YC gs f).mp h;have a:=(Xi L (Y7 gs)).mpr w;unfold agree at a;exact Ir (Nz.mp (Nz.mp a f ((YC gs f).mpr hf)) g ((YC gs g).mpr hg))
def ziw{book:LB}{ws:List Wd}{gs:List Fs}(wk:Wk (Z3 book ws) (· ∈ gs)){j:Nat}(hj:j<gs.length):
  (gs.take j).countP (λo=>decide (Z3 book ws o (th gs j) = .behind))=((rks book ws gs).take j).countP (λx=>decide ((rks book ws gs).getD j 0<x)):=by
 unfold rks;rw[← map_take,List.countP_map];refine List.countP_congr λo ho=>?_;have hom:o∈gs:=List.mem_of_mem_take ho;have e:((gs.map λg=>rk (Z3 book ws) (Y7 gs) g).getD j 0)=rk (Z3 book ws) (Y7 gs) (th gs j):=by unfold th;rw[Im,Io,Ib hj,Im,Ib hj];rfl
 show decide _=true↔decide (_<rk (Z3 book ws) (Y7 gs) o)=true;rw[e,NP,NP,ziS wk hom (zat hj),(Jk _ _).2.2]
def zlt(L:Fs->Fs->An)(f:Fs)(a:An)(gs:List Fs):(gs.map λo=>(L o f).t).countP (λs=>decide (s=a.t))=gs.countP λo=>decide (L o f=a):=by rw[List.countP_map];congr 1;funext o;show decide ((L o f).t=a.t)=decide (L o f=a);exact NY.mpr ziK
section
def zeC{σ:St}{G:Hp}{te:TE}{ss:LB}{z:Str}(h:Ev K te σ G (.list (ss.map PyData.str))):Ev K (tBM K "list" (zhZ K) te (Z4 (tC (.str z)) Qk)) σ G (.int (ss.countP (λs=>decide (s=z)):Nat)):=λG1 H s1 s2 Q k=>h G1 H s1 s2 _ λv G2 H2 g2 hv=>by obtain⟨p,ys,rfl,hp,hys⟩:=hv.lst;have e:ys=ss.map V.str:=Ux hys;subst e;have hp':=g2.gh _ _ hp;exact⟨.inl ⟨rfl,_,SqL.of hp'⟩,p,ss,z,rfl,rfl,SqL.of hp',k _ G2 H2 g2 (Zr _)⟩
def zkB(T:Top K mg)(M:Bs K mg base)(W:Wds K w.params mg)(W1:Txs K w.params mg "AHEAD" Xj)(W2:Txs K w.params mg "OTHER_WAY" Xg):T.Qd.O P w base 7 (zkH K T.ZR):=by
 have G_looked:=@zbV T M W W1 W2;refine T.Qd.F.ok Xw (λvs H Q E h=>?_) (λcdv A outer s H vs Q E hr h=>?_)
 .obtain⟨G,book,way,vo,pb,vr,ws,num,gs,rfl,_⟩:=h;rfl
 .obtain⟨G,book,way,vo,pb,vr,ws,num,gs,rfl,hway,hT,sg,hpb,h0,h2,⟨o1,o2,o3,o4⟩,hgs,hl,wk,k⟩:=h;have zl:(2000:Nat)<=sizeLine:=by decide
  obtain⟨pt,vs,rfl,hpt,hvs⟩:=Dat.tup h2;have hvl:vs.length=gs.length:=by rw[hvs.length,Ig]
  refine⟨_,(Ze (Zy (i:=4) Xw.nd rfl (Or.inl rfl) (Yv Zf))
   (Ze (Zy (i:=5) Xw.nd rfl (Or.inl rfl) Zg)
   (Ze (JR IT rfl (zhg (by rfl) T.Vj (Za (pv 3) Zf Zd)) (zb4 (n:=2) rfl (Xq (YD (i:=6) Xw.nd rfl (Or.inl rfl)) (Xq (YD (i:=7) Xw.nd rfl (Or.inr rfl)) Vo)) (by rfl)) (Ze (zg6 (x:= "other") (cap:=["order", "book", "thing"]) (js:=[1,2,7]) (i:=8) (y:= "sides") ⟨rfl,(by decide +kernel),(by decide +kernel),rfl,(by show ∀ p∈(_:List (Str×NameKind)),p.2=NameKind.free->List.lookup p.1 (Zi Jo).names=some NameKind.cell;decide +kernel),(by decide +kernel),(by decide +kernel),(by decide +kernel)⟩ rfl rfl (λ_ _ h=>h) Xw.nd rfl rfl (Ql (pv 3)) (λ_ _ _ _=>⟨XJ,(peN T.WN G_looked hr (Za (pv 1) (Za (pv 2) (Za (pv 0) (Za (pv 3) Zf Zd) Zd) Zd) Zd))⟩))
   (Ze (JK (VL Nf Nn Np Wv (pv 4) (Za (Yg (Za (VL Nf slot_list_count type_list_count (zaZ (K:=K) rfl) (pv 8) (Za Zz Zf Zj)) (Za (pv 6) Zf Zd) YT)) Zf Yz)))
   (Zo (Zy (i:=5) Xw.nd rfl (Or.inl rfl) (Zu Jp (pv 5) (VL Nf slot_list_count type_list_count (zaZ (K:=K) rfl) (V9 (Ua (K:=K) rfl) (pv 8) zbc (zbf (pv 6))) (Za Zz Zf Zj))))))))
   (Zo (Zx (Z0 (Zw (K:=K) rfl) (Yv (Za (Xk (YL (K:=K) rfl) (by rfl) T.J6 zfx (Za (zkb (x:= "count") (x2:= "place") (cap:=[]) (js:=[]) ⟨rfl,(by decide +kernel),(by decide +kernel),rfl,rfl,(by show ∀ p∈(_:List (Str×NameKind)),p.2=NameKind.free->List.lookup p.1 (Zi Jo).names=some NameKind.cell;decide +kernel),(by decide +kernel),(by decide +kernel),(by decide +kernel)⟩ rfl rfl (λ_ _ h=>h) (Vl (Z6 (zbU (K:=K) rfl) (by rfl) T.zfy zdv (Za (pv 4) Zf Zd))) (λ_ _ _ _=>⟨XJ,(pv 1)⟩)) Zf JF)) (Za (pv 5) Zf Zd) YT)) (pv 0) (λ_ _=>rfl))))))) ,?_⟩
  refine⟨(by show 0<=sizeLine;decide),λl hlf=>?_⟩;have gl:G l=none:=sg.free hlf;have s1:ZF G (upd H l (.lst [])):=sg.trans (ZZ hlf);refine⟨_,rfl,pt,rfl,⟨vs,s1.tup hpt⟩,zgd (xs:=vs) (λi σ H' => ∃(v6 v7 v8:Option V)(G' : Hp)(xs:LC),σ=[some (.int (way:Nat)),some vo,some (.ref pb),some (.ref pt),some (.ref l),some (.int (zfk (rks book ws gs) i:Nat)),v6,v7,v8]/\Yi G H G' H' /\ G' l=none/\H' l=some (.lst xs)/\Yl K G' xs (((List.range i).map (pA (Z3 book ws) gs)).map dPr)) ⟨_,_,_,G,[],rfl,Vy sg (ZZ hlf),gl,Zh,ZC⟩ ?_ ?_ ?_⟩
  .rintro i σ H' _ ⟨v6,v7,v8,G',xs,rfl,g,_⟩;exact(g.gg.trans g.gh).tup hpt
  .rintro i x σ H' p hx ⟨v6,v7,v8,G',xs,rfl,g,gl',hk,hxs⟩ hp;have hi:i<gs.length:=by have:=(Ik.mp hx).1;omega
   obtain⟨dd,hdd,hxd⟩:=hvs.zel hx;rw[Io,Ib hi]at hdd;have hdd:some (dT gs[i])=some dd:=hdd;injection hdd with hdd;subst hdd;have eth:gs[i]=th gs i:=by unfold th;rw[Im,Ib hi];rfl
   rw[eth]at hxd;have hti:th gs i∈gs:=zat hi;have npl:p≠l:=λz=>by subst z;rw[hk]at hp;cases hp
   have gp:=Yd (o:=.tup [.int (i:Nat),x]) g.gh hp;have gA:=g.trans gp;refine⟨p,_,rfl,SqT.of Zh,rfl,_,_,rfl,_,_,rfl,rfl,?_⟩;have f1:=hgs _ hti;refine Ev.use (K:=K) (d:=.list ((gs.map λo=>(Z3 book ws o (th gs i)).t).map PyData.str)) (JT (Ui (js:=[1,2,7]) gs dT (λo=>some (.str (Z3 book ws o (th gs i)).t)) (Zc (i:=3) rfl (h2.same gA.gg)) (by omega) λG2 j o y s3 ho hy=>lc1 X7 (zfq ((gA.gg.trans s3) _ _ hT) ((gA.gg.trans s3) _ _ hpb) ⟨⟨(hgs o (Ii ho)).1,f1.1,(hgs o (Ii ho)).2,f1.2⟩,o2,o3⟩ rfl (Zc rfl (h0.same (gA.gg.trans s3))) (Zc rfl hy) (Zc rfl (hxd.same (gA.gg.trans s3))) o1 o4 (zdD _ _ o3 o1))) (by rw[Wz,Oy];rfl)) gA.gh λv8' Gb Hb gb hv8=>?_;have gB:=gA.trans gb;have hkA:upd H' p (.tup [.int (i:Nat),x]) l=some (.lst xs):=by rw[Zm (Ne.symm npl)];exact hk
   have glA:upd G' p (.tup [.int (i:Nat),x]) l=none:=by rw[Zm (Ne.symm npl)];exact gl'
   have hkB:=gb.hh _ _ hkA;have glB:Gb l=none:=gb.out hkA glA;refine⟨_,rfl,.inl ⟨rfl,_,SqL.of hkB⟩,?_⟩;refine Ev.use (Xf (K:=K) (G:=Gb) (σ:=[some (.int (way:Nat)),some vo,some (.ref pb),some (.ref pt),some (.ref l),some (.int (zfk (rks book ws gs) i:Nat)),some (.int (i:Nat)),some x,some v8']) (Zb (zeC (z:=S "ahead") (Zc (i:=8) rfl hv8)) (Zb (Zc (i:=6) rfl (Zr _)) Zn)) (by show 2<=sizeLine;decide)) gb.gh λvt Gc Hc gc hvt=>?_;have hkC:=gc.hh _ _ hkB;have glC:Gc l=none:=gc.out hkB glB;have gC:=gB.trans gc;refine⟨l,_,_,rfl,rfl,hkC,(by have:=hxs.length;rw[Ig,Ig,ND]at this;omega),?_⟩;have gD:Yi G H Gc (upd Hc l (.lst (xs++[vt]))):=⟨gC.gg,JD gC.gh glC,λb o e=>by rw[Zm (Zk e hlf)];exact gC.hh b o e,gC.fr⟩
   refine Jt (K:=K) (d:=.int (zfk (rks book ws gs) (i+1):Nat)) (JT (zax (Zc rfl (Zr _)) (zeC (ss:=(gs.map λo=>(Z3 book ws o (th gs i)).t).take i) (z:=S "behind") (JT (zfS (lo:=none) (hi:=some (i:Nat)) (Zc rfl (hv8.same gc.gg)) (λH Q q=>q) (λH Q q=>⟨_,rfl,_,rfl,q⟩)) ?_))) ?_) gD.gh λv5' Ge He ge hv5=>?_
   .rw[HT.V3,Ig,Ig,HT.zcA,Nat.min_eq_left (by omega),map_take];rfl
   .congr 1;have e:((gs.map λo=>(Z3 book ws o (th gs i)).t).take i).countP (λs=>decide (s=S "behind"))=(gs.take i).countP λo=>decide (Z3 book ws o (th gs i) = .behind):=by rw[← map_take];exact zlt (Z3 book ws) (th gs i) .behind _
    rw[zbQ,← ziw wk hi,e];rfl
   .rw[hv5.int];have hkE:=ge.hh _ _ (show upd Hc l (.lst (xs++[vt])) l=some _ from Zh);have glE:Ge l=none:=ge.out (show upd Hc l (.lst (xs++[vt])) l=some _ from Zh) glC;refine⟨_,_,_,Ge,xs++[vt],rfl,gD.trans ge,glE,hkE,?_⟩;rw[OE,Ni,Ni];refine Wi ((((hxs.same gp.gg).same gb.gg).same gc.gg).same ge.gg) ?_;have e:(PyData.int (((gs.map λo=>(Z3 book ws o (th gs i)).t).countP λs=>decide (s=S "ahead"):Nat):Int)) = .int (rk (Z3 book ws) gs (th gs i):Nat):=by rw[← zli wk hti];exact Na (λn:Nat=>PyData.int (n:Int)) (zlt (Z3 book ws) (th gs i) .ahead gs)
    rw[e]at hvt;exact hvt.same ge.gg
  .rintro σ H' ⟨v6,v7,v8,G',xs,rfl,g,gl',hk,hxs⟩;have gP:Yi G H (upd G' l (.lst xs)) H':=by
    refine⟨λb o e=>by rw[Zm (Zk e gl)];exact g.gg b o e,λb o e=>?_,g.hh,λb o e=>?_⟩
    .by_cases z:b=l
     .subst z;rw[Zh]at e;rw[hk,e]
     .rw[Zm z]at e;exact g.gh b o e
    .by_cases z:b=l
     .subst z;exact .inr hlf
     .rw[Zm z]at e;exact g.fr b o e
   have sP:ZF G' (upd G' l (.lst xs)):=λb o e=>by rw[Zm (Zk e gl')];exact e
   rw[hvl]at hxs;have hL:Dat K (upd G' l (.lst xs)) (.ref l) (.list (((List.range gs.length).map (pA (Z3 book ws) gs)).map dPr)):=YJ Zh (hxs.same sP);generalize upd G' l (.lst xs)=Gq at gP hL;rw[hvl];have hq:∀ q∈(List.range gs.length).map (pA (Z3 book ws) gs),0<=q.2/\q.2<1000:=λq hq=>by obtain⟨i,hi,rfl⟩:=NI.mp hq;have:=mem_range.mp hi;show 0<=((i:Nat):Int)/\((i:Nat):Int)<1000;omega
   obtain⟨e,he,hev⟩:=JB (G:=Gq) (i:=(way:Nat)) (σ:=[some (.int (way:Nat)),some vo,some (.ref pb),some (.ref pt),some (.ref l),some (.int (zfk (rks book ws gs) gs.length:Nat)),v6,v7,v8]) (tb:=XH 0) (Wx (Zb (JT (QV (Zb (zjF (js:=[]) (te:=XH 1) ((tn (Z3 book ws) gs).map (pA (Z3 book ws) gs)) (λp=>.int p.2) (ziG (Zb (Zc (i:=4) rfl hL) Zn) (by rw[Ig,ND];omega) hq λrs r1 r2=>zkZ wk (by omega) r1 r2) (by rw[Ig,zkQ];omega) λG2 i p s3 hp=>Zc rfl (Zr _)) Zn)) (show _=dN (tn (Z3 book ws) gs)by show PyData.tuple _=PyData.tuple _;rw[Oy];rfl)) (Zb (Zc (i:=5) rfl (Zr _)) Zn)) (by show 2<=sizeLine;decide)) (Zc rfl (Zr _)) (by omega) (by show(way:Int)<2;omega);have hd:e=zj3 book ws gs way:=by
    have:way=0\/way=1:=by omega
    rcases this with rfl | rfl
    .exact(Ip he).symm
    .exact(Ip he).symm
   subst hd;exact ZX (K:=K) hev gP.gh λv Gr Hr gr hv=>k v Gr Hr (gP.trans gr) hv
end
end K29
namespace L2
open PySem PySem.Spec PyProof.Rows Lw
section
variable {X:Cx}
def zkO(K:FG)(neg:Bool):R2:=λx y H Q=>∃(G:Hp)(d:PD)(ds:LA)(p:AD)(xs:LC),ZF G H/\Dat K G x d/\y = .ref p/\SqT K G p xs/\Yl K G xs ds/\Pl 60 d/\(∀ e∈ds,Pl 60 e)/\
 Q (.bl (if neg=true then !ds.any (λe=>PySem.Spec.same e d)else ds.any λe=>PySem.Spec.same e d)) H
def zgB{K:FG}(eK:X.K=K)(hu:X.A.units+64<cLine):OpR X (compareOp .NotIn) (zkO K true):=by subst eK;intro aa s σ H x y v u Q I rx ry h;obtain⟨G,d,ds,p,xs,e,hd,rfl,hp,hx,pd,pds,q⟩:=h;cases ry;obtain⟨its,r,pl,hz⟩:=I.tuple (e.tup hp);obtain⟨as,rd⟩:=Dat.reads I e hd rx;obtain⟨h1,h2⟩:=zbl I e hu rd pd hx r pds;refine SeqAt.notIn_tupleAt (QC s d) pl (λw hw=>h1 w (by simpa using hw)) ⟨.bl _,H,I,rfl,?_⟩;rw[show its.toArray.any (QC s d)=its.any (QC s d)by simp,h2];exact q
end
section
variable {K:FG}{σ:St}{G:Hp}
def zgh{neg:Bool}{ta tb:TE}{d:PD}{ds:LA}(ha:Ev K ta σ G d)(hb:Ev K tb σ G (.tuple ds))(pd:Pl 60 d)(pds:∀ e∈ds,Pl 60 e):Ev K (tOp (zkO K neg) ta tb) σ G (.bool (if neg=true then !ds.any (λe=>PySem.Spec.same e d)else ds.any λe=>PySem.Spec.same e d)):=
 J4 ha hb λG1 H x y Q s1 s2 hx hy k=>by obtain⟨p,xs,rfl,hp,hxs⟩:=hy.tup;exact⟨G1,d,ds,p,xs,s2,hx,rfl,hp,hxs,pd,pds,k _ G1 H (Yi.refl s2) (Yu _)⟩
def zhb{ta:TE}{i:Int}(ha:Ev K ta σ G (.int i)):Ev K (tOp (rIn K true) ta (zhB (Z4 (tC (.int 2)) (Z4 (tC (.int 3)) Qk)))) σ G (.bool (!decide (i=2\/i=3))):=
 J4 ha (Wx (Zb (Zq (i:=2)) (Zb (Zq (i:=3)) Zn)) (by show 2<=sizeLine;decide)) λG1 H x y Q s1 s2 hx hy k=>by
  obtain⟨p,xs,rfl,hp,hxs⟩:=hy.lst;obtain⟨y1,r1,rfl,h1,hxs⟩:=hxs.cons;obtain⟨y2,r2,rfl,h2,hxs⟩:=hxs.cons;rw[h1.int,h2.int,hxs.nil]at hp;rw[hx.int];refine⟨p,_,rfl,.inl (SqL.of (s2 _ _ hp)),rfl,rfl,k _ G1 H (Yi.refl s2) ?_⟩;have e:inV (.int i) [.int 2,.int 3]=decide (i=2\/i=3):=by
   unfold inV;by_cases a:i=2
   .subst a;rfl
   .by_cases b:i=3
    .subst b;rfl
    .simp[a,b,eqV];omega
  rw[IA rfl,e];exact Yu _
end
end L2
namespace K29
open PySem L2 Frac Lw Dig PySem.NumText Nm
open Ord Look Rdo
def zmh(book:LB):LA->PD->Prop:=λds d=>∃(ws:List Wd)(num:Int->Int->Prop)(gs:List Fs),ds=[dOs ws,.tuple (gs.map dT)]/\OC book num ws/\(∀ g∈gs,FZ book.length g)/\gs.length<=1000/\d = .bool (agree (Z3 book ws) gs)
def RSh(book:LB):LA->PD->Prop:=λds d=>∃(ws:List Wd)(num:Int->Int->Prop)(gs:List Fs)(f g h:Fs),ds=[dOs ws,.tuple (gs.map dT),.tuple ([f,g,h].map dT)]/\OC book num ws/\(∀ g∈gs,FZ book.length g)/\gs.length<=1000/\(f∈gs/\g∈gs/\h∈gs)/\agree (Z3 book ws) [f,g,h]=false/\d = .bool true
def zlS{n:Nat}(f:Fs):Pl (n+2) (dT f):=ze0 λd hd=>by obtain⟨p,_,rfl⟩:=NI.mp hd;exact zeF [p.1,p.2]
section
def zdA(T:Top K mg)(M:Bs K mg base)(W:Wds K w.params mg)(W1:Txs K w.params mg "AHEAD" Xj)(W2:Txs K w.params mg "OTHER_WAY" Xg):T.Ji.O P w base 9 (spB K T.ZR ZP zmh):=by
 have G_table_of:=@za5 T M W W1 W2;have G_each_once:T.Y0.O P w base 8 (spP K zcB):=(zcO T).mono (by decide);have G_looks_agree:T.Wb.O P w base 8 (spP K zdm):=(zdo T).mono (by decide);refine T.Ji.F.ok zcK (λvs H Q E h=>?_) (λcdv A outer s H vs Q E hr h=>?_)
 .obtain⟨G,book,vo,pb,us,ds,d,rfl,_,_,_,hd,⟨ws,num,gs,rfl,_⟩,_⟩:=h;have:=hd.length;simp only[IE,Oc]at this ⊢;omega
 .obtain⟨G,book,vo,pb,us,ds,d,rfl,hT,sg,hpb,hd,⟨ws,num,gs,rfl,oc,hgs,hl,rfl⟩,k⟩:=h;obtain⟨v0,r0,e0,h0,hd⟩:=hd.cons;cases e0
  rename Yl K G us _=>hd
  obtain⟨v2,r2,rfl,h2,hd⟩:=hd.cons;cases hd.nil;have hul:=V2 gs;refine⟨_,(Zo (Zx (peN T.Wb G_looks_agree hr (Za (peN T.Jl G_table_of hr (Za (pv 0) (Za (pv 1) (Za (peN T.Y0 G_each_once hr (Za (pv 2) Zf Zd)) Zf YT) Zd) Zd)) Zf YT)))) ,?_⟩;refine ZX (K:=K) (d:=.bool (agree (Z3 book ws) gs)) (Yk (E:=E0) (R:=zdm) (Zb (W9 (R:=zmb) (d:=zgH (Z3 book ws) (Y7 gs)) hT hpb rfl (Zc rfl h0) (Zb (Yk (E:=E0) (R:=zcB) (Zb (Zc rfl h2) Zn) ⟨gs,rfl,hl,rfl⟩) Zn) ⟨ws,num,Y7 gs,rfl,oc,λg hg=>hgs g ((YC gs g).mp hg),(by omega),rfl⟩) Zn) ⟨Z3 book ws,Y7 gs,rfl,(by omega),by rw[zbA λf=>YC gs f]⟩) sg λv G' H' g' hv=>k v G' H' g' hv
def zhr(T:Top K mg)(M:Bs K mg base)(W:Wds K w.params mg)(W1:Txs K w.params mg "AHEAD" Xj)(W2:Txs K w.params mg "OTHER_WAY" Xg):T.WW.O P w base 10 (spB K T.ZR ZP RSh):=by
 have G_is_order:=@zdA T M W W1 W2;refine T.WW.F.ok zbe (λvs H Q E h=>?_) (λcdv A outer s H vs Q E hr h=>?_)
 .obtain⟨G,book,vo,pb,us,ds,d,rfl,_,_,_,hd,⟨ws,num,gs,f,g,h,rfl,_⟩,_⟩:=h;have:=hd.length;simp only[IE,Oc]at this ⊢;omega
 .obtain⟨G,book,vo,pb,us,ds,d,rfl,hT,sg,hpb,hd,⟨ws,num,gs,f,g,h,rfl,oc,hgs,hl,⟨hf,hg,hh⟩,ha,rfl⟩,k⟩:=h;obtain⟨v0,r0,e0,h0,hd⟩:=hd.cons;cases e0
  rename Yl K G us _=>hd
  obtain⟨v2,r2,rfl,h2,hd⟩:=hd.cons;obtain⟨v3,r3,rfl,h3,hd⟩:=hd.cons;cases hd.nil;have hu:=hr.units;refine⟨_,(Ze (YB ((pw_or (zbr (W6 (Z6 (zdh (K:=K) rfl) (by rfl) T.Wu zj5 (Za (pv 3) (Za (zcE (v:=.ty "tuple") (by rfl) T.J6 zfx rfl) Zf))))) (pw_or1 (ZD zb9 (Z6 (Ye (K:=K) rfl) (by rfl) T.zaW IJ (Za (pv 3) Zf Zd)) (Yv (Za Zg (Za Zg Zf Zj) Zj)) (by rfl))))).pt (Zo (Zx zby)) ZL)
   (Zo (Zx (zkm (Ue (zeU (K:=K) rfl hu) (UL (x:= "thing") (cap:=["row"]) (js:=[2]) ⟨rfl,(by decide +kernel),(by decide +kernel),rfl,(by show ∀ p∈(_:List (Str×NameKind)),p.2=NameKind.free->List.lookup p.1 (Zi W0).names=some NameKind.cell;decide +kernel),(by decide +kernel),(by decide +kernel),(by decide +kernel)⟩ rfl rfl (λ_ _ h=>h) (Ql (pv 3)) (λ_ _ _ _=>⟨(zft (ZD (zgB (K:=K) rfl hu) (pv 0) (pv 1) (by rfl))),(pv 0)⟩)) (Yv Zf) (ZQ _)) (zlX (zf4 (peN T.Ji G_is_order hr (Za (pv 0) (Za (pv 1) (Za (pv 3) Zf Zd) Zd) Zd)))))))) ,?_⟩
  have hm:∀ x∈[f,g,h],x∈gs:=λx hx=>by simp only[ID,IX,NK]at hx;rcases hx with rfl | rfl | rfl <;> assumption
  refine zkY (zaV (e:=false) (zfo (e:=false) (zcL (zaG (K:=K) (zfZ (n:= "tuple") (Zc rfl h3) T.tt))) λ_=>zaV (e:=false) (ZM (K:=K) (zhb (Qq (Zb (Zc rfl h3) Zn)))) rfl) rfl) sg λG1 H1 g1=>?_;have h31:=h3.same g1.gg;have h21:=h2.same g1.gg;refine ZX (K:=K) (d:=.bool true) (JT (zlL (JT (zbS (g:=λb=>b) (n:=6) (JT (Ui (js:=[2]) [f,g,h] dT (λ_=>none) (Zc rfl h31) (by show 3<sizeLine;decide) λG2 i o x s3 ho hx=>lc0 (zaV (ZM (K:=K) (zgh (Zc rfl hx) (Zc rfl (h21.same s3)) (zlS o) λe he=>?_)) ?_)) (show PyData.list _=PyData.list []from rfl)) (Wx (ds:=[]) Zn (by show 0<=sizeLine;decide)) (zaC λd hd=>(by cases hd)) (zaC λd hd=>(by cases hd)) (by decide)) (show PyData.bool _=PyData.bool true from rfl)) λ_=>zco (W9 (R:=zmh) (d:=.bool false) (g1.gg _ _ hT) (g1.gg _ _ hpb) rfl (Zc rfl (h0.same g1.gg)) (Zb (Zc rfl h31) Zn) ⟨ws,num,[f,g,h],rfl,oc,λx hx=>hgs x (hm x hx),by show 3<=1000;decide,by rw[ha]⟩)) rfl) g1.gh λv G' H' g' hv=>k v G' H' (g1.trans g') hv
  .obtain⟨q,_,rfl⟩:=NI.mp he;exact zlS q
  .have hin:(gs.map dT).any (λe=>PySem.Spec.same e (dT o))=true:=any_eq_true.mpr ⟨dT o,NI.mpr ⟨o,hm o (Ii ho),rfl⟩,same_self _⟩;rw[IA rfl,hin];rfl
end
def zgm(ns:List Int)(j:LH):∃ ms:List Int,zjA (ns.map V.int) none j=ms.map V.int/\ms.length<=ns.length:=by unfold zjA;rw[HT.V3];refine⟨(ns.drop 0).take (HT.sIx (ns.map V.int).length (ns.map V.int).length j-0),by rw[map_take,map_drop],?_⟩;rw[NV,Ot];omega
def ziq{book:LB}{pool:List (Int×Int)}{i:Int}{x:PD}(h:RRw [.tuple (book.map PyData.str),.list (pool.map dF),.int i] x):∃ fs:List Fs,x = .tuple (fs.map dT)/\fs.length<=60/\∀ f∈fs,FOk book.length f:=by obtain⟨bk,pl,m,fs,e,hb,_,rfl,hl,hf⟩:=h;injection e with e1 e;injection e1 with e1;have q1:=Ub e1;subst q1;exact⟨fs,rfl,(by omega),hf⟩
def zlw{book:LB}{pool:List (Int×Int)}{m:Nat}(hb:book.length<=4/\1<=pool.length/\pool.length<=13/\m<=60)(hp:∀ p∈pool,SzP p):∃ x,RRw [.tuple (book.map PyData.str),.list (pool.map dF),.int (m:Nat)] x:=⟨_,book,pool,m,[],rfl,hb,hp,rfl,Nl _,λf hf=>by cases hf⟩
def zgu{t u:TS}{D:Ends}{σ:St}{H:Hp}(Pst:St->Hp->Prop)(h1:∀ nx:St->Hp->Prop,(∀ σ' H',Pst σ' H' -> nx σ' H')->t {D with nx:=nx} σ H)(h2:∀ σ' H',Pst σ' H' -> u D σ' H'):zi8 t u D σ H:=h1 (u D) h2
theorem zhL{n:Nat}(book:LB)(ws:List Wd)(gs:List Fs):∀ way,Pl (n+1) (zj3 book ws gs way)
 |0=>zjc _
 |_+1=>zf2 _
def zfv{n:Nat}:Pl n (.str (S "told")):=zh9 (by decide +kernel)
def zhS{n:Nat}:Pl n (.str (S "refused")):=zh9 (by decide +kernel)
section
def zji{f:AD}{fd:FuncData}(F:Fun K "law" "law" zag f fd)(T:Top K mg)(W:Wds K w.params mg)(W1:Txs K w.params mg "AHEAD" Xj)(W2:Txs K w.params mg "OTHER_WAY" Xg)(M:Bs K mg base):Ju P w K mg base CX0 12 f fd ["script"] (zay K [(T.ZR,ZP),(T.Wm,λ_ _=>some Xc),(T.We,λ_ _=>some YS)]):=by
 have G__law_book:T.JN.O P w base 11 (znb K):=(ziQ T).mono (by decide);have G__law_fraction:T.XQ.O P w base 11 (V4 K 1 RFr):=(zct T).mono (by decide);have G__law_row:T.Qg.O P w base 11 (V4 K 241 RRw):=(zke T).mono (by decide);have G__law_any_order:T.ZW.O P w base 11 (V4 K 22 (ROd 2)):=(zf0 T).mono (by decide);have G__law_long:T.JQ.O P w base 11 (V4 K 17 RLg):=(zir T).mono (by decide);have G_is_order:T.Ji.O P w base 11 (spB K T.ZR ZP zmh):=(zdA T M W W1 W2).mono (by decide);have G__law_asked:=@zgR T M W W1 W2;have G__law_due:T.Qd.O P w base 11 (zkH K T.ZR):=(zkB T M W W1 W2).mono (by decide);have G__law_shows:T.WW.O P w base 11 (spB K T.ZR ZP RSh):=(zhr T M W W1 W2).mono (by decide);refine F.ok WY (λvs H Q E h=>?_) (λcdv A outer s H vs Q E hr h=>?_)
 .obtain⟨a,ns,rfl,_⟩:=h;rfl
 .obtain⟨a,ns,rfl,hS,hlen,hTs,fin⟩:=h;have hT0:H T.ZR=some (.tbl ZP):=hTs _ IC;have hC0:H T.Wm=some (.tbl λ_ _=>some Xc):=hTs _ (Iz _ IC);have hC1:H T.We=some (.tbl λ_ _=>some YS):=hTs _ (Iz _ (Iz _ IC));have zl:(2000:Nat)<=sizeLine:=by decide
  have hu:=hr.units;refine⟨_,(Ze (Zy (i:=1) WY.nd rfl (Or.inr rfl) (Yv (Za (V9 (Ua (K:=K) rfl) (pv 0) zbc (zbf Zg)) (Za Zg Zf Zj) Zt)))
   (Ze (JR IT rfl (Wt (by rfl) T.Vw (Za Zg Zf Zj)) (YD (i:=2) WY.nd rfl (Or.inl rfl)) (Ze (Zy (i:=3) WY.nd rfl (Or.inl rfl) (peN T.JN G__law_book hr (Za (pv 1) Zf Zd)))
   (Ze (zg6 (x:= "j") (cap:=["deck"]) (js:=[1]) (i:=4) (y:= "pool") ⟨rfl,(by decide +kernel),(by decide +kernel),rfl,(by show ∀ p∈(_:List (Str×NameKind)),p.2=NameKind.free->List.lookup p.1 (Zi zag).names=some NameKind.cell;decide +kernel),(by decide +kernel),(by decide +kernel),(by decide +kernel)⟩ rfl rfl (λ_ _ h=>h) WY.nd rfl rfl (Wt (by rfl) T.Vw (Za Zg Zf Zj)) (λ_ _ _ _=>⟨XJ,(peN T.XQ G__law_fraction hr (Za (pv 1) Zf Zd))⟩))
   (Ze (Zy (i:=5) WY.nd rfl (Or.inl rfl) (peN T.ZW G__law_any_order hr (Za (pv 1) (Za (pv 3) (Za (pv 4) (Za Zg Zf Zj) Zd) Zd) Zd)))
   (Ze (Zy (i:=6) WY.nd rfl (Or.inl rfl) (peN T.Qg G__law_row hr (Za (pv 1) (Za (pv 3) (Za (pv 4) (Za Zg Zf Zj) Zd) Zd) Zd)))
   (Ze (YB (ZD zfV (pv 2) Zg (ZQ _)) (Zo (zfF (peN T.JQ G__law_long hr (Za (pv 1) (Za (pv 3) Zf Zd) Zd)) (zl6 (n:=2) rfl (Xq (YD (i:=6) WY.nd rfl (Or.inl rfl)) (Xq (YD (i:=5) WY.nd rfl (Or.inl rfl)) Vo)) (by rfl)))) ZL)
   (Ze (Zy (i:=7) WY.nd rfl (Or.inl rfl) (peN T.Ji G_is_order hr (Za (pv 5) (Za (pv 3) (Za (pv 6) Zf Zd) Zd) Zd)))
   (Zo (JR IT rfl (Wt (by rfl) T.Vw (Za Zg Zf Zj)) (YD (i:=8) WY.nd rfl (Or.inl rfl)) (Ze (Zy (i:=9) WY.nd rfl (Or.inl rfl) (peN T.J0 G__law_asked hr (Za (pv 8) (Za (pv 5) (Za (pv 3) (Za (pv 6) Zf Zd) Zd) Zd) Zd)))
   (Ze (Zy (i:=10) WY.nd rfl (Or.inl rfl) Zz)
   (Zo (YB (W6 (pv 7)) (Ze (Zy (i:=10) WY.nd rfl (Or.inl rfl) (peN T.Qd G__law_due hr (Za (pv 8) (Za (pv 5) (Za (pv 3) (Za (pv 6) Zf Zd) Zd) Zd) Zd)))
   (Zo (YB (ZD (zcj (K:=K) rfl hu) (pv 9) (Yv (Za Zz (Za (pv 10) Zf Zd) Zj)) (ZQ _)) (Zo (Zx zby)) ZL))) (Zo (YB ((pw_or (ZD (zcj (K:=K) rfl hu) (Z0 (Zw (K:=K) rfl) (pv 9) Zg (λ_ _=>rfl)) (pv 10) (ZQ _)) (pw_or1 (zbr (W6 (peN T.WW G__law_shows hr (Za (pv 5) (Za (pv 3) (Za (pv 6) (Za (Z0 (Zw (K:=K) rfl) (pv 9) Zg (λ_ _=>rfl)) Zf Zt) Zd) Zd) Zd))))))).pt (Zo (Zx zby)) ZL)))))))))))))))
   (Zo (Zx zby)))) ,?_⟩
  refine⟨_,rfl,63,rfl,a,_,rfl,hS,λc hc=>⟨(by show 2<=sizeLine;decide),λd hd=>?_⟩⟩;obtain⟨ms,hms,hml⟩:=zgm ns (some 63);rw[hms]at hd ⊢;have ndc:d≠c:=λz=>by subst z;rw[Zh]at hd;cases hd
  have hd0:H d=none:=by rw[Zm ndc]at hd;exact hd
  have s0:ZF H (upd (upd H c (.lst (ms.map V.int))) d (.lst [.ref c,.int 0])):=(ZZ hc).trans (ZZ hd);have D0:DkA (4*300) (upd (upd H c (.lst (ms.map V.int))) d (.lst [.ref c,.int 0])) d c:=⟨0,ms,Zh,by rw[Zm (Ne.symm ndc)];exact Zh,(by omega),(by omega),(by decide)⟩
  generalize upd (upd H c (.lst (ms.map V.int))) d (.lst [.ref c,.int 0])=H1 at s0 D0;refine⟨4,rfl,(by decide),(by decide),J7 (n:=4) (λi σ H' => ∃(v2 v3 v4 v5 v6 v7 v8 v9 v10:Option V)(G' : Hp),σ=[some (.ref a),some (.ref d),v2,v3,v4,v5,v6,v7,v8,v9,v10]/\ZF H G' /\ ZF G' H' /\ G' d=none/\G' c=none/\DkA ((4-i)*300) H' d c) ⟨_,_,_,_,_,_,_,_,_,H,rfl,ZF.refl _,s0,hd0,hc,D0⟩ ?_ ?_⟩
  .rintro k σ H2 hk ⟨v2,v3,v4,v5,v6,v7,v8,v9,v10,G2,rfl,sH,sg,gd,gc,D⟩;have D:DkA ((4-(k+1))*300+300) H2 d c:=D.mono (by omega);generalize (4-(k+1))*300=left at D;refine⟨_,rfl,d,c,G2,rfl,sg,gd,gc,D.mono (by omega),λbook pb G3 H3 b1 b2 hwd k3 hpb=>?_⟩;have hb3:Dat K G3 (.ref pb) (.tuple (book.map PyData.str)):=Xy (SqT.of hpb) (zb6 book);have hj:DvA K d c 0 (Z4 (tC (.int 4)) Qk) [some (.ref a),some (.ref d),some (.int (0+(k:Int))),some (.ref pb),v4,v5,v6,v7,v8,v9,v10] G3 λxs=>∃ q:Nat,xs=[.int (q:Nat)]/\q=4/\q<=4:=(zgz (zmF (Zq (i:=4))) ziL).imp λxs hx=>by obtain⟨x,r,rfl,rfl,rfl⟩:=hx;exact⟨4,rfl,rfl,Ih _⟩
   refine Dv.use (K:=K) (d:=d) (c:=c) (zlu (p:=0) (B:=4) (n:=1) (js:=[1]) (te:=zaf (V4 K 1 RFr) [] E0 (Z4 (XH 1) Qk)) (R:=λx=>∃ p,x=dF p/\SzP p) (Rn:=λq=>q=4) hj (by decide) λGz i s2 hi=>(Xx (R:=RFr) rfl Zn ⟨dF (0,1),rfl,(0,1),rfl,⟨(by decide),(by decide)⟩,(by decide)⟩).imp λx h=>h.2) k3.gh (k3.gd D gd) (k3.gc D gc) (k3.cn 4 (D.mono (by omega))) λvp x G4 H4 hx k4' hvp=>?_;obtain⟨ds,rfl,hdl,_,hall⟩:=hx;obtain⟨pool,rfl,hpl⟩:=ziB ds hall;rw[Ig]at hdl;have k4:=k3.trans k4';have bd:Bds book pool:=⟨b1,b2,(by omega),(by omega)⟩
   have s34:=k4'.gg;refine Ww (K:=K) (d:=d) (c:=c) (n:=22) ((Xx (R:=ROd 2) rfl (Zb (Zc rfl (hb3.same s34)) (Zb (Zc rfl hvp) (Zb (JT Zq (show PyData.int 2 = .int ((2:Nat):Int)from rfl)) Zn))) (zhI (deep:=2) (by decide) bd)).imp λx hx=>JV hx) k4.gh (k4.gd D gd) (k4.gc D gc) (k4.cn 22 (D.mono (by omega))) λvo x G5 H5 hx k5' hvo=>?_;obtain⟨ws,rfl,gw⟩:=hx;have k5:=k4.trans k5';have s35:=s34.trans k5'.gg;refine Ww (K:=K) (d:=d) (c:=c) (n:=241) ((Xx (R:=RRw) rfl (Zb (Zc rfl (hb3.same s35)) (Zb (Zc rfl (hvp.same k5'.gg)) (Zb (JT Zq (show PyData.int 7 = .int ((7:Nat):Int)from rfl)) Zn))) (zlw ⟨b2,(by omega),(by omega),(by decide)⟩ hpl)).imp λx hx=>ziq hx) k5.gh (k5.gd D gd) (k5.gc D gc) (k5.cn 241 (D.mono (by omega))) λvr x G6 H6 hx k6' hvr=>?_;obtain⟨fs,rfl,hfl,hfs⟩:=hx;have k6:=k5.trans k6';have s36:=s35.trans k6'.gg;have hvo:=hvo.same k6'.gg;have oc:OC book (λa b=>(a,b)∈pool) ws:=⟨gw.1,λa b h=>(hpl _ h).1,hwd,Nj gw.2 (by decide)⟩
   refine zgu (fun σ H7=>∃(vo vr:V)(ws:List Wd)(num:Int->Int->Prop)(fs:List Fs)(G7:Hp),σ=[some (.ref a),some (.ref d),some (.int (0+(k:Int))),some (.ref pb),some vp,some vo,some vr,v7,v8,v9,v10]/\Dk 285 d c G2 H2 G7 H7/\ZF G3 G7/\Dat K G7 vo (dOs ws)/\Dat K G7 vr (.tuple (fs.map dT))/\OC book num ws/\(∀ g∈fs,FZ book.length g)/\fs.length<64) (λnx hnx=>?_) ?_
   .refine QQ (ZM (K:=K) (Q3 (Zc rfl (Zr _)) Zq (Yu _))) k6.gh (λ_ G7 H7 g7=>?_) (λ_ G7 H7 g7=>?_)
    .have k7:=k6.trans (g7.dk k6.D0);refine Dv.use (K:=K) (d:=d) (c:=c) (Xx (R:=RLg) (i:=1) rfl (Zb (Zc (i:=3) rfl (hb3.same (s36.trans g7.gg))) Zn) (zlR ⟨b1,b2⟩)) g7.gh (k7.gd D gd) (k7.gc D gc) (k7.cn 17 (D.mono (by omega))) λvl x G8 H8 hx k8' hvl=>?_;obtain⟨book',fs',bad,ws',e,_,rfl,hl',hf',hbd,hio,hwl⟩:=hx;injection e with e _;injection e with e;have e:=Ub e;subst e;obtain⟨pl,xs,rfl,hpl',hxs⟩:=Dat.lst hvl;obtain⟨y1,r1,rfl,h1,hxs⟩:=hxs.cons;obtain⟨y2,r2,rfl,h2,hxs⟩:=hxs.cons;cases hxs.nil;refine⟨pl,_,rfl,SqL.of (k8'.gh _ _ hpl'),rfl,?_⟩;refine⟨_,_,rfl,_,_,rfl,rfl,hnx _ _ ⟨y2,y1,ws',λa b=>(a,b)=bad,fs',G8,rfl,(k7.trans k8').up (by omega),s36.trans (g7.gg.trans k8'.gg),h2,h1,⟨hio,λa b h=>by rw[h];exact hbd.1,hwd,(by omega)⟩,hf',hl'⟩⟩
    .exact hnx _ _ ⟨vo,vr,ws,_,fs,G7,rfl,(k6.trans (g7.dk k6.D0)).up (by omega),s36.trans g7.gg,hvo.same g7.gg,hvr.same g7.gg,oc,λg hg=>(hfs g hg).fz,(by omega)⟩
   rintro σ H7 ⟨vo,vr,ws,num,fs,G7,rfl,k7,s37,hvo,hvr,oc,hfs,hfl⟩;have D7:DkA left H7 d c:=k7.cn left (D.mono (by omega));have gd7:=k7.gd D gd;have gc7:=k7.gc D gc;have sH7:ZF H G7:=sH.trans k7.gg;have hpb7:=s37 _ _ hpb;have hT7:=sH7 _ _ hT0;have hA7:=sH7 _ _ hC0;have hB7:=sH7 _ _ hC1;refine Yw (K:=K) (W9 (R:=zmh) (d:=.bool (agree (Z3 book ws) fs)) hT7 hpb7 rfl (Zc rfl hvo) (Zb (Zc rfl hvr) Zn) ⟨ws,num,fs,rfl,oc,hfs,(by omega),rfl⟩) k7.gh λvg G8 H8 g8 hvg=>?_;rw[hvg.bl];refine⟨2,rfl,(by decide),(by decide),J7 (n:=2) (λi σ H' => ∃(v8 v9 v10:Option V)(G' : Hp),σ=[some (.ref a),some (.ref d),some (.int (0+(k:Int))),some (.ref pb),some vp,some vo,some vr,some (.bl (agree (Z3 book ws) fs)),v8,v9,v10]/\Yi G8 H8 G' H') ⟨_,_,_,G8,rfl,Yi.refl g8.gh⟩ ?_ ?_⟩
   .rintro way σ H9 hway ⟨v8,v9,v10,G9,rfl,g9⟩;have s79:=g8.gg.trans g9.gg;have hw2:way<2:=by simpa using hway
    have ew:(0+(way:Int))=((way:Nat):Int):=Int.zero_add _;refine⟨_,rfl,_,rfl,_,rfl,_,rfl,G9,book,way,vo,pb,vr,ws,num,fs,by rw[ew];rfl,hw2,⟨s79 _ _ hT7,s79 _ _ hA7,s79 _ _ hB7⟩,g9.gh,s79 _ _ hpb7,hvo.same s79,hvr.same s79,oc,hfs,hfl,λha vf Ga Ha ga hvf=>?_,λha f g h hf hg hh hb vf Ga Ha ga hvf=>?_⟩
    .have wk:=(Xi _ _).mp ha;have s7a:=s79.trans ga.gg;refine⟨_,rfl,_,rfl,?_⟩;rw[ha];refine zie ?_;refine⟨_,rfl,_,rfl,_,rfl,_,rfl,Ga,book,way,vo,pb,vr,ws,num,fs,by rw[ew];rfl,hw2,s7a _ _ hT7,ga.gh,s7a _ _ hpb7,hvo.same s7a,hvr.same s7a,oc,hfs,hfl,wk,λvd Gb Hb gb hvd=>?_⟩;refine Jx (zaV (e:=false) (ZM (K:=K) (zbS (g:=λb=>!b) (n:=6) (Zc (i:=9) rfl (hvf.same gb.gg)) (Wx (Zb (ZJ (x:=S "told")) (Zb (Zc (i:=10) rfl hvd) Zn)) (by show 2<=sizeLine;decide)) (zaC λd hd=>?_) (zaC λd hd=>?_) (by decide))) (by rw[same_self];rfl)) gb.gh λGc Hc gc' => ?_
     .simp only[ID,IX,NK]at hd;rcases hd with rfl | rfl
      .exact zfv
      .exact zhL _ _ _ _
     .simp only[ID,IX,NK]at hd;rcases hd with rfl | rfl
      .exact zfv
      .exact zhL _ _ _ _
     .exact⟨_,_,_,Gc,rfl,g9.trans (ga.trans (gb.trans gc'))⟩
    .have s7a:=s79.trans ga.gg;refine⟨_,rfl,_,rfl,?_⟩;rw[ha];refine zeO ?_;refine Jx (zaV (e:=false) (zfo (e:=false) (zaV (e:=false) (ZM (K:=K) (zbS (g:=λb=>!b) (n:=6) (YG (n:=0) (Zc (i:=9) rfl hvf) Zq rfl rfl) (Zc (i:=10) rfl (Z5 (S "refused"))) zhS zhS (by decide))) (by rw[same_self];rfl)) λ_=>zaV (e:=false) (zcL (zaG (K:=K) (W9 (R:=RSh) (d:=.bool true) (s7a _ _ hT7) (s7a _ _ hpb7) rfl (Zc rfl (hvo.same s7a)) (Zb (Zc rfl (hvr.same s7a)) (Zb (YG (n:=1) (Zc (i:=9) rfl hvf) Zq rfl rfl) Zn)) ⟨ws,num,fs,f,g,h,rfl,oc,hfs,(by omega),⟨hf,hg,hh⟩,hb,rfl⟩))) rfl) rfl) ga.gh λGc Hc gc' => ?_;exact⟨_,_,_,Gc,rfl,g9.trans (ga.trans gc')⟩
   .rintro σ H' ⟨v8,v9,v10,G',rfl,g⟩;have g7':=g8.trans g;obtain⟨⟨o1,q1⟩,o2,q2⟩:=D7.some;exact⟨_,_,_,_,_,_,_,_,_,G',rfl,sH7.trans g7'.gg,g7'.gh,g7'.out q1 gd7,g7'.out q2 gc7,D7.same g7'.hh⟩
  .rintro σ H2 ⟨v2,v3,v4,v5,v6,v7,v8,v9,v10,G2,rfl,_⟩;exact fin H2
end
def zjS(P:Program)(w:World)(K:FG)(mg:Str->LF)(base:Heap):OkL P w K mg base:=Classical.byContradiction λh=>(@Classical.epsilon_spec EnC (λe=>¬ OkL e.P e.w e.K e.mg e.base) ⟨⟨P,w,K,mg,base⟩,h⟩) (λf fd F T W W1 W2 M=>zji F T W W1 W2 M)
def zj6{P:Program}{w:World}{K:FG}{mg:Str->LF}{base:Heap}{f:AD}{fd:FuncData}(F:Fun K "law" "law" zag f fd)(T:Top K mg)(W:Wds K w.params mg)(W1:Txs K w.params mg "AHEAD" Xj)(W2:Txs K w.params mg "OTHER_WAY" Xg)(M:Bs K mg base):Ju P w K mg base CX0 12 f fd ["script"] (zay K [(T.ZR,ZP),(T.Wm,λ_ _=>some Xc),(T.We,λ_ _=>some YS)]):=zjS P w K mg base f fd F T W W1 W2 M
structure Pm(K:FG)(x:Str)(st:Stmt)(f:AD)(oc:Value)(od:Option AD)(kV dc pm:Value)(an:Option AD)(cd ct:Value)(sl:Array (LF)):Prop where
 a:PySem.W.nsIn K mainGlobals x=some (some (.ref f))
 l:K.lookup f=some ⟨oc,od,.func (PySem.W.fnOf x x (X6 st) (Yo st) (Zi st) .none kV dc pm an cd ct),sl⟩
 c:codeIn K cd x=true
 k:keepIn K (.ref f)=true
abbrev tabs:zl5:=[(271,ZP),(338,λ_ _=>some Xc),(350,λ_ _=>some YS)]
def Pn(K:FG)(n:Str)(s:Stmt):Prop:=∃ f oc od kV dc pm an cd ct sl,Pm K n s f oc od kV dc pm an cd ct sl
noncomputable def Pn.go{K:FG}{h:Heap}{mg:Str->LF}{n:Str}{s:Stmt}{ps:LB}(p:Pn K n s)(X:K.In h)(G:h.Ns mainGlobals mg)(hb:∀(kV doc pm:Value)(an:Option AD)(cdv ct:Value)(us:LD),us.length=ps.length->bindArgs (PySem.W.fnOf n n (X6 s) (Yo s) (Zi s) .none kV doc pm an cdv ct) ⟨us,[]⟩=pure (ps.zip us)):Fn1 K mg n s ps:=Classical.choice (by
 obtain⟨f,oc,od,kV,dc,pm,an,cd,ct,sl,p⟩:=p;exact⟨⟨f,_,JX (st:=s) p.l p.c p.k,(JX (st:=s) p.l p.c p.k).binds hb,mg_of X G p.a⟩⟩)
noncomputable def Pn.go1{K:FG}{h:Heap}{mg:Str->LF}{n:Str}{s:Stmt}{x0:Str}(p:Pn K n s)(X:K.In h)(G:h.Ns mainGlobals mg)(hb:∀(kV doc pm:Value)(an:Option AD)(cdv ct:Value)(u0:Value),bindArgs (PySem.W.fnOf n n (X6 s) (Yo s) (Zi s) .none kV doc pm an cdv ct) ⟨[u0],[]⟩=pure ([x0].zip [u0])):Fn1 K mg n s [x0]:=p.go X G λa b c d e f us hl=>match us,hl with | [u0],_=>hb a b c d e f u0
noncomputable def Pn.go2{K:FG}{h:Heap}{mg:Str->LF}{n:Str}{s:Stmt}{x0 x1:Str}(p:Pn K n s)(X:K.In h)(G:h.Ns mainGlobals mg)(hb:∀(kV doc pm:Value)(an:Option AD)(cdv ct:Value)(u0 u1:Value),bindArgs (PySem.W.fnOf n n (X6 s) (Yo s) (Zi s) .none kV doc pm an cdv ct) ⟨[u0,u1],[]⟩=pure ([x0,x1].zip [u0,u1])):Fn1 K mg n s [x0,x1]:=p.go X G λa b c d e f us hl=>match us,hl with | [u0,u1],_=>hb a b c d e f u0 u1
noncomputable def Pn.go3{K:FG}{h:Heap}{mg:Str->LF}{n:Str}{s:Stmt}{x0 x1 x2:Str}(p:Pn K n s)(X:K.In h)(G:h.Ns mainGlobals mg)(hb:∀(kV doc pm:Value)(an:Option AD)(cdv ct:Value)(u0 u1 u2:Value),bindArgs (PySem.W.fnOf n n (X6 s) (Yo s) (Zi s) .none kV doc pm an cdv ct) ⟨[u0,u1,u2],[]⟩=pure ([x0,x1,x2].zip [u0,u1,u2])):Fn1 K mg n s [x0,x1,x2]:=p.go X G λa b c d e f us hl=>match us,hl with | [u0,u1,u2],_=>hb a b c d e f u0 u1 u2
noncomputable def Pn.go4{K:FG}{h:Heap}{mg:Str->LF}{n:Str}{s:Stmt}{x0 x1 x2 x3:Str}(p:Pn K n s)(X:K.In h)(G:h.Ns mainGlobals mg)(hb:∀(kV doc pm:Value)(an:Option AD)(cdv ct:Value)(u0 u1 u2 u3:Value),bindArgs (PySem.W.fnOf n n (X6 s) (Yo s) (Zi s) .none kV doc pm an cdv ct) ⟨[u0,u1,u2,u3],[]⟩=pure ([x0,x1,x2,x3].zip [u0,u1,u2,u3])):Fn1 K mg n s [x0,x1,x2,x3]:=p.go X G λa b c d e f us hl=>match us,hl with | [u0,u1,u2,u3],_=>hb a b c d e f u0 u1 u2 u3
def zkl{l:PySem.W.OpenLaw}{w:World}{K:FG}{h:Heap}{mg:Str->LF}{fa:AD}{fz13 fz24 fz26 fz38:AD}(X:K.In h)(G:h.Ns mainGlobals mg)(hfa:mg "law" = some (.ref fa)){odz13 anz13 odz24 anz24 odz26 anz26 odz38 anz38:Option AD}{slz13 slz24 slz26 slz38:Array (LF)}{ocz13 kVz13 dcz13 pmz13 cdz13 ctz13 ocz24 kVz24 dcz24 pmz24 cdz24 ctz24 ocz26 kVz26 dcz26 pmz26 cdz26 ctz26 ocz38 kVz38 dcz38 pmz38 cdz38 ctz38:Value}(pz0:Pn K "telling" Ud)(pz1:Pn K "taken" zcx)(pz2:Pn K "word_told" Qw)(pz3:Pn K "put_together" Ja)(pz4:Pn K "is_open" zad)(pz5:Pn K "answer" zaE)(pz6:Pn K "one_then_other" Wo)(pz7:Pn K "turned_about" Jc)(pz8:Pn K "picked" za2)(pz9:Pn K "settled_by" WT)(pz10:Pn K "many_ahead" J3)(pz11:Pn K "compared" Vr)(pz12:Pn K "how_stands" JW)(pz13:Pm K "looked" YW fz13 ocz13 odz13 kVz13 dcz13 pmz13 anz13 cdz13 ctz13 slz13)(pz14:Pn K "is_order" Vd)(pz15:Pn K "each_once" Qy)(pz16:Pn K "table_of" J8)(pz17:Pn K "looks_of" Qa)(pz18:Pn K "looks_agree" Jz)(pz19:Pn K "against_ranks" Wy)(pz20:Pn K "three_against" Wc)(pz21:Pn K "picked_out" W7)(pz22:Pn K "ranks_in" Qf)(pz23:Pn K "by_size" U6)(pz24:Pm K "turning" Jg fz24 ocz24 odz24 kVz24 dcz24 pmz24 anz24 cdz24 ctz24 slz24)(pz25:Pn K "ranks_of" Jr)(pz26:Pm K "crossed" Jm fz26 ocz26 odz26 kVz26 dcz26 pmz26 anz26 cdz26 ctz26 slz26)(pz27:Pn K "_law_next" Qx)(pz28:Pn K "_law_fraction" WD)(pz29:Pn K "_law_book" QB)(pz30:Pn K "_law_row" Qc)(pz31:Pn K "_law_mark" QF)(pz32:Pn K "_law_any_case" WL)(pz33:Pn K "_law_any_order" Wq)(pz34:Pn K "_law_long" WF)(pz35:Pn K "_law_asked" J2)(pz36:Pn K "_law_due" Jo)(pz37:Pn K "_law_shows" W0)(pz38:Pm K "law" zag fz38 ocz38 odz38 kVz38 dcz38 pmz38 anz38 cdz38 ctz38 slz38)(qz13:cdz13 = .ref 275)(hz13:codeHdIn K 275 271=true)(nz13:K.lookup 271=none)(qz24:cdz24 = .ref 342)(hz24:codeHdIn K 342 338=true)(nz24:K.lookup 338=none)(qz26:cdz26 = .ref 354)(hz26:codeHdIn K 354 350=true)(nz26:K.lookup 350=none)(z_len:PySem.W.nsIn K mainGlobals "len" = some none)(z_range:PySem.W.nsIn K mainGlobals "range" = some none)(z_tuple:PySem.W.nsIn K mainGlobals "tuple" = some none)(z_isinstance:PySem.W.nsIn K mainGlobals "isinstance" = some none)(z_list:PySem.W.nsIn K mainGlobals "list" = some none)(z_reversed:PySem.W.nsIn K mainGlobals "reversed" = some none)(z_enumerate:PySem.W.nsIn K mainGlobals "enumerate" = some none)(z_zip:PySem.W.nsIn K mainGlobals "zip" = some none)(z_sorted:PySem.W.nsIn K mainGlobals "sorted" = some none)(z_int:PySem.W.nsIn K mainGlobals "int" = some none)(z_bool:PySem.W.nsIn K mainGlobals "bool" = some none)(z_ValueError:PySem.W.nsIn K mainGlobals "ValueError" = some none){Yp Y9 Wf JH X4 ZK JC Wa X5 Jw:AD}{xo1:Value}{xo2:Option AD}{xo3:ClassData}{xo4:Array (LF)}(ac_OrderError:PySem.W.nsIn K mainGlobals "OrderError" = some (some (.ref Yp)))(ac_NoNumber:PySem.W.nsIn K mainGlobals "NoNumber" = some (some (.ref Y9)))(ac_NoOrder:PySem.W.nsIn K mainGlobals "NoOrder" = some (some (.ref Wf)))(ac_Clash:PySem.W.nsIn K mainGlobals "Clash" = some (some (.ref JH)))(ac_NoField:PySem.W.nsIn K mainGlobals "NoField" = some (some (.ref X4)))(ac_NoRow:PySem.W.nsIn K mainGlobals "NoRow" = some (some (.ref ZK)))(ac_NoNet:PySem.W.nsIn K mainGlobals "NoNet" = some (some (.ref JC)))(ac_NoPlace:PySem.W.nsIn K mainGlobals "NoPlace" = some (some (.ref Wa)))(ac_NoThing:PySem.W.nsIn K mainGlobals "NoThing" = some (some (.ref X5)))(ac_NoAsk:PySem.W.nsIn K mainGlobals "NoAsk" = some (some (.ref Jw))){ifNR:AD}{oc_iNoRow kV_iNoRow dc_iNoRow pm_iNoRow cd_iNoRow ct_iNoRow:Value}{od_iNoRow an_iNoRow:Option AD}{sl_iNoRow:Array (LF)}(xfi_NoRow:findIn K (.ref ZK) "__init__" = some (some (.ref ifNR)))(li_NoRow:K.lookup ifNR=some ⟨oc_iNoRow,od_iNoRow,.func (PySem.W.fnOf "__init__" "NoRow.__init__" (X6 Xu) (Yo Xu) (Zi Xu) .none kV_iNoRow dc_iNoRow pm_iNoRow an_iNoRow cd_iNoRow ct_iNoRow),sl_iNoRow⟩)(ci_NoRow:codeIn K cd_iNoRow "NoRow.__init__" = true)(ki_NoRow:keepIn K (.ref ifNR)=true)(xlk_NoRow:K.lookup ZK=some ⟨xo1,xo2,.cls xo3,xo4⟩)(xga_NoRow:findIn K (.ref ZK) "__getattribute__" = some (some (.builtin "BaseException.__getattribute__")))(xgn_NoRow:findIn K (.ref ZK) "__getattr__" = some none)(xcl_NoRow:findIn K (.ref ZK) "__class__" = some (some (.builtin "object.__class__")))(xsb_NoRow:subIn K (.ref ZK) (.type "BaseException")=some true)(xso_NoRow:subIn K (.ref ZK) (.type "object")=some true)(xin_NoRow:zma K ZK ifNR=true)(xmr_NoRow:(clsIn K ZK).any (λcd=>cd.mro.dropWhile isR==zjv && !cd.mro.isEmpty&&cd.hasDict)=true)(xsa_NoRow:findIn K (.ref ZK) "__setattr__" = some (some (.builtin "object.__setattr__")))(xno_NoRow:findIn K (.ref ZK) "things" = some none)(xfn_NoRow:PySem.W.isFn K (.ref ifNR)=true)(xbg:specialIn K (.ref Yp) "__getattribute__" = some (some (.builtin "type.__getattribute__")))(xbr:readsIn K Yp (.type "type")=true)(xbf:findCls K (.ref Yp) (.type "type") "__init__" = some (.val (.builtin "ValueError.__init__")))(xem:exmOne K (.ref ZK) (.ref Yp)=some true)(xot:kitAny K (.ref ZK) [.ref JH,.ref Jw,.ref X4,.ref JC,.ref Y9,.ref Wf,.ref Wa,.ref X5]=some false)(xow:kitOne K (.ref ZK) (.ref ZK)=some true)(xva:kitOne K (.ref ZK) (.type "ValueError")=some true){aW:AD}{esW:Array DictEntry}{nW:Nat}(aWo:PySem.W.nsIn K mainGlobals "WORDS" = some (some (.ref aW)))(lWo:K.lookup aW=some ⟨.type "dict",none,.dict esW nW,#[]⟩)(kWo:KeysLit w.params esW.toList)(oWo:(aW==sysModules)=false)(vWo:zbo K esW.toList Ord.zae=true){aA:AD}{esA:Array DictEntry}{nA:Nat}(aAo:PySem.W.nsIn K mainGlobals "AHEAD" = some (some (.ref aA)))(lAo:K.lookup aA=some ⟨.type "dict",none,.dict esA nA,#[]⟩)(kAo:KeysLit w.params esA.toList)(oAo:(aA==sysModules)=false)(vAo:zbJ esA.toList Xj=true){aO:AD}{esO:Array DictEntry}{nO:Nat}(aOo:PySem.W.nsIn K mainGlobals "OTHER_WAY" = some (some (.ref aO)))(lOo:K.lookup aO=some ⟨.type "dict",none,.dict esO nO,#[]⟩)(kOo:KeysLit w.params esO.toList)(oOo:(aO==sysModules)=false)(vOo:zbJ esO.toList Xg=true)(tt:kitOne K (.type "tuple") (.type "tuple")=some true)(st:kitOne K (.type "str") (.type "tuple")=some false)(bt:kitOne K (.type "bool") (.type "tuple")=some false)(ib:kitOne K (.type "int") (.type "bool")=some false):
  ∃ fd:FuncData,(∀(s:SH)(v:Value),BindsTo s fd ⟨[v],[]⟩ [("script",v)])/\((∀ p∈tabs,K.lookup p.1=none)/\(∀ p∈tabs,isCodeTable h p.1)/\(tabs.map (·.1)).Nodup)/\∀ base:Heap,K.In base->base.Ns mainGlobals mg->Bs K mg base->Ju l.prog w K mg base CX0 12 fa fd ["script"] (zay K tabs):=by
 have e:=hfa.symm.trans (mg_of X G pz38.a);cases e;obtain⟨W⟩:=Ord.zk1 (P:=w.params) (mg_of X G aWo) lWo kWo oWo vWo;obtain⟨W1⟩:=zh7 (P:=w.params) (mg_of X G aAo) lAo kAo oAo vAo;obtain⟨W2⟩:=zh7 (P:=w.params) (mg_of X G aOo) lOo kOo oOo vOo;exact⟨PySem.W.fnOf "law" "law" (X6 zag) (Yo zag) (Zi zag) .none kVz38 dcz38 pmz38 anz38 cdz38 ctz38,λs v=>.of_eq rfl,⟨(Om.mpr ⟨nz13,(Om.mpr ⟨nz24,(Om.mpr ⟨nz26,(λ_ h=>nomatch h)⟩)⟩)⟩),(Om.mpr ⟨zaU X hz13,(Om.mpr ⟨zaU X hz24,(Om.mpr ⟨zaU X hz26,(λ_ h=>nomatch h)⟩)⟩)⟩),(by decide)⟩,λbase _ _ M=>zj6 (JX (st:=zag) pz38.l pz38.c pz38.k)
  ⟨pz0.go3 X G λ_ _ _ _ _ _ _ _ _=>rfl,
  pz1.go2 X G λ_ _ _ _ _ _ _ _=>rfl,
  pz2.go4 X G λ_ _ _ _ _ _ _ _ _ _=>rfl,
  pz3.go2 X G λ_ _ _ _ _ _ _ _=>rfl,
  pz4.go1 X G λ_ _ _ _ _ _ _=>rfl,
  pz5.go2 X G λ_ _ _ _ _ _ _ _=>rfl,
  pz6.go2 X G λ_ _ _ _ _ _ _ _=>rfl,
  pz7.go1 X G λ_ _ _ _ _ _ _=>rfl,
  pz8.go3 X G λ_ _ _ _ _ _ _ _ _=>rfl,
  pz9.go3 X G λ_ _ _ _ _ _ _ _ _=>rfl,
  pz10.go2 X G λ_ _ _ _ _ _ _ _=>rfl,
  pz11.go2 X G λ_ _ _ _ _ _ _ _=>rfl,
  pz12.go2 X G λ_ _ _ _ _ _ _ _=>rfl,
   ⟨fz13,_,(JX (st:=YW) pz13.l pz13.c pz13.k),(JX (st:=YW) pz13.l pz13.c pz13.k).binds (ps:=["order", "book", "first", "second"]) λ_ _ _ _ _ _ us hl=>match us,hl with | [_,_,_,_],_=>rfl,mg_of X G pz13.a⟩,
  pz14.go3 X G λ_ _ _ _ _ _ _ _ _=>rfl,
  pz15.go1 X G λ_ _ _ _ _ _ _=>rfl,
  pz16.go3 X G λ_ _ _ _ _ _ _ _ _=>rfl,
  pz17.go4 X G λ_ _ _ _ _ _ _ _ _ _=>rfl,
  pz18.go1 X G λ_ _ _ _ _ _ _=>rfl,
  pz19.go1 X G λ_ _ _ _ _ _ _=>rfl,
  pz20.go1 X G λ_ _ _ _ _ _ _=>rfl,
  pz21.go2 X G λ_ _ _ _ _ _ _ _=>rfl,
  pz22.go1 X G λ_ _ _ _ _ _ _=>rfl,
  pz23.go2 X G λ_ _ _ _ _ _ _ _=>rfl,
   ⟨fz24,_,(JX (st:=Jg) pz24.l pz24.c pz24.k),(JX (st:=Jg) pz24.l pz24.c pz24.k).binds (ps:=["order", "book", "row"]) λ_ _ _ _ _ _ us hl=>match us,hl with | [_,_,_],_=>rfl,mg_of X G pz24.a⟩,
  pz25.go3 X G λ_ _ _ _ _ _ _ _ _=>rfl,
   ⟨fz26,_,(JX (st:=Jm) pz26.l pz26.c pz26.k),(JX (st:=Jm) pz26.l pz26.c pz26.k).binds (ps:=["order", "book", "row"]) λ_ _ _ _ _ _ us hl=>match us,hl with | [_,_,_],_=>rfl,mg_of X G pz26.a⟩,
  pz27.go1 X G λ_ _ _ _ _ _ _=>rfl,
  pz28.go1 X G λ_ _ _ _ _ _ _=>rfl,
  pz29.go1 X G λ_ _ _ _ _ _ _=>rfl,
  pz30.go4 X G λ_ _ _ _ _ _ _ _ _ _=>rfl,
  pz31.go3 X G λ_ _ _ _ _ _ _ _ _=>rfl,
  pz32.go4 X G λ_ _ _ _ _ _ _ _ _ _=>rfl,
  pz33.go4 X G λ_ _ _ _ _ _ _ _ _ _=>rfl,
  pz34.go2 X G λ_ _ _ _ _ _ _ _=>rfl,
  pz35.go4 X G λ_ _ _ _ _ _ _ _ _ _=>rfl,
  pz36.go4 X G λ_ _ _ _ _ _ _ _ _ _=>rfl,
  pz37.go4 X G λ_ _ _ _ _ _ _ _ _ _=>rfl,
   275,271,qz13,hz13,
   342,338,qz24,hz24,
   354,350,qz26,hz26,
   N3 X G z_len,
   N3 X G z_range,
   N3 X G z_tuple,
   N3 X G z_isinstance,
   N3 X G z_list,
   N3 X G z_reversed,
   N3 X G z_enumerate,
   N3 X G z_zip,
   N3 X G z_sorted,
   N3 X G z_int,
   N3 X G z_bool,
   N3 X G z_ValueError,
   tt,
   st,
   bt,
   ib,
   Yp,mg_of X G ac_OrderError,Y9,mg_of X G ac_NoNumber,Wf,mg_of X G ac_NoOrder,JH,mg_of X G ac_Clash,X4,mg_of X G ac_NoField,ZK,mg_of X G ac_NoRow,JC,mg_of X G ac_NoNet,Wa,mg_of X G ac_NoPlace,X5,mg_of X G ac_NoThing,Jw,mg_of X G ac_NoAsk,ifNR,_,(JX (st:=Xu) li_NoRow ci_NoRow ki_NoRow),(JX (st:=Xu) li_NoRow ci_NoRow ki_NoRow).binds (ps:=["self", "things"]) (λ_ _ _ _ _ _ us hl=>match us,hl with | [_,_],_=>rfl),⟨⟨xga_NoRow,xgn_NoRow,xcl_NoRow,xsb_NoRow,xso_NoRow,⟨_,_,_,_,xlk_NoRow⟩⟩,xin_NoRow,xmr_NoRow,xsa_NoRow,xno_NoRow⟩,xfn_NoRow,⟨xbg,xbr,xbf⟩,xem,xot,xow,xva⟩ W W1 W2 M⟩
def walk{l:PySem.W.OpenLaw}{q:Program}{loose:LB}{XP:(Str->LF)->Heap->Prop}{YP:World->Heap->Prop}{d:DefRec}{K:Params->FG}(hn:l.most=some 63)(hdf:d.params.defaults=[])(hY:∀(w:World)(h:Heap),YP w h->(K w.params).In h/\∀ p∈tabs,h.get? p.1=some {cls:=.none,data:=.fields #[]})(F:∀(w:World)(mg:Str->LF)(fa:AD)(h:Heap),(K w.params).In h->h.Ns mainGlobals mg->mg d.name=some (.ref fa)->
   ∃ fd:FuncData,(∀(s:SH)(u:Value),BindsTo s fd ⟨[u],[]⟩ [("script",u)])/\((∀ p∈tabs,(K w.params).lookup p.1=none)/\(∀ p∈tabs,isCodeTable h p.1)/\(tabs.map (·.1)).Nodup)/\∀ base:Heap,(K w.params).In base->base.Ns mainGlobals mg->Bs (K w.params) mg base->Ju l.prog w (K w.params) mg base CX0 12 fa fd ["script"] (zay (K w.params) tabs)):
  PySem.W.WalkO q loose XP YP l.row.toRowW d [] (λf vs=>PySem.call f vs):=
 L2.zgx (n:=63) (k:=12) (x:= "script") (sp:=λw=>zay (K w.params) tabs) (λ_=>tabs) hn (by decide) hdf ⟨rfl,(by decide),(by decide)⟩ hY F (λ_ _ a ns hl hT hS=>⟨a,ns,rfl,hS,hl,hT,λ_=>rfl⟩)
end K29
def PySem.W.Fast.tw7637156093919838272:Nat:=0
def PySem.W.Fast.tw2719535234769808483:Nat:=0
def PySem.W.Fast.tw9754225067389692585:Nat:=0
def PySem.W.Fast.tw14377305822881184586:Nat:=0
def PySem.W.Fast.tw7454422217255706288:Nat:=0
def PySem.W.Fast.tw13330368505171405744:Nat:=0
def PySem.W.Fast.tw1319811252384533554:Nat:=0
def PySem.W.Fast.tw1077417881094886422:Nat:=0
def PySem.W.Fast.tw5051718986786492986:Nat:=0
def PySem.W.Fast.tw2240187955959992094:Nat:=0
def PySem.W.Fast.tw10869950910722152022:=0
def PySem.W.Fast.tw10644386529557461840:=0
def PySem.W.Fast.tw1563612041779449523:=0
def PySem.W.Fast.tw17944549804340304708:=0
def PySem.W.Fast.tw18413659232602864934:=0
def PySem.W.Fast.tw3079098236820087790:=0
def PySem.W.Fast.tw2578829222593633442:=0
def PySem.W.Fast.tw3051429397392563964:=0
def PySem.W.Fast.tw15461312464730010939:=0
def PySem.W.Fast.tw7771790287346102908:=0
def PySem.W.Fast.tw3463269325735521966:=0
def PySem.W.Fast.tw15061135954074084035:=0
def PySem.W.Fast.tw4577329853381458362:=0
def PySem.W.Fast.tw17534902331122693692:=0
def PySem.W.Fast.tw11491752505652747965:=0
def PySem.W.Fast.tw443942525874499024:=0
def PySem.W.Fast.tw5456198674704658531:=0
def PySem.W.Fast.tw3506909048479016073:=0
def PySem.W.Fast.tw11511849151872788521:=0
def PySem.W.Fast.tw1869252408773765506:=0
def PySem.W.Fast.tw7923288613301822641:=0
def PySem.W.Fast.tw8482728548587079062:=0
def PySem.W.Fast.tw10915749912913543298:=0
def PySem.W.Fast.tw15181544375900250514:=0
def PySem.W.Fast.tw14545679830095444428:=0
def PySem.W.Fast.tw11754819011766472385:=0
def PySem.W.Fast.tw4807704391337395134:=0
def PySem.W.Fast.tw7064852179031890778:=0
def PySem.W.Fast.tw10390498368581024939:=0
def PySem.W.Fast.tw5982961722446954886:=0
def PySem.W.Fast.tw3845771983730674019:=0
def PySem.W.Fast.tw17409287999585231973:=0
def PySem.W.Fast.tw11158133890360872430:=0
def PySem.W.Fast.tw11801831233937579553:=0
def PySem.W.Fast.tw14128717191707738557:=0
def PySem.W.Fast.tw1159593468956834963:=0
def PySem.W.Fast.tw8598419908777677471:=0
def PySem.W.Fast.tw14227226777100573476:=0
def PySem.W.Fast.tw13693762553963611281:=0
def PySem.W.Fast.tw6662745898928567665:=0
def PySem.W.Fast.tw4569179554215738387:=0
def PySem.W.Fast.tw3917734137819381750:=0
def PySem.W.Fast.tw2745809218247481184:=0
def PySem.W.Fast.tw16812359577068135283:=0
def PySem.W.Fast.tw8340873109965078304:=0
def PySem.W.Fast.tw15001910483130255661:=0
def PySem.W.Fast.tw8054929327237921745:=0
def PySem.W.Fast.tw17894073378403602847:=0
def PySem.W.Fast.tw4008905196940480123:=0
def PySem.W.Fast.tw4858594150340157505:=0
def PySem.W.Fast.tw9831230292071760655:=0
def PySem.W.Fast.tw822329566386111019:=0
def PySem.W.Fast.tw3856359811507521868:=0
def PySem.W.Fast.tw5113460844935781463:=0
def PySem.W.Fast.tw6104047415871041997:=0
def PySem.W.Fast.tw567337243731723471:=0
def PySem.W.Fast.tw10715068505372981787:=0
def PySem.W.Fast.tw6808441432236936118:=0
def PySem.W.Fast.tw216442169616620925:=0
def PySem.W.Fast.tw18424013948522814929:=0
def PySem.W.Fast.tw9627677751391037779:=0
def PySem.W.Fast.tw3782487165626651384:=0
def PySem.W.Fast.tw12842159870569928833:=0
def PySem.W.Fast.tw10619696079418069398:=0
def PySem.W.Fast.tw2629581359334779810:=0
def PySem.W.Fast.tw4076715645859276257:=0
def PySem.W.Fast.tw3181017031245909723:=0
def PySem.W.Fast.tw4660494011134371559:=0
def PySem.W.Fast.tw13441576538248751373:=0
def PySem.W.Fast.tw5847090104515672755:=0
def PySem.W.Fast.tw12281680814310475715:=0
def PySem.W.Fast.tw14868632271923526597:=0
def PySem.W.Fast.tw4786971388042929116:=0
def PySem.W.Fast.tw6695089190332556728:=0
def PySem.W.Fast.tw17955205820716737493:=0
def PySem.W.Fast.tw14492013154871003973:=0
def PySem.W.Fast.tw1524039453695391835:=0
def PySem.W.Fast.tw4230411382167095586:=0
def PySem.W.Fast.tw17740750973737022264:=0
def PySem.W.Fast.tw18040166660822051322:=0
def PySem.W.Fast.tw16248920291771422025:=0
def PySem.W.Fast.tw16490751402960343962:=0
def PySem.W.Fast.tw575383543715126969:=0
def PySem.W.Fast.tw12018142559230552345:=0
def PySem.W.Fast.tw14153458102151880928:=0
def PySem.W.Fast.tw15049019757631359818:=0
def PySem.W.Fast.tw2341430512090924446:=0
def PySem.W.Fast.tw15621830687414418700:=0
def PySem.W.Fast.tw10191275078097607852:=0
def PySem.W.Fast.tw7554451663795398067:=0
def PySem.W.Fast.tw7032886886753432765:=0
def PySem.W.Fast.tw478641436672357690:=0
def PySem.W.Fast.tw7302563958995316420:=0
def PySem.W.Fast.tw1410089733549195680:=0
def PySem.W.Fast.tw14336842627392699706:=0
def PySem.W.Fast.tw5677829421368578825:=0
def PySem.W.Fast.tw12052896426563216874:=0
def PySem.W.Fast.tw10539638860798972395:=0
def PySem.W.Fast.tw13654604506575045229:=0
def PySem.W.Fast.tw18401905263220126454:=0
def PySem.W.Fast.tw15396624802535160784:=0
def PySem.W.Fast.tw8276488912626435377:=0
def PySem.W.Fast.tw11504422594543810550:=0
def PySem.W.Fast.tw10916827893622598635:=0
def PySem.W.Fast.tw5945544765730860584:=0
def PySem.W.Fast.tw14877727515210309402:=0
def PySem.W.Fast.tw9930364646902232789:=0
def PySem.W.Fast.tw2781034763000972490:=0
def PySem.W.Fast.tw11256600994924000341:=0
def PySem.W.Fast.tw13701145613607824750:=0
def PySem.W.Fast.tw7067568481628224590:=0
def PySem.W.Fast.tw1561248580359629966:=0
def PySem.W.Fast.tw14319870630654654305:=0
def PySem.W.Fast.tw12928361728504865494:=0
def PySem.W.Fast.tw17861157788123851141:=0
open PySem PySem.W PyProof.Rows
set_option maxRecDepth 100000 in
set_option maxHeartbeats 0 in
theorem PySem.Challenge.cw_ordertext_k29_no_row_holds : PySem.Challenge.rw_ordertext_k29_no_row.Holds := by
 w_on;o_law;k_head;(case hw=>w_witness2)
 k_fill
 refine K29.walk (l:=PySem.Challenge.rw_ordertext_k29_no_row) rfl rfl (λw h Y=>⟨PySem.W.km_in_of Y,(List.forall_mem_cons.mpr ⟨km_tabs_of Y _ (by first | k_mem | simp),(List.forall_mem_cons.mpr ⟨km_tabs_of Y _ (by first | k_mem | simp),(List.forall_mem_cons.mpr ⟨km_tabs_of Y _ (by first | k_mem | simp),(λ_ h=>nomatch h)⟩)⟩)⟩)⟩) ?F
 case F=>
  intro w mg fa h KX G hmg;refine' K29.zkl KX G hmg ?pz0 ?pz1 ?pz2 ?pz3 ?pz4 ?pz5 ?pz6 ?pz7 ?pz8 ?pz9 ?q1g ?q1y ?q1x ?q1n ?q1k ?q22 ?q11 ?q19 ?q1a ?q1w ?q1u ?q21 ?q1l ?q1m ?q13 ?q1j ?q1b ?q15 ?q14 ?q1h ?q1c ?q1q ?q12 ?q20 ?q1s ?q1r ?q1d ?q17 ?q1p ?q18 ?q1i ?q1z ?q1e ?q1o ?q1v ?q1t ?q16 ?q1f ?q0z ?q0u ?q0v ?q01 ?q0w ?q08 ?q04 ?q10 ?q0o ?q0y ?q0x ?q02 ?q00 ?q03 ?q09 ?q0s ?q07 ?q0m ?q0p ?q06 ?q05 ?q0q ?q0a ?q0r ?q0n ?q0t ?q0i ?q0c ?q0j ?q0e ?q0h ?q0b ?q0d ?q0f ?q0g ?q0k ?q0l ?xbg ?xbr ?xbf ?xem ?xot ?xow ?xva ?aWo ?lWo ?kWo ?oWo ?vWo ?aAo ?lAo ?kAo ?oAo ?vAo ?aOo ?lOo ?kOo ?oOo ?vOo ?tt ?st ?bt ?ib
  case pz0|pz1|pz2|pz3|pz4|pz5|pz6|pz7|pz8|pz9|q1g|q1y|q1x|q1k|q22|q11|q19|q1a|q1w|q1u|q21|q1l|q1m|q1j|q15|q14|q1h|q1c|q1q|q12|q20|q1s|q1r|q1d|q17=>exact⟨_,_,_,_,_,_,_,_,_,_,by k_is,by k_is,by k_is,by k_is⟩
  (case q1n|q13|q1b|q1p=>exact⟨by k_is,by k_is,by k_is,by k_is⟩)
  (case q18|q1i|q1z|q1e|q1o|q1v|q1t|q16|q1f=>first | rfl | kernel_rfl | k_is)
  (case q0z|q0u|q0v|q01|q0w|q08|q04|q10|q0o|q0y|q0x|q02|q00|q03|q09|q0s|q07|q0m|q0p|q06|q05|q0q=>k_is)
  (case q0a=>first | kit_is | k_is | rfl | kernel_rfl)
  (case q0r=>k_is)
  (case q0n|q0t=>first | kit_is | k_is | rfl | kernel_rfl)
  (case q0i=>k_is)
  (case q0c|q0j|q0e|q0h|q0b|q0d|q0f|q0g|q0k|q0l|xbg|xbr|xbf|xem|xot|xow|xva=>first | kit_is | k_is | rfl | kernel_rfl)
  (case aWo|lWo=>k_is)
  (case kWo=>k_keys)
  (case oWo=>decide)
  (case vWo=>kernel_rfl)
  (case aAo|lAo=>k_is)
  (case kAo=>k_keys)
  (case oAo=>decide)
  (case vAo=>kernel_rfl)
  (case aOo|lOo=>k_is)
  (case kOo=>k_keys)
  (case oOo=>decide)
  (case vOo=>kernel_rfl)
  (case tt|st|bt|ib=>first | kit_is | k_is | rfl)
