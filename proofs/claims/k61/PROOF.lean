import PyProof.Rows.All
import Wide.All
import OpenK.AllK
import Wide.FinOn
import Lean
import PyProof.EqAt
import PyProof.EqKinds
import PyProof.TupleCall
import PySem.Challenge.RW_ordertext_k61_whole_first_looked_at
set_option Elab.async false
set_option linter.all false
set_option maxRecDepth 100000
set_option genSizeOf false
open PySem.Around (frames_deeper)
open Array (forIn_toList getElem?_toList mem_toList_iff toList_append)
open PySem.Calls (spliced_cons spliced_nil)
open PySem.Heap (ExtBut SameBut)
open Int (lt_or_le mul_nonneg natAbs_mul)
open List (all_cons all_map any_cons any_eq_true countP_cons drop_zero ext_getElem? forIn_cons getElem?_range length_pos_iff map_congr_left map_drop map_nil mem_filter mem_filterMap mem_replicate nil_append nodup_append nodup_nil range_succ take_nil take_succ)
open Nat (add_assoc gcd_comm le_of_eq lt_trans min_eq_left ne_of_gt sub_zero)
open Option (map_eq_some_iff map_some)
open PySem.Spec (sameAll samePairs same_self)
open PySem.W (CodeHd KeysLit callWith_F callWith_K cellsFrom_some codeHdIn codeHd_of_K codeIn codeRec_of findIn fnMade instObj keepIn kitOne kitx_dict kitx_list kitx_tuple kla_fn kla_obj km_tabs_of lookIn methodObj mg_of nestDef_K plainGet)
open PySem.Shared (TypeIs)
set_option hygiene false
noncomputable section
def Ia:=@PySem.wpAny_bind
def Ib:=@List.getElem?_eq_getElem
def Ic:=@PySem.wpAny_pure
def Ie:=@List.length_map
def Ig:=@List.length_append
def Ih:=@PySem.Heap.get?_push_of_some
def Ii:=@Bool.false_ne_true
def Ij:=@List.getElem?_map
def Ik:=@Nat.le_refl
def Il:=@List.getElem?_eq_some_iff
def Im:=@if_neg
def Io:=@PySem.Heap.get?_push_size
def Ip:=@decide_eq_true
def Iq:=@if_pos
def Ir:=@List.getD_eq_getElem?_getD
def Iu:=@Option.some.inj
def Iw:=@decide_eq_false
def Ix:=@List.size_toArray
def Iy:=@List.mem_cons_of_mem
def Iz:=@List.mem_of_getElem?
def IA:=@Nat.lt_of_lt_of_le
def IB:=@of_decide_eq_true
def IC:=@List.length_cons
def ID:=@List.mem_cons_self
def IE:=@List.mem_cons
def IF:=@PySem.Heap.lt_size
def IG:=@List.length_range
def IH:=@List.mem_singleton
def II:=@PySem.boot_len
def IJ:=@PySem.mem_of_lookup
def IK:=@PySem.wpAny_newObj_type
def IL:=@List.mem_append_right
def IM:=@PySem.wpAny_callSpecial?_slot
def IN:=@Bool.false_eq_true
def IP:=@PySem.wpAny_call_entry
def IQ:=@List.getElem_mem
def IR:=@Bool.and_eq_true
def IS:=@Nat.ne_of_lt
def IT:=@congrArg
def IU:=@List.getElem?_append_right
def IV:=@List.getElem?_append_left
def IW:=@PySem.wpAny_field
def IX:=@List.map_append
def IY:=@List.getElem?_set_self
def IZ:=@List.append_assoc
def I9:=@List.getElem?_set_ne
def Na:=@decide_eq_true_iff
def Nb:=@Array.getElem?_eq_getElem
def Nf:=@if_false
def Ng:=@List.map_cons
def Nh:=@PySem.PassesOwn.never
def Ni:=@of_decide_eq_false
def Nj:=@List.length_take
def Nk:=@List.length_drop
def Nl:=@PyProof.Rows.callWith_type1
def Nm:=@PyProof.Rows.slot_tuple_getitem
def Nn:=@PySem.wpAny_truthy_bool
def Np:=@PySem.wpAny_holding
def Nq:=@List.mem_append
def Nr:=@Nat.zero_le
def Nt:=@PySem.wpAny_Call_Name_kw
def Nu:=@PySem.Heap.size_push
def Nv:=@PySem.F.plainAttrs_list
def Nx:=@PySem.F.slot_list_append
def Ny:=@PySem.F.type_list_append
def Nz:=@List.not_mem_nil
def NA:=@List.cons_append
def NB:=@List.all_eq_true
def NC:=@List.filterMap_cons
def ND:=@Nat.le_trans
def NE:=@Option.isSome_iff_exists
def NF:=@PySem.Heap.get?_update_other
def NG:=@Int.toNat_natCast
def NH:=@PySem.wpAny_seqItems
def NI:=@PySem.wpAny_specialOf
def NJ:=@PySem.wpAny_mono
def NK:=@List.append_nil
def NL:=@PySem.Obj.data_mapFields
def NM:=@List.getElem?_cons_succ
def NN:=@List.length_replicate
def NO:=@PySem.wpAny_isInstance
def NP:=@List.idxOf_lt_length_of_mem
def NQ:=@List.take_of_length_le
def NR:=@PySem.W.mg_none_of
def NS:=@List.getElem?_zip_eq_some
def NT:=@List.getElem?_eq_none
def NU:=@PySem.builtinLookup_eq_fast
def NV:=@PySem.Heap.get?_update_self
def NW:=@PySem.lookup_relabel_local
def NX:=@PySem.wpAny_typeNameOfWhole_keyiter
def NY:=@PySem.wpAny_rule
def NZ:=@PySem.F.slot_dict_keyiterator_next
def N0:=@List.mem_map
def N1:=@PySem.wpAny_attempt
def N2:=@Bool.not_true
def N3:=@List.pairwise_cons
def N4:=@PySem.wpAny_forIn_list
def N5:=@PySem.F.slot_tuple_iterator_next
def N6:=@PySem.wpAny_setField_rec
def N7:=@List.length_nil
def N8:=@List.map_map
def N9:=@List.pairwise_iff_getElem
def Oa:=@PySem.wpAny_passesOwn
def Ob:=@PySem.codeAny_mono
def Oc:=@List.lookup_cons
def Od:=@or_false
def Og:=@List.length_set
def Oh:=@PySem.wpAny_comprehension_free
def Oi:=@PySem.wpAny_typeNameOf_keyiter
def Oj:=@if_true
def Ol:=@PySem.wpAny_setField
def Om:=@Int.mul_assoc
def Oo:=@Int.emod_lt_of_pos
def Op:=@List.reverse_cons
def Oq:=@Nat.le_add_right
def Os:=@List.drop_eq_nil_of_le
def Ot:=@PySem.typeLookup_type
def Ou:=@List.forall_mem_cons
def Ov:=@Array.length_toList
def Ow:=@Nat.lt_succ_of_lt
def Ox:=@List.filterMap_append
def Oy:=@PySem.Obj.isFreed_of_fields
def Oz:=@Nat.le_of_lt
def OA:=@PySem.wpAny_of_eq
def OB:=@List.length_reverse
def OD:=@PySem.isSubtype_type
def OE:=@List.take_length
def OF:=@Nat.pow_lt_pow_right
def OG:=@List.pairwise_append
def OH:=@Nat.lt_irrefl
def OI:=@PySem.F.slot_tuple_index
def OJ:=@PySem.F.type_tuple_index
def OK:=@PySem.wpAny_standAt
def OL:=@PySem.W.kia_one
def OM:=@List.nodup_cons
def ON:=@List.of_mem_zip
def OO:=@List.find?_cons
def OP:=@List.mem_range
def OQ:=@Int.emod_nonneg
def OR:=@List.map_take
abbrev FG:=PySem.W.Frag
abbrev SH:=PySem.Shared
abbrev PD:=PySem.PyData
abbrev AD:=PySem.Addr
abbrev LA:=List PD
abbrev LB:=List PySem.Str
abbrev LX:=List Int
abbrev LF:=List PySem.Value
abbrev LG:=Option PySem.Value
abbrev LH:=List AD
abbrev LI:=Option Int
abbrev LJ:=List PySem.Env
namespace L2
open PySem PySem.Spec PyProof.Rows
variable {us:LF}{x:Str}{u:Value}{a b f:AD}{h:Heap}{t' i j k:Nat}{ch fp:LH}{e tg:Expr}{M:Model}{A:Around}{E:Value->SH->Prop}{s:SH}{pos:Pos}{aa:List (Addr×Obj)}{body:List Stmt}{op:CmpOp}{fd:FuncData}{ps:LB}{kindOf:Str->Option NameKind}{scope:Scope}
abbrev Key:=Sum Int Str
noncomputable def zem:Key->Value->Bool
 |.inl k,v=>Value.isInt k v
 |.inr x,v=>Value.isStrOf x v
noncomputable def zo3(w:World):Key->Int
 |.inl k=>hashInt k
 |.inr x=>hashStr w x
theorem Y8:∀{k:Key}{v:Value},zem k v=true->(∃ i t,k=Sum.inl i/\v=Value.int i t)\/(∃ x t,k=Sum.inr x/\v=Value.str x t)
 |.inl i,v,h=>by obtain⟨t,e⟩:=Value.isInt_shape (k:=i) (v:=v) h;exact .inl ⟨i,t,rfl,e⟩
 |.inr x,v,h=>by obtain⟨t,e⟩:=Value.isStrOf_shape (x:=x) (v:=v) h;exact .inr ⟨x,t,rfl,e⟩
def ze5(i:Int)(t:Tok):zem (.inl i) (.int i t)=true:=by simp[zem,Value.isInt]
def zgg(x:Str)(t:Tok):zem (.inr x) (.str x t)=true:=by simp[zem,Value.isStrOf]
def znj(a b:Int):decide ((Sum.inl a:Key)=Sum.inl b)=(a==b):=by
 by_cases e:a=b
 .subst e;simp
 .have h:¬ (Sum.inl a:Key)=Sum.inl b:=λq=>e (Sum.inl.inj q);rw[Iw h];exact(beq_eq_false_iff_ne.mpr e).symm
def znb(a b:Str):decide ((Sum.inr a:Key)=Sum.inr b)=decide (a=b):=by
 by_cases e:a=b
 .subst e;simp
 .have h:¬ (Sum.inr a:Key)=Sum.inr b:=λq=>e (Sum.inr.inj q);rw[Iw h,Iw e]
def zmM(a:Int)(b:Str):decide ((Sum.inl a:Key)=Sum.inr b)=false:=Iw (λq=>nomatch q)
def zlm(a:Str)(b:Int):decide ((Sum.inr a:Key)=Sum.inl b)=false:=Iw (λq=>nomatch q)
noncomputable def Xy(prog:Program)(w:World):PySem.KeyKind prog w Key where
 is:=zem
 hash:=zo3 w
 inj:=λv a b ha hb=>by
  rcases Y8 ha with⟨i,t,rfl,rfl⟩ | ⟨x,t,rfl,rfl⟩
  .rcases Y8 hb with⟨j,u,rfl,e⟩ | ⟨y,u,rfl,e⟩
   .injection e with e1 _;rw[e1]
   .exact nomatch e
  .rcases Y8 hb with⟨j,u,rfl,e⟩ | ⟨y,u,rfl,e⟩
   .exact nomatch e
   .injection e with e1 _;rw[e1]
 byValue:=λk v h=>by rcases Y8 h with⟨i,t,rfl,rfl⟩ | ⟨x,t,rfl,rfl⟩ <;> rfl
 pyHash:=λhv h=>by
  rcases Y8 hv with⟨i,t,rfl,rfl⟩ | ⟨x,t,rfl,rfl⟩
  .exact wpAny_pyHash_int h
  .exact wpAny_pyHash_str h
 eqBool:=λhu hv h=>by
  rcases Y8 hu with⟨i,t,rfl,rfl⟩ | ⟨x,t,rfl,rfl⟩
  .rcases Y8 hv with⟨j,u,rfl,rfl⟩ | ⟨y,u,rfl,rfl⟩
   .rw[znj]at h;exact wpAny_eqBool_int h
   .rw[zmM]at h;exact SeqAt.EqAt.int_str i t y u _ _ _ _ h
  .rcases Y8 hv with⟨j,u,rfl,rfl⟩ | ⟨y,u,rfl,rfl⟩
   .rw[zlm]at h;exact SeqAt.EqAt.str_int x t j u _ _ _ _ h
   .rw[znb]at h;exact wpAny_eqBool_str h
 «strs» := λk x t v h=>by
  rcases Y8 h with⟨i,u,rfl,e⟩ | ⟨y,u,rfl,e⟩
  .exact nomatch e
  .injection e with e1 _;subst e1;cases v <;> rfl
def zdt(prog:Program)(w:World)(i:Int)(t:Tok):(Xy prog w).is (.inl i) (.int i t)=true:=ze5 i t
def zde(prog:Program)(w:World)(x:Str)(t:Tok):(Xy prog w).is (.inr x) (.str x t)=true:=zgg x t
inductive V where
 |non | bl (b:Bool) | int (i:Int) | str (x:Str) | byt (b:Array UInt8) | flt (b:UInt64) | ref (a:AD) | ty (n:String)
 deriving DecidableEq
abbrev LC:=List V
def RelV:V->Value->Prop
 |.non,u=>u=Value.none
 |.bl b,u=>u=Value.bool b
 |.int i,u=>∃ t,u=Value.int i t
 |.str x,u=>∃ t,u=Value.str x t
 |.byt b,u=>∃ t,u=Value.bytes b t
 |.flt b,u=>∃ t,u=Value.float b t
 |.ref a,u=>u=Value.ref a
 |.ty n,u=>u=Value.type n
abbrev Vals:LC->LF->Prop:=Paired RelV
theorem Vals.length{xs:LC}(r:Vals xs us):xs.length=us.length:=Paired.length r
theorem Vals.get:∀{xs:LC}{us:LF}{i:Nat}{x:V},Vals xs us->xs[i]?=some x->∃ u,us[i]?=some u/\RelV x u
 |_,_,_,_,.nil,e=>by simp at e
 |_,_,0,_,.cons r _,e=>by simp at e;subst e;exact⟨_,rfl,r⟩
 |_,_,i+1,x,.cons _ t,e=>by obtain⟨u,h1,h2⟩:=Vals.get (i:=i) (x:=x) t (by simpa using e);exact⟨u,by simpa using h1,h2⟩
theorem Vals.set{x:V}(r:RelV x u):∀{xs:LC}{us:LF}(i:Nat),Vals xs us->Vals (xs.set i x) (us.set i u)
 |_,_,_,.nil=>.nil
 |_,_,0,.cons _ t=>.cons r t
 |_,_,i+1,.cons q t=>.cons q (Vals.set r i t)
theorem Vals.append:∀{xs ys:LC}{us ws:LF},Vals xs us->Vals ys ws->Vals (xs++ys) (us++ws)
 |_,_,_,_,.nil,s=>s
 |_,_,_,_,.cons r t,s=>.cons r (Vals.append t s)
theorem Vals.take:∀{xs:LC}{us:LF}(n:Nat),Vals xs us->Vals (xs.take n) (us.take n)
 |_,_,0,_=>.nil
 |_,_,_+1,.nil=>.nil
 |_,_,n+1,.cons r t=>.cons r (Vals.take n t)
theorem Vals.drop:∀{xs:LC}{us:LF}(n:Nat),Vals xs us->Vals (xs.drop n) (us.drop n)
 |_,_,0,r=>r
 |_,_,_+1,.nil=>.nil
 |_,_,n+1,.cons _ t=>Vals.drop n t
def znX:Option V->LG->Prop
 |some v,some u=>RelV v u
 |none,none=>True
 |_,_=>False
def KV{κ:Type}:List (κ×V)->List (κ×Value)->Prop:=Paired λ(p:κ×V)(q:κ×Value)=>p.1=q.1/\RelV p.2 q.2
noncomputable def kV:Key->V
 |.inl i=>.int i
 |.inr x=>.str x
inductive HO where
 
 |lst (xs:LC)
 
 |tup (xs:LC)
 
 |dK (kvs:List (Key×V)) | dT (kvs:List (List Key×V))
 
 |set (S:Int->Bool) (n:Nat)
 
 |ins (C dx:AD) (fs:List (Str×V))
 
 |own (x:AD)
 
 |xd (fs:List (Str×V))
 
 |met (f x:AD)
 
 |rng (lo hi:Int)
 
 |frz (o:Obj) (u:HO)
 
 |tbl (cr:Nat->Nat->Option Str)
 
 |ext (φ:Heap->Prop)
abbrev Hp:=AD->Option HO
noncomputable def upd(H:Hp)(a:AD)(o:HO):Hp:=λb=>if b=a then some o else H b
def Zo{H:Hp}{o:HO}:upd H a o a=some o:=by unfold upd;rw[Iq rfl]
def Zr{H:Hp}{o:HO}(h:b≠a):upd H a o b=H b:=by unfold upd;rw[Im h]
def Zy{H:Hp}{o:HO}(h:H a=some o)(h' : H b=none):a≠b:=by intro e;subst e;rw[h]at h';cases h'
def zdA(oc:Obj)(q:Str):Prop:=∃(vs:Array Value)(t:Tok),oc.data = .fields vs/\vs[1]?=some (.str q t)
def ziu(h:Heap)(a:AD):Prop:=∃ o,h.get? a=some o/\o.dict=none
section
variable (P:Program)(w:World)
def Xk(H:Hp)(h:Heap)(a:AD):HO->Prop
 |.lst xs=>xs.length<=sizeLine/\∃(its:LF)(n:Nat),Vals xs its/\h.get? a=some {cls:=.type "list",data:=.seq its.toArray n}
 |.tup xs=>xs.length<=sizeLine/\∃ its:LF,Vals xs its/\IsTup h a its.toArray/\ziu h a
 |.dK kvs=>kvs.length<=sizeLine/\(a==sysModules)=false/\∃ vs,KV kvs vs/\h.DictOf (Xy P w) a vs
 |.dT kvs=>kvs.length<=sizeLine/\(a==sysModules)=false/\∃ xs:List (List Key×AD×Value),
   Paired (λ(p:List Key×V)(q:List Key×AD×Value)=>p.1=q.1/\H q.2.1=some (.tup (p.1.map kV))/\RelV p.2 q.2.2) kvs xs/\
   ∃ o es ep,h.get? a=some o/\o.ExactDict/\o.data = .dict es ep/\es.toList=xs.map (entryOfKey (tupleKind (Xy P w)))/\(xs.map (·.1)).Nodup
 |.set S n=>h.SetOf (intKind P w) a S n
 |.ins C dx fs=>H dx=some (.own a)/\fs.length<=1000/\dx≠a/\h.get? a=some (instObj C dx)/\
   ∃ mA,h.Ns1 dx mA/\(∀ f,znX (fs.lookup f) (mA f))/\PySem.Within mA (fs.map (·.1))
 |.own _=>∃ o,h.get? a=some o
 |.xd fs=>∃ mA,h.Ns1 a mA/\∀ f,znX (fs.lookup f) (mA f)
 |.rng lo hi=>∃ t u v,h.get? a=some {cls:=.type "range",data:=.fields #[.int lo t,.int hi u,.int 1 v]}
 |.frz o u=>h.get? a=some o/\Xk H h a u
 |.tbl cr=>∃ ps:Array Value,h.get? a=some {cls:=.none,data:=.fields ps}/\TriplesOk ps.toList/\∀(pos:Pos)(v:Value),codeAmong pos ps.toList=some v->
   ∃(c:AD)(oc:Obj)(q:Str),v = .ref c/\cr pos.line pos.col=some q/\H c=some (.frz oc (.own c))/\zdA oc q
 |.met f x=>h.get? a=some (methodObj (.ref f) (.ref x))
 |.ext φ=>φ h/\(∃ o,h.get? a=some o)/\∀ h1 h2:Heap,φ h1->(∀ o,h1.get? a=some o->h2.get? a=some o)->φ h2
def HOk(H:Hp)(h:Heap):Prop:=∀ a o,H a=some o->Xk P w H h a o
end
section
variable {P:Program}{w:World}{H H' : Hp}{h h' : Heap}{a:AD}{o:HO}
theorem Xk.lt(x:Xk P w H h a o):a<h.objs.size:=by
 cases o with
 |lst xs=>obtain⟨_,_,_,_,e⟩:=x;exact IF e
 |tup xs=>obtain⟨_,_,_,p,_⟩:=x;exact p.lt
 |dK kvs=>obtain⟨_,_,_,_,o,_,_,e,_⟩:=x;exact IF e
 |dT kvs=>obtain⟨_,_,_,_,o,_,_,e,_⟩:=x;exact IF e
 |set S n=>obtain⟨o,_,_,_,e,_⟩:=x;exact IF e
 |ins C dx fs=>obtain⟨_,_,_,e,_⟩:=x;exact IF e
 |own y=>obtain⟨_,e⟩:=x;exact IF e
 |xd fs=>obtain⟨_,⟨_,_,_,e,_⟩,_⟩:=x;exact IF e
 |rng lo hi=>obtain⟨_,_,_,e⟩:=x;exact IF e
 |frz ob u=>obtain⟨e,_⟩:=x;exact IF e
 |tbl cr=>obtain⟨_,e,_⟩:=x;exact IF e
 |met f y=>exact IF (show h.get? a=some _ from x)
 |ext φ=>obtain⟨_,⟨_,e⟩,_⟩:=x;exact IF e
theorem Paired.zot{α β:Type}{F G:α->β->Prop}:∀{l₁:List α}{l₂:List β},Paired F l₁ l₂->(∀ a b,F a b->G a b)->Paired G l₁ l₂
 |_,_,.nil,_=>.nil
 |_,_,.cons r t,f=>.cons (f _ _ r) (Paired.zot t f)
def Xk.stay(x:Xk P w H h a o)(k:∀ b u,(b=a\/H b=some (.own a))->h.get? b=some u->h'.get? b=some u)(ho:∀ b,H b=some (.own a)->H' b=some (.own a))(ht:∀ b xs,H b=some (.tup xs)->H' b=some (.tup xs))(hz:∀ b o u,H b=some (.frz o u)->H' b=some (.frz o u)):Xk P w H' h' a o:=by
 induction o with
 |lst xs=>obtain⟨z,its,n,r,e⟩:=x;exact⟨z,its,n,r,k _ _ (.inl rfl) e⟩
 |tup xs=>obtain⟨z,its,r,⟨ob,e,c⟩,od,e',d'⟩:=x;exact⟨z,its,r,⟨ob,k _ _ (.inl rfl) e,c⟩,od,k _ _ (.inl rfl) e',d'⟩
 |dK kvs=>obtain⟨z,y,vs,r,ob,es,ep,e,c⟩:=x;exact⟨z,y,vs,r,ob,es,ep,k _ _ (.inl rfl) e,c⟩
 |dT kvs=>obtain⟨z,y,xs,r,ob,es,ep,e,c⟩:=x;exact⟨z,y,xs,Paired.zot r λp q z=>⟨z.1,ht _ _ z.2.1,z.2.2⟩,ob,es,ep,k _ _ (.inl rfl) e,c⟩
 |set S n=>obtain⟨ob,es,ep,t,e,c⟩:=x;exact⟨ob,es,ep,t,k _ _ (.inl rfl) e,c⟩
 |ins C dx fs=>obtain⟨d,z,ne,e,mA,⟨od,es,ep,e2,c⟩,r⟩:=x;exact⟨ho _ d,z,ne,k _ _ (.inl rfl) e,mA,⟨od,es,ep,k _ _ (.inr d) e2,c⟩,r⟩
 |own y=>obtain⟨ob,e⟩:=x;exact⟨ob,k _ _ (.inl rfl) e⟩
 |xd fs=>obtain⟨mA,⟨od,es,ep,e,c⟩,r⟩:=x;exact⟨mA,⟨od,es,ep,k _ _ (.inl rfl) e,c⟩,r⟩
 |rng lo hi=>obtain⟨t,u,v,e⟩:=x;exact⟨t,u,v,k _ _ (.inl rfl) e⟩
 |frz ob u ih=>obtain⟨e,q⟩:=x;exact⟨k _ _ (.inl rfl) e,ih q⟩
 |tbl cr=>obtain⟨ps,e,ht3,hc⟩:=x;exact⟨ps,k a _ (.inl rfl) e,ht3,λpos v q=>let ⟨c,oc,z,h1,h2,h3,h4⟩:=hc pos v q;⟨c,oc,z,h1,h2,hz _ _ _ h3,h4⟩⟩
 |met f y=>have e:h.get? a=some (methodObj (.ref f) (.ref y)):=x;show h'.get? a=some (methodObj (.ref f) (.ref y));exact k a _ (.inl rfl) e
 |ext φ=>obtain⟨p,⟨o,e⟩,st⟩:=x;exact⟨st _ _ p λo q=>k _ _ (.inl rfl) q,⟨o,k _ _ (.inl rfl) e⟩,st⟩
theorem HOk.lt(x:HOk P w H h)(e:H a=some o):a<h.objs.size:=(x a o e).lt
def HOk.fresh(x:HOk P w H h)(e:h.objs.size<=a):H a=none:=by
 cases q:H a with
 |none=>rfl
 |some u=>exact absurd (IA (x.lt q) e) (OH _)
def HOk.kept(x:HOk P w H h)(k:∀ b u,h.get? b=some u->h'.get? b=some u):HOk P w H h':=λa o e=>(x a o e).stay (λb u _ q=>k b u q) (λ_ q=>q) (λ_ _ q=>q) λ_ _ _ q=>q
def HOk.laid(x:HOk P w H h)(k:∀ b u,h.get? b=some u->h'.get? b=some u)(hp:h.objs.size<=a)(new:Xk P w (upd H a o) h' a o):HOk P w (upd H a o) h':=λb u e=>by
 have hn:=x.fresh hp;by_cases hb:b=a
 .subst hb;rw[Zo]at e;cases e;exact new
 .rw[Zr hb]at e;exact(x b u e).stay (λc v _ q=>k c v q) (λc q=>by rw[Zr (Zy q hn)];exact q) (λc xs q=>by rw[Zr (Zy q hn)];exact q) λc o u q=>by rw[Zr (Zy q hn)];exact q
end
def Rd(H:Hp)(a:AD)(u:HO):Prop:=H a=some u\/∃ o,H a=some (.frz o u)
def Rd.ok{P:Program}{w:World}{H:Hp}{u:HO}(r:Rd H a u)(x:HOk P w H h):Xk P w H h a u:=by
 rcases r with r | ⟨o,r⟩
 .exact x a u r
 .obtain⟨_,q⟩:=x a _ r;exact q
def Mut:Option HO->Prop
 |some (.lst _)=>True
 |some (.dK _)=>True
 |some (.dT _)=>True
 |some (.set _ _)=>True
 |some (.ins _ _ _)=>True
 |some (.ext _)=>True
 |_=>False
section
variable {P:Program}{w:World}{H:Hp}{h h' : Heap}{x e:AD}{o' : HO}
def HOk.write(ok:HOk P w H h)(mu:Mut (H x))(he:e=x\/H e=some (.own x))(k:∀ b u,b≠e->h.get? b=some u->h'.get? b=some u)(heo:∃ u,h'.get? e=some u)(new:Xk P w (upd H x o') h' x o'):HOk P w (upd H x o') h':=λb u q=>by
 have nown:∀ c y,H c=some (.own y)->c≠x:=λc y r z=>by subst z;rw[r]at mu;exact mu
 have ntup:∀ c xs,H c=some (.tup xs)->c≠x:=λc xs r z=>by subst z;rw[r]at mu;exact mu
 have nfrz:∀ c o u,H c=some (.frz o u)->c≠x:=λc o u r z=>by subst z;rw[r]at mu;exact mu
 by_cases hb:b=x
 .subst hb;rw[Zo]at q;cases q;exact new
 .rw[Zr hb]at q;by_cases hbe:b=e
  .have q' : H b=some (.own x):=by
    rcases he with z | z
    .exact absurd (hbe.trans z) hb
    .rw[hbe];exact z
   rw[q]at q';cases q';obtain⟨v,hv⟩:=heo;exact⟨v,by rw[hbe];exact hv⟩
  .refine(ok b u q).stay (λc v hc r=>k c v ?_ r) (λc r=>by rw[Zr (nown c b r)];exact r) (λc xs r=>by rw[Zr (ntup c xs r)];exact r) λc o u r=>by rw[Zr (nfrz c o u r)];exact r
   rcases hc with rfl | hc
   .exact hbe
   .rintro rfl;rcases he with z | z
    .exact nown c b hc z
    .rw[hc]at z;cases z;exact hb rfl
end
structure Un(fs ex:LH)(H H' : Hp)(h h' : Heap):Prop where
 keep:∀ b o,h.get? b=some o->H b=none->b∉fs->b∉ex->h'.get? b=some o
 slot:∀ b o,h.get? b=some o->H b=none->b∈fs->b∉ex->∃ sl,h'.get? b=some {o with slots:=sl}
 free:∀ b o,h.get? b=some o->H b=none->b∉ex->H' b=none
 there:∀ b o,h.get? b=some o->b∉ex->∃ o',h'.get? b=some o'
 tups:∀ b xs,H b=some (.tup xs)->H' b=some (.tup xs)
 frzs:∀ b o u,H b=some (.frz o u)->H' b=some (.frz o u)
 tbls:∀ b cr,H b=some (.tbl cr)->H' b=some (.tbl cr)
section
variable {fs fs' ex ex' : LH}{H H1 H2:Hp}{h h1 h2 h' : Heap}{a x e:AD}{o:HO}
def Un.any(u:Un fs ex H H1 h h1){ob:Obj}(q:h.get? b=some ob)(n:H b=none)(hx:b∉ex):∃ sl,h1.get? b=some {ob with slots:=sl}:=by
 by_cases hb:b∈fs
 .exact u.slot b ob q n hb hx
 .exact⟨ob.slots,u.keep b ob q n hb hx⟩
def Un.kept(k:∀ b u,h.get? b=some u->h'.get? b=some u):Un fs ex H H h h' :=⟨λb ob q _ _ _=>k b ob q,λb ob q _ _ _=>⟨ob.slots,k b ob q⟩,λ_ _ _ n _=>n,λb ob q _=>⟨ob,k b ob q⟩,λ_ _ q=>q,λ_ _ _ q=>q,λ_ _ q=>q⟩
def Un.refl:Un fs ex H H h h:=Un.kept λ_ _ q=>q
def Un.laid(k:∀ b u,h.get? b=some u->h'.get? b=some u)(hp:h.objs.size<=a)(hn:H a=none):Un fs ex H (upd H a o) h h' where
 keep:=λb u q _ _ _=>k b u q
 slot:=λb u q _ _ _=>⟨u.slots,k b u q⟩
 free:=λb u q n _=>by rw[Zr (IS (IA (IF q) hp))];exact n
 there:=λb u q _=>⟨u,k b u q⟩
 tups:=λb xs q=>by rw[Zr (Zy q hn)];exact q
 frzs:=λb u xs q=>by rw[Zr (Zy q hn)];exact q
 tbls:=λb cr q=>by rw[Zr (Zy q hn)];exact q
def Un.write(mu:Mut (H x))(he:e=x\/H e=some (.own x))(k:∀ b u,b≠e->h.get? b=some u->h'.get? b=some u)(heo:∃ u,h'.get? e=some u):Un fs ex H (upd H x o) h h':=by
 have hx:∀ b,H b=none->b≠x:=λb n z=>by subst z;rw[n]at mu;exact mu
 have hb:∀ b,H b=none->b≠e:=λb n z=>by
  subst z;rcases he with r | r
  .exact hx b n r
  .rw[n]at r;cases r
 have hm:∀ b u,H b=some u->¬ Mut (some u)->b≠x:=λb u q nm z=>by subst z;rw[q]at mu;exact nm mu
 refine⟨λb u q n _ _=>k b u (hb b n) q,λb u q n _ _=>⟨u.slots,k b u (hb b n) q⟩,λb u q n _=>by rw[Zr (hx b n)];exact n,λb u q _=>?_,
  λb xs q=>by rw[Zr (hm b _ q λz=>z)];exact q,λb u xs q=>by rw[Zr (hm b _ q λz=>z)];exact q,λb cr q=>by rw[Zr (hm b _ q λz=>z)];exact q⟩
 by_cases hbe:b=e
 .subst hbe;exact heo
 .exact⟨u,k b u hbe q⟩
end
noncomputable def trk(h:Heap)(H:Hp):LH:=(List.range h.objs.size).filter λa=>(H a).isSome
noncomputable def zgU(h:Heap)(H:Hp):Heap:=PySem.W.hideAll h (trk h H)
def ze0(h:Heap)(H:Hp):(zgU h H).objs.size=h.objs.size:=PySem.W.hideAll_size _ _
def zha{H:Hp}{o:Obj}(e:h.get? b=some o)(n:H b=none):(zgU h H).get? b=some o:=
 PySem.W.hideAll_get _ e λhm=>by have q:(H b).isSome=true:=(mem_filter.mp hm).2;rw[n]at q;simp at q
def zjl{H:Hp}{o:Obj}(e:(zgU h H).get? b=some o):h.get? b=some o/\H b=none:=by
 have e' : h.get? b=some o:=PySem.W.of_hideAll (trk h H) e;refine⟨e',?_⟩;cases q:H b with
 |none=>rfl
 |some x=>have hm:b∈trk h H:=mem_filter.mpr ⟨OP.mpr (IF e'),by simp[q]⟩;have z:(zgU h H).get? b=none:=PySem.W.hideAll_none (trk h H) hm;rw[z]at e;cases e
structure Mod(K:FG)(mg:Str->LG)(base:Heap):Prop where
 kin:K.In base
 glob:base.Ns mainGlobals mg
 blt:∃ mb,base.Ns builtinsNs mb/\∀ x:Str,x≠ "__name__" -> mb x=bootBuiltins x
 nolimit:base.NoLimit
structure Cx where
 prog:Program
 w:World
 K:FG
 mg:Str->LG
 base:Heap
 A:Around
 N:LB
 s₀:SH
 H₀:Hp
 env:Env
 outer:LJ
 stack:LJ
 ex:LH
 fn:Str->Bool
 calm:Bool
 pn:List (Addr×Obj)
 xe:Value->SH->Prop
noncomputable def frs(l:LJ):LH:=l.filterMap (·.frame)
abbrev Cx.fs(X:Cx):LH:=frs X.outer
def Vis(sc:Scope)(x:Str):Prop:=sc.names.lookup x=some .local\/sc.names.lookup x=some .cell\/sc.names.lookup x=some .free
def Loc(sc:Scope)(x:Str):Prop:=sc.names.lookup x=some .local\/sc.names.lookup x=some .cell
def Look(env:Env)(h:Heap)(m:Str->LG)(x:Str)(u:Value):Prop:=(env.kindOf x=some .local/\m x=some u)\/((env.kindOf x=some .cell\/env.kindOf x=some .free)/\∃ c,env.cells.lookup x=some c/\h.IsCell c (some u))
structure Cx.Ok(X:Cx):Prop where
 mod:Mod X.K X.mg X.base
 kind:X.env.scope.kind = .function
 glob:X.env.globals=mainGlobals
 blt:X.env.builtins=builtinsNs
 above:X.s₀.heap.objs.size<=X.env.locals
 inj:∀ x y c,X.env.cells.lookup x=some c->X.env.cells.lookup y=some c->x=y
 has:∀ x,(X.env.kindOf x=some .cell\/X.env.kindOf x=some .free)->∃ c,X.env.cells.lookup x=some c
 cab:∀ x c,X.fn x=true->X.env.cells.lookup x=some c->X.s₀.heap.objs.size<=c
 hd:X.calm=true->X.A.handled=none
 frames:X.A.frames=some X.stack
 stk:X.stack=X.outer\/(X.stack=X.env::X.outer/\X.env.frame=some X.env.locals)
 exf:∀ b∈X.ex,b≠X.env.locals/\∀ x c,X.env.cells.lookup x=some c->c≠b
 bs:∀ b o,X.base.get? b=some o->X.s₀.heap.get? b=some o/\X.H₀ b=none
 bsz:X.base.objs.size<=X.s₀.heap.objs.size
 noex:∀ b o,X.base.get? b=some o->b∉X.ex
 exfs:∀ b∈X.ex,b∉X.fs
 zdr:X.s₀.heap.FunFrames X.base X.outer
 frf:∀ b∈X.fs,X.H₀ b=none
structure Inv(X:Cx)(aa:List (Addr×Obj))(σ:List (Option V))(H:Hp)(s:SH):Prop where
 ok:X.Ok
 os:s.os=X.s₀.os
 bare:AllBare s.gens
 base:Un X.fs X.ex X.H₀ H X.s₀.heap s.heap
 loc:∃ m,s.heap.Ns X.env.locals m/\∀(i:Nat)(x:Str)(v:V),X.N[i]?=some x->σ[i]?=some (some v)->Vis X.env.scope x->∃ u,RelV v u/\Look X.env s.heap m x u
 cell:∀ x c,X.env.cells.lookup x=some c->∃ v,s.heap.IsCell c v
 free:H X.env.locals=none
 freeC:∀ x c,X.env.cells.lookup x=some c->H c=none
 pin:∀ p∈X.pn++aa,s.heap.get? p.1=some p.2/\H p.1=none/\p.1≠X.env.locals/\p.1∉X.fs/\∀ v,p.2.data≠.cell v
 ad:HOk X.prog X.w H s.heap
 len:σ.length=X.N.length
section
variable {X:Cx}{aa:List (Addr×Obj)}{σ:List (Option V)}{H H' : Hp}{s:SH}{h' : Heap}
def Cx.Ok.zo6(ok:X.Ok){o:Obj}(e:X.base.get? b=some o):b∉X.fs:=λhb=>by have:=(ok.zdr.mem hb).1;rw[e]at this;cases this
theorem Inv.bs(I:Inv X aa σ H s):∀ b o,X.base.get? b=some o->s.heap.get? b=some o/\H b=none:=λb o e=>⟨I.base.keep b o (I.ok.bs b o e).1 (I.ok.bs b o e).2 (I.ok.zo6 e) (I.ok.noex b o e),I.base.free b o (I.ok.bs b o e).1 (I.ok.bs b o e).2 (I.ok.noex b o e)⟩
def Inv.bk(I:Inv X aa σ H s):∀ b o,X.base.get? b=some o->s.heap.get? b=some o:=λb o e=>(I.bs b o e).1
theorem Inv.mod(I:Inv X aa σ H s):Mod X.K X.mg X.base:=I.ok.mod
def Inv.kIn(I:Inv X aa σ H s):X.K.In s.heap:=I.ok.mod.kin.keeps I.bk
def Inv.fr(I:Inv X aa σ H s):∃ m,Fr X.base X.env.locals s.heap m:=
 let ⟨m,hn,_⟩:=I.loc
 ⟨m,hn,I.bk,ND I.ok.bsz I.ok.above⟩
theorem Inv.lt(I:Inv X aa σ H s):X.env.locals<s.heap.objs.size:=let ⟨_,hn,_⟩:=I.loc;hn.lt
def Inv.sz(I:Inv X aa σ H s):X.s₀.heap.objs.size<=s.heap.objs.size:=ND I.ok.above (Oz I.lt)
def Inv.zo9(I:Inv X aa σ H s)(h:s.heap.objs.size<=a):a∉X.fs:=λhb=>by obtain⟨_,o,ho,_⟩:=I.ok.zdr.mem hb;exact absurd (IA (IF ho) (ND I.sz h)) (OH _)
def Inv.cne(I:Inv X aa σ H s):∀ x c,X.env.cells.lookup x=some c->c≠X.env.locals:=λx c e z=>by obtain⟨v,o,ho,hd⟩:=I.cell x c e;obtain⟨m,⟨o',es,ep,ho',hd',_⟩,_⟩:=I.loc;rw[z,ho']at ho;cases ho;rw[hd']at hd;cases hd
theorem Inv.zdr(I:Inv X aa σ H s):s.heap.FunFrames X.base X.outer:=by
 have all:∀(l:LJ),(∀ b∈frs l,b∈X.fs)->X.s₀.heap.FunFrames X.base l->s.heap.FunFrames X.base l:=by
  intro l
  induction l with
  |nil=>intro _ _;trivial
  |cons env r ih=>intro hs hl;obtain⟨hk,⟨L,o,hf,hn,ho,hd⟩,hr⟩:=hl;have hL:L∈X.fs:=hs L (by unfold frs;rw[NC,hf];exact ID);obtain⟨sl,e⟩:=I.base.slot L o ho (I.ok.frf L hL) hL λz=>I.ok.exfs L z hL;exact⟨hk,⟨L,_,hf,hn,e,hd⟩,ih (λb hb=>hs b (by unfold frs;rw[NC,hf];exact Iy _ hb)) hr⟩
 exact all X.outer (λ_ hb=>hb) I.ok.zdr
theorem Inv.stack(I:Inv X aa σ H s):s.heap.FunFrames X.base X.stack:=by
 rcases I.ok.stk with e | ⟨e,hf⟩
 .rw[e];exact I.zdr
 .rw[e];obtain⟨m,hn,_⟩:=I.loc;refine .cons (by rw[I.ok.kind];decide) hf hn ?_ I.zdr;exact Heap.get?_none_of_le (ND I.ok.bsz I.ok.above)
def Inv.zga(I:Inv X aa σ H s):∀ b∈frs X.stack,b∈X.env.locals::X.fs:=λb hb=>by
 rcases I.ok.stk with e | ⟨e,hf⟩
 .rw[e]at hb;exact Iy _ hb
 .rw[e]at hb;unfold frs at hb;rw[NC,hf]at hb;exact hb
def Inv.zgm(I:Inv X aa σ H s):∀ b∈frs X.stack,H b=none:=λb hb=>by
 rcases IE.mp (I.zga b hb)with e | hb
 .rw[e];exact I.free
 .obtain⟨_,o,ho,_⟩:=I.ok.zdr.mem hb;exact I.base.free b o ho (I.ok.frf b hb) λz=>I.ok.exfs b z hb
def Inv.step{g' : Array GenState}{d' : Drawn}(I:Inv X aa σ H s)(hch:∀ b∈ch,(b∈X.ex\/X.s₀.heap.objs.size<=b)/\b≠X.env.locals/\(∀ x c,X.env.cells.lookup x=some c->c≠b)/\∀ p∈X.pn++aa,p.1≠b)(keep:∀ b o,b≠X.env.locals->b∉X.fs->b∉ch->s.heap.get? b=some o->H b=none->h'.get? b=some o)(slot:∀ b o,b≠X.env.locals->b∈X.fs->b∉ch->s.heap.get? b=some o->H b=none->∃ sl,h'.get? b=some {o with slots:=sl})(free:∀ b o,b∉ch->s.heap.get? b=some o->H b=none->H' b=none)(there:∀ b o,b∉ch->s.heap.get? b=some o->∃ o',h'.get? b=some o')(tups:∀ b xs,H b=some (.tup xs)->H' b=some (.tup xs))(frzs:∀ b o u,H b=some (.frz o u)->H' b=some (.frz o u))(tbls:∀ b cr,H b=some (.tbl cr)->H' b=some (.tbl cr))(ns:∀ m,s.heap.Ns X.env.locals m->h'.Ns X.env.locals m)(ad:HOk X.prog X.w H' h')(hg:AllBare g'):
  Inv X aa σ H' {s with heap:=h',gens:=g',drawn:=d',toks:=t'}:=by
 have neL:∀ b o,X.s₀.heap.get? b=some o->b≠X.env.locals:=λb o e=>IS (IA (IF e) I.ok.above);have neC:∀ b o,X.s₀.heap.get? b=some o->b∉X.ex->b∉ch:=λb o e hx hb=>by
  rcases(hch b hb).1 with z | z
  .exact hx z
  .exact absurd (IA (IF e) z) (OH _)
 have cellK:∀ x c,X.env.cells.lookup x=some c->∀ v,s.heap.IsCell c v->h'.IsCell c v:=λx c e v ⟨o,ho,hd⟩=>by
  have nch:c∉ch:=λz=>(hch c z).2.2.1 x c e rfl;by_cases hc:c∈X.fs
  .obtain⟨sl,q⟩:=slot c o (I.cne x c e) hc nch ho (I.freeC x c e);exact⟨_,q,hd⟩
  .exact⟨o,keep c o (I.cne x c e) hc nch ho (I.freeC x c e),hd⟩
 refine⟨I.ok,I.os,hg,⟨λb o e n hb hx=>?_,λb o e n hb hx=>?_,λb o e n hx=>?_,λb o e hx=>?_,λb xs e=>tups b xs (I.base.tups b xs e),λb o xs e=>frzs b o xs (I.base.frzs b o xs e),λb ps e=>?_⟩,?_,λx c e=>?_,?_,λx c e=>?_,λp hp=>?_,ad,I.len⟩
 .exact keep b o (neL b o e) hb (neC b o e hx) (I.base.keep b o e n hb hx) (I.base.free b o e n hx)
 .obtain⟨sl,e1⟩:=I.base.slot b o e n hb hx;obtain⟨sl',e2⟩:=slot b _ (neL b o e) hb (neC b o e hx) e1 (I.base.free b o e n hx);exact⟨sl',e2⟩
 .obtain⟨o',e1⟩:=I.base.there b o e hx;exact free b o' (neC b o e hx) e1 (I.base.free b o e n hx)
 .obtain⟨o',e1⟩:=I.base.there b o e hx;exact there b o' (neC b o e hx) e1
 .exact tbls b ps (I.base.tbls b ps e)
 .obtain⟨m,hn,hl⟩:=I.loc;refine⟨m,ns m hn,λi x v e1 e2 e3=>?_⟩;obtain⟨u,r,l⟩:=hl i x v e1 e2 e3;refine⟨u,r,?_⟩;rcases l with l | ⟨k,c,e,z⟩
  .exact .inl l
  .exact .inr ⟨k,c,e,cellK x c e _ z⟩
 .obtain⟨v,z⟩:=I.cell x c e;exact⟨v,cellK x c e v z⟩
 .obtain⟨m,⟨o,_,_,ho,_⟩,_⟩:=I.loc;exact free _ o (λz=>(hch _ z).2.1 rfl) ho I.free
 .obtain⟨v,o,ho,hd⟩:=I.cell x c e;exact free c o (λz=>(hch c z).2.2.1 x c e rfl) ho (I.freeC x c e)
 .obtain⟨e,n,ne,nf,d⟩:=I.pin p hp;have nch:p.1∉ch:=λz=>(hch p.1 z).2.2.2 p hp rfl;exact⟨keep p.1 p.2 ne nf nch e n,free p.1 p.2 nch e n,ne,nf,d⟩
def Inv.un(I:Inv X aa σ H s)(u:Un X.fs [] H H' s.heap h')(ad:HOk X.prog X.w H' h'):Inv X aa σ H' {s with heap:=h',toks:=t'}:=by
 obtain⟨m,⟨o,es,ep,ho,r⟩,_⟩:=id I.loc;obtain⟨sl,hL⟩:=u.any ho I.free (by simp);exact I.step (g':=s.gens) (d':=s.drawn) (ch:=[]) (λ_ z=>nomatch z) (λb o _ hb _ e n=>u.keep b o e n hb (by simp)) (λb o _ hb _ e n=>u.slot b o e n hb (by simp)) (λb o _ e n=>u.free b o e n (by simp)) (λb o _ e=>u.there b o e (by simp)) u.tups u.frzs u.tbls (λm' hm=>by
  obtain⟨o',es',ep',ho',r'⟩:=hm;rw[ho]at ho';cases ho';exact⟨_,es',ep',hL,r'⟩) ad I.bare
def Inv.call{g' : Array GenState}{d' : Drawn}(I:Inv X aa σ H s)(u:Un (frs X.stack) ch H H' s.heap h')(ad:HOk X.prog X.w H' h')(hg:AllBare g')(hch:∀ b∈ch,(b∈X.ex\/X.s₀.heap.objs.size<=b)/\b≠X.env.locals/\(∀ x c,X.env.cells.lookup x=some c->c≠b)/\∀ p∈X.pn++aa,p.1≠b):
  Inv X aa σ H' {s with heap:=h',gens:=g',drawn:=d',toks:=t'}:=by
 obtain⟨m,⟨o,es,ep,ho,r⟩,_⟩:=id I.loc;obtain⟨sl,hL⟩:=u.any ho I.free λz=>(hch _ z).2.1 rfl;exact I.step (ch:=ch) hch (λb o hL hb hc e n=>u.keep b o e n (λz=>(IE.mp (I.zga b z)).elim hL hb) hc) (λb o _ _ hc e n=>u.any e n hc) (λb o hc e n=>u.free b o e n hc) (λb o hc e=>u.there b o e hc) u.tups u.frzs u.tbls (λm' hm=>by
  obtain⟨o',es',ep',ho',r'⟩:=hm;rw[ho]at ho';cases ho';exact⟨_,es',ep',hL,r'⟩) ad hg
def Inv.turned{it:AD}(I:Inv X aa σ H s)(k:∀ b o,b≠it->s.heap.get? b=some o->h'.get? b=some o)(hn:H it=none)(hL:it≠X.env.locals)(h1:it∈X.ex\/X.s₀.heap.objs.size<=it)(h2:∀ x c,X.env.cells.lookup x=some c->c≠it)(h3:∀ p∈X.pn++aa,p.1≠it):Inv X aa σ H {s with heap:=h',toks:=t'}:=by
 have nit:∀ b u,H b=some u->b≠it:=λb u e z=>by rw[z,hn]at e;cases e
 refine I.step (g':=s.gens) (d':=s.drawn) (ch:=[it]) (λb hb=>?_) (λb o _ _ hc e _=>k b o (λz=>hc (by simp[z])) e) (λb o _ _ hc e _=>⟨o.slots,k b o (λz=>hc (by simp[z])) e⟩) (λ_ _ _ _ n=>n)
  (λb o hc e=>⟨o,k b o (λz=>hc (by simp[z])) e⟩) (λ_ _ e=>e) (λ_ _ _ e=>e) (λ_ _ e=>e) (λm hm=>?_) (λb u e=>?_) I.bare
 .have e:b=it:=by simpa using hb
  subst e;exact⟨h1,hL,h2,h3⟩
 .obtain⟨o,es,ep,ho,r⟩:=hm;exact⟨o,es,ep,k _ o (Ne.symm hL) ho,r⟩
 .refine(I.ad b u e).stay (λc v hc q=>k c v ?_ q) (λ_ q=>q) (λ_ _ q=>q) λ_ _ _ q=>q;rcases hc with z | z
  .rw[z];exact nit b u e
  .exact nit c _ z
def Inv.tok(I:Inv X aa σ H s)(t:Nat):Inv X aa σ H {s with toks:=t}:=I.un (h':=s.heap) (t':=t) Un.refl I.ad
theorem Inv.kept(I:Inv X aa σ H s)(k:∀ b u,s.heap.get? b=some u->h'.get? b=some u):Inv X aa σ H {s with heap:=h',toks:=t'}:=I.un (Un.kept k) (I.ad.kept k)
theorem Inv.laid{o:HO}(I:Inv X aa σ H s)(k:∀ b u,s.heap.get? b=some u->h'.get? b=some u)(hp:s.heap.objs.size<=a)(new:Xk X.prog X.w (upd H a o) h' a o):
  Inv X aa σ (upd H a o) {s with heap:=h',toks:=t'}:=I.un (Un.laid k hp (I.ad.fresh hp)) (I.ad.laid k hp new)
theorem Inv.write{x e:AD}{o:HO}(I:Inv X aa σ H s)(mu:Mut (H x))(he:e=x\/H e=some (.own x))(k:∀ b u,b≠e->s.heap.get? b=some u->h'.get? b=some u)(heo:∃ u,h'.get? e=some u)(new:Xk X.prog X.w (upd H x o) h' x o):Inv X aa σ (upd H x o) {s with heap:=h',toks:=t'}:=I.un (Un.write mu he k heo) (I.ad.write mu he k heo new)
def Inv.VV{pins' : List (Addr×Obj)}(I:Inv X aa σ H s)(h:∀ p∈pins',s.heap.get? p.1=some p.2/\H p.1=none/\p.1≠X.env.locals/\p.1∉X.fs/\∀ v,p.2.data≠.cell v):Inv X pins' σ H s:=⟨I.ok,I.os,I.bare,I.base,I.loc,I.cell,I.free,I.freeC,λp hp=>(Nq.mp hp).elim (λz=>I.pin p (List.mem_append_left _ z)) (h p),I.ad,I.len⟩
def zdO{N:LB}(hN:N.Nodup)(a:N[i]?=some x)(b:N[j]?=some x):i=j:=by obtain⟨h1,e1⟩:=Il.mp a;obtain⟨h2,e2⟩:=Il.mp b;exact(List.getElem_inj hN).mp (e1.trans e2.symm)
def zgR{v:V}{Q:Unit->SH->Prop}(I:Inv X aa σ H s)(hN:X.N.Nodup)(hi:X.N[i]?=some x)(hx:Loc X.env.scope x)(r:RelV v u)(h:∀ s',Inv X aa (σ.set i (some v)) H s' -> (∃ a,SameBut a s.heap s'.heap/\(a=X.env.locals\/X.env.cells.lookup x=some a))->Q () s')(hf:X.fn x=true\/X.env.scope.names.lookup x=some .local:=by first | exact .inl rfl | exact .inr rfl | assumption):wpAny M A (storeName X.env x u) Q E s:=by
 obtain⟨m,hn,hl⟩:=id I.loc;have hcls:(X.env.scope.kind == .class||(X.env.scope.kind == .module&&X.env.locals != X.env.globals))=false:=by rw[I.ok.kind];rfl
 have hiσ:i<σ.length:=by rw[I.len];exact(Il.mp hi).1
 have cne:=I.cne;have tracked:∀{a:AD}{h' : Heap},(∃ o,s.heap.get? a=some o/\H a=none)->SameBut a s.heap h' -> HOk X.prog X.w H h':=λ{a h'} ha hs b ob e=>by
  obtain⟨_,_,hfree⟩:=ha;refine(I.ad b ob e).stay (λc w' hc q=>(hs.2 c ?_).trans q) (λ_ q=>q) (λ_ _ q=>q) λ_ _ _ q=>q;rintro rfl;rcases hc with rfl | hc
  .rw[hfree]at e;cases e
  .rw[hfree]at hc;cases hc
 rcases hx with hk | hk
 .refine wpAny_storeName_local hk hn (λh' hn' hs=>?_) hcls;obtain⟨oL,_,_,hoL,_⟩:=id hn;refine h _ ⟨I.ok,I.os,I.bare,⟨λb o e n hb hx=>?_,λb o e n hb hx=>?_,I.base.free,λb o e hx=>?_,I.base.tups,I.base.frzs,I.base.tbls⟩,⟨_,hn',λj y v' e1 e2 e3=>?_⟩,λy c e=>?_,I.free,I.freeC,λp hp=>?_,tracked ⟨oL,hoL,I.free⟩ hs,by simpa using I.len⟩ ⟨_,hs,.inl rfl⟩
  .exact(hs.2 b (IS (IA (IF e) I.ok.above))).trans (I.base.keep b o e n hb hx)
  .obtain⟨sl,e1⟩:=I.base.slot b o e n hb hx;exact⟨sl,(hs.2 b (IS (IA (IF e) I.ok.above))).trans e1⟩
  .obtain⟨o',e1⟩:=I.base.there b o e hx;exact⟨o',(hs.2 b (IS (IA (IF e) I.ok.above))).trans e1⟩
  .by_cases hj:j=i
   .subst hj;rw[hi]at e1;cases e1;rw[IY hiσ]at e2;cases e2;exact⟨u,r,.inl ⟨hk,(by simp)⟩⟩
   .rw[I9 (Ne.symm hj)]at e2;obtain⟨u',r',q⟩:=hl j y v' e1 e2 e3;refine⟨u',r',?_⟩;rcases q with⟨k,e⟩ | ⟨k,c,e,z⟩
    .refine .inl ⟨k,?_⟩;have:y≠x:=λe=>hj (zdO hN e1 (e ▸ hi));simp[this,e]
    .exact .inr ⟨k,c,e,z.sameBut hs (cne y c e)⟩
  .obtain⟨w',z⟩:=I.cell y c e;exact⟨w',z.sameBut hs (cne y c e)⟩
  .obtain⟨e,n,ne,nf,d⟩:=I.pin p hp;exact⟨(hs.2 p.1 ne).trans e,n,ne,nf,d⟩
 .have hfn:X.fn x=true:=by
   rcases hf with z | z
   .exact z
   .rw[z]at hk;cases hk
  obtain⟨c,hc⟩:=I.ok.has x (.inl hk);obtain⟨w',z⟩:=I.cell x c hc;refine wpAny_storeName_cell I.ok.kind hk hc z (λh' hc' hs=>?_);obtain⟨oc,hoc,hocd⟩:=id z;refine h {s with heap:=h'} ⟨I.ok,I.os,I.bare,⟨λb o e n hb hx=>?_,λb o e n hb hx=>?_,I.base.free,λb o e hx=>?_,I.base.tups,I.base.frzs,I.base.tbls⟩,⟨m,hn.sameBut hs (Ne.symm (cne x c hc)),λj y v' e1 e2 e3=>?_⟩,λy c' e=>?_,I.free,I.freeC,λp hp=>?_,tracked ⟨oc,hoc,I.freeC x c hc⟩ hs,by simpa using I.len⟩ ⟨c,hs,.inr hc⟩
  .exact(hs.2 b (IS (IA (IF e) (I.ok.cab x c hfn hc)))).trans (I.base.keep b o e n hb hx)
  .obtain⟨sl,e1⟩:=I.base.slot b o e n hb hx;exact⟨sl,(hs.2 b (IS (IA (IF e) (I.ok.cab x c hfn hc)))).trans e1⟩
  .obtain⟨o',e1⟩:=I.base.there b o e hx;exact⟨o',(hs.2 b (IS (IA (IF e) (I.ok.cab x c hfn hc)))).trans e1⟩
  .by_cases hj:j=i
   .subst hj;rw[hi]at e1;cases e1;rw[IY hiσ]at e2;cases e2;exact⟨u,r,.inr ⟨.inl hk,c,hc,hc'⟩⟩
   .rw[I9 (Ne.symm hj)]at e2;obtain⟨u',r',q⟩:=hl j y v' e1 e2 e3;refine⟨u',r',?_⟩;rcases q with q | ⟨k,c',e,z'⟩
    .exact .inl q
    .refine .inr ⟨k,c',e,z'.sameBut hs ?_⟩;rintro rfl;exact hj (zdO hN e1 (I.ok.inj _ _ _ e hc ▸ hi))
  .by_cases hcc:c'=c
   .subst hcc;exact⟨_,hc'⟩
   .obtain⟨w2,z2⟩:=I.cell y c' e;exact⟨w2,z2.sameBut hs hcc⟩
  .obtain⟨e,n,ne,nf,d⟩:=I.pin p hp;refine⟨(hs.2 p.1 ?_).trans e,n,ne,nf,d⟩;intro q;rw[q,hoc]at e;have q' : oc=p.2:=Iu e;exact d w' (by rw[← q'];exact hocd)
def JZ{v:V}{Q:Unit->SH->Prop}(I:Inv X aa σ H s)(hN:X.N.Nodup)(hi:X.N[i]?=some x)(hx:Loc X.env.scope x)(r:RelV v u)(h:∀ s',Inv X aa (σ.set i (some v)) H s' -> Q () s')(hf:X.fn x=true\/X.env.scope.names.lookup x=some .local:=by first | exact .inl rfl | exact .inr rfl | assumption):wpAny M A (storeName X.env x u) Q E s:=
 zgR I hN hi hx r (λs' I' _=>h s' I') hf
def Inv.call'{s' : SH}(I:Inv X aa σ H s)(ho:s'.os=s.os)(u:Un (frs X.stack) ch H H' s.heap s'.heap)(ad:HOk X.prog X.w H' s'.heap)(hg:AllBare s'.gens)(hch:∀ b∈ch,(b∈X.ex\/X.s₀.heap.objs.size<=b)/\b≠X.env.locals/\(∀ x c,X.env.cells.lookup x=some c->c≠b)/\∀ p∈X.pn++aa,p.1≠b):Inv X aa σ H' s':=by
 obtain⟨h',g',d',t',o'⟩:=s';have e:o'=s.os:=ho;subst e;exact I.call (g':=g') (t':=t') (d':=d') u ad hg hch
end
abbrev XK:=Value->Option AD->Hp->Prop
abbrev St:=List (Option V)
abbrev VK:=V->Hp->Prop
abbrev TE:=St->Hp->VK->Prop
abbrev TT:=St->Hp->(Bool->Hp->Prop)->Prop
abbrev TA:=St->Hp->(LC->Hp->Prop)->Prop
structure Ends where
 nx:St->Hp->Prop
 rt:VK
 bk:St->Hp->Prop:=λ_ _=>False
 ct:St->Hp->Prop:=λ_ _=>False
abbrev TS:=Ends->St->Hp->Prop
def EP(X:Cx)(aa:List (Addr×Obj))(σ:St)(Q:VK)(u:Value)(s' : SH):Prop:=∃ v H',Inv X aa σ H' s' /\ RelV v u/\Q v H'
def TP(X:Cx)(aa:List (Addr×Obj))(σ:St)(Q:Bool->Hp->Prop)(b:Bool)(s' : SH):Prop:=∃ H',Inv X aa σ H' s' /\ Q b H'
def AP(X:Cx)(aa:List (Addr×Obj))(σ:St)(Q:LC->Hp->Prop)(us:LF)(s' : SH):Prop:=∃ vs H',Inv X aa σ H' s' /\ Vals vs us/\Q vs H'
def SP(X:Cx)(aa:List (Addr×Obj))(D:Ends)(f:Flow)(s' : SH):Prop:=
 match f with
 |.next=>∃ σ' H',Inv X aa σ' H' s' /\ D.nx σ' H'
 |.brk=>∃ σ' H',Inv X aa σ' H' s' /\ D.bk σ' H'
 |.cont=>∃ σ' H',Inv X aa σ' H' s' /\ D.ct σ' H'
 |.ret u=>∃ v σ' H',Inv X aa σ' H' s' /\ RelV v u/\D.rt v H'
def PE(X:Cx)(e:Expr)(t:TE):Prop:=∀(aa:List (Addr×Obj))(s:SH)(σ:St)(H:Hp)(Q:VK),Inv X aa σ H s->t σ H Q->wpAny (model X.prog X.w) X.A (eval e X.env) (EP X aa σ Q) X.xe s
def PT(X:Cx)(e:Expr)(t:TT):Prop:=∀(aa:List (Addr×Obj))(s:SH)(σ:St)(H:Hp)(Q:Bool->Hp->Prop),Inv X aa σ H s->t σ H Q->wpAny (model X.prog X.w) X.A (isTrue e X.env (eval e X.env)) (TP X aa σ Q) X.xe s
def PW(X:Cx)(e:Expr)(t:TT):Prop:=∀(whole:Sem Value)(aa:List (Addr×Obj))(s:SH)(σ:St)(H:Hp)(Q:Bool->Hp->Prop),Inv X aa σ H s->t σ H Q->wpAny (model X.prog X.w) X.A (isTrue e X.env whole) (TP X aa σ Q) X.xe s
def PW.pt{X:Cx}{t:TT}(h:PW X e t):PT X e t:=h _
def PA(X:Cx)(es:List Expr)(t:TA):Prop:=∀(pos:Pos)(aa:List (Addr×Obj))(s:SH)(σ:St)(H:Hp)(Q:LC->Hp->Prop),Inv X aa σ H s->t σ H Q->wpAny (model X.prog X.w) X.A (spliced (backTo pos (starEach es X.env))) (AP X aa σ Q) X.xe s
def PS(X:Cx)(st:Stmt)(t:TS):Prop:=∀(aa:List (Addr×Obj))(s:SH)(σ:St)(H:Hp)(D:Ends),Inv X aa σ H s->t D σ H->wpAny (model X.prog X.w) X.A (exec st X.env) (SP X aa D) X.xe s
def PSs(X:Cx)(st:List Stmt)(t:TS):Prop:=∀(aa:List (Addr×Obj))(s:SH)(σ:St)(H:Hp)(D:Ends),Inv X aa σ H s->t D σ H->wpAny (model X.prog X.w) X.A (execs st X.env) (SP X aa D) X.xe s
def thn{α:Type}{t:Sem α}{Q Q' : α->SH->Prop}(h:wpAny M A t Q E s)(hQ:∀ a s,Q a s->Q' a s):wpAny M A t Q' E s:=NJ h hQ λ_ _ x=>x
section
variable {X:Cx}
def Wj(i:Nat):TE:=fun σ H Q=>∃ v,σ[i]?=some (some v)/\Q v H
def tC(v:V):TE:=λ_ H Q=>Q v H
def zgD(hN:X.N[i]?=some x)(hv:Vis X.env.scope x)(hd:(x==("__debug__" : Str))=false:=by decide)(hcd:(x==("__classdict__" : Str))=false:=by decide):PE X (.Name x pos) (Wj i):=by
 intro aa s σ H Q I h;obtain⟨v,e,h⟩:=h;obtain⟨m,hn,hl⟩:=I.loc;obtain⟨u,r,l⟩:=hl i x v hN e hv;have fin:EP X aa σ Q u s:=⟨v,H,I,r,h⟩
 rcases l with⟨hk,hm⟩ | ⟨hk,c,hc,hcell⟩
 .exact wpAny_Name (wpAny_loadName_local I.ok.kind hk hn hm fin) hd
 .rcases hk with hk | hk
  .exact wpAny_Name (wpAny_loadName_cell I.ok.kind hk hc hcell fin) hd
  .exact wpAny_Name (wpAny_loadName_free I.ok.kind hk hc hcell fin hcd) hd
def Zi{i j pos}:PE X (.Constant (.int i) j pos) (tC (.int i)):=λ_ _ _ H _ I h=>wpAny_Constant_int ⟨.int i,H,I.tok _,⟨_,rfl⟩,h⟩
def VR{b j pos}:PE X (.Constant (.bool b) j pos) (tC (.bl b)):=λ_ _ _ H _ I h=>Constant_bool ⟨.bl b,H,I,rfl,h⟩
def zaj{j pos}:PE X (.Constant .none j pos) (tC .non):=λ_ _ _ H _ I h=>Constant_none ⟨.non,H,I,rfl,h⟩
def ZD{x j pos}:PE X (.Constant (.str x) j pos) (tC (.str x)):=λ_ _ _ H _ I h=>Calls.Constant_str ⟨.str x,H,I.tok _,⟨_,rfl⟩,h⟩
def Gl(X:Cx)(x:Str):Prop:=X.env.kindOf x=some .globalImplicit
def zbq{σ:St}{H:Hp}{Q:Value->SH->Prop}(I:Inv X aa σ H s)(hg:Gl X x)(hm:X.mg x=some u)(h:Q u s)(hd:(x==("__debug__" : Str))=false:=by decide):wpAny (model X.prog X.w) X.A (eval (.Name x pos) X.env) Q E s:=
 Calls.Name_function_global I.ok.kind hg (Calls.loadGlobal_global (by rw[I.ok.glob];exact I.mod.glob.keeps I.bk) hm h) hd
def QT{σ:St}{H:Hp}{Q:Value->SH->Prop}(I:Inv X aa σ H s)(hg:Gl X x)(hm:X.mg x=none)(hv:bootBuiltins x=some u)(h:Q u s)(hn:x≠ "__name__" := by decide)(hd:(x==("__debug__" : Str))=false:=by decide):wpAny (model X.prog X.w) X.A (eval (.Name x pos) X.env) Q E s:=by
 obtain⟨mb,h1,h2⟩:=I.mod.blt;exact Calls.Name_function_global I.ok.kind hg (Calls.loadGlobal_builtin (by rw[I.ok.glob];exact I.mod.glob.keeps I.bk) hm (by rw[I.ok.blt];exact h1.keeps I.bk) ((h2 x hn).trans hv) h) hd
def zbC{v:V}(hg:Gl X x)(hm:X.mg x=some u)(r:RelV v u)(hd:(x==("__debug__" : Str))=false:=by decide):PE X (.Name x pos) (tC v):=λ_ _ _ H _ I h=>zbq I hg hm ⟨v,H,I,r,h⟩ hd
def zfd{v:V}(hg:Gl X x)(hm:X.mg x=none)(hv:bootBuiltins x=some u)(r:RelV v u)(hn:x≠ "__name__" := by decide)(hd:(x==("__debug__" : Str))=false:=by decide):PE X (.Name x pos) (tC v):=λ_ _ _ H _ I h=>QT I hg hm hv ⟨v,H,I,r,h⟩ hn hd
variable {a b:Expr}{ta tb:TE}{pos:Pos}
def tB(t:TE):TT:=fun σ H Q=>t σ H λx H1=>∃ c,x = .bl c/\Q c H1
def Qh{t:TE}(h:PE X e t)(he:∀ whole,isTrue e X.env whole=(do let v ← whole;standAt e.pos;holding [v] (truthy v)):=by intro _;rfl):PT X e (tB t):=by intro aa s σ H Q I hw;refine isTrue_plain (thn (h aa s σ H _ I hw) λv s1 ⟨x,H1,I1,r1,q1⟩=>?_) (he _);obtain⟨d,rfl,q⟩:=q1;cases r1;exact Nn ⟨H1,I1,q⟩
variable {tA tB' : TT}{rest:List Expr}
def zoC(t u:TT):TT:=fun σ H Q=>t σ H λc H1=>if c=true then u σ H1 Q else Q false H1
def tOr(t u:TT):TT:=fun σ H Q=>t σ H λc H1=>if c=true then Q true H1 else u σ H1 Q
def zoi(t:TT):TT:=fun σ H Q=>t σ H λc H1=>Q (!c) H1
def pw_and1(ha:PT X a tA):PW X (.BoolOp .And [a] pos) tA:=by
 intro wh aa s σ H Q I h;refine isTrue_and (thn (ha aa s σ H Q I h) λc s1 e=>?_);cases c with
 |true=>exact isTrue_and_nil e
 |false=>exact e
def pw_or1(ha:PT X a tA):PW X (.BoolOp .Or [a] pos) tA:=by
 intro wh aa s σ H Q I h;refine isTrue_or (thn (ha aa s σ H Q I h) λc s1 e=>?_);cases c with
 |false=>exact isTrue_or_nil e
 |true=>exact e
def pw_and(ha:PT X a tA)(hb:PW X (.BoolOp .And (b::rest) pos) tB'):PW X (.BoolOp .And (a::b::rest) pos) (zoC tA tB'):=by
 intro wh aa s σ H Q I h;refine isTrue_and (thn (ha aa s σ H _ I h) λc s1 ⟨H1,I1,q1⟩=>?_);cases c with
 |true=>exact hb wh aa s1 σ H1 Q I1 q1
 |false=>exact⟨H1,I1,q1⟩
def pw_or(ha:PT X a tA)(hb:PW X (.BoolOp .Or (b::rest) pos) tB'):PW X (.BoolOp .Or (a::b::rest) pos) (tOr tA tB'):=by
 intro wh aa s σ H Q I h;refine isTrue_or (thn (ha aa s σ H _ I h) λc s1 ⟨H1,I1,q1⟩=>?_);cases c with
 |true=>exact⟨H1,I1,q1⟩
 |false=>exact hb wh aa s1 σ H1 Q I1 q1
def zbn(ha:PT X a tA):PT X (.UnaryOp .Not a pos) (zoi tA):=by intro aa s σ H Q I h;exact isTrue_not (ha aa s σ H (λc H1=>Q (!c) H1) I h)
def zkW(ta tb:TE):TE:=fun σ H Q=>ta σ H λx H1=>∃ c,x = .bl c/\if c=true then tb σ H1 Q else Q (.bl false) H1
def zn2(ta tb:TE):TE:=fun σ H Q=>ta σ H λx H1=>∃ c,x = .bl c/\if c=true then Q (.bl true) H1 else tb σ H1 Q
def zkq(ta:TE):TE:=fun σ H Q=>ta σ H λx H1=>∃ c,x = .bl c/\Q (.bl (!c)) H1
def zaI{op}{t:TE}(h:PE X a t):PE X (.BoolOp op [a] pos) t:=λaa s σ H Q I hw=>BoolOp_one (h aa s σ H Q I hw)
def ze7(ha:PE X a ta)(hb:PE X (.BoolOp .And (b::rest) pos) tb):PE X (.BoolOp .And (a::b::rest) pos) (zkW ta tb):=by
 intro aa s σ H Q I h;refine BoolOp_and (thn (ha aa s σ H _ I h) λv s1 ⟨x,H1,I1,r1,q1⟩=>?_);obtain⟨c,rfl,q1⟩:=q1;cases r1;refine Nn ?_;cases c with
 |true=>exact hb aa s1 σ H1 Q I1 q1
 |false=>exact⟨.bl false,H1,I1,rfl,q1⟩
def zhb(ha:PE X a ta)(hb:PE X (.BoolOp .Or (b::rest) pos) tb):PE X (.BoolOp .Or (a::b::rest) pos) (zn2 ta tb):=by
 intro aa s σ H Q I h;refine BoolOp_or (thn (ha aa s σ H _ I h) λv s1 ⟨x,H1,I1,r1,q1⟩=>?_);obtain⟨c,rfl,q1⟩:=q1;cases r1;refine Nn ?_;cases c with
 |false=>exact hb aa s1 σ H1 Q I1 q1
 |true=>exact⟨.bl true,H1,I1,rfl,q1⟩
def zfr(ha:PE X a ta):PE X (.UnaryOp .Not a pos) (zkq ta):=by intro aa s σ H Q I h;refine UnaryOp_ (thn (ha aa s σ H _ I h) λv s1 ⟨x,H1,I1,r1,q1⟩=>?_);obtain⟨c,rfl,q1⟩:=q1;cases r1;exact not_of (Nn ⟨.bl (!c),H1,I1,rfl,q1⟩)
def tIf(t:TT)(ta tb:TE):TE:=fun σ H Q=>t σ H λc H1=>if c=true then ta σ H1 Q else tb σ H1 Q
def Jj{c:Expr}(hc:PT X c tA)(ha:PE X a ta)(hb:PE X b tb):PE X (.IfExp c a b pos) (tIf tA ta tb):=by
 intro aa s σ H Q I h;refine wpAny_IfExp (thn (hc aa s σ H _ I h) λd s1 ⟨H1,I1,q1⟩=>?_);cases d with
 |true=>exact ha aa s1 σ H1 Q I1 q1
 |false=>exact hb aa s1 σ H1 Q I1 q1
end
def SqL(K:FG)(H:Hp)(a:AD)(xs:LC):Prop:=
 Rd H a (.lst xs)\/
  ∃(o:Obj)(its:Array Value)(n:Nat),K.lookup a=some o/\o.cls = .type "list" /\ o.dict=none/\o.data = .seq its n/\its.size<=sizeLine/\Vals xs its.toList
def SqT(K:FG)(H:Hp)(a:AD)(xs:LC):Prop:=
 Rd H a (.tup xs)\/
  ∃(o:Obj)(its:Array Value)(n:Nat),K.lookup a=some o/\o.cls = .type "tuple" /\ o.data = .seq its n/\its.size<=sizeLine/\Vals xs its.toList
noncomputable def zox:Value->Option V
 |.none=>some .non
 |.bool b=>some (.bl b)
 |.int i _=>some (.int i)
 |.str x _=>some (.str x)
 |.bytes b _=>some (.byt b)
 |.float b _=>some (.flt b)
 |.ref a=>some (.ref a)
 |.type n=>some (.ty n)
 |_=>none
def RelV.abs{x:V}(r:RelV x u):zox u=some x:=by
 cases x with
 |non=>cases r;rfl
 |bl _=>cases r;rfl
 |int _=>obtain⟨t,rfl⟩:=r;rfl
 |str _=>obtain⟨t,rfl⟩:=r;rfl
 |byt _=>obtain⟨t,rfl⟩:=r;rfl
 |flt _=>obtain⟨t,rfl⟩:=r;rfl
 |ref _=>cases r;rfl
 |ty _=>cases r;rfl
def RelV.inj{x y:V}(r:RelV x u)(q:RelV y u):x=y:=Iu (r.abs.symm.trans q.abs)
theorem Vals.inj:∀{xs ys:LC}{us:LF},Vals xs us->Vals ys us->xs=ys
 |_,_,_,.nil,.nil=>rfl
 |_,_,_,.cons r t,.cons r' t' => by rw[r.inj r',Vals.inj t t']
section
variable {X:Cx}{aa:List (Addr×Obj)}{σ:St}{H:Hp}{s:SH}{a:AD}{xs ys:LC}
def SqL.of{K:FG}(h:H a=some (.lst xs)):SqL K H a xs:=.inl (.inl h)
def SqT.of{K:FG}(h:H a=some (.tup xs)):SqT K H a xs:=.inl (.inl h)
def Inv.list(I:Inv X aa σ H s)(h:SqL X.K H a xs):∃ its:LF,Vals xs its/\PlainL s.heap a its.toArray/\xs.length<=sizeLine:=by
 rcases h with h | ⟨o,its,n,hk,hc,hd,hs,hz,r⟩
 .obtain⟨z,its,n,r,e⟩:=h.ok I.ad;exact⟨its,r,⟨_,n,e,rfl,rfl,rfl⟩,z⟩
 .refine⟨its.toList,r,⟨o,n,I.kIn a o hk,hc,hd,by simpa using hs⟩,?_⟩;have e:=r.length;simp only[Ov]at e;omega
def Inv.tuple(I:Inv X aa σ H s)(h:SqT X.K H a xs):∃ its:LF,Vals xs its/\IsTup s.heap a its.toArray/\xs.length<=sizeLine:=by
 rcases h with h | ⟨o,its,n,hk,hc,hs,hz,r⟩
 .obtain⟨z,its,r,p,_⟩:=h.ok I.ad;exact⟨its,r,p,z⟩
 .refine⟨its.toList,r,⟨o,I.kIn a o hk,hc,n,by simpa using hs⟩,?_⟩;have e:=r.length;simp only[Ov]at e;omega
def Inv.UW(I:Inv X aa σ H s)(h:SqL X.K H a xs)(h' : SqL X.K H a ys):xs=ys:=by
 obtain⟨its,r,⟨o,n,e,_,_,d⟩,_⟩:=I.list h;obtain⟨its',r',⟨o',n',e',_,_,d'⟩,_⟩:=I.list h';rw[e]at e';cases e';rw[d]at d';injection d' with d1 _;have:its=its':=by simpa using IT Array.toList d1
 subst this;exact r.inj r'
def Inv.Vm(I:Inv X aa σ H s)(h:SqT X.K H a xs)(h' : SqT X.K H a ys):xs=ys:=by
 obtain⟨its,r,⟨o,e,_,n,d⟩,_⟩:=I.tuple h;obtain⟨its',r',⟨o',e',_,n',d'⟩,_⟩:=I.tuple h';rw[e]at e';cases e';rw[d]at d';injection d' with d1 _;have:its=its':=by simpa using IT Array.toList d1
 subst this;exact r.inj r'
end
abbrev Cx.wish(X:Cx)(E:Value->SH->Prop):Cx:={X with xe:=E}
abbrev Cx.nox(X:Cx):Cx:=X.wish λ_ _=>False
theorem Cx.Ok.wish{X:Cx}(ok:X.Ok)(E:Value->SH->Prop):(X.wish E).Ok:=⟨ok.mod,ok.kind,ok.glob,ok.blt,ok.above,ok.inj,ok.has,ok.cab,ok.hd,ok.frames,ok.stk,ok.exf,ok.bs,ok.bsz,ok.noex,ok.exfs,ok.zdr,ok.frf⟩
def Cx.Ok.Uw{X:Cx}(ok:(X.wish E).Ok):X.Ok:=⟨ok.mod,ok.kind,ok.glob,ok.blt,ok.above,ok.inj,ok.has,ok.cab,ok.hd,ok.frames,ok.stk,ok.exf,ok.bs,ok.bsz,ok.noex,ok.exfs,ok.zdr,ok.frf⟩
section
variable {X:Cx}{aa:List (Addr×Obj)}{σ:St}{H:Hp}{s:SH}{E:Value->SH->Prop}
theorem Inv.wish(I:Inv X aa σ H s)(E:Value->SH->Prop):Inv (X.wish E) aa σ H s:=⟨I.ok.wish E,I.os,I.bare,I.base,I.loc,I.cell,I.free,I.freeC,I.pin,I.ad,I.len⟩
theorem Inv.Uw(I:Inv (X.wish E) aa σ H s):Inv X aa σ H s:=⟨I.ok.Uw,I.os,I.bare,I.base,I.loc,I.cell,I.free,I.freeC,I.pin,I.ad,I.len⟩
theorem SP.Uw{D:Ends}{f:Flow}{s' : SH}(h:SP (X.wish E) aa D f s'):SP X aa D f s':=by
 cases f with
 |next=>obtain⟨σ',H',I,q⟩:=h;exact⟨σ',H',I.Uw,q⟩
 |brk=>obtain⟨σ',H',I,q⟩:=h;exact⟨σ',H',I.Uw,q⟩
 |cont=>obtain⟨σ',H',I,q⟩:=h;exact⟨σ',H',I.Uw,q⟩
 |ret u=>obtain⟨v,σ',H',I,r,q⟩:=h;exact⟨v,σ',H',I.Uw,r,q⟩
theorem PSs.nox{st:List Stmt}{t:TS}(h:PSs X.nox st t):PSs X st t:=λaa s σ H D I hw=>NJ (h aa s σ H D (I.wish _) hw) (λ_ _ q=>q.Uw) λ_ _ z=>False.elim z
end
section
variable {X:Cx}{st:Stmt}{rest:List Stmt}{t u:TS}{e:Expr}{te:TE}{pos:Pos}
def zl4:TS:=λD σ H=>D.nx σ H
def ziQ(t u:TS):TS:=λD σ H=>t {D with nx:=u D} σ H
def ZQ:PSs X [] zl4:=λ_ _ σ H _ I h=>wpAny_execs_nil ⟨σ,H,I,h⟩
def Zf(h1:PS X st t)(h2:PSs X rest u):PSs X (st::rest) (ziQ t u):=by
 intro aa s σ H D I h;refine wpAny_execs_cons (thn (h1 aa s σ H {D with nx:=u D} I h) λf s1 q=>?_);cases f with
 |next=>obtain⟨σ',H',I',q⟩:=q;exact h2 aa s1 σ' H' D I' q
 |ret v=>exact q
 |brk=>exact q
 |cont=>exact q
def Zm(h1:PS X st t):PSs X [st] t:=by
 intro aa s σ H D I h;refine wpAny_execs_cons (thn (h1 aa s σ H D I h) λf s1 q=>?_);cases f with
 |next=>exact wpAny_execs_nil q
 |ret v=>exact q
 |brk=>exact q
 |cont=>exact q
def Inv.quiet{σ:St}{H:Hp}(I:Inv X aa σ H s):interactive X.env=false:=by simp[interactive,I.ok.kind]
def zkm(te:TE):TS:=λD σ H=>te σ H λ_ H1=>D.nx σ H1
def JQ(he:PE X e te)(hs:swapsWith e none pos.line X.env=pure false:=by rfl):PS X (.Expr e pos) (zkm te):=by intro aa s σ H D I h;exact wpAny_Expr_any (thn (he aa s σ H _ I h) λv s1 ⟨x,H1,I1,r1,q1⟩=>⟨σ,H1,I1,q1⟩) I.quiet hs
def znN(te:TE):TS:=λD σ H=>te σ H D.rt
def Zz(he:PE X e te):PS X (.Return (some e) pos) (znN te):=by intro aa s σ H D I h;exact wpAny_Return_some (thn (he aa s σ H _ I h) λv s1 ⟨x,H1,I1,r1,q1⟩=>⟨x,σ,H1,I1,r1,q1⟩)
def zhG(c:TT)(t u:TS):TS:=λD σ H=>c σ H λb H1=>if b=true then t D σ H1 else u D σ H1
def Yv{c:Expr}{a b:List Stmt}{tc:TT}(hc:PT X c tc)(ha:PSs X a t)(hb:PSs X b u):PS X (.If c a b pos) (zhG tc t u):=by
 intro aa s σ H D I h;refine wpAny_If (thn (hc aa s σ H _ I h) λd s1 ⟨H1,I1,q1⟩=>?_);cases d with
 |true=>exact ha aa s1 σ H1 D I1 q1
 |false=>exact hb aa s1 σ H1 D I1 q1
def zk7:TS:=λ_ _ _=>False
def zas{sts:List Stmt}:PSs X sts zk7:=λ_ _ _ _ _ _ h=>h.elim
end
abbrev TG:=V->St->Hp->(St->Hp->Prop)->Prop
abbrev TGs:=LC->St->Hp->(St->Hp->Prop)->Prop
def PG(X:Cx)(target:Expr)(t:TG):Prop:=
 ∀(aa:List (Addr×Obj))(s:SH)(σ:St)(H:Hp)(v:V)(u:Value)(Q:St->Hp->Prop),Inv X aa σ H s->RelV v u->t v σ H Q->
  wpAny (model X.prog X.w) X.A (assign target X.env u) (λ_ s' => ∃ σ' H',Inv X aa σ' H' s' /\ Q σ' H') X.xe s
def PGs(X:Cx)(ts:List Expr)(t:TGs):Prop:=
 ∀(aa:List (Addr×Obj))(s:SH)(σ:St)(H:Hp)(vs:LC)(us:LF)(Q:St->Hp->Prop),Inv X aa σ H s->Vals vs us->t vs σ H Q->
  wpAny (model X.prog X.w) X.A (assignInOrder ((assignEach ts X.env).map (·.2)) us) (λ_ s' => ∃ σ' H',Inv X aa σ' H' s' /\ Q σ' H') X.xe s
abbrev znV:=V->V->V->Hp->(Hp->Prop)->Prop
def zor(X:Cx)(t:znV):Prop:=
 ∀(aa:List (Addr×Obj))(s:SH)(σ:St)(H:Hp)(o i v:V)(ov iv u:Value)(Q:Hp->Prop),Inv X aa σ H s->RelV o ov->RelV i iv->RelV v u->t o i v H Q->
  wpAny (model X.prog X.w) X.A (setItem ov iv u) (λ_ s' => ∃ H',Inv X aa σ H' s' /\ Q H') X.xe s
section
variable {X:Cx}{pos:Pos}
def VF(i:Nat):TG:=λv σ H Q=>Q (σ.set i (some v)) H
def Yh(hN:X.N.Nodup)(hi:X.N[i]?=some x)(hx:Loc X.env.scope x)(hf:X.fn x=true\/X.env.scope.names.lookup x=some .local:=by first | exact .inl rfl | exact .inr rfl | assumption):PG X (.Name x pos) (VF i):=by intro aa s σ H v u Q I r h;exact wpAny_assign_Name (JZ I hN hi hx r (λs' I' => ⟨_,H,I',h⟩) hf)
def znv:TGs:=λvs σ H Q=>vs=[]/\Q σ H
def zcY(t:TG)(u:TGs):TGs:=λvs σ H Q=>∃ v r,vs=v::r/\t v σ H fun σ' H' => u r σ' H' Q
def Jo:PGs X [] znv:=by intro aa s σ H vs us Q I r h;obtain⟨e,h⟩:=h;subst e;cases r;exact assignInOrder_nil ⟨σ,H,I,h⟩
def YD{es:List Expr}{t:TG}{u:TGs}(h1:PG X e t)(h2:PGs X es u)(hs:(assignEach (e::es) X.env).map (·.2)=assign e X.env::(assignEach es X.env).map (·.2):=by rfl):PGs X (e::es) (zcY t u):=by
 intro aa s σ H vs us Q I r h;obtain⟨v,vr,e1,h⟩:=h;subst e1;cases r with
 |cons r rr=>rw[hs];refine assignInOrder_cons (thn (h1 aa s σ H _ _ _ I r h) λ_ s1 ⟨σ1,H1,I1,q1⟩=>?_);exact h2 aa s1 σ1 H1 _ _ Q I1 rr q1
def znG(K:FG)(n:Nat)(t:TGs):TG:=λv σ H Q=>∃ a xs,v = .ref a/\SqT K H a xs/\xs.length=n/\t xs σ H Q
def zdK{es:List Expr}{t:TGs}{n:Nat}(hc:X.calm=true)(h:PGs X es t)(hn:(assignEach es X.env).length=n:=by rfl)(hst:(assignEach es X.env).findIdx? (·.1)=none:=by rfl):PG X (.Tuple es k pos) (znG X.K n t):=by
 intro aa s σ H v u Q I r hw;obtain⟨a,xs,e1,hq,hl,hw⟩:=hw;subst e1;cases r;obtain⟨its,rv,ht,hz⟩:=I.tuple hq;refine assign_Tuple_tuple (I.ok.hd hc) ht (by simp[hn,← hl,rv.length]) hst λh' hx=>?_;have I1:Inv X aa σ H {s with heap:=h'}:=I.kept (t':=s.toks) λb o e=>hx b o (IS (IF e)) e;exact h aa _ σ H xs _ Q I1 (by simpa using rv) hw
def zpi(to ti:TE)(t:znV):TG:=λv σ H Q=>to σ H λo H1=>ti σ H1 λi H2=>t o i v H2 λH3=>Q σ H3
def zgM{o i:Expr}{to ti:TE}{t:znV}(ho:PE X o to)(hi:PE X i ti)(hs:zor X t)(ha:∀ v,assign (.Subscript o i pos) X.env v=(do
   let ov ← holding [v] (eval o X.env)
   let iv ← holding [v,ov] (eval i X.env)
   standAt pos
   holding [v,ov,iv] (setItem ov iv v)
   release [v,ov,iv] []):=by intro _;rfl):PG X (.Subscript o i pos) (zpi to ti t):=by
 intro aa s σ H v u Q I r h;rw[ha];refine Ia (Np (thn (ho aa s σ H _ I h) λov s1 ⟨x,H1,I1,r1,q1⟩=>?_));refine Ia (Np (thn (hi aa s1 σ H1 _ I1 q1) λiv s2 ⟨y,H2,I2,r2,q2⟩=>?_));refine Ia (OK (Ia (Np (thn (hs aa s2 σ H2 x y v ov iv u _ I2 r1 r2 r q2) λ_ s3 ⟨H3,I3,q3⟩=>?_))));exact wpAny_release ⟨σ,H3,I3,q3⟩
def zk3(te:TE)(g:TG):TS:=λD σ H=>te σ H λx H1=>g x σ H1 D.nx
def Vl{te:TE}{g:TG}(he:PE X e te)(hg:PG X tg g)(hs:swapsWithSole [tg] e pos.line X.env=pure false:=by rfl)(hw:swappedStores [tg] e X.env=pure none:=by rfl)(h1:(assignEach [tg] X.env).map (·.2)=[assign tg X.env]:=by rfl):PS X (.Assign [tg] e pos) (zk3 te g):=by
 intro aa s σ H D I h;refine wpAny_Assign_stores (thn (he aa s σ H _ I h) λv s1 ⟨x,H1,I1,r1,q1⟩=>?_) hs hw;rw[h1];exact thn (hg aa s1 σ H1 x v _ I1 r1 q1) λ_ s2 q=>q
def ZC{te:TE}{pos' : Pos}(hN:X.N.Nodup)(hi:X.N[i]?=some x)(hx:Loc X.env.scope x)(he:PE X e te)(hs:swapsWith e (some (.Name x pos')) pos.line X.env=pure false:=by rfl)(hf:X.fn x=true\/X.env.scope.names.lookup x=some .local:=by first | exact .inl rfl | exact .inr rfl | assumption):
  PS X (.Assign [.Name x pos'] e pos) (zk3 te (VF i)):=by
 intro aa s σ H D I h;refine wpAny_Assign_Name (thn (he aa s σ H _ I h) λv s1 ⟨y,H1,I1,r1,q1⟩=>?_) hs;exact JZ I1 hN hi hx r1 (λs2 I2=>⟨_,H1,I2,q1⟩) hf
def zoO(i j:Nat)(ta:TA):TS:=λD σ H=>ta σ H λvs H1=>∃ v w,vs=[v,w]/\D.nx ((σ.set i (some v)).set j (some w)) H1
def zmQ{y:Str}{a b:Expr}{ta:TA}{px py pt:Pos}{kt k2 pt2}(hc:X.calm=true)(hN:X.N.Nodup)(hi:X.N[i]?=some x)(hj:X.N[j]?=some y)(hij:i≠j)(hx:X.env.scope.names.lookup x=some .local)(hy:X.env.scope.names.lookup y=some .local)(ha:PA X [a,b] ta)(hw:swappedStores [.Tuple [.Name x px,.Name y py] kt pt] (.Tuple [a,b] k2 pt2) X.env=pure (some [x,y]))(hs:swapsWithSole [.Tuple [.Name x px,.Name y py] kt pt] (.Tuple [a,b] k2 pt2) pos.line X.env=pure false:=by rfl):
  PS X (.Assign [.Tuple [.Name x px,.Name y py] kt pt] (.Tuple [a,b] k2 pt2) pos) (zoO i j ta):=by
 intro aa s σ H D I h;rw[exec_Assign_arm];refine Ia (OK ?_);rw[hs];refine Ia (Ic ?_);rw[Im (by decide)];refine Ia (Tuple_ (thn (ha _ aa s σ H _ I h) λus s1 ⟨vs,H1,I1,r1,q1⟩=>?_));obtain⟨v,w,e1,q1⟩:=q1;subst e1;obtain⟨u1,u2,rfl,rv,rw'⟩:∃ u1 u2,us=[u1,u2]/\RelV v u1/\RelV w u2:=by
  cases r1 with
  |cons p q=>
   cases q with
   |cons p' q' =>cases q';exact⟨_,_,rfl,p,p'⟩
 refine IK ?_ (by show 2<=sizeLine;decide);have I2:Inv X aa σ H1 {s1 with heap:=s1.heap.push {cls:=.type "tuple",data:=.seq [u1,u2].toArray}}:=I1.kept (t':=s1.toks) λb o e=>Ih _ e;rw[hw];refine Ia (Ic ?_);show wpAny (model X.prog X.w) X.A (do rule "assign.swapped-stores";let items ← unpackItems (.ref s1.heap.objs.size) 2 none;assignInOrder [λv=>bindName X.env y v,λv=>bindName X.env x v] items.reverse;pure Flow.next) _ _ _;refine Ia (NY (Ia (unpackItems_tuple (items:=#[u1,u2]) (I.ok.hd hc) (IsTup.new s1.heap _) λh' hx' => ?_)));have I3:=I2.kept (h':=h') (t':=s1.toks) λb o e=>hx' b o (IS (IF e)) e;show wpAny _ _ (assignInOrder [λv=>bindName X.env y v,λv=>bindName X.env x v] [u2,u1] >>= λ_=>pure Flow.next) _ _ _;refine Ia (assignInOrder_cons (wpAny_bindName (JZ I3 hN hj (.inl hy) rw' (λs2 I4=>?_) (.inr hy))));refine assignInOrder_cons (wpAny_bindName (JZ I4 hN hi (.inl hx) rv (λs3 I5=>assignInOrder_nil (Ic ?_)) (.inr hx)));rw[List.set_comm _ _ (Ne.symm hij)]at I5;exact⟨_,H1,I5,q1⟩
def zfP(c:TT)(tb:TS):TS:=λD σ H=>∃ W:Nat->St->Hp->Prop,(∃ m,W m σ H)/\∀ m σ H,W m σ H->
 c σ H λb H1=>if b=true then ∃ N:St->Hp->Prop,(∀ σ' H',N σ' H' -> ∃ m',m'<m/\W m' σ' H')/\tb {D with nx:=N,ct:=N,bk:=D.nx} σ H1 else D.nx σ H1
def zef{c:Expr}{tc:TT}{tb:TS}(hp:PassesOwn (model X.prog X.w) X.A X.env X.xe)(hc:PT X c tc)(hb:PSs X body tb):PS X (.While c body [] pos) (zfP tc tb):=by
 intro aa s σ H D I h;obtain⟨W,⟨m0,w0⟩,turn⟩:=h;refine wpAny_While (codeAny_whileLoop (λn s' => ∃ σ' H',Inv X aa σ' H' s' /\ W n σ' H') ?_ m0 ⟨σ,H,I,w0⟩);rintro n s1 ⟨σ1,H1,I1,w1⟩;refine Oa hp (thn (hc aa s1 σ1 H1 _ I1 (turn n σ1 H1 w1)) λb s2 ⟨H2,I2,q2⟩=>?_);cases b with
 |true=>
  obtain⟨N,hN,q2⟩:=q2;rw[Iq rfl];refine Oa hp (thn (hb aa s2 σ1 H2 _ I2 q2) λf s3 q3=>?_);cases f with
  |next=>obtain⟨σ3,H3,I3,n3⟩:=q3;obtain⟨m',hm,w3⟩:=hN σ3 H3 n3;exact⟨m',hm,σ3,H3,I3,w3⟩
  |cont=>obtain⟨σ3,H3,I3,n3⟩:=q3;obtain⟨m',hm,w3⟩:=hN σ3 H3 n3;exact⟨m',hm,σ3,H3,I3,w3⟩
  |brk=>exact q3
  |ret v=>exact q3
 |false=>rw[Im Ii];exact wpAny_execs_nil ⟨σ1,H2,I2,q2⟩
end
structure It where
 go:Nat->Hp->Prop
 yld:Nat->Hp->V->Hp->Prop
 stop:Nat->Hp->Prop
def zcQ(X:Cx)(aa:List (Addr×Obj))(H:Hp)(b:AD):Prop:=H b=none/\b≠X.env.locals/\b∉X.fs/\(b∈X.ex\/X.s₀.heap.objs.size<=b)/\(∀ x c,X.env.cells.lookup x=some c->c≠b)/\∀ p∈X.pn++aa,p.1≠b
def Inv.zjT{X:Cx}{σ:St}{H H' : Hp}(I:Inv X aa σ H s)(hb:s.heap.objs.size<=b)(hn:H' b=none):zcQ X aa H' b:=by
 refine⟨hn,ne_of_gt (IA I.lt hb),I.zo9 hb,.inr (ND I.sz hb),λx c e z=>?_,λp hp z=>?_⟩
 .obtain⟨v,q⟩:=I.cell x c e;exact absurd (IA q.lt (by rw[z];exact hb)) (OH _)
 .exact absurd (IA (IF (I.pin p hp).1) (by rw[z];exact hb)) (OH _)
structure Turn(P:Program)(w:World)(K:FG)(tg:Expr)(J:It)(fp:LH)(it:AD)(tn:Nat->Heap->Prop):Prop where
 mem:it∈fp
 obj:∀ i h,tn i h->∀ b∈fp,∃ o,h.get? b=some o/\∀ v,o.data≠.cell v
 keep:∀ i h h',tn i h->(∀ b∈fp,∀ o,h.get? b=some o->h'.get? b=some o)->tn i h'
 item:∀(X:Cx),X.prog=P->X.w=w->X.K=K->X.calm=true->∀(i:Nat)(aa:List (Addr×Obj))(s:SH)(σ:St)(H:Hp)(E:Value->SH->Prop),Inv X aa σ H s->(∀ b∈fp,zcQ X aa H b)->tn i s.heap->J.go i H->
  wpAny (model P w) X.A (pyNext (.ref it)) (λr s1=>∃ u,r=some u/\
   wpAny (model P w) X.A (letOwnedTupleGo tg (.ref it) u) (λ_ s2=>∃ x H',Inv X aa σ H' s2/\RelV x u/\J.yld i H x H' /\ tn (i+1) s2.heap/\∀ b∈fp,H' b=none) E s1) E s
 done:∀(X:Cx),X.prog=P->X.w=w->X.K=K->X.calm=true->∀(i:Nat)(aa:List (Addr×Obj))(s:SH)(σ:St)(H:Hp)(E:Value->SH->Prop),Inv X aa σ H s->(∀ b∈fp,zcQ X aa H b)->tn i s.heap->J.stop i H->
  wpAny (model P w) X.A (pyNext (.ref it)) (λr s1=>r=none/\Inv X aa σ H s1) E s
 self:∀(A:Around)(i:Nat)(s:SH)(Q:Value->SH->Prop)(E:Value->SH->Prop),tn i s.heap->Q (.ref it) s->wpAny (model P w) A (pyIter (.ref it)) Q E s
abbrev TI:=St->Hp->(It->Hp->Prop)->Prop
def PIE(X:Cx)(aa:List (Addr×Obj))(σ:St)(tg:Expr)(R:It->Hp->Prop)(itv:Value)(s2:SH):Prop:=∃(it:AD)(fp:LH)(tn:Nat->Heap->Prop)(J:It)(H' : Hp),itv = .ref it/\Inv X aa σ H' s2/\Turn X.prog X.w X.K tg J fp it tn/\tn 0 s2.heap/\(∀ b∈fp,zcQ X aa H' b)/\R J H'
def PI(X:Cx)(tg iter:Expr)(wi:TI):Prop:=
 ∀(aa:List (Addr×Obj))(s:SH)(σ:St)(H:Hp)(R:It->Hp->Prop),Inv X aa σ H s->wi σ H R->
  wpAny (model X.prog X.w) X.A (eval iter X.env) (λv s1=>wpAny (model X.prog X.w) X.A (pyIter v) (PIE X aa σ tg R) X.xe s1) X.xe s
def zim{it:AD}{o:Obj}{n:String}{vs:Array Value}{Q:Unit->SH->Prop}(ho:s.heap.get? it=some o)(hc:o.cls = .type n)(hd:o.data = .fields vs)(hn:["enumerate", "zip", "dict_itemiterator", "dict_reverseitemiterator", "odict_iterator", "itertools.zip_longest", "itertools.pairwise"].contains n=false)(hQ:Q () s):wpAny M A (letOwnedTupleGo tg (.ref it) u) Q E s:=by
 unfold letOwnedTupleGo;cases tg <;> first
  |exact Ic hQ
  |(cases u <;> first
    |exact Ic hQ
    |(refine Ia (wpAny_load ho ?_);rw[hc,hd];show wpAny M A (if(["enumerate", "zip", "dict_itemiterator", "dict_reverseitemiterator", "odict_iterator", "itertools.zip_longest", "itertools.pairwise"].contains n&&vs[0]?==some (rawInt _))=true then _ else _) Q E s;rw[Im (by intro h;rw[hn,Bool.false_and]at h;cases h)];exact Ic hQ))
noncomputable def Itl(K:FG)(a:AD):It:=⟨λi H=>∃ xs x,SqL K H a xs/\xs[i]?=some x,λi H x H' => H'=H/\∀ xs,SqL K H a xs->xs[i]?=some x,λi H=>∃ xs,SqL K H a xs/\xs.length<=i⟩
noncomputable def Itt(K:FG)(a:AD):It:=⟨λi H=>∃ xs x,SqT K H a xs/\xs[i]?=some x,λi H x H' => H'=H/\∀ xs,SqT K H a xs->xs[i]?=some x,λi H=>∃ xs,SqT K H a xs/\xs.length<=i⟩
noncomputable def Itr(lo:Int)(n:Nat):It:=⟨λi _=>i<n,λi H x H' => H'=H/\x = .int (lo+i),λi _=>n<=i⟩
def zgG{P:Program}{w:World}{K:FG}(a it:AD):Turn P w K tg (Itl K a) [it] it (λi h=>h.IsListIter it a i) where
 mem:=by simp
 obj:=λi h st b hb=>by
  have e:b=it:=by simpa using hb
  subst e;obtain⟨o,e,c,d⟩:=st;exact⟨o,e,λv z=>by rw[d]at z;cases z⟩
 keep:=λi h h' st k=>st.at λo e=>k it (by simp) o e
 item:=by intro X hP hw hK hc i aa s σ H E I hf st hg;subst hP hw hK;obtain⟨xs,x,hq,hx⟩:=hg;obtain⟨its,rv,p,hz⟩:=I.list hq;obtain⟨u,hu,ru⟩:=rv.get hx;obtain⟨f0,f1,f2,f3,f4,f5⟩:=hf it (by simp);refine wpAny_pyNext_list_item st p.isList (x:=u) (by simpa using hu) λh' st' sb=>?_;have I1:Inv X aa σ H {s with heap:=h'}:=I.turned (t':=s.toks) (λb o hb e=>(sb.2 b hb).trans e) f0 f1 f3 f4 f5;obtain⟨o,e,c,d⟩:=id st';exact⟨u,rfl,zim (s:={s with heap:=h'}) e c d (by decide) ⟨x,H,I1,ru,⟨rfl,λys hy=>by rw[I.UW hy hq];exact hx⟩,st',λb hb=>(hf b hb).1⟩⟩
 done:=by intro X hP hw hK hc i aa s σ H E I hf st hg;subst hP hw hK;obtain⟨xs,hq,hx⟩:=hg;obtain⟨its,rv,p,hz⟩:=I.list hq;obtain⟨f0,f1,f2,f3,f4,f5⟩:=hf it (by simp);have hl:=rv.length;exact wpAny_pyNext_list_end (I.ok.hd hc) st p.isList (by simp;omega) λh' eb=>⟨rfl,I.turned (t':=s.toks) (λb o hb e=>eb b o hb e) f0 f1 f3 f4 f5⟩
 self:=λ_ _ _ _ _ st h=>wpAny_pyIter_listiter st h
def zes{P:Program}{w:World}{K:FG}(a it:AD):Turn P w K tg (Itt K a) [it] it (λi h=>h.IsTupleIter it a i) where
 mem:=by simp
 obj:=λi h st b hb=>by
  have e:b=it:=by simpa using hb
  subst e;obtain⟨o,e,c,d⟩:=st;exact⟨o,e,λv z=>by rw[d]at z;cases z⟩
 keep:=λi h h' st k=>st.at λo e=>k it (by simp) o e
 item:=by intro X hP hw hK hc i aa s σ H E I hf st hg;subst hP hw hK;obtain⟨xs,x,hq,hx⟩:=hg;obtain⟨its,rv,p,hz⟩:=I.tuple hq;obtain⟨u,hu,ru⟩:=rv.get hx;obtain⟨f0,f1,f2,f3,f4,f5⟩:=hf it (by simp);refine wpAny_pyNext_tuple_item st (show s.heap.IsTuple a its.toArray from p) (x:=u) (by simpa using hu) λh' st' sb=>?_;have I1:Inv X aa σ H {s with heap:=h'}:=I.turned (t':=s.toks) (λb o hb e=>(sb.2 b hb).trans e) f0 f1 f3 f4 f5;obtain⟨o,e,c,d⟩:=id st';exact⟨u,rfl,zim (s:={s with heap:=h'}) e c d (by decide) ⟨x,H,I1,ru,⟨rfl,λys hy=>by rw[I.Vm hy hq];exact hx⟩,st',λb hb=>(hf b hb).1⟩⟩
 done:=by intro X hP hw hK hc i aa s σ H E I hf st hg;subst hP hw hK;obtain⟨xs,hq,hx⟩:=hg;obtain⟨its,rv,p,hz⟩:=I.tuple hq;obtain⟨f0,f1,f2,f3,f4,f5⟩:=hf it (by simp);have hl:=rv.length;exact wpAny_pyNext_tuple_end (I.ok.hd hc) st (show s.heap.IsTuple a its.toArray from p) (by simp;omega) λh' eb=>⟨rfl,I.turned (t':=s.toks) (λb o hb e=>eb b o hb e) f0 f1 f3 f4 f5⟩
 self:=λ_ _ _ _ _ st h=>wpAny_pyIter_tupleiter st h
def zey{P:Program}{w:World}{K:FG}(it:AD)(lo:Int)(n:Nat):Turn P w K tg (Itr lo n) [it] it (λi h=>IsRangeIter h it (lo+(i:Nat)*1) ((n:Int)-(i:Nat)) 1) where
 mem:=by simp
 obj:=λi h st b hb=>by
  have e:b=it:=by simpa using hb
  subst e;exact⟨_,st,λv z=>by
   have z' : Data.fields _=Data.cell v:=z;cases z'⟩
 keep:=λi h h' st k=>k it (by simp) _ st
 item:=by intro X hP hw hK hc i aa s σ H E I hf st hg;subst hP hw hK;obtain⟨f0,f1,f2,f3,f4,f5⟩:=hf it (by simp);have W:=Walks.range (prog:=X.prog) (w:=X.w) (I.ok.hd hc) it lo 1 n;refine W.item i s _ _ hg st λv h' tk hv st' kk=>?_;obtain⟨t,rfl⟩:=hv;have I1:Inv X aa σ H {s with heap:=h',toks:=tk}:=I.turned (λb o hb e=>kk b o (by simpa using hb) e) f0 f1 f3 f4 f5;refine⟨_,rfl,zim (s:={s with heap:=h',toks:=tk}) (n:= "range_iterator") st' rfl rfl (by decide) ⟨.int (lo+i),H,I1,⟨t,?_⟩,⟨rfl,rfl⟩,st',λb hb=>(hf b hb).1⟩⟩;rw[Int.mul_one]
 done:=by intro X hP hw hK hc i aa s σ H E I hf st hg;subst hP hw hK;obtain⟨f0,f1,f2,f3,f4,f5⟩:=hf it (by simp);exact wpAny_pyNext_range_end (I.ok.hd hc) st (by have:n<=i:=hg;omega) λh' eb=>⟨rfl,I.turned (t':=s.toks) (λb o hb e=>eb b o hb e) f0 f1 f3 f4 f5⟩
 self:=λ_ _ _ _ _ st h=>wpAny_pyIter_rangeiter st h
section
variable {X:Cx}{tg:Expr}
def zhh(K:FG)(tl:TE):TI:=fun σ H R=>tl σ H λx H1=>∃ a,x = .ref a/\(∃ xs,SqL K H1 a xs)/\R (Itl K a) H1
def zn6(K:FG)(tl:TE):TI:=fun σ H R=>tl σ H λx H1=>∃ a,x = .ref a/\(∃ xs,SqT K H1 a xs)/\R (Itt K a) H1
def Ui{l:Expr}{tl:TE}(hl:PE X l tl):PI X tg l (zhh X.K tl):=by
 intro aa s σ H R I h;refine thn (hl aa s σ H _ I h) λv s1 ⟨x,H1,I1,r1,q1⟩=>?_;obtain⟨a,e,⟨xs,hq⟩,q⟩:=q1;subst e;cases r1;obtain⟨its,rv,p,hz⟩:=I1.list hq;refine wpAny_pyIter_list p.isList ?_;refine⟨s1.heap.objs.size,[s1.heap.objs.size],_,_,H1,rfl,I1.kept (t':=s1.toks) λb o e=>Ih _ e,zgG a _,⟨_,Io _ rfl,rfl,rfl⟩,λb hb=>?_,q⟩;have e:b=s1.heap.objs.size:=by simpa using hb
 subst e;exact I1.zjT (Ik _) (I1.ad.fresh (Ik _))
def zav{l:Expr}{tl:TE}(hl:PE X l tl):PI X tg l (zn6 X.K tl):=by
 intro aa s σ H R I h;refine thn (hl aa s σ H _ I h) λv s1 ⟨x,H1,I1,r1,q1⟩=>?_;obtain⟨a,e,⟨xs,hq⟩,q⟩:=q1;subst e;cases r1;obtain⟨its,rv,p,hz⟩:=I1.tuple hq;refine wpAny_pyIter_tuple (show s1.heap.IsTuple a its.toArray from p) ?_;refine⟨s1.heap.objs.size,[s1.heap.objs.size],_,_,H1,rfl,I1.kept (t':=s1.toks) λb o e=>Ih _ e,zes a _,⟨_,Io _ rfl,rfl,rfl⟩,λb hb=>?_,q⟩;have e:b=s1.heap.objs.size:=by simpa using hb
 subst e;exact I1.zjT (Ik _) (I1.ad.fresh (Ik _))
def zhD{σ:St}{H:Hp}{R:It->Hp->Prop}{lo hi:Int}{t u v:Tok}{tk:Nat}(I:Inv X aa σ H s)(h1:-(2^62)<=lo)(h2:lo<2^62)(h3:-(2^62)<=hi)(h4:hi<2^62)(q:R (Itr lo (hi-lo).toNat) H):wpAny (model X.prog X.w) X.A (pyIter (.ref s.heap.objs.size)) (PIE X aa σ tg R) E {s with heap:=s.heap.push {cls:=.type "range",data:=.fields #[.int lo t,.int hi u,.int 1 v]},toks:=tk}:=by
 refine wpAny_pyIter_range (IsRange.new ..) (small_one h1 h2 h3 h4) ?_;have I1:Inv X aa σ H {s with heap:=s.heap.push {cls:=.type "range",data:=.fields #[.int lo t,.int hi u,.int 1 v]},toks:=tk}:=I.kept λb o e=>Ih _ e;refine⟨(s.heap.push {cls:=.type "range",data:=.fields #[.int lo t,.int hi u,.int 1 v]}).objs.size,[(s.heap.push {cls:=.type "range",data:=.fields #[.int lo t,.int hi u,.int 1 v]}).objs.size],_,_,H,rfl,
  I1.kept (t':=tk) λb o e=>Ih _ e,zey _ lo (hi-lo).toNat,?_,λb hb=>?_,q⟩
 .have e1:lo+((0:Nat):Int)*1=lo:=by simp
  have e2:(((hi-lo).toNat:Nat):Int)-((0:Nat):Int)=Builtin.Range.rangeSize lo hi 1:=by rw[rangeSize_one];split <;> omega
  show IsRangeIter _ _ (lo+((0:Nat):Int)*1) ((((hi-lo).toNat:Nat):Int)-((0:Nat):Int)) 1;rw[e1,e2];exact Io _ rfl
 .have e:b=(s.heap.push {cls:=.type "range",data:=.fields #[.int lo t,.int hi u,.int 1 v]}).objs.size:=by simpa using hb
  subst e;exact I1.zjT (Ik _) (I1.ad.fresh (Ik _))
def zfy(ta:TA):TI:=fun σ H R=>ta σ H λvs H1=>∃ j:Int,vs=[.int j]/\-(2^62)<=j/\j<2^62/\R (Itr 0 j.toNat) H1
def XC{a:Expr}{ta:TA}{p:Pos}(hg:Gl X "range")(hm:X.mg "range" = none)(ha:PA X [a] ta)(hs:starEach [a] X.env=[(false,eval a X.env)]:=by rfl):PI X tg (.Call (.Name "range" p) [a] [] pos) (zfy ta):=by
 intro aa s σ H R I h;refine Call_ (QT I hg hm boot_range (Nl (thn (ha pos aa s σ H _ I h) λus s1 ⟨vs,H1,I1,r1,q1⟩=>?_) hs rfl));obtain⟨j,e,q1,q2,q⟩:=q1;subst e;cases r1 with
 |cons r rr=>cases rr;obtain⟨t,rfl⟩:=r;exact call_range_1 (zhD I1 (by omega) (by omega) q1 q2 (by simpa using q))
def znt(wi:TI)(g:TG)(tb:TS):TS:=λD σ H=>wi σ H λJ H1=>∃ W:Nat->Nat->St->Hp->Prop,(∃ m,W 0 m σ H1)/\∀ i m σ H,W i m σ H->
 (J.stop i H/\D.nx σ H)\/(J.go i H/\∃ N:St->Hp->Prop,(∀ σ' H',N σ' H' -> ∃ m',m'<m/\W (i+1) m' σ' H')/\∀ x H',J.yld i H x H' -> g x σ H' fun σ2 H2=>tb {D with nx:=N,ct:=N,bk:=D.nx} σ2 H2)
noncomputable def Uu(fp:LH)(h:Heap):List (Addr×Obj):=fp.filterMap λb=>(h.get? b).map λo=>(b,o)
def Uj{o:Obj}(hb:b∈fp)(e:h.get? b=some o):(b,o)∈Uu fp h:=mem_filterMap.mpr ⟨b,hb,by rw[e];rfl⟩
def zbZ{p:AD×Obj}(hp:p∈Uu fp h):p.1∈fp/\h.get? p.1=some p.2:=by
 obtain⟨b,hb,e⟩:=mem_filterMap.mp hp;cases q:h.get? b with
 |none=>rw[q]at e;cases e
 |some o=>rw[q]at e;have e' : (b,o)=p:=Iu e;subst e';exact⟨hb,q⟩
def Inv.pinned{σ:St}{H:Hp}(I:Inv X aa σ H s)(hf:∀ b∈fp,zcQ X aa H b)(ho:∀ b∈fp,∃ o,s.heap.get? b=some o/\∀ v,o.data≠.cell v):Inv X (aa++Uu fp s.heap) σ H s:=
 I.VV λp hp=>(Nq.mp hp).elim (λz=>I.pin p (IL _ z)) λz=>by obtain⟨hb,e⟩:=zbZ z;obtain⟨f0,f1,f2,_⟩:=hf p.1 hb;obtain⟨o,e',d⟩:=ho p.1 hb;rw[e]at e';cases e';exact⟨e,f0,f1,f2,d⟩
def Inv.Vq{pl:List (Addr×Obj)}{σ:St}{H:Hp}(I:Inv X (aa++pl) σ H s):Inv X aa σ H s:=I.VV λp hp=>I.pin p (IL _ (List.mem_append_left _ hp))
def JG{iter:Expr}{wi:TI}{g:TG}{tb:TS}(hp:PassesOwn (model X.prog X.w) X.A X.env X.xe)(hc:X.calm=true)(hi:PI X tg iter wi)(hg:PG X tg g)(hb:PSs X body tb)(hs:∀ x,foldedSetIterable iter X.env x=pure x:=by intro _;rfl):PS X (.For tg iter body [] pos) (znt wi g tb):=by
 intro aa s σ H D I h;refine wpAny_For (thn (hi aa s σ H _ I h) λv s1 h1=>thn h1 λitv s2 h2=>?_) hs;obtain⟨it,fp,tn,J,H2,e,I2,T,st2,f2,W,⟨m0,w0⟩,turn⟩:=h2;subst e;have stat:∀{H' : Hp},(∀ b∈fp,H' b=none)->∀ b∈fp,zcQ X aa H' b:=λhn b hb=>⟨hn b hb,(f2 b hb).2⟩
 refine codeAny_forLoop_any (λn s' => ∃ i σ' H',Inv X aa σ' H' s' /\ tn i s'.heap/\(∀ b∈fp,H' b=none)/\W i n σ' H') ?_ m0 ⟨0,σ,H2,I2,st2,λb hb=>(f2 b hb).1,w0⟩;rintro n s3 ⟨i,σ3,H3,I3,st3,fr3,w3⟩;rcases turn i n σ3 H3 w3 with⟨stop,qn⟩ | ⟨go,N,hN,step⟩
 .refine Oa hp (thn (T.done X rfl rfl rfl hc i aa s3 σ3 H3 X.xe I3 (stat fr3) st3 stop) λr s4 ⟨hr,I4⟩=>?_);subst hr;exact wpAny_execs_nil ⟨σ3,H3,I4,qn⟩
 .refine Oa hp (thn (T.item X rfl rfl rfl hc i aa s3 σ3 H3 X.xe I3 (stat fr3) st3 go) λr s4 ⟨u,hr,h4⟩=>?_);subst hr;refine Oa hp (thn h4 λ_ s5 ⟨x,H5,I5,r5,y5,st5,fr5⟩=>?_);have I5':=I5.pinned (stat fr5) (T.obj _ _ st5);refine Oa hp (thn (hg _ s5 σ3 H5 x u _ I5' r5 (step x H5 y5)) λ_ s6 ⟨σ6,H6,I6,q6⟩=>?_);refine Oa hp (thn (hb _ s6 σ6 H6 _ I6 q6) λf s7 q7=>?_);have again:∀{σ7:St}{H7:Hp},Inv X (aa++Uu fp s5.heap) σ7 H7 s7->N σ7 H7->∃ m,m<n/\∃ i σ' H',Inv X aa σ' H' s7/\tn i s7.heap/\(∀ b∈fp,H' b=none)/\W i m σ' H':=λ{σ7 H7} I7 n7=>by obtain⟨m',hm,w7⟩:=hN σ7 H7 n7;refine⟨m',hm,i+1,σ7,H7,I7.Vq,T.keep _ _ _ st5 λb hb o e=>(I7.pin (b,o) (IL _ (IL _ (Uj hb e)))).1,λb hb=>?_,w7⟩;obtain⟨o,e,d⟩:=T.obj _ _ st5 b hb;exact(I7.pin (b,o) (IL _ (IL _ (Uj hb e)))).2.1
  cases f with
  |next=>obtain⟨σ7,H7,I7,n7⟩:=q7;exact again I7 n7
  |cont=>obtain⟨σ7,H7,I7,n7⟩:=q7;exact again I7 n7
  |brk=>obtain⟨σ7,H7,I7,q7⟩:=q7;exact⟨σ7,H7,I7.Vq,q7⟩
  |ret v=>obtain⟨x7,σ7,H7,I7,r7,q7⟩:=q7;exact⟨x7,σ7,H7,I7.Vq,r7,q7⟩
end
def zjk{K:FG}{xs:LC}{g:TG}{tb:TS}{D:Ends}{σ:St}{H:Hp}(Pv:Nat->St->Hp->Prop)(h0:Pv 0 σ H)(hl:∀ i σ H,i<=xs.length->Pv i σ H->SqT K H a xs)(hs:∀ i x σ H,xs[i]?=some x->Pv i σ H->g x σ H fun σ2 H2=>tb {D with nx:=Pv (i+1),ct:=Pv (i+1),bk:=D.nx} σ2 H2)(hd:∀ σ H,Pv xs.length σ H->D.nx σ H):
  ∃ W:Nat->Nat->St->Hp->Prop,(∃ m,W 0 m σ H)/\∀ i m σ H,W i m σ H->
   ((Itt K a).stop i H/\D.nx σ H)\/((Itt K a).go i H/\∃ N:St->Hp->Prop,(∀ σ' H',N σ' H' -> ∃ m',m'<m/\W (i+1) m' σ' H')/\∀ x H',(Itt K a).yld i H x H' -> g x σ H' fun σ2 H2=>tb {D with nx:=N,ct:=N,bk:=D.nx} σ2 H2):=by
 refine⟨λi m σ H=>m=xs.length-i/\i<=xs.length/\Pv i σ H,⟨xs.length,(by simp),Nr _,h0⟩,?_⟩;rintro i m σ H ⟨rfl,hi,p⟩;have q:=hl i σ H hi p;by_cases hlt:i<xs.length
 .refine .inr ⟨⟨xs,xs[i],q,by simp[hlt]⟩,Pv (i+1),fun σ' H' p' => ⟨xs.length-(i+1),(by omega),rfl,hlt,p'⟩,λx H' y=>?_⟩;obtain⟨e,y⟩:=y;subst e;exact hs i x σ _ (y xs q) p
 .have e:i=xs.length:=by omega
  subst e;exact .inl ⟨⟨xs,q,Ik _⟩,hd σ H p⟩
def zhi{c:TT}{tb:TS}{D:Ends}{σ:St}{H:Hp}(Pv:St->Hp->Prop)(μ:St->Hp->Nat)(h0:Pv σ H)(hs:∀ σ H,Pv σ H->c σ H λb H1=>if b=true then tb {D with nx:=fun σ' H' => Pv σ' H' /\ μ σ' H'<μ σ H,ct:=fun σ' H' => Pv σ' H' /\ μ σ' H'<μ σ H,bk:=D.nx} σ H1 else D.nx σ H1)(mono:∀ σ H Q Q',(∀ b H1,Q b H1->Q' b H1)->c σ H Q->c σ H Q'):zfP c tb D σ H:=by
 refine⟨λm σ H=>m=μ σ H/\Pv σ H,⟨_,rfl,h0⟩,?_⟩;rintro m σ H ⟨rfl,p⟩;refine mono σ H _ _ (λb H1 q=>?_) (hs σ H p);cases b with
 |true=>exact⟨_,fun σ' H' ⟨p',l⟩=>⟨_,l,rfl,p'⟩,q⟩
 |false=>exact q
abbrev R2:=V->V->Hp->VK->Prop
def OpR(X:Cx)(f:Value->Value->Sem Value)(r:R2):Prop:=
 ∀(aa:List (Addr×Obj))(s:SH)(σ:St)(H:Hp)(x y:V)(v u:Value)(Q:VK),Inv X aa σ H s->RelV x v->RelV y u->r x y H Q->
  wpAny (model X.prog X.w) X.A (f v u) (EP X aa σ Q) X.xe s
def UnR(X:Cx)(f:Value->Sem Value)(r:V->Hp->VK->Prop):Prop:=
 ∀(aa:List (Addr×Obj))(s:SH)(σ:St)(H:Hp)(x:V)(v:Value)(Q:VK),Inv X aa σ H s->RelV x v->r x H Q->
  wpAny (model X.prog X.w) X.A (f v) (EP X aa σ Q) X.xe s
def V2(X:Cx)(f:Value)(r:LC->Hp->VK->Prop):Prop:=
 ∀(aa:List (Addr×Obj))(s:SH)(σ:St)(H:Hp)(xs:LC)(us:LF)(Q:VK),Inv X aa σ H s->Vals xs us->r xs H Q->
  wpAny (model X.prog X.w) X.A (call f us) (EP X aa σ Q) X.xe s
def tOp(r:R2)(ta tb:TE):TE:=fun σ H Q=>ta σ H λx H1=>tb σ H1 λy H2=>r x y H2 Q
def tUn(r:V->Hp->VK->Prop)(ta:TE):TE:=fun σ H Q=>ta σ H λx H1=>r x H1 Q
def rI(C:Int->Int->Prop)(g:Int->Int->V):R2:=λx y H Q=>∃ i j,x = .int i/\y = .int j/\C i j/\Q (g i j) H
def rI0(g:Int->Int->V):R2:=λx y H Q=>∃ i j,x = .int i/\y = .int j/\Q (g i j) H
def rU(g:Int->V):V->Hp->VK->Prop:=λx H Q=>∃ i,x = .int i/\Q (g i) H
section
variable {X:Cx}{a b c:Expr}{ta tb tc:TE}{pos:Pos}
def znP(ha:PE X a ta)(hb:PE X b tb){σ:St}{H:Hp}{R:V->V->Hp->Prop}(I:Inv X aa σ H s)(h:ta σ H λx H1=>tb σ H1 λy H2=>R x y H2){Q:Value->SH->Prop}{f:Value->Value->Sem Value}(hf:∀ v u s2 x y H2,Inv X aa σ H2 s2->RelV x v->RelV y u->R x y H2->wpAny (model X.prog X.w) X.A (f v u) Q X.xe s2):
  wpAny (model X.prog X.w) X.A (eval a X.env) (λv s₁=>wpAny (model X.prog X.w) X.A (eval b X.env) (λu s₂=>wpAny (model X.prog X.w) X.A (f v u) Q X.xe s₂) X.xe s₁) X.xe s:=by
 refine thn (ha aa s σ H _ I h) λv s1 ⟨x,H1,I1,r1,q1⟩=>?_;refine thn (hb aa s1 σ H1 _ I1 q1) λu s2 ⟨y,H2,I2,r2,q2⟩=>?_;exact hf v u s2 x y H2 I2 r1 r2 q2
def ZL{op:Operator}{r:R2}(ho:OpR X (binaryOp op) r)(ha:PE X a ta)(hb:PE X b tb):PE X (.BinOp a op b pos) (tOp r ta tb):=by intro aa s σ H Q I h;exact wpAny_BinOp (znP ha hb I h λv u s2 x y H2 I2 rx ry q=>ho aa s2 σ H2 x y v u Q I2 rx ry q)
def za2{op:UnaryOp}{r:V->Hp->VK->Prop}(ho:UnR X (unaryOp op) r)(ha:PE X a ta):PE X (.UnaryOp op a pos) (tUn r ta):=by intro aa s σ H Q I h;exact UnaryOp_ (thn (ha aa s σ H _ I h) λv s1 ⟨x,H1,I1,r1,q1⟩=>ho aa s1 σ H1 x v Q I1 r1 q1)
def opI{f:Value->Value->Sem Value}{C:Int->Int->Prop}{g:Int->Int->Int}(rule:∀(i j:Int)(t u:Tok)(s:SH)(Q:Value->SH->Prop)(E:Value->SH->Prop),C i j->Q (.int (g i j) s.toks) {s with toks:=s.toks+1}->wpAny (model X.prog X.w) X.A (f (.int i t) (.int j u)) Q E s):
  OpR X f (rI C λi j=>.int (g i j)):=by
 intro aa s σ H x y v u Q I rx ry h;obtain⟨i,j,rfl,rfl,hc,q⟩:=h;obtain⟨t,rfl⟩:=rx;obtain⟨t',rfl⟩:=ry;exact rule i j t t' s _ _ hc ⟨.int (g i j),H,I.tok _,⟨_,rfl⟩,q⟩
def zoy{f:Value->Value->Sem Value}{g:Int->Int->Int}(rule:∀(i j:Int)(t u:Tok)(s:SH)(Q:Value->SH->Prop)(E:Value->SH->Prop),Q (.int (g i j) s.toks) {s with toks:=s.toks+1}->wpAny (model X.prog X.w) X.A (f (.int i t) (.int j u)) Q E s):
  OpR X f (rI0 λi j=>.int (g i j)):=by
 intro aa s σ H x y v u Q I rx ry h;obtain⟨i,j,rfl,rfl,q⟩:=h;obtain⟨t,rfl⟩:=rx;obtain⟨t',rfl⟩:=ry;exact rule i j t t' s _ _ ⟨.int (g i j),H,I.tok _,⟨_,rfl⟩,q⟩
def zno{f:Value->Value->Sem Value}{g:Int->Int->Bool}(rule:∀(i j:Int)(t u:Tok)(s:SH)(Q:Value->SH->Prop)(E:Value->SH->Prop),Q (.bool (g i j)) s->wpAny (model X.prog X.w) X.A (f (.int i t) (.int j u)) Q E s):
  OpR X f (rI0 λi j=>.bl (g i j)):=by
 intro aa s σ H x y v u Q I rx ry h;obtain⟨i,j,rfl,rfl,q⟩:=h;obtain⟨t,rfl⟩:=rx;obtain⟨t',rfl⟩:=ry;exact rule i j t t' s _ _ ⟨.bl (g i j),H,I,rfl,q⟩
def znp(i j:Int):Prop:=0<=j/\j<=1000000/\i.natAbs<2^64
def YJ:OpR X (binaryOp .Add) (rI0 λi j=>.int (i+j)):=zoy λ_ _ _ _ _ _ _ q=>add_int q
def Us:OpR X (binaryOp .Sub) (rI0 λi j=>.int (i-j)):=zoy λ_ _ _ _ _ _ _ q=>sub_int q
def Vu:OpR X (binaryOp .Mod) (rI (λ_ j=>0<j) λi j=>.int (i % j)):=opI λi j _ _ _ _ _ hc q=>by have h1:(0:Int)<j:=hc;exact mod_int' (by omega) (by rw[Int.fmod_eq_emod_of_nonneg i (by omega)];exact q)
def Uy:OpR X (binaryOp .Pow) (rI znp λi j=>.int (i^j.toNat)):=opI λ_ _ _ _ _ _ _ hc q=>pow_int_small hc.1 hc.2.1 hc.2.2 q
def unI{f:Value->Sem Value}{g:Int->Int}(rule:∀(i:Int)(t:Tok)(s:SH)(Q:Value->SH->Prop)(E:Value->SH->Prop),Q (.int (g i) s.toks) {s with toks:=s.toks+1}->wpAny (model X.prog X.w) X.A (f (.int i t)) Q E s):
  UnR X f (rU λi=>.int (g i)):=by
 intro aa s σ H x v Q I rx h;obtain⟨i,rfl,q⟩:=h;obtain⟨t,rfl⟩:=rx;exact rule i t s _ _ ⟨.int (g i),H,I.tok _,⟨_,rfl⟩,q⟩
def QX:UnR X (unaryOp .USub) (rU λi=>.int (-i)):=unI λ_ _ _ _ _ q=>neg_int q
end
noncomputable def zoD:V->V->Bool
 |.non,.non=>true | .non,.int _=>true | .int _,.non=>true | .non,.bl _=>true | .bl _,.non=>true | .non,.str _=>true | .str _,.non=>true
 |.int _,.int _=>true | .bl _,.bl _=>true | .str _,.str _=>true | .byt _,.byt _=>true
 |.int _,.str _=>true | .str _,.int _=>true | .bl _,.str _=>true | .str _,.bl _=>true
 |_,_=>false
def rEq:R2:=λx y H Q=>zoD x y=true/\Q (.bl (decide (x=y))) H
def rNe:R2:=λx y H Q=>zoD x y=true/\Q (.bl (!decide (x=y))) H
def zf0{i j:Int}:decide (V.int i=V.int j)=(i==j):=by rw[Bool.eq_iff_iff];simp
def ziR{i j:Bool}:decide (V.bl i=V.bl j)=(i==j):=by rw[Bool.eq_iff_iff];simp
def zeY{i j:Str}:decide (V.str i=V.str j)=(i==j):=by rw[Bool.eq_iff_iff];simp
def zgJ{i j:Array UInt8}:decide (V.byt i=V.byt j)=(i.toList==j.toList):=by rw[Bool.eq_iff_iff];cases i;cases j;simp
section
variable {X:Cx}{a b c:Expr}{ta tb tc:TE}{pos:Pos}
def Yx{σ:St}{H:Hp}{Q:VK}{k k' : Bool}(I:Inv X aa σ H s)(q:Q (.bl k) H)(e:k=k'):EP X aa σ Q (.bool k') s:=by subst e;exact⟨.bl k,H,I,rfl,q⟩
def Y6:OpR X (compareOp .Eq) rEq:=by
 intro aa s σ H x y v u Q I rx ry h;obtain⟨hs,q⟩:=h;cases x with
 |non=>
  cases rx;cases y with
  |non=>cases ry;exact PySem.EqNone.eq_none_none (Yx I q (by simp))
  |bl j=>cases ry;exact PySem.EqNone.eq_none_bool (Yx I q (by simp))
  |int j=>obtain⟨t',rfl⟩:=ry;exact PySem.EqNone.eq_none_int (Yx I q (by simp))
  |str j=>obtain⟨t',rfl⟩:=ry;exact PySem.EqNone.eq_none_str (Yx I q (by simp))
  |_=>exact absurd (show false=true from hs) Ii
 |bl i=>
  cases rx;cases y with
  |non=>cases ry;exact PySem.EqNone.eq_bool_none (Yx I q (by simp))
  |bl j=>cases ry;exact eq_bool (Yx I q ziR)
  |str j=>obtain⟨t',rfl⟩:=ry;exact PySem.EqMixed.eq_bool_str (Yx I q (by simp))
  |_=>exact absurd (show false=true from hs) Ii
 |int i=>
  obtain⟨t,rfl⟩:=rx;cases y with
  |non=>cases ry;exact PySem.EqNone.eq_int_none (Yx I q (by simp))
  |int j=>obtain⟨t',rfl⟩:=ry;exact eq_int (Yx I q zf0)
  |str j=>obtain⟨t',rfl⟩:=ry;exact PySem.EqMixed.eq_int_str (Yx I q (by simp))
  |_=>exact absurd (show false=true from hs) Ii
 |str i=>
  obtain⟨t,rfl⟩:=rx;cases y with
  |non=>cases ry;exact PySem.EqNone.eq_str_none (Yx I q (by simp))
  |bl j=>cases ry;exact PySem.EqMixed.eq_str_bool (Yx I q (by simp))
  |int j=>obtain⟨t',rfl⟩:=ry;exact PySem.EqMixed.eq_str_int (Yx I q (by simp))
  |str j=>obtain⟨t',rfl⟩:=ry;exact eq_str (Yx I q zeY)
  |_=>exact absurd (show false=true from hs) Ii
 |byt i=>
  obtain⟨t,rfl⟩:=rx;cases y with
  |byt j=>obtain⟨t',rfl⟩:=ry;exact PySem.W.eq_bytes (Yx I q zgJ)
  |_=>exact absurd (show false=true from hs) Ii
 |_=>cases y <;> exact absurd (show false=true from hs) Ii
def zjV:OpR X (compareOp .NotEq) rNe:=by
 intro aa s σ H x y v u Q I rx ry h;obtain⟨hs,q⟩:=h;cases x with
 |non=>
  cases rx;cases y with
  |non=>cases ry;exact PySem.EqNone.ne_none_none (Yx I q (by simp))
  |bl j=>cases ry;exact PySem.EqNone.ne_none_bool (Yx I q (by simp))
  |int j=>obtain⟨t',rfl⟩:=ry;exact PySem.EqNone.ne_none_int (Yx I q (by simp))
  |str j=>obtain⟨t',rfl⟩:=ry;exact PySem.EqNone.ne_none_str (Yx I q (by simp))
  |_=>exact absurd (show false=true from hs) Ii
 |bl i=>
  cases rx;cases y with
  |non=>cases ry;exact PySem.EqNone.ne_bool_none (Yx I q (by simp))
  |bl j=>cases ry;exact ne_bool (Yx I q (IT not ziR))
  |str j=>obtain⟨t',rfl⟩:=ry;exact PySem.EqMixed.ne_bool_str (Yx I q (by simp))
  |_=>exact absurd (show false=true from hs) Ii
 |int i=>
  obtain⟨t,rfl⟩:=rx;cases y with
  |non=>cases ry;exact PySem.EqNone.ne_int_none (Yx I q (by simp))
  |int j=>obtain⟨t',rfl⟩:=ry;exact ne_int (Yx I q (IT not zf0))
  |str j=>obtain⟨t',rfl⟩:=ry;exact PySem.EqMixed.ne_int_str (Yx I q (by simp))
  |_=>exact absurd (show false=true from hs) Ii
 |str i=>
  obtain⟨t,rfl⟩:=rx;cases y with
  |non=>cases ry;exact PySem.EqNone.ne_str_none (Yx I q (by simp))
  |bl j=>cases ry;exact PySem.EqMixed.ne_str_bool (Yx I q (by simp))
  |int j=>obtain⟨t',rfl⟩:=ry;exact PySem.EqMixed.ne_str_int (Yx I q (by simp))
  |str j=>obtain⟨t',rfl⟩:=ry;exact ne_str (Yx I q (IT not zeY))
  |_=>exact absurd (show false=true from hs) Ii
 |byt i=>
  obtain⟨t,rfl⟩:=rx;cases y with
  |byt j=>obtain⟨t',rfl⟩:=ry;exact PySem.W.ne_bytes (Yx I q (IT not zgJ))
  |_=>exact absurd (show false=true from hs) Ii
 |_=>cases y <;> exact absurd (show false=true from hs) Ii
def zak:OpR X (compareOp .Lt) (rI0 λi j=>.bl (decide (i<j))):=zno λ_ _ _ _ _ _ _ q=>lt_int q
def zhg:OpR X (compareOp .LtE) (rI0 λi j=>.bl (decide (i<=j))):=zno λ_ _ _ _ _ _ _ q=>le_int q
def zds:OpR X (compareOp .Gt) (rI0 λi j=>.bl (decide (j<i))):=zno λ_ _ _ _ _ _ _ q=>gt_int q
def znD:OpR X (compareOp .GtE) (rI0 λi j=>.bl (decide (j<=i))):=zno λ_ _ _ _ _ _ _ q=>ge_int q
def ziT:OpR X (compareOp .Is) (λx y H Q=>y = .non/\Q (.bl (decide (x = .non))) H):=by
 intro aa s σ H x y v u Q I rx ry h;obtain⟨rfl,q⟩:=h;cases ry;refine is_none_gen (Yx I q ?_);cases x <;> first
  |(cases rx;rfl)
  |(obtain⟨t,rfl⟩:=rx;rfl)
def zje:OpR X (compareOp .IsNot) (λx y H Q=>y = .non/\Q (.bl (!decide (x = .non))) H):=by
 intro aa s σ H x y v u Q I rx ry h;obtain⟨rfl,q⟩:=h;cases ry;refine isnot_none_gen (Yx I q ?_);cases x <;> first
  |(cases rx;rfl)
  |(obtain⟨t,rfl⟩:=rx;rfl)
def ZM(b:Expr)(h:op≠.In:=by decide)(h2:op≠.NotIn:=by decide):behindInMarks op b=false:=by
 have e1:(op==CmpOp.In)=false:=by cases op <;> first | rfl | exact absurd rfl h
 have e2:(op==CmpOp.NotIn)=false:=by cases op <;> first | rfl | exact absurd rfl h2
 cases b <;> simp[behindInMarks,e1,e2]
def Y4{r:R2}(ho:OpR X (compareOp op) r)(ha:PE X a ta)(hb:PE X b tb)(hm:behindInMarks op b=false):PE X (.Compare a [op] [b] pos) (tOp r ta tb):=by intro aa s σ H Q I h;exact wpAny_Compare1 (znP ha hb I h λv u s2 x y H2 I2 rx ry q=>ho aa s2 σ H2 x y v u Q I2 rx ry q) hm
def zcv(t:TE):TT:=fun σ H Q=>t σ H λx H' => ∃ k,x = .bl k/\Q k H'
def ZJ{r:R2}(ho:OpR X (compareOp op) r)(ha:PE X a ta)(hb:PE X b tb)(hm:behindInMarks op b=false):PT X (.Compare a [op] [b] pos) (zcv (tOp r ta tb)):=by
 intro aa s σ H Q I h;refine wpAny_isTrue_Compare1 (thn (ha aa s σ H _ I h) λv s1 ⟨x,H1,I1,r1,q1⟩=>thn (hb aa s1 σ H1 _ I1 q1) λu s2 ⟨y,H2,I2,r2,q2⟩=>
  thn (ho aa s2 σ H2 x y v u _ I2 r1 r2 q2) λc s3 ⟨z,H3,I3,r3,k,e,q3⟩=>?_) hm
 subst e;cases r3;exact Nn ⟨H3,I3,q3⟩
def zeZ(r r' : R2)(ta tb tc:TE):TE:=fun σ H Q=>ta σ H λx H1=>tb σ H1 λy H2=>r x y H2 λz H3=>∃ k,z = .bl k/\
 (if k=true then tc σ H3 λw' H4=>r' y w' H4 Q else Q (.bl false) H3)
def zhU{op':CmpOp}{r r' : R2}(ho:OpR X (compareOp op) r)(ho' : OpR X (compareOp op') r')(ha:PE X a ta)(hb:PE X b tb)(hc:PE X c tc)(hm:lastMarks [op,op'] [b,c]=false:=by with_unfolding_all rfl):PE X (.Compare a [op,op'] [b,c] pos) (zeZ r r' ta tb tc):=by
 intro aa s σ H Q I h;refine Compare_chain (thn (ha aa s σ H _ I h) λv s1 ⟨x,H1,I1,r1,q1⟩=>chain_link (thn (hb aa s1 σ H1 _ I1 q1) λu s2 ⟨y,H2,I2,r2,q2⟩=>
  thn (ho aa s2 σ H2 x y v u _ I2 r1 r2 q2) λd s3 ⟨z,H3,I3,r3,k,e,q3⟩=>?_)) hm
 subst e;cases r3;refine Nn ?_;cases k with
 |false=>exact ite_ff ⟨.bl false,H3,I3,rfl,q3⟩
 |true=>exact ite_tt (chain_last (thn (hc aa s3 σ H3 _ I3 q3) λw' s4 ⟨z',H4,I4,r4,q4⟩=>ho' aa s4 σ H4 y z' u w' Q I4 r2 r4 q4))
def zdC{op':CmpOp}{r r' : R2}(ho:OpR X (compareOp op) r)(ho' : OpR X (compareOp op') r')(ha:PE X a ta)(hb:PE X b tb)(hc:PE X c tc)(hm:lastMarks [op,op'] [b,c]=false:=by with_unfolding_all rfl):PT X (.Compare a [op,op'] [b,c] pos) (zcv (zeZ r r' ta tb tc)):=by
 intro aa s σ H Q I h;refine isTrue_chain (thn (ha aa s σ H _ I h) λv s1 ⟨x,H1,I1,r1,q1⟩=>test_link (thn (hb aa s1 σ H1 _ I1 q1) λu s2 ⟨y,H2,I2,r2,q2⟩=>
  thn (ho aa s2 σ H2 x y v u _ I2 r1 r2 q2) λd s3 ⟨z,H3,I3,r3,k,e,q3⟩=>?_)) hm
 subst e;cases r3;refine Nn ?_;cases k with
 |false=>obtain⟨k',e',q'⟩:=q3;cases e';exact ite_ff ⟨H3,I3,q'⟩
 |true=>refine ite_tt (test_last (thn (hc aa s3 σ H3 _ I3 q3) λw' s4 ⟨z',H4,I4,r4,q4⟩=>thn (ho' aa s4 σ H4 y z' u w' _ I4 r2 r4 q4) λd' s5 ⟨z2,H5,I5,r5,k2,e2,q5⟩=>?_));subst e2;cases r5;exact Nn ⟨H5,I5,q5⟩
def zec:(sizeLine:Nat)<2^63:=by rw[sizeLine_eq];decide
def vals1{x:V}(r:Vals [x] us):∃ u,us=[u]/\RelV x u:=by
 cases r with
 |cons r1 r2=>cases r2;exact⟨_,rfl,r1⟩
def vals2{x y:V}(r:Vals [x,y] us):∃ u w',us=[u,w']/\RelV x u/\RelV y w':=by
 cases r with
 |cons r1 r2=>
  cases r2 with
  |cons r3 r4=>cases r4;exact⟨_,_,rfl,r1,r3⟩
def zhP:V2 X (.builtin "abs") (λxs H Q=>∃ i,xs=[.int i]/\Q (.int (if i<0 then -i else i)) H):=by intro aa s σ H xs us Q I r h;obtain⟨i,rfl,q⟩:=h;obtain⟨u,rfl,t,rfl⟩:=vals1 r;exact call_abs_int λu tk=>⟨.int (if i<0 then -i else i),H,I.tok _,⟨_,rfl⟩,q⟩
def zf3(hc:X.calm=true):V2 X (.builtin "min") (λxs H Q=>∃ i j,xs=[.int i,.int j]/\Q (.int (if j<i then j else i)) H):=by
 intro aa s σ H xs us Q I r h;obtain⟨i,j,rfl,q⟩:=h;obtain⟨u,w',rfl,⟨t,rfl⟩,⟨t',rfl⟩⟩:=vals2 r;refine min_two_ints (I.ok.hd hc) λh' tk k=>⟨_,H,I.kept k,?_,q⟩
 by_cases hj:j<i
 .rw[Iq hj,Iq hj];exact⟨_,rfl⟩
 .rw[Im hj,Im hj];exact⟨_,rfl⟩
def XH:V2 X (.type "int") (λxs H Q=>(∃ i,xs=[.int i]/\Q (.int i) H)\/∃ k,xs=[.bl k]/\Q (.int (if k then 1 else 0)) H):=by
 intro aa s σ H xs us Q I r h;rcases h with⟨i,rfl,q⟩ | ⟨k,rfl,q⟩
 .obtain⟨u,rfl,t,rfl⟩:=vals1 r;exact call_int_int ⟨.int i,H,I,⟨_,rfl⟩,q⟩
 .obtain⟨u,rfl,r1⟩:=vals1 r;cases r1;exact call_int_bool ⟨.int (if k then 1 else 0),H,I.tok _,⟨_,rfl⟩,q⟩
end
structure znM(h:Heap)(x dx C:AD)(mA:Str->LG):Prop where
 obj:h.get? x=some (instObj C dx)
 ns:h.Ns1 dx mA
 ne:dx≠x
def zfX{dx:AD}{mA:Str->LG}(n:h.Ns1 dx mA):∃ od,h.get? dx=some od/\∀ name,lookIn name od=some (mA name):=by
 obtain⟨o,es,ep,ho,hd,hk,_,hm⟩:=n;refine⟨o,ho,λname=>?_⟩;have e:=hm name;unfold nsFind findBy at e;rw[← Array.find?_toList]at e;unfold lookIn;rw[hd];dsimp only;split
 .rename_i y q
  rw[q]at e;exact IT some e
 .rename_i q
  rw[q]at e;have a:es.toList.any (·.refKey)=false:=by rw[List.any_eq_false];intro y hy;obtain⟨z,t,hkey⟩:=hk y (mem_toList_iff.mp hy);simp[DictEntry.refKey,hkey]
  have a' : ¬ es.toList.any (·.refKey)=true:=by rw[a];exact Ii
  rw[Im a'];exact IT some e
def znM.look{x dx C:AD}{mA:Str->LG}(I:znM h x dx C mA):∃ od,PySem.W.InstAt h x (instObj C dx) C (some od)/\∀ name,lookIn name od=some (mA name):=
 let ⟨od,ho,hl⟩:=zfX I.ns
 ⟨od,⟨I.obj,rfl,rfl,ho⟩,hl⟩
section
variable {P:Program}{w:World}{H H' : Hp}{h h' : Heap}{a C dx:AD}{fs fs' : List (Str×V)}
def zjw(ad:HOk P w H h)(e:H a=some (.ins C dx fs)):∃ mA,znM h a dx C mA/\(∀ f,znX (fs.lookup f) (mA f))/\PySem.Within mA (fs.map (·.1))/\fs.length<=1000/\H dx=some (.own a):=by
 obtain⟨d,z,ne,ob,mA,n,r,q⟩:=(show Xk P w H h a (.ins C dx fs)from ad a _ e)
 exact⟨mA,⟨ob,n,ne⟩,r,q,z,d⟩
end
structure Cls(K:FG)(C:AD):Prop where
 pg:plainGet K C Str.empty=true
 hd:PySem.W.hasDictIn K C=true
 po:PySem.W.plainOver K C=true
 sa:findIn K (.ref C) "__setattr__" = some (some (.builtin "object.__setattr__"))
def Cls.get{K:FG}{C:AD}(c:Cls K C)(f:Str):plainGet K C f=true:=c.pg
section
variable {X:Cx}{aa:List (Addr×Obj)}{σ:St}{H:Hp}{s:SH}{A:Around}{E:Value->SH->Prop}{Q:Value->SH->Prop}{c:Value}{b:Bool}
inductive zeS(K:FG)(H:Hp):V->Value->Prop where
 |non:zeS K H .non (.type "NoneType")
 |bl (x:Bool):zeS K H (.bl x) (.type "bool")
 |int (i:Int):zeS K H (.int i) (.type "int")
 |str (x:Str):zeS K H (.str x) (.type "str")
 |flt (x:UInt64):zeS K H (.flt x) (.type "float")
 |lst {a:AD}{xs:LC}(e:H a=some (.lst xs)):zeS K H (.ref a) (.type "list")
 |frz {a:AD}{o:Obj}{xs:LC}(e:H a=some (.frz o (.lst xs))):zeS K H (.ref a) (.type "list")
 |tup {a:AD}{xs:LC}(e:H a=some (.tup xs)):zeS K H (.ref a) (.type "tuple")
 |dK {a:AD}{kvs:List (Key×V)}(e:H a=some (.dK kvs)):zeS K H (.ref a) (.type "dict")
 |dT {a:AD}{kvs:List (List Key×V)}(e:H a=some (.dT kvs)):zeS K H (.ref a) (.type "dict")
 |ins {a C dx:AD}{fs:List (Str×V)}(e:H a=some (.ins C dx fs)) (cl:Cls K C) (ha:findIn K (.ref C) "__class__" = some (some (.builtin "object.__class__")))
   (hn:PySem.W.specialIn K (.builtin "object.__class__") "__get__" = some (some (.builtin "getset_descriptor.__get__"))) (htk:PySem.W.takesIn K (.builtin "object.__class__")=some true)
   (hm:PySem.W.mroIn K C (.type "object")=some true):zeS K H (.ref a) (.ref C)
def VD{x:V}{t:Value}(I:Inv X aa σ H s)(rx:RelV x u)(ty:zeS X.K H x t)(e:kitOne X.K t c=some b)(h:∀ tk,Q (.bool b) {s with toks:=tk}):
  wpAny (model X.prog X.w) A (call (.builtin "isinstance") [u,c]) Q E s:=by
 cases ty with
 |non=>cases(show u=Value.none from rx);exact OL PySem.W.kitx_none I.kIn True.intro e (λz=>nomatch z) h
 |bl y=>cases(show u=Value.bool y from rx);exact OL PySem.W.kitx_bool I.kIn True.intro e (λz=>nomatch z) h
 |int i=>obtain⟨t,q⟩:=(show ∃ t,u=Value.int i t from rx);cases q;exact OL PySem.W.kitx_int I.kIn True.intro e (λz=>nomatch z) h
 |str y=>obtain⟨t,q⟩:=(show ∃ t,u=Value.str y t from rx);cases q;exact OL PySem.W.kitx_str I.kIn True.intro e (λz=>nomatch z) h
 |flt y=>obtain⟨t,q⟩:=(show ∃ t,u=Value.float y t from rx);cases q;exact OL PySem.W.kitx_float I.kIn True.intro e (λz=>nomatch z) h
 |@lst a xs ea=>
  cases(show u=Value.ref a from rx);obtain⟨_,_,n,_,h1⟩:=(show Xk X.prog X.w H s.heap a (.lst xs)from I.ad a _ ea)
  exact OL kitx_list I.kIn ⟨_,h1,rfl⟩ e (λz=>nomatch z) h
 |@frz a ob xs ea=>
  cases(show u=Value.ref a from rx);obtain⟨_,_,_,n,_,h1⟩:=(show Xk X.prog X.w H s.heap a (.frz ob (.lst xs))from I.ad a _ ea)
  exact OL kitx_list I.kIn ⟨_,h1,rfl⟩ e (λz=>nomatch z) h
 |@tup a xs ea=>
  cases(show u=Value.ref a from rx);obtain⟨_,_,_,p,_⟩:=(show Xk X.prog X.w H s.heap a (.tup xs)from I.ad a _ ea)
  obtain⟨o,h1,h2,_⟩:=p;exact OL kitx_tuple I.kIn ⟨o,h1,h2⟩ e (λz=>nomatch z) h
 |@dK a kvs ea=>
  cases(show u=Value.ref a from rx);obtain⟨_,_,vs,_,p⟩:=(show Xk X.prog X.w H s.heap a (.dK kvs)from I.ad a _ ea)
  obtain⟨o,es,ep,h1,h2,_⟩:=p;exact OL kitx_dict I.kIn ⟨o,h1,h2.1⟩ e (λz=>nomatch z) h
 |@dT a kvs ea=>
  cases(show u=Value.ref a from rx);obtain⟨_,_,xs,_,o,es,ep,h1,h2,_⟩:=(show Xk X.prog X.w H s.heap a (.dT kvs)from I.ad a _ ea)
  exact OL kitx_dict I.kIn ⟨o,h1,h2.1⟩ e (λz=>nomatch z) h
 |@ins a C dx fs ea cl ha hn htk hm=>cases(show u=Value.ref a from rx);obtain⟨mA,O,_⟩:=zjw I.ad ea;obtain⟨od,J,_⟩:=O.look;exact OL (PySem.W.kitx_own (cl.get _) cl.hd ha hn htk hm) I.kIn J e (λz=>nomatch z) h
end
structure Wz(k:Nat)(A:Around):Prop where
 hd:A.handled=none
 dp:A.depth+3*k+5<recursionLimit
 un:A.units+16*k+200<cLine
def Wz.mono(r:Wz k A)(h:j<=k):Wz j A:=⟨r.hd,by have:=r.dp;omega,by have:=r.un;omega⟩
theorem Wz.deeper(r:Wz (k+1) A)(env:Env):Wz k (A.deeper env):=⟨r.hd,by have:=r.dp;show A.depth+1+3*k+5<_;omega,by have:=r.un;show A.units+3+16*k+200<_;omega⟩
theorem Wz.in1(r:Wz (k+1) A):Wz k A.in1:=⟨r.hd,by have:=r.dp;show A.depth+3*k+5<_;omega,by have:=r.un;show A.units+1+16*k+200<_;omega⟩
theorem Wz.depth(r:Wz k A):A.depth<recursionLimit:=by have:=r.dp;omega
theorem Wz.units(r:Wz k A):A.units+64<cLine:=by have:=r.un;omega
def Vk:TA:=λ_ H Q=>Q [] H
def YC(ta:TE)(tr:TA):TA:=fun σ H Q=>ta σ H λx H1=>tr σ H1 λxs H2=>Q (x::xs) H2
section
variable {X:Cx}{e:Expr}{es:List Expr}{te:TE}{t:TA}{pos:Pos}
def Ze:PA X [] Vk:=λ_ _ _ _ H Q I h=>spliced_nil ⟨[],H,I,.nil,h⟩
def Za(ha:PE X e te)(hr:PA X es t)(hs:starEach (e::es) X.env=(false,eval e X.env)::starEach es X.env:=by rfl):PA X (e::es) (YC te t):=by intro pos aa s σ H Q I h;rw[hs];show wpAny _ _ (spliced ((false,eval e X.env)::backTo pos (starEach es X.env))) _ _ s;refine spliced_cons (thn (ha aa s σ H _ I h) λu s1 ⟨x,H1,I1,r1,q1⟩=>?_);exact thn (hr pos aa s1 σ H1 _ I1 q1) λus s2 ⟨xs,H2,I2,r2,q2⟩=>⟨x::xs,H2,I2,.cons r1 r2,q2⟩
def ziB(t:TA):TE:=fun σ H Q=>t σ H λxs H1=>xs.length<=sizeLine/\∀ p,H1 p=none->Q (.ref p) (upd H1 p (.tup xs))
def zhM(t:TA):TE:=fun σ H Q=>t σ H λxs H1=>xs.length<=sizeLine/\∀ p,H1 p=none->Q (.ref p) (upd H1 p (.lst xs))
def Xb{x1}(h:PA X es t):PE X (.Tuple es x1 pos) (ziB t):=by intro aa s σ H Q I hq;refine wpAny_Tuple_spliced (thn (h pos aa s σ H _ I hq) λus s1 ⟨xs,H1,I1,r,z,q⟩=>⟨by rw[← r.length];exact z,?_⟩);have hf:H1 s1.heap.objs.size=none:=I1.ad.fresh (Ik _);refine⟨.ref s1.heap.objs.size,upd H1 s1.heap.objs.size (.tup xs),I1.laid (t':=s1.toks) (λb u e=>Ih _ e) (Ik _) ?_,rfl,q _ hf⟩;exact⟨z,us,r,⟨_,Io _ rfl,rfl,_,rfl⟩,_,Io _ rfl,rfl⟩
def Z3(h:PA X es t):PE X (.List es pos) (zhM t):=by intro aa s σ H Q I hq;refine wpAny_List_spliced (thn (h pos aa s σ H _ I hq) λus s1 ⟨xs,H1,I1,r,z,q⟩=>⟨by rw[← r.length];exact z,?_⟩);have hf:H1 s1.heap.objs.size=none:=I1.ad.fresh (Ik _);refine⟨.ref s1.heap.objs.size,upd H1 s1.heap.objs.size (.lst xs),I1.laid (t':=s1.toks) (λb u e=>Ih _ e) (Ik _) ?_,rfl,q _ hf⟩;exact⟨z,us,0,r,Io _ rfl⟩
end
abbrev Sp:=LC->Hp->VK->XK->Prop
abbrev CXT:=LJ->Hp->SH->XK->Value->SH->Prop
structure zdQ(P:Program)(w:World)(K:FG)(mg:Str->LG)(base:Heap)(A:Around)(outer:LJ)(s:SH)(H:Hp):Prop where
 frames:A.frames=some outer
 mod:Mod K mg base
 bs:∀ b o,base.get? b=some o->s.heap.get? b=some o/\H b=none
 bsz:base.objs.size<=s.heap.objs.size
 zdr:s.heap.FunFrames base outer
 frf:∀ b∈frs outer,H b=none
 ad:HOk P w H s.heap
 bare:AllBare s.gens
def CE(outer:LJ)(P:Program)(w:World)(H:Hp)(s:SH)(Q:VK)(u:Value)(s' : SH):Prop:=∃ v H',s'.os=s.os/\AllBare s'.gens/\Un (frs outer) [] H H' s.heap s'.heap/\HOk P w H' s'.heap/\RelV v u/\Q v H'
def CR(CX:CXT)(outer:LJ)(P:Program)(w:World)(H:Hp)(s:SH)(Q:VK)(E:XK)(r:Result)(s' : SH):Prop:=
 match r with
 |.ok (.ret u)=>CE outer P w H s Q u s'
 |.ok _=>False
 |.error e=>CX outer H s E e s'
structure VH(P:Program)(w:World)(K:FG)(mg:Str->LG)(base:Heap)(CX:CXT)(k:Nat)(f:AD)(fd:FuncData)(ps:LB)(sp:Sp):Prop where
 len:∀ vs H Q E,sp vs H Q E->vs.length=ps.length
 run:∀(A:Around)(outer:LJ)(s:SH)(H:Hp)(args:Args)(us:LF)(vs:LC)(Q:VK)(E:XK),Wz k A->zdQ P w K mg base A outer s H->BindsTo s fd args (ps.zip us)->Vals vs us->sp vs H Q E->
  codeAny (model P w) A (.call (.ref f) args) (CR CX outer P w H s Q E) s
theorem VH.mono{P:Program}{w:World}{K:FG}{mg:Str->LG}{base:Heap}{CX:CXT}{sp:Sp}(F:VH P w K mg base CX j f fd ps sp)(h:j<=k):
  VH P w K mg base CX k f fd ps sp:=⟨F.len,λA outer s H args us vs Q E hr=>F.run A outer s H args us vs Q E (hr.mono h)⟩
def VH.imp{P:Program}{w:World}{K:FG}{mg:Str->LG}{base:Heap}{CX:CXT}{sp sp' : Sp}(F:VH P w K mg base CX k f fd ps sp)(h:∀ vs H Q E,sp' vs H Q E->sp vs H Q E):VH P w K mg base CX k f fd ps sp' :=
 ⟨λvs H Q E q=>F.len vs H Q E (h _ _ _ _ q),λA outer s H args us vs Q E hr he hb hv hs=>F.run A outer s H args us vs Q E hr he hb hv (h _ _ _ _ hs)⟩
section
variable {X:Cx}{aa:List (Addr×Obj)}{σ:St}{H:Hp}{s s' : SH}
def Inv.env0(I:Inv X aa σ H s):zdQ X.prog X.w X.K X.mg X.base X.A X.stack s H:=⟨I.ok.frames,I.ok.mod,I.bs,ND I.ok.bsz I.sz,I.stack,I.zgm,I.ad,I.bare⟩
def Inv.after{Q:VK}(I:Inv X aa σ H s)(h:CE X.stack X.prog X.w H s Q u s'):EP X aa σ Q u s':=by obtain⟨v,H',os,bare,un,ad,r,q⟩:=h;obtain⟨hh,g,d,t,os'⟩:=s';obtain rfl:os'=s.os:=os;exact⟨v,H',I.call (h':=hh) (g':=g) (d':=d) (t':=t) (ch:=[]) un ad bare (λb z=>absurd z (by simp)),r,q⟩
end
def QM(sp:Sp)(dvs:LC)(E:XK)(t:TA):TE:=fun σ H Q=>t σ H λvs H1=>sp (vs++dvs) H1 Q E
def Binds(K:FG)(fd:FuncData)(ps:LB)(ds:LF):Prop:=∀(s:SH)(us:LF),K.In s.heap->(us++ds).length=ps.length->BindsTo s fd ⟨us,[]⟩ (ps.zip (us++ds))
def Binds.all{K:FG}(h:∀ us:LF,us.length=ps.length->bindArgs fd ⟨us,[]⟩=pure (ps.zip us)):Binds K fd ps []:=λs us _ hl=>by rw[NK]at hl ⊢;exact .of_eq (h us hl)
def zf7(CX:CXT)(X:Cx)(E:XK):Prop:=∀(aa:List (Addr×Obj))(σ:St)(H:Hp)(s:SH)(e:Value)(s' : SH),Inv X aa σ H s->CX X.stack H s E e s' -> X.xe e s'
section
variable {X:Cx}{CX:CXT}{k:Nat}{f C:AD}{fd:FuncData}{ps:LB}{sp:Sp}{dvs:LC}{ds:LF}{E:XK}{x m:Str}{p pos apos:Pos}{e o:Expr}{es:List Expr}{ta:TE}{t:TA}
def znn{σ:St}{H:Hp}{Q:VK}{vs:LC}(F:VH X.prog X.w X.K X.mg X.base CX k f fd ps sp)(hr:Wz k X.A)(hb:Binds X.K fd ps ds)(hd:Vals dvs ds)(hx:zf7 CX X E)(I:Inv X aa σ H s)(r:Vals vs us)(h:sp (vs++dvs) H Q E):wpAny (model X.prog X.w) X.A (call (.ref f) us) (EP X aa σ Q) X.xe s:=by
 have r2:Vals (vs++dvs) (us++ds):=r.append hd;have hl:(us++ds).length=ps.length:=by rw[← r2.length];exact F.len _ _ _ _ h
 refine wpAny_call (Ob (F.run X.A X.stack s H ⟨us,[]⟩ (us++ds) (vs++dvs) Q E hr I.env0 (hb s us I.kIn hl) r2 h) λr s' hq=>?_);cases r with
 |error e=>exact hx aa σ H s e s' I hq
 |ok fl=>
  cases fl with
  |ret u=>exact I.after hq
  |next=>exact False.elim hq
  |brk=>exact False.elim hq
  |cont=>exact False.elim hq
def zky(F:VH X.prog X.w X.K X.mg X.base CX k f fd ps sp)(hr:Wz k X.A)(hg:Gl X x)(hm:X.mg x=some (.ref f))(hk:keepIn X.K (.ref f)=true)(hb:Binds X.K fd ps ds)(hd:Vals dvs ds)(hx:zf7 CX X E)(ha:PA X (e::es) t)(hdb:(x==("__debug__" : Str))=false:=by decide)(he:starEach (e::es) X.env=(false,eval e X.env)::starEach es X.env:=by rfl)(hpl:(backTo pos (starEach es X.env)).any (·.1)=false:=by rfl):
  PE X (.Call (.Name x p) (e::es) [] pos) (QM sp dvs E t):=by
 intro aa s σ H Q I h;refine Nt (zbq I hg hm ?_ hdb);refine callWith_K (h₀:=X.base) I.ok.mod.kin hk (thn (ha pos aa s σ H _ I h) λus s1 ⟨vs,H1,I1,r,q⟩=>⟨I1.kIn,?_⟩) he hpl;exact znn F hr hb hd hx I1 r q
end
def PK(X:Cx)(kws:List Keyword)(t:TA):Prop:=∀(pos:Pos)(aa:List (Addr×Obj))(s:SH)(σ:St)(H:Hp)(Q:LC->Hp->Prop),Inv X aa σ H s->t σ H Q->wpAny (model X.prog X.w) X.A (evalAll ((backToKw pos (keywordEach kws X.env)).map (·.2))) (AP X aa σ Q) X.xe s
section
variable {X:Cx}{CX:CXT}{k:Nat}{f C:AD}{fd:FuncData}{ps ks:LB}{sp:Sp}{E:XK}{x m:Str}{p pos apos kpos:Pos}{e o:Expr}{es:List Expr}{kws:List Keyword}{te ta:TE}{t tk:TA}{nm:Option Str}
def zm2:PK X [] Vk:=λ_ _ _ _ H Q I h=>wpAny_evalAll_nil ⟨[],H,I,.nil,h⟩
def zjC(ha:PE X e te)(hr:PK X kws t):PK X (⟨nm,e,kpos⟩::kws) (YC te t):=by intro pos aa s σ H Q I h;show wpAny _ _ (evalAll ((do let v ← eval e X.env;standAt pos;pure v)::(backToKw pos (keywordEach kws X.env)).map (·.2))) _ _ s;refine wpAny_evalAll_cons (Ia (thn (ha aa s σ H _ I h) λu s1 ⟨x,H1,I1,r1,q1⟩=>Ia (OK (Ic ?_))));exact thn (hr pos aa s1 σ H1 _ I1 q1) λus s2 ⟨xs,H2,I2,r2,q2⟩=>⟨x::xs,H2,I2,.cons r1 r2,q2⟩
variable {g:LF->LF->LF}{gV:LC->LC->LC}
end
structure ZK(N P:LB)(sc:Scope):Prop where
 kind:sc.kind = .function
 co:sc.isCoroutine=false
 gen:sc.isGenerator=false
 nd:N.Nodup
 pre:N.take P.length=P
 par:∀ x∈P,sc.names.lookup x=some .local\/sc.names.lookup x=some .cell
 nofree:∀ y∈sc.names,y.2≠.free
theorem zb2 :∀{binds:List (Str×Value)}{m:Str->LG},(∀ v,(x,v)∉binds)->bindL kindOf binds m x=m x
 |[],_,_=>rfl
 |(n,v)::r,m,h=>by
  unfold bindL;rw[zb2 λw hw=>h w (Iy _ hw)];split
  .have:x≠n:=by rintro rfl;exact h v ID
   simp[this]
  .rfl
theorem zck :∀{binds:List (Str×Value)}{m:Str->LG},(∀ v,(x,v)∉binds)->bindC kindOf binds m x=m x
 |[],_,_=>rfl
 |(n,v)::r,m,h=>by
  unfold bindC;rw[zck λw hw=>h w (Iy _ hw)];split
  .rfl
  .have:x≠n:=by rintro rfl;exact h v ID
   simp[this]
theorem zaD{v:Value}:∀{P:LB}{vs:LF}{i:Nat}{m:Str->LG},P.Nodup->P[i]?=some x->vs[i]?=some v->kindOf x=some .local->
  bindL kindOf (P.zip vs) m x=some v
 |[],_,_,_,_,h,_,_=>by simp at h
 |_::_,[],_,_,_,_,h,_=>by simp at h
 |p::P,w::vs,0,m,nd,h1,h2,hk=>by simp at h1 h2;subst h1;subst h2;show bindL kindOf ((p,w)::P.zip vs) m p=_;unfold bindL;rw[zb2 λv hv=>(OM.mp nd).1 (ON hv).1,Iq hk];simp
 |p::P,w::vs,i+1,m,nd,h1,h2,hk=>by show bindL kindOf ((p,w)::P.zip vs) m x=_;unfold bindL;exact zaD (i:=i) (OM.mp nd).2 (by simpa using h1) (by simpa using h2) hk
theorem zat{v:Value}:∀{P:LB}{vs:LF}{i:Nat}{m:Str->LG},P.Nodup->P[i]?=some x->vs[i]?=some v->kindOf x≠some .local->
  bindC kindOf (P.zip vs) m x=some v
 |[],_,_,_,_,h,_,_=>by simp at h
 |_::_,[],_,_,_,_,h,_=>by simp at h
 |p::P,w::vs,0,m,nd,h1,h2,hk=>by simp at h1 h2;subst h1;subst h2;show bindC kindOf ((p,w)::P.zip vs) m p=_;unfold bindC;rw[zck λv hv=>(OM.mp nd).1 (ON hv).1,Im hk];simp
 |p::P,w::vs,i+1,m,nd,h1,h2,hk=>by show bindC kindOf ((p,w)::P.zip vs) m x=_;unfold bindC;exact zat (i:=i) (OM.mp nd).2 (by simpa using h1) (by simpa using h2) hk
noncomputable def start(N:LB)(vs:LC):St:=vs.map some++List.replicate (N.length-vs.length) none
noncomputable def zbJ(CX:CXT)(P:Program)(w:World)(K:FG)(mg:Str->LG)(base:Heap)(N:LB)(qual:Str)(scope:Scope)(f:AD)(cd:Value)(A:Around)(outer:LJ)(s:SH)(H:Hp)(E:XK):Cx where
 prog:=P
 w:=w
 K:=K
 mg:=mg
 base:=base
 A:=A.deeper (envOfC qual scope s.heap.objs.size f cd)
 N:=N
 s₀:=s
 H₀:=H
 env:=envOfC qual scope s.heap.objs.size f cd
 outer:=outer
 stack:=envOfC qual scope s.heap.objs.size f cd::outer
 ex:=[]
 calm:=true
 fn:=λ_=>true
 pn:=[]
 xe:=λe s' => wpAny (model P w) (A.deeper (envOfC qual scope s.heap.objs.size f cd)) (leaving (envOfC qual scope s.heap.objs.size f cd) e) (λ_ s'' => CX outer H s E e s'') (λe' s'' => CX outer H s E e' s'') s'
def U5{sc:Scope}{n:Nat}(h:sc.names.lookup x=some .cell):∃ c,(cellsFrom n sc.names []).lookup x=some c:=by have q:=cellsFrom_some sc.names n [] (.inl h);exact NE.mp q
def zcu{CX:CXT}{P:Program}{w:World}{K:FG}{mg:Str->LG}{base:Heap}{N:LB}{qual:Str}{cd:Value}{outer:LJ}{s1:SH}{H:Hp}{E:XK}{vs:LC}(S:ZK N ps scope)(hd:A.handled=none)(e0:zdQ P w K mg base A outer s H)(hl:vs.length=ps.length)(r:Vals vs us)(x:InCallC s s.heap.objs.size (bindL (envOfC qual scope s.heap.objs.size f cd).kindOf (ps.zip us) λ_=>none) (cellsFrom (s.heap.objs.size+1) scope.names []) (bindC (envOfC qual scope s.heap.objs.size f cd).kindOf (ps.zip us) λ_=>none) s1):
  Inv (zbJ CX P w K mg base N qual scope f cd A outer s H E) [] (start N vs) H s1:=by
 have hpl:ps.length<=N.length:=by have:=IT List.length S.pre;rw[Nj]at this;omega
 obtain⟨h1,tk,rfl,hk⟩:=x.done;have noA:∀ b:AD,b∉(zbJ CX P w K mg base N qual scope f cd A outer s H E).ex:=λb z=>absurd (show b∈([]:LH)from z) (by simp);refine⟨⟨e0.mod,S.kind,rfl,rfl,Ik _,λy z c h1 h2=>?_,λy hy=>?_,λy c _ h=>?_,λ_=>hd,frames_deeper e0.frames,.inr ⟨rfl,rfl⟩,λb z=>absurd z (noA b),e0.bs,e0.bsz,λb _ _=>noA b,λb z=>absurd z (noA b),e0.zdr,e0.frf⟩,
  rfl,e0.bare,Un.kept hk,⟨_,x.toInCall.ns,λi y v h1 h2 h3=>?_⟩,λy c h=>⟨_,x.cell y c h⟩,e0.ad.fresh (Ik _),λy c h=>?_,λp hp=>absurd (show p∈([]:List (Addr×Obj))from hp) (by simp),e0.ad.kept hk,?_⟩
 .exact name_of_addr x.apart (IJ h1) (IJ h2)
 .have hy:scope.names.lookup y=some .cell\/scope.names.lookup y=some .free:=hy;rcases hy with hy | hy
  .exact U5 hy
  .exact absurd rfl (S.nofree _ (IJ hy))
 .exact Oz (x.above y c (IJ h))
 .have hi:i<vs.length:=by
   unfold start at h2;by_cases hi:i<vs.length
   .exact hi
   .rw[IU (by simpa using hi)]at h2;rw[List.getElem?_replicate]at h2;split at h2 <;> cases h2
  have ha:vs[i]?=some v:=by
   unfold start at h2;rw[IV (by simpa using hi),Ij]at h2;cases e:vs[i]? with
   |none=>rw[e]at h2;cases h2
   |some a=>rw[e]at h2;cases h2;rfl
  obtain⟨u,hu,rv⟩:=r.get ha;have hp:ps[i]?=some y:=by rw[← S.pre,List.getElem?_take_of_lt (by omega)];exact h1
  have ndP:ps.Nodup:=by rw[← S.pre];exact S.nd.sublist (List.take_sublist _ _)
  refine⟨u,rv,?_⟩;rcases S.par y (Iz hp)with k | k
  .exact .inl ⟨k,zaD ndP hp hu k⟩
  .obtain⟨c,e⟩:=U5 (n:=s.heap.objs.size+1) k;refine .inr ⟨.inl k,c,e,?_⟩;have q:=x.cell y c e;rw[zat ndP hp hu (by show scope.names.lookup y≠_;rw[k];decide)]at q;exact q
 .exact e0.ad.fresh (Oz (x.above y c (IJ h)))
 .unfold start;show _=N.length;rw[Ig,Ie,NN];omega
def zlQ{CX:CXT}{P:Program}{w:World}{K:FG}{mg:Str->LG}{base:Heap}{name qual:Str}{params:Arguments}{dV kV doc pm cdv ct oc:Value}{an od:Option AD}{osl:Array (LG)}{N ps:LB}{sp:Sp}(lk:K.lookup f=some ⟨oc,od,.func (PySem.W.fnOf name qual params body scope dV kV doc pm an cdv ct),osl⟩)(hcd:codeIn K cdv qual=true)(S:ZK N ps scope)(len:∀ vs H Q E,sp vs H Q E->vs.length=ps.length)(hbody:∀(A:Around)(outer:LJ)(s:SH)(H:Hp)(vs:LC)(Q:VK)(E:XK),Wz k (A.deeper (envOfC qual scope s.heap.objs.size f cdv))->sp vs H Q E->
   ∃ t,PSs (zbJ CX P w K mg base N qual scope f cdv A outer s H E) body t/\t {nx:=λ_ H' => Q .non H',rt:=Q} (start N vs) H):
  VH P w K mg base CX (k+1) f (PySem.W.fnOf name qual params body scope dV kV doc pm an cdv ct) ps sp:=by
 refine⟨len,λA outer s H args us vs Q E hr e0 hb r hsp=>?_⟩;have hl:=len _ _ _ _ hsp;have KX:K.In s.heap:=e0.mod.kin.keeps λb o e=>(e0.bs b o e).1;have lim:s.heap.NoLimit:=e0.mod.nolimit.keeps λb o e=>(e0.bs b o e).1;have hkind:∀ y∈ps.zip us,scope.names.lookup y.1=some .local\/(scope.names.lookup y.1=some .cell/\((cellsFrom (s.heap.objs.size+1) scope.names []).lookup y.1).isSome=true):=λ⟨n,v⟩ hy=>by
  rcases S.par n (ON hy).1 with q | q
  .exact .inl q
  .exact .inr ⟨q,cellsFrom_some _ _ _ (.inl q)⟩
 refine codeAny_call_function hr.depth (KX _ _ lk) rfl S.co S.gen rfl (codeRec_of KX hcd) (hb _ _ _ _ ?_);refine wpAny_newFunctionEnv_cells S.kind hkind λenv he s1 x=>?_;subst he;refine⟨lim.keeps x.toInCall.keep,codeAny_func ?_⟩;obtain⟨t,ht,hq⟩:=hbody A outer s H vs Q E (hr.deeper _) hsp;have I:Inv (zbJ CX P w K mg base N qual scope f cdv A outer s H E) [] (start N vs) H s1:=zcu S hr.hd e0 hl r x;refine NJ (ht [] s1 (start N vs) H _ I hq) (λfl s' hs=>?_) λe s' hs=>hs;have fin:∀{σ' : St}{H' : Hp}{v:V}{u:Value},Inv (zbJ CX P w K mg base N qual scope f cdv A outer s H E) [] σ' H' s' -> RelV v u->Q v H' -> CE outer P w H s Q u s' :=λ{σ' H' v u} J rv q=>⟨v,H',J.os,J.bare,J.base,J.ad,rv,q⟩
 cases fl with
 |ret u=>obtain⟨v,σ',H',J,rv,q⟩:=hs;exact fin J rv q
 |next=>obtain⟨σ',H',J,q⟩:=hs;exact fin (v:=V.non) (u:=Value.none) J rfl q
 |brk=>obtain⟨_,_,_,q⟩:=hs;exact False.elim q
 |cont=>obtain⟨_,_,_,q⟩:=hs;exact False.elim q
section
variable {X:Cx}{x:Str}{p pos:Pos}{e:Expr}{es:List Expr}{t:TA}{id T:String}{r:LC->Hp->VK->Prop}
def tCB(r:LC->Hp->VK->Prop)(t:TA):TE:=fun σ H Q=>t σ H λvs H1=>r vs H1 Q
def Z2(hc:V2 X (.builtin id) r)(hg:Gl X x)(hm:X.mg x=none)(hv:bootBuiltins x=some (.builtin id))(ha:PA X (e::es) t)(hn:x≠ "__name__" := by decide)(hdb:(x==("__debug__" : Str))=false:=by decide)(he:starEach (e::es) X.env=(false,eval e X.env)::starEach es X.env:=by rfl)(hpl:(backTo pos (starEach es X.env)).any (·.1)=false:=by rfl):PE X (.Call (.Name x p) (e::es) [] pos) (tCB r t):=by
 intro aa s σ H Q I h;refine Nt (QT I hg hm hv ?_ hn hdb);exact PyProof.Rows.callWith_builtin1 (thn (ha pos aa s σ H _ I h) λus s1 ⟨vs,H1,I1,r1,q1⟩=>hc aa s1 σ H1 vs us Q I1 r1 q1) he hpl
def Yq(hc:V2 X (.type T) r)(hg:Gl X x)(hm:X.mg x=none)(hv:bootBuiltins x=some (.type T))(ha:PA X (e::es) t)(hn:x≠ "__name__" := by decide)(hdb:(x==("__debug__" : Str))=false:=by decide)(he:starEach (e::es) X.env=(false,eval e X.env)::starEach es X.env:=by rfl)(hpl:(backTo pos (starEach es X.env)).any (·.1)=false:=by rfl):PE X (.Call (.Name x p) (e::es) [] pos) (tCB r t):=by
 intro aa s σ H Q I h;refine Nt (QT I hg hm hv ?_ hn hdb);exact Nl (thn (ha pos aa s σ H _ I h) λus s1 ⟨vs,H1,I1,r1,q1⟩=>hc aa s1 σ H1 vs us Q I1 r1 q1) he hpl
end
end L2
namespace HT
open PySem PyProof.Rows
section
variable {prog:Program}{w:World}{A:Around}{E:Value->SH->Prop}{s:SH}
def zki{t b:AD}{vs ws:LF}{Q:Value->SH->Prop}(ht:IsTup s.heap t vs.toArray)(hb:IsTup s.heap b ws.toArray)(hv:vs≠[])(h1:ws=[]->Q (.ref t) s)(h2:ws≠[]->Q (.ref s.heap.objs.size) {s with heap:=s.heap.push {cls:=.type "tuple",data:=.seq (vs++ws).toArray}})(hsz:vs.length+ws.length<=sizeLine):wpAny (model prog w) A (binaryOp .Add (.ref t) (.ref b)) Q E s:=by
 obtain⟨⟨cls,dd,data,sl⟩,ho,hc,n,hd⟩:=id ht;obtain⟨⟨cls2,dd2,data2,sl2⟩,ho2,hc2,n2,hd2⟩:=id hb;simp only at hc hd hc2 hd2;subst hc hd hc2 hd2;have e:vs.toArray++ws.toArray=(vs++ws).toArray:=by simp
 by_cases hw:ws=[]
 .exact concat_meets ⟨_,ho,rfl⟩ ⟨_,ho2,rfl⟩ noFill_tuple_add seq_tuple_add PySem.F.slot_tuple_add PySem.F.entry_tuple_add (PySem.F.args_tuple_add_2 _ _)
   (tuple_addW1 t b vs.toArray ws.toArray n n2 dd dd2 sl sl2 (by simpa using hv) (by simp[hw])) ⟨ho,ho2,h1 hw⟩
 .refine concat_meets ⟨_,ho,rfl⟩ ⟨_,ho2,rfl⟩ noFill_tuple_add seq_tuple_add PySem.F.slot_tuple_add PySem.F.entry_tuple_add (PySem.F.args_tuple_add_2 _ _)
   (tuple_addW2 t b vs.toArray ws.toArray n n2 dd dd2 sl sl2 (by simpa using hv) (by simpa using hw) (by rw[Ix,Ix];exact hsz)) ⟨ho,ho2,?_⟩
  rw[e];exact h2 hw
noncomputable def sIx(n d:Nat):LI->Nat
 |none=>d
 |some v=>if v<0 then(v+(n:Int)).toNat else min v.toNat n
def zdM(n d:Nat):sIx n d none=d:=rfl
def zbD(n d k:Nat):sIx n d (some (k:Int))=min k n:=by show(if(k:Int)<0 then((k:Int)+(n:Int)).toNat else min (k:Int).toNat n)=min k n;rw[Im (by omega),NG]
def zk6(n d:Nat)(hd:d<=n)(o:LI):sIx n d o<=n:=by
 cases o with
 |none=>exact hd
 |some v=>
  show(if v<0 then(v+(n:Int)).toNat else min v.toNat n)<=n;by_cases hv:v<0
  .rw[Iq hv];omega
  .rw[Im hv];exact Nat.min_le_right _ _
def zgP(v:Int)(n d:Nat):(if v<0 then max (v+(n:Int)) 0 else min v (n:Int))=((sIx n d (some v):Nat):Int):=by
 show(if v<0 then max (v+(n:Int)) 0 else min v (n:Int))=(((if v<0 then(v+(n:Int)).toNat else min v.toNat n):Nat):Int)
 by_cases hv:v<0
 .simp only[Iq hv];omega
 .simp only[Im hv];omega
def zeR(lo hi:LI)(n:Nat):Builtin.Slice.sliceAdjust lo hi 1 (n:Int)=(((sIx n 0 lo:Nat):Int),((sIx n n hi:Nat):Int)):=by
 have h1:¬ ((1:Int)<0):=by omega
 unfold Builtin.Slice.sliceAdjust;simp only[h1,Nf];refine Prod.ext ?_ ?_
 .cases lo with
  |none=>rfl
  |some v=>exact zgP v n 0
 .cases hi with
  |none=>rfl
  |some v=>exact zgP v n n
def zeE(i j:Nat):Builtin.Slice.slicePlaces (i:Int) (j:Int) 1=j-i:=by
 unfold Builtin.Slice.slicePlaces;have h1:(1:Int)>0:=by omega
 simp only[h1,Oj,Int.ediv_one];split <;> omega
def za6{v:Value}{o:LI}{Q:LI->SH->Prop}(p:IsPart v o)(h:Q o s):wpAny (model prog w) A (Builtin.Slice.slicePartIndex v) Q E s:=by
 cases p with
 |none=>exact slicePart_none h
 |int i t=>exact slicePart_int h
def J6{sl:AD}{vl vu:Value}{lo hi:LI}{n:Nat}{Q:Int×Int×Nat->SH->Prop}(hs:s.heap.IsSliceOf sl vl vu .none)(pl:IsPart vl lo)(pu:IsPart vu hi)(h:Q (((sIx n 0 lo:Nat):Int),1,sIx n n hi-sIx n 0 lo) s):wpAny (model prog w) A (Builtin.Slice.sliceApplied (.ref sl) (pure (n:Int))) Q E s:=by
 obtain⟨os,hos,hcs,hds⟩:=id hs;unfold Builtin.Slice.sliceApplied Builtin.Slice.sliceFields;refine Ia (Ia (IW hos hds (x:=vl) rfl (Ia (IW hos hds (x:=vu) rfl (Ia (IW hos hds (x:=.none) rfl (Ic ?_)))))));refine Ia (slicePart_none ?_);show wpAny _ _ (if((1:Int)==0)=true then _ else _) _ _ s;rw[Im (by decide)];refine Ia (za6 pl (Ia (za6 pu (Ia (Ic ?_)))));show wpAny _ _ (match Builtin.Slice.sliceAdjust lo hi 1 (n:Int)with | (lo,hi)=>pure (lo,(1:Int),Builtin.Slice.slicePlaces lo hi 1)) _ _ s;rw[zeR lo hi n];show wpAny _ _ (pure (((sIx n 0 lo:Nat):Int),(1:Int),Builtin.Slice.slicePlaces ((sIx n 0 lo:Nat):Int) ((sIx n n hi:Nat):Int) 1)) _ _ s;rw[zeE];exact Ic h
def zh7(xs:Array Value)(i k:Nat):((List.range k).filterMap λ(m:Nat)=>xs[((i:Int)+(m:Int)*1).toNat]?).toArray=((xs.toList.drop i).take k).toArray:=by
 have e:(λ(m:Nat)=>xs[((i:Int)+(m:Int)*1).toNat]?)=λm=>xs[i+m]?:=by
  funext m;have:((i:Int)+(m:Int)*1).toNat=i+m:=by omega
  rw[this]
 rw[e];have:=pick_run xs i k;rw[List.filterMap_map]at this;have e2:((λx=>xs[x]?)∘λx=>i+x)=λm=>xs[i+m]?:=rfl;rw[e2]at this;rw[this]
def VP{t sl:AD}{items:Array Value}{vl vu:Value}{lo hi:LI}{Q:Value->SH->Prop}(ht:IsTup s.heap t items)(hs:s.heap.IsSliceOf sl vl vu .none)(pl:IsPart vl lo)(pu:IsPart vu hi)(hw:¬ (sIx items.size 0 lo=0/\sIx items.size items.size hi=items.size))(h:Q (.ref s.heap.objs.size) {s with heap:=s.heap.push {cls:=.type "tuple",data:=.seq ((items.toList.drop (sIx items.size 0 lo)).take (sIx items.size items.size hi-sIx items.size 0 lo)).toArray}})(hsz:items.size<=sizeLine):wpAny (model prog w) A (getItem (.ref t) (.ref sl)) Q E s:=by
 have htake:sizeOk (.seq ((items.toList.drop (sIx items.size 0 lo)).take (sIx items.size items.size hi-sIx items.size 0 lo)).toArray):=by show((items.toList.drop (sIx items.size 0 lo)).take (sIx items.size items.size hi-sIx items.size 0 lo)).toArray.size<=sizeLine;rw[Ix,Nj,Nk,Ov];omega
 have hj:sIx items.size items.size hi<=items.size:=zk6 _ _ (Ik _) hi;obtain⟨os,hos,hcs,hds⟩:=id hs;have hTs:s.TypeIs (.ref sl) "slice" := ⟨os,hos,hcs⟩
 unfold getItem
 try with_reducible refine Np ?_
 first | refine Ia (Ic ?_) | skip
 refine Ia (wpAny_sequenceKey ht.typeIs (by decide) ?_);refine Ia (IM (name:=Str.ofString "__getitem__") ht.typeIs Nm
  (IP Nm ht.typeIs entry_tuple_getitem ?_ (args_tuple_getitem _ _)))
 show wpAny _ _ (Builtin.Tuple.tupleItemsOf (.ref t) >>= _) _ _ s;refine Ia (tupleItemsOf_ ht ?_);refine Ia (wpAny_typeOf hTs ?_);rw[Iq (by decide)];refine Ia (J6 hs pl pu ?_);have hno:¬ ((((sIx items.size 0 lo:Nat):Int)==0&&(1:Int)==1&&(sIx items.size items.size hi-sIx items.size 0 lo)==items.size)=true):=by intro q;rw[IR,IR]at q;have q1:((sIx items.size 0 lo:Nat):Int)=0:=eq_of_beq q.1.1;have q2:sIx items.size items.size hi-sIx items.size 0 lo=items.size:=eq_of_beq q.2;exact hw ⟨(by omega),(by omega)⟩
 show wpAny _ _ (if (((sIx items.size 0 lo:Nat):Int)==0&&(1:Int)==1&&(sIx items.size items.size hi-sIx items.size 0 lo)==items.size)=true then _ else _) _ _ s;rw[Im hno,zh7]
 first
  |exact Ia (m:=Builtin.Tuple.tupleExact _) (IK (Ic ⟨_,rfl,Ic h⟩) htake)
  |exact Ia (m:=Builtin.Tuple.tupleExact _) (IK (Ia (Ic (Ic ⟨_,rfl,Ic h⟩))) htake)
  |exact Ia (Ia (m:=Builtin.Tuple.tupleExact _) (IK (Ic (Ic ⟨_,rfl,Ic h⟩)) htake))
  |exact Ia (Ia (m:=Builtin.Tuple.tupleExact _) (IK (Ic ⟨_,rfl,Ic h⟩) htake))
end
end HT
namespace L2
open PySem PySem.Spec PyProof.Rows
variable {xs:LC}{us its:LF}{α:Type}{aa:List (Addr×Obj)}{σ:St}{s:SH}{x:V}
abbrev TO:=St->Hp->(LI->Hp->Prop)->Prop
def PO(X:Cx)(e:Option Expr)(t:TO):Prop:=
 ∀(aa:List (Addr×Obj))(s:SH)(σ:St)(H:Hp)(Q:LI->Hp->Prop),Inv X aa σ H s->t σ H Q->
  wpAny (model X.prog X.w) X.A (evalPart e X.env) (λu s' => ∃ o H',Inv X aa σ H' s' /\ IsPart u o/\Q o H') X.xe s
def Ql:TO:=λ_ H Q=>Q none H
def UJ(t:TE):TO:=fun σ H Q=>t σ H λx H1=>∃ i,x = .int i/\Q (some i) H1
def intsAre_of{ns:LX}:∀{us:LF},Vals (ns.map V.int) us->IntsAre us ns:=by
 induction ns with
 |nil=>intro us r;rw[map_nil]at r;cases r;exact .nil
 |cons n ns ih=>
  intro us r;rw[Ng]at r;cases r with
  |cons r1 r2=>obtain⟨t,e⟩:=r1;subst e;exact .cons n t (ih r2)
section
variable {X:Cx}{e:Expr}{te:TE}{lo hi:Option Expr}{tl th:TO}{pos p2:Pos}
def W6:PO X none Ql:=by intro aa s σ H Q I h;rw[evalPart_none];exact Ic ⟨none,H,I,.none,h⟩
def XS(h:PE X e te):PO X (some e) (UJ te):=by intro aa s σ H Q I hw;rw[evalPart_some];refine thn (h aa s σ H _ I hw) λu s1 ⟨x,H1,I1,r1,q1⟩=>?_;obtain⟨i,rfl,q⟩:=q1;obtain⟨t,rfl⟩:=r1;exact⟨some i,H1,I1,.int i t,q⟩
def SlR(X:Cx)(r:V->LI->LI->Hp->VK->Prop):Prop:=
 ∀(aa:List (Addr×Obj))(s:SH)(σ:St)(H:Hp)(x:V)(v vl vu:Value)(lo hi:LI)(sl:AD)(Q:VK),Inv X aa σ H s->RelV x v->s.heap.IsSliceOf sl vl vu .none->IsPart vl lo->IsPart vu hi->r x lo hi H Q->
  ∃ T id,typeLookup (.type T) "__getitem__" = pure (some (.builtin id))/\s.TypeIs v T/\wpAny (model X.prog X.w) X.A (getItem v (.ref sl)) (EP X aa σ Q) X.xe s
def tSl(r:V->LI->LI->Hp->VK->Prop)(te:TE)(tl th:TO):TE:=fun σ H Q=>te σ H λx H1=>tl σ H1 λl H2=>th σ H2 λu H3=>r x l u H3 Q
def XM{r:V->LI->LI->Hp->VK->Prop}(hr:SlR X r)(he:PE X e te)(hl:PO X lo tl)(hu:PO X hi th):PE X (.Subscript e (.Slice lo hi none p2) pos) (tSl r te tl th):=by intro aa s σ H Q I h;refine Subscript_ (thn (he aa s σ H _ I h) λv s1 ⟨x,H1,I1,r1,q1⟩=>?_);refine wpAny_Slice (thn (hl aa s1 σ H1 _ I1 q1) λvl s2 ⟨l,H2,I2,pl,q2⟩=>thn (hu aa s2 σ H2 _ I2 q2) λvu s3 ⟨u,H3,I3,pu,q3⟩=>?_);rw[evalPart_none];refine Ic ?_;have I4:Inv X aa σ H3 {s3 with heap:=s3.heap.push {cls:=.type "slice",data:=.fields #[vl,vu,.none]}}:=I3.kept (t':=s3.toks) λb ob q=>Ih _ q;obtain⟨T,id,hT,ht,hg⟩:=hr aa {s3 with heap:=s3.heap.push {cls:=.type "slice",data:=.fields #[vl,vu,.none]}} σ H3 x v vl vu l u s3.heap.objs.size Q I4 r1 (Heap.IsSliceOf.new ..) pl pu q3;show wpAny (model X.prog X.w) X.A (subscriptTail e (.Slice lo hi none p2) v (.ref s3.heap.objs.size)) (EP X aa σ Q) X.xe {s3 with heap:=s3.heap.push {cls:=.type "slice",data:=.fields #[vl,vu,.none]}};exact tail_any (ops:=[.ref s3.heap.objs.size,v]) ht hT hg (by with_unfolding_all rfl)
noncomputable def zgO(xs:LC)(lo hi:LI):LC:=(xs.drop (HT.sIx xs.length 0 lo)).take (HT.sIx xs.length xs.length hi-HT.sIx xs.length 0 lo)
def zaz(xs:LC)(lo hi:LI):(zgO xs lo hi).length<=xs.length:=by unfold zgO;rw[Nj,Nk];omega
def zpe(K:FG):V->LI->LI->Hp->VK->Prop:=λx lo hi H Q=>∃ a xs,x = .ref a/\SqT K H a xs/\
 ¬ (HT.sIx xs.length 0 lo=0/\HT.sIx xs.length xs.length hi=xs.length)/\∀ p,H p=none->Q (.ref p) (upd H p (.tup (zgO xs lo hi)))
def zmi:SlR X (zpe X.K):=by
 intro aa s σ H x v vl vu lo hi sl Q I rx hs pl pu h;obtain⟨a,xs,rfl,hx,hw,q⟩:=h;cases rx;obtain⟨its,r,ht,hz⟩:=I.tuple hx;have hlen:its.toArray.size=xs.length:=by rw[Ix];exact r.length.symm
 refine⟨"tuple",_,PyProof.Rows.slot_tuple_getitem.lookup,ht.typeIs,?_⟩;refine HT.VP ht hs pl pu (by rw[hlen];exact hw) ?_ (by rw[hlen];exact hz);rw[hlen];refine⟨.ref s.heap.objs.size,_,I.laid (t':=s.toks) (o:=.tup (zgO xs lo hi)) (λb ob q=>Ih _ q) (Ik _) ?_,rfl,q _ (I.ad.fresh (Ik _))⟩;exact⟨ND (zaz xs lo hi) hz,_,(r.drop (HT.sIx xs.length 0 lo)).take (HT.sIx xs.length xs.length hi-HT.sIx xs.length 0 lo),IsTup.new _ _,_,Io _ rfl,rfl⟩
def zoe(K:FG):R2:=λx y H Q=>∃ a b xs ys,x = .ref a/\y = .ref b/\SqT K H a xs/\SqT K H b ys/\xs≠[]/\xs.length+ys.length<=sizeLine/\
 (ys=[]->Q (.ref a) H)/\(ys≠[]->∀ p,H p=none->Q (.ref p) (upd H p (.tup (xs++ys))))
def Vals.zbt(r:Vals xs us):us=[]↔xs=[]:=by
 cases r with
 |nil=>simp
 |cons _ _=>simp
def zkJ:OpR X (binaryOp .Add) (zoe X.K):=by intro aa s σ H x y v u Q I rx ry h;obtain⟨a,b,xs,ys,rfl,rfl,ha,hb,hx,hz,q1,q2⟩:=h;cases rx;cases ry;obtain⟨its,r1,p1,_⟩:=I.tuple ha;obtain⟨its2,r2,p2,_⟩:=I.tuple hb;refine HT.zki p1 p2 (λz=>hx (r1.zbt.mp z)) (λz=>⟨.ref a,H,I,rfl,q1 (r2.zbt.mp z)⟩) (λz=>?_) (by rw[← r1.length,← r2.length];exact hz);refine⟨.ref s.heap.objs.size,_,I.laid (t':=s.toks) (o:=.tup (xs++ys)) (λb ob q=>Ih _ q) (Ik _) ?_,rfl,q2 (λw=>z (r2.zbt.mpr w)) _ (I.ad.fresh (Ik _))⟩;exact⟨by rw[Ig];exact hz,_,r1.append r2,IsTup.new _ _,_,Io _ rfl,rfl⟩
end
noncomputable def ixN(n:Nat)(i:Int):Option Nat:=if 0<=i then(if i<n then some i.toNat else none)else if -(n:Int)<=i then some (i+n).toNat else none
noncomputable def atI{α:Type}(xs:List α)(i:Int):Option α:=(ixN xs.length i).bind λj=>xs[j]?
def zgt{n:Nat}{i:Int}{j:Nat}(h:ixN n i=some j):seqIndex? i n=some j/\j<n/\-(n:Int)<=i/\i<n:=by
 unfold ixN at h;by_cases h0:0<=i
 .rw[Iq h0]at h;by_cases h1:i<n
  .rw[Iq h1]at h;have e:i.toNat=j:=Iu h;exact⟨by rw[seqIndex_of h0 h1,e],(by omega),(by omega),h1⟩
  .rw[Im h1]at h;cases h
 .rw[Im h0]at h;by_cases h1:-(n:Int)<=i
  .rw[Iq h1]at h;have e:(i+n).toNat=j:=Iu h;exact⟨by rw[seqIndex_neg (by omega) h1,e],(by omega),h1,(by omega)⟩
  .rw[Im h1]at h;cases h
def zfg{xs:List α}{i:Int}{v:α}(h:atI xs i=some v):∃ j,seqIndex? i xs.length=some j/\xs[j]?=some v/\j<xs.length/\-(xs.length:Int)<=i/\i<xs.length:=by
 unfold atI at h;cases e:ixN xs.length i with
 |none=>rw[e]at h;cases h
 |some j=>rw[e]at h;obtain⟨h1,h2,h3,h4⟩:=zgt e;exact⟨j,h1,h,h2,h3,h4⟩
def zjZ{xs:List α}{j:Nat}{v:α}(h:xs[j]?=some v):atI xs (j:Int)=some v:=by
 have hj:j<xs.length:=(Il.mp h).1;have e:ixN xs.length (j:Int)=some j:=by unfold ixN;rw[Iq (by omega),Iq (by omega)];simp
 unfold atI;rw[e];exact h
def zkB(b:Expr):Prop:=∀ o i,subscripted b false o i=operate [o,i] (getItem o i)
def IxR(X:Cx)(r:R2):Prop:=
 ∀(value slice:Expr)(aa:List (Addr×Obj))(s:SH)(σ:St)(H:Hp)(x y:V)(v u:Value)(Q:VK),Inv X aa σ H s->RelV x v->RelV y u->r x y H Q->
  subscripted slice false v u=operate [v,u] (getItem v u)->wpAny (model X.prog X.w) X.A (subscriptTail value slice v u) (EP X aa σ Q) X.xe s
def MtR(X:Cx)(id:String)(r:V->LC->Hp->VK->Prop):Prop:=
 ∀(aa:List (Addr×Obj))(s:SH)(σ:St)(H:Hp)(x:V)(xs:LC)(v:Value)(us:LF)(Q:VK),Inv X aa σ H s->RelV x v->Vals xs us->r x xs H Q->
  wpAny (model X.prog X.w) X.A (call (.builtin id) (v::us)) (EP X aa σ Q) X.xe s
section
variable {X:Cx}{a b:Expr}{ta tb:TE}{pos:Pos}
def ZG{r:R2}(hr:IxR X r)(ha:PE X a ta)(hb:PE X b tb)(hs:zkB b):PE X (.Subscript a b pos) (tOp r ta tb):=by intro aa s σ H Q I h;exact Subscript_ (znP ha hb I h λv u s2 x y H2 I2 rx ry q=>hr a b aa s2 σ H2 x y v u Q I2 rx ry q (hs _ _))
def zeF(K:FG):R2:=λx y H Q=>∃ p xs i v,x = .ref p/\y = .int i/\SqL K H p xs/\atI xs i=some v/\Q v H
def zeU(K:FG):R2:=λx y H Q=>∃ p xs i v,x = .ref p/\y = .int i/\SqT K H p xs/\atI xs i=some v/\Q v H
def zjI:IxR X (zeF X.K):=by
 intro value slice aa s σ H x y v u Q I rx ry h hs;obtain⟨p,xs,i,z,rfl,rfl,hq,he,q⟩:=h;cases rx;obtain⟨t,rfl⟩:=ry;obtain⟨its,r,pl,hz⟩:=I.list hq;obtain⟨j,h1,h2,h3,h4,h5⟩:=zfg he;obtain⟨w,ew,rw'⟩:=r.get h2;have hl:=r.length;have hn:=zec;have fin:EP X aa σ Q w s:=⟨z,H,I,rw',q⟩
 by_cases h0:0<=i
 .have hj:i.toNat=j:=by rw[seqIndex_of h0 h5]at h1;exact Iu h1
  exact item_listR pl.isList h0 (by omega) (by rw[hj];simpa using ew) fin hs
 .have hj:(i+(its.toArray.size:Int)).toNat=j:=by rw[seqIndex_neg (by omega) h4]at h1;rw[Ix,← hl];exact Iu h1
  exact subscriptTail_builtinR (x:=w) pl.isList.typeIs slot_list_getitem.lookup
   (wpAny_getItem_list_neg (Q:=λr s' => r=w/\EP X aa σ Q r s') pl.isList (by omega) (by rw[Ix] <;> omega) (by omega) (by rw[hj];simpa using ew) ⟨rfl,fin⟩) hs
def zmE:IxR X (zeU X.K):=by
 intro value slice aa s σ H x y v u Q I rx ry h hs;obtain⟨p,xs,i,z,rfl,rfl,hq,he,q⟩:=h;cases rx;obtain⟨t,rfl⟩:=ry;obtain⟨its,r,pl,hz⟩:=I.tuple hq;obtain⟨j,h1,h2,h3,h4,h5⟩:=zfg he;obtain⟨w,ew,rw'⟩:=r.get h2;have hl:=r.length;have hn:=zec;have fin:EP X aa σ Q w s:=⟨z,H,I,rw',q⟩
 exact subscriptTail_builtinR (x:=w) pl.typeIs slot_tuple_getitem.lookup
  (getItem_tuple (j:=j) (Q:=λr s' => r=w/\EP X aa σ Q r s') pl (by omega) (by omega) (by rw[Ix,← hl];exact h1) (by simpa using ew) ⟨rfl,fin⟩) hs
def zeI(its:LF)(n j:Nat)(u:Value):Obj.mapSeq (·.setIfInBounds j u) {cls:=.type "list",data:=.seq its.toArray n}={cls:=.type "list",data:=.seq (its.set j u).toArray n}:=by simp[Obj.mapSeq]
theorem Inv.lst{H:Hp}{p:AD}(I:Inv X aa σ H s)(h:H p=some (.lst xs)):
  ∃(its:LF)(n:Nat),Vals xs its/\s.heap.get? p=some {cls:=.type "list",data:=.seq its.toArray n}/\xs.length<=sizeLine:=by
 obtain⟨z,its,n,r,e⟩:=I.ad p _ h;exact⟨its,n,r,e,z⟩
def Inv.zl7{H:Hp}{p:AD}{ys:LC}{its':LF}{n n' : Nat}{f:Obj->Obj}(I:Inv X aa σ H s)(h:H p=some (.lst xs))(ho:s.heap.get? p=some {cls:=.type "list",data:=.seq its.toArray n})(hf:f {cls:=.type "list",data:=.seq its.toArray n}={cls:=.type "list",data:=.seq its'.toArray n'})(r:Vals ys its')(hz:ys.length<=sizeLine)(t:Nat):
  Inv X aa σ (upd H p (.lst ys)) {s with heap:=s.heap.update p f,toks:=t}:=by
 have e:(s.heap.update p f).get? p=some {cls:=.type "list",data:=.seq its'.toArray n'}:=by rw[NV f ho (by rw[hf] <;> rfl),hf]
 refine I.write (x:=p) (e:=p) (by rw[h];trivial) (.inl rfl) (λb u hb q=>(NF _ _ (Ne.symm hb)).trans q) ⟨_,e⟩ ?_;exact⟨hz,its',n',r,e⟩
def zoj:V->V->V->Hp->(Hp->Prop)->Prop:=λo i v H Q=>∃ p xs k j,o = .ref p/\i = .int k/\H p=some (.lst xs)/\ixN xs.length k=some j/\Q (upd H p (.lst (xs.set j v)))
def set_list:zor X zoj:=by
 intro aa s σ H o i v ov iv u Q I ro ri rv h;obtain⟨p,xs,k,j,rfl,rfl,hp,hj,q⟩:=h;cases ro;obtain⟨t,rfl⟩:=ri;obtain⟨its,n,r,ho,hz⟩:=I.lst hp;obtain⟨h1,h2,h3,h4⟩:=zgt hj;have hl:=r.length;have hn:=zec;have I' : Inv X aa σ (upd H p (.lst (xs.set j v))) {s with heap:=s.heap.update p (Obj.mapSeq (·.setIfInBounds j u))}:=I.zl7 hp ho (zeI its n j u) (r.set rv j) (by rw[Og];exact hz) s.toks
 by_cases h0:0<=k
 .have hk:k.toNat=j:=by rw[seqIndex_of h0 h4]at h1;exact Iu h1
  exact PySem.W.ki_setAt ho h0 (by omega) (by rw[Ix,← hl];exact h4) (by rw[hk];exact⟨_,I',q⟩)
 .have hk:(k+(its.toArray.size:Int)).toNat=j:=by rw[seqIndex_neg (by omega) h3]at h1;rw[Ix,← hl];exact Iu h1
  exact PySem.W.ki_setBack ho (by omega) (by rw[Ix,← hl];exact h3) (by omega) (by rw[hk];exact⟨_,I',q⟩)
def zb3(lo hi:LI)(n:Nat):(sliceBounds lo hi none n).1=((HT.sIx n 0 lo:Nat):Int)/\(sliceBounds lo hi none n).2.1=((HT.sIx n n hi:Nat):Int)/\(sliceBounds lo hi none n).2.2=1:=by
 refine⟨?_,?_,rfl⟩
 .cases lo with
  |none=>simp[sliceBounds,HT.sIx]
  |some i=>
   simp only[sliceBounds,HT.sIx,Option.getD_none,show(1:Int)>0 by decide,Oj];by_cases h:i<0
   .simp only[h,Oj] <;> omega
   .simp only[h,Nf] <;> omega
 .cases hi with
  |none=>simp[sliceBounds,HT.sIx]
  |some i=>
   simp only[sliceBounds,HT.sIx,Option.getD_none,show(1:Int)>0 by decide,Oj];by_cases h:i<0
   .simp only[h,Oj] <;> omega
   .simp only[h,Nf] <;> omega
def zbG(its:LF)(lo hi:LI):slicePick its.toArray lo hi none=((its.drop (HT.sIx its.length 0 lo)).take (HT.sIx its.length its.length hi-HT.sIx its.length 0 lo)).toArray:=by obtain⟨h1,h2,h3⟩:=zb3 lo hi its.toArray.size;unfold slicePick;rw[h1,h2,h3];simp only[sliceRange_one,pick_run,Ix] <;> rfl
def znS(K:FG):V->LI->LI->Hp->VK->Prop:=λx lo hi H Q=>∃ a xs,x = .ref a/\SqL K H a xs/\∀ p,H p=none->Q (.ref p) (upd H p (.lst (zgO xs lo hi)))
def zjv:SlR X (znS X.K):=by intro aa s σ H x v vl vu lo hi sl Q I rx hs pl pu h;obtain⟨a,xs,rfl,hx,q⟩:=h;cases rx;obtain⟨its,r,ht,hz⟩:=I.list hx;have hlen:=r.length;refine⟨"list",_,slot_list_getitem.lookup,ht.isList.typeIs,?_⟩;refine wpAny_getItem_list_slice ht.isList hs pl pu .none (by simp) ?_ (by rw[Ix] <;> omega);rw[zbG,← hlen];refine⟨.ref s.heap.objs.size,_,I.laid (t':=s.toks) (o:=.lst (zgO xs lo hi)) (λb ob q=>Ih _ q) (Ik _) ?_,rfl,q _ (I.ad.fresh (Ik _))⟩;exact⟨ND (zaz xs lo hi) hz,_,0,(r.drop (HT.sIx xs.length 0 lo)).take (HT.sIx xs.length xs.length hi-HT.sIx xs.length 0 lo),Io _ rfl⟩
noncomputable def za5:V->Bool
 |.non=>true
 |.bl _=>true
 |.int _=>true
 |.str _=>true
 |_=>false
noncomputable def eqV:V->V->Bool
 |.non,.non=>true
 |.bl a,.bl b=>a==b
 |.bl a,.int b=>(if a then 1 else 0)==b
 |.int a,.bl b=>a==(if b then 1 else 0)
 |.int a,.int b=>a==b
 |.str a,.str b=>a==b
 |_,_=>false
def zlz{A:Around}{y:V}{u v:Value}(ry:RelV y u)(rx:RelV x v)(fy:za5 y=true)(fx:za5 x=true):SeqAt.EqAt A s u v (eqV y x):=by
 cases y with
 |non=>
  cases ry;cases x with
  |non=>cases rx;exact SeqAt.EqAt.same _
  |bl b=>cases rx;exact SeqAt.EqAt.none_bool b
  |int b=>obtain⟨t,rfl⟩:=rx;exact SeqAt.EqAt.none_int b t
  |str b=>obtain⟨t,rfl⟩:=rx;exact SeqAt.EqAt.none_str b t
  |_=>exact absurd (show false=true from fx) Ii
 |bl a=>
  cases ry;cases x with
  |non=>cases rx;exact SeqAt.EqAt.bool_none a
  |bl b=>cases rx;exact SeqAt.EqAt.bool_bool a b
  |int b=>obtain⟨t,rfl⟩:=rx;exact SeqAt.EqAt.bool_int a b t
  |str b=>obtain⟨t,rfl⟩:=rx;exact SeqAt.EqAt.bool_str a b t
  |_=>exact absurd (show false=true from fx) Ii
 |int a=>
  obtain⟨t',rfl⟩:=ry;cases x with
  |non=>cases rx;exact SeqAt.EqAt.int_none a t'
  |bl b=>cases rx;exact SeqAt.EqAt.int_bool a t' b
  |int b=>obtain⟨t,rfl⟩:=rx;exact SeqAt.EqAt.int_int a t' b t
  |str b=>obtain⟨t,rfl⟩:=rx;exact SeqAt.EqAt.int_str a t' b t
  |_=>exact absurd (show false=true from fx) Ii
 |str a=>
  obtain⟨t',rfl⟩:=ry;cases x with
  |non=>cases rx;exact SeqAt.EqAt.str_none a t'
  |bl b=>cases rx;exact SeqAt.EqAt.str_bool a t' b
  |int b=>obtain⟨t,rfl⟩:=rx;exact SeqAt.EqAt.str_int a t' b t
  |str b=>obtain⟨t,rfl⟩:=rx;exact SeqAt.EqAt.str_str a t' b t
  |_=>exact absurd (show false=true from fx) Ii
 |_=>exact absurd (show false=true from fy) Ii
noncomputable def eqU(x:V)(u:Value):Bool:=match u with
 |.none=>eqV .non x
 |.bool b=>eqV (.bl b) x
 |.int i _=>eqV (.int i) x
 |.str z _=>eqV (.str z) x
 |_=>false
def ziH{y:V}{u:Value}(r:RelV y u)(f:za5 y=true):eqU x u=eqV y x:=by
 cases y with
 |non=>cases r;rfl
 |bl b=>cases r;rfl
 |int i=>obtain⟨t,rfl⟩:=r;rfl
 |str z=>obtain⟨t,rfl⟩:=r;rfl
 |_=>exact absurd (show false=true from f) Ii
theorem zar :∀{xs:LC}{us:LF},Vals xs us->xs.all za5=true->us.any (eqU x)=xs.any λy=>eqV y x
 |_,_,.nil,_=>rfl
 |y::xs,u::us,.cons r t,f=>by rw[all_cons,IR]at f;rw[any_cons,any_cons,ziH r f.1,zar t f.2]
theorem Vx{A:Around}{v:Value}(rx:RelV x v)(fx:za5 x=true):∀{xs:LC}{us:LF},Vals xs us->xs.all za5=true->∀ u∈us,SeqAt.EqAt A s u v (eqU x u)
 |_,_,.nil,_=>λu hu=>by cases hu
 |y::xs,u::us,.cons r t,f=>λu' hu=>by
  rw[all_cons,IR]at f;rcases IE.mp hu with rfl | hu
  .rw[ziH r f.1];exact zlz r rx f.1 fx
  .exact Vx rx fx t f.2 u' hu
noncomputable def inV(x:V)(xs:LC):Bool:=xs.any λy=>eqV y x
def rIn(K:FG)(neg:Bool):R2:=λx y H Q=>∃ p xs,y = .ref p/\(SqL K H p xs\/SqT K H p xs)/\za5 x=true/\xs.all za5=true/\Q (.bl (if neg then !inV x xs else inV x xs)) H
def zaB:OpR X (compareOp .In) (rIn X.K false):=by
 intro aa s σ H x y v u Q I rx ry h;obtain⟨p,xs,rfl,hq,fx,fs,q⟩:=h;cases ry;rcases hq with hq | hq
 .obtain⟨its,r,pl,hz⟩:=I.list hq;refine SeqAt.in_listAt (eqU x) pl.isList (λw hw=>Vx rx fx r fs w (by simpa using hw)) ⟨.bl _,H,I,rfl,?_⟩;rw[show its.toArray.any (eqU x)=its.any (eqU x)by simp,zar r fs];exact q
 .obtain⟨its,r,pl,hz⟩:=I.tuple hq;refine SeqAt.in_tupleAt (eqU x) pl (λw hw=>Vx rx fx r fs w (by simpa using hw)) ⟨.bl _,H,I,rfl,?_⟩;rw[show its.toArray.any (eqU x)=its.any (eqU x)by simp,zar r fs];exact q
def zb8:OpR X (compareOp .NotIn) (rIn X.K true):=by
 intro aa s σ H x y v u Q I rx ry h;obtain⟨p,xs,rfl,hq,fx,fs,q⟩:=h;cases ry;rcases hq with hq | hq
 .obtain⟨its,r,pl,hz⟩:=I.list hq;refine SeqAt.notIn_listAt (eqU x) pl.isList (λw hw=>Vx rx fx r fs w (by simpa using hw)) ⟨.bl _,H,I,rfl,?_⟩;rw[show its.toArray.any (eqU x)=its.any (eqU x)by simp,zar r fs];exact q
 .obtain⟨its,r,pl,hz⟩:=I.tuple hq;refine SeqAt.notIn_tupleAt (eqU x) pl (λw hw=>Vx rx fx r fs w (by simpa using hw)) ⟨.bl _,H,I,rfl,?_⟩;rw[show its.toArray.any (eqU x)=its.any (eqU x)by simp,zar r fs];exact q
def zcO:V2 X (.builtin "len") (λxs H Q=>∃ p ys,xs=[.ref p]/\(SqL X.K H p ys\/SqT X.K H p ys)/\Q (.int ys.length) H):=by
 intro aa s σ H xs us Q I r h;obtain⟨p,ys,rfl,hq,q⟩:=h;obtain⟨u,rfl,rx⟩:=vals1 r;cases rx;have hn:=zec;rcases hq with hq | hq
 .obtain⟨its,r',pl,hz⟩:=I.list hq;have hlen:=r'.length;exact Calls.call_len_list pl.isList (by simp only[Ix] <;> omega) ⟨.int ys.length,H,I.tok _,⟨s.toks+1,by rw[Ix,hlen]⟩,q⟩
 .obtain⟨its,r',pl,hz⟩:=I.tuple hq;have hlen:=r'.length;exact len_tuple pl (by simp only[Ix] <;> omega) ⟨.int ys.length,H,I.tok _,⟨s.toks+1,by rw[Ix,hlen]⟩,q⟩
def zbQ:V2 X (.type "tuple") (λxs H Q=>∃ p ys,xs=[.ref p]/\((SqL X.K H p ys/\∀ l,H l=none->Q (.ref l) (upd H l (.tup ys)))\/(SqT X.K H p ys/\Q (.ref p) H))):=by
 intro aa s σ H xs us Q I r h;obtain⟨p,ys,rfl,h⟩:=h;obtain⟨u,rfl,rx⟩:=vals1 r;cases rx;rcases h with⟨hq,q⟩ | ⟨hq,q⟩
 .obtain⟨its,r',pl,hz⟩:=I.list hq;have hlen:=r'.length;refine call_tuple_list pl.isList (λh' kp=>?_) (by simp only[Ix] <;> omega);have I1:Inv X aa σ H {s with heap:=h'}:=I.kept (t':=s.toks) kp;have I2:Inv X aa σ (upd H h'.objs.size (.tup ys)) {s with heap:=h'.push {cls:=.type "tuple",data:=.seq its.toArray}}:=I1.laid (t':=s.toks) (λb o e=>Ih _ e) (Ik _) (show Xk X.prog X.w _ _ _ (.tup ys)from⟨hz,its,r',IsTup.new _ _,_,Io _ rfl,rfl⟩)
  exact⟨.ref h'.objs.size,_,I2,rfl,q _ (I1.ad.fresh (Ik _))⟩
 .obtain⟨its,r',pl,hz⟩:=I.tuple hq;exact call_tuple_same pl ⟨.ref p,H,I,rfl,q⟩
def tyV(K:FG)(T:String)(x:V)(H:Hp):Prop:=match x with
 |.str _=>T = "str"
 |.int _=>T = "int"
 |.ref p=>(T = "list" /\ ∃ xs,SqL K H p xs)\/(T = "tuple" /\ ∃ o,K.lookup p=some o/\o.cls = .type "tuple" /\ o.dict=none)\/
   (T = "dict" /\ ((∃ kvs,H p=some (.dK kvs))\/∃ kvs,H p=some (.dT kvs)))\/(T = "set" /\ ∃ S n,H p=some (.set S n))
 |_=>False
def ziP{H:Hp}{T:String}{v:Value}(I:Inv X aa σ H s)(r:RelV x v)(ty:tyV X.K T x H):
  s.TypeIs v T/\∀ a,v = .ref a->∃ ob,s.heap.get? a=some ob/\ob.dict=none:=by
 cases x with
 |str z=>obtain⟨t,rfl⟩:=r;cases(show T = "str" from ty);exact⟨typeIs_str s z t,λ_ e=>nomatch e⟩
 |int i=>obtain⟨t,rfl⟩:=r;cases(show T = "int" from ty);exact⟨typeIs_int s i t,λ_ e=>nomatch e⟩
 |ref p=>
  cases r;rcases ty with⟨rfl,xs,hq⟩ | ⟨rfl,o,hk,hc,hd⟩ | ⟨rfl,hk⟩ | ⟨rfl,S,n,hk⟩
  .obtain⟨its,_,pl,_⟩:=I.list hq;refine⟨pl.isList.typeIs,λa e=>?_⟩;cases e;obtain⟨o,n,e,c,hd,_⟩:=pl;exact⟨o,e,hd⟩
  .refine⟨⟨o,I.kIn p o hk,hc⟩,λa e=>?_⟩;cases e;exact⟨o,I.kIn _ o hk,hd⟩
  .have z:∃ o,s.heap.get? p=some o/\o.ExactDict:=by
    rcases hk with⟨kvs,hk⟩ | ⟨kvs,hk⟩
    .obtain⟨_,_,_,_,o,_,_,e,ex,_⟩:=I.ad p _ hk;exact⟨o,e,ex⟩
    .obtain⟨_,_,_,_,o,_,_,e,ex,_⟩:=I.ad p _ hk;exact⟨o,e,ex⟩
   obtain⟨o,e,ex⟩:=z;refine⟨⟨o,e,ex.1⟩,λa e2=>?_⟩;cases e2;exact⟨o,e,ex.2.1⟩
  .obtain⟨o,_,_,_,e,ex,_⟩:=I.ad p _ hk;refine⟨⟨o,e,ex.1⟩,λa e2=>?_⟩;cases e2;exact⟨o,e,ex.2.1⟩
 |_=>exact False.elim ty
def zo4(K:FG)(T:String)(r:V->LC->Hp->VK->Prop)(to:TE):TE:=fun σ H Q=>to σ H λx H1=>tyV K T x H1/\r x [] H1 Q
def tBM(K:FG)(T:String)(r:V->LC->Hp->VK->Prop)(to:TE)(t:TA):TE:=fun σ H Q=>to σ H λx H1=>tyV K T x H1/\t σ H1 λxs H2=>r x xs H2 Q
variable {o e:Expr}{es:List Expr}{to:TE}{t:TA}{name:Str}{apos cpos:Pos}{T id:String}{r:V->LC->Hp->VK->Prop}
def zmH(pa:PlainAttrs T)(slot:Slot T name id)(hty:typeOf (.builtin id)=pure (.type "method_descriptor"))(hm:MtR X id r)(ho:PE X o to)(hbase:attributeBase o name X.env (eval o X.env)=eval o X.env:=by rfl)(hline:(apos.endLine==cpos.line)=true:=by rfl):PE X (.Call (.Attribute o name apos) [] [] cpos) (zo4 X.K T r to):=by
 intro aa s σ H Q I h;refine wpAny_Call_method0_late hbase hline (thn (ho aa s σ H _ I h) λv s1 ⟨x,H1,I1,r1,ty,q1⟩=>?_);obtain⟨h1,h2⟩:=ziP I1 r1 ty;exact⟨T,id,pa,slot,hty,h1,h2,Calls.callWith_builtin rfl (PySem.evalArgs_none (hm aa s1 σ H1 x [] v [] Q I1 r1 .nil q1))⟩
def zap(pa:PlainAttrs T)(slot:Slot T name id)(hty:typeOf (.builtin id)=pure (.type "method_descriptor"))(hm:MtR X id r)(ho:PE X o to)(ha:PA X (e::es) t)(hbase:attributeBase o name X.env (eval o X.env)=eval o X.env:=by rfl)(hfew:((backTo cpos (starEach (e::es) X.env)).all (λx=>!x.1)&&(backToKw cpos (keywordEach [] X.env)).all (λx=>x.1.isSome)
   && decide ((e::es).length+([]:List Keyword).length+(if([]:List Keyword).isEmpty then 0 else 1)<30))=true:=by rfl)(hline:(apos.endLine==cpos.line)=true:=by rfl)(hs:starEach (e::es) X.env=(false,eval e X.env)::starEach es X.env:=by rfl)(hplain:(backTo cpos (starEach es X.env)).any (·.1)=false:=by rfl):
  PE X (.Call (.Attribute o name apos) (e::es) [] cpos) (tBM X.K T r to t):=by
 intro aa s σ H Q I h;refine wpAny_Call_method_late hbase hfew hline rfl (thn (ho aa s σ H _ I h) λv s1 ⟨x,H1,I1,r1,ty,q1⟩=>?_);obtain⟨h1,h2⟩:=ziP I1 r1 ty;refine⟨T,id,pa,slot,hty,h1,h2,?_⟩;have hA:=ha cpos aa s1 σ H1 _ I1 q1;rw[hs]at hA ⊢;refine Calls.callWith_builtin (by show(false||(backTo cpos (starEach es X.env)).any (·.1))=false;rw[hplain] <;> rfl) (Calls.evalArgs_plain ?_);exact thn hA λus s2 ⟨vs,H2,I2,r2,q2⟩=>hm aa s2 σ H2 x vs v us Q I2 r1 r2 q2
end
def MtM(X:Cx)(id:String)(r:V->LC->Hp->VK->Prop):Prop:=
 ∀(aa:List (Addr×Obj))(s:SH)(σ:St)(H:Hp)(x:V)(xs:LC)(v:Value)(us:LF)(Q:VK),Inv X aa σ H s->RelV x v->Vals xs us->r x xs H Q->
  wpAny (model X.prog X.w) X.A (call (.builtin id) (v::us)) (EP X aa σ Q) X.xe s
theorem Vals.one:∀{x:V}{us:LF},Vals [x] us->∃ u,us=[u]/\RelV x u
 |_,_,.cons r .nil=>⟨_,rfl,r⟩
theorem Vals.two:∀{x y:V}{us:LF},Vals [x,y] us->∃ u v,us=[u,v]/\RelV x u/\RelV y v
 |_,_,_,.cons r (.cons q .nil)=>⟨_,_,rfl,r,q⟩
theorem Vals.zero:∀{us:LF},Vals [] us->us=[]
 |_,.nil=>rfl
theorem Vals.dropLast(h:Vals xs us):Vals xs.dropLast us.dropLast:=by
 induction h with
 |nil=>exact .nil
 |cons r t ih=>
  cases t with
  |nil=>exact .nil
  |cons q t' => exact .cons r ih
theorem Vals.reverse(h:Vals xs us):Vals xs.reverse us.reverse:=by
 induction h with
 |nil=>exact .nil
 |cons r t ih=>rw[Op,Op];exact Vals.append ih (.cons r .nil)
def zeP(l:List α):l.eraseIdx (l.length-1)=l.dropLast:=by
 induction l with
 |nil=>rfl
 |cons a r ih=>
  cases r with
  |nil=>rfl
  |cons b r=>
   have e:(a::b::r).length-1=((b::r).length-1)+1:=by have h1:(a::b::r).length=r.length+2:=rfl;have h2:(b::r).length=r.length+1:=rfl;omega
   rw[e,List.eraseIdx_cons_succ,ih]
   all_goals rfl
section
variable {X:Cx}{aa:List (Addr×Obj)}{σ:St}{H:Hp}{s:SH}{l b:AD}{xs ys zs:LC}
def Inv.zmP{its':LF}{n:Nat}{f:Array Value->Array Value}{t' : Nat}(I:Inv X aa σ H s)(hH:H l=some (.lst xs))(e:s.heap.get? l=some {cls:=.type "list",data:=.seq its.toArray n})(hf:f its.toArray=its'.toArray)(hv:Vals ys its')(hz:ys.length<=sizeLine):
  Inv X aa σ (upd H l (.lst ys)) {s with heap:=s.heap.update l (Obj.mapSeq f),toks:=t'}:=by
 have q:=PySem.IsL.update e f;rw[hf]at q;refine I.write (x:=l) (e:=l) (by rw[hH];exact trivial) (.inl rfl) (λb' u hb hu=>(NF s.heap (Obj.mapSeq f) (Ne.symm hb)).trans hu) ⟨_,q⟩ ?_;exact⟨hz,its',_,hv,q⟩
def Inv.zoP{t' : Nat}(I:Inv X aa σ H s)(hv:Vals ys its)(hz:ys.length<=sizeLine):
  Inv X aa σ (upd H s.heap.objs.size (.lst ys)) {s with heap:=s.heap.push {cls:=.type "list",data:=.seq its.toArray},toks:=t'}:=
 I.laid (λ_ _ q=>Ih _ q) (Ik _) ⟨hz,its,0,hv,Io _ rfl⟩
theorem Inv.fresh(I:Inv X aa σ H s):H s.heap.objs.size=none:=I.ad.fresh (Ik _)
def Inv.zjm(I:Inv X aa σ H s)(hH:H l=some (.lst xs)):xs.length<=sizeLine/\∃(its:LF)(n:Nat),Vals xs its/\xs.length=its.length/\s.heap.get? l=some {cls:=.type "list",data:=.seq its.toArray n}:=by obtain⟨z,its,n,r,e⟩:=I.ad l _ hH;exact⟨z,its,n,r,r.length,e⟩
end
section
variable {X:Cx}
def zfJ:V->LC->Hp->VK->Prop:=λx vs H Q=>∃ l xs y,x = .ref l/\vs=[y]/\H l=some (.lst xs)/\xs.length<sizeLine/\Q .non (upd H l (.lst (xs++[y])))
def WX:MtM X "list.append" zfJ:=by intro aa s σ H x vs v us Q I rx rv h;obtain⟨l,xs,y,rfl,rfl,hH,hz,q⟩:=h;cases rx;obtain⟨u,rfl,ru⟩:=rv.one;obtain⟨z,its,n,r,hl,e⟩:=I.zjm hH;refine call_meets F.slot_list_append ⟨_,e,rfl⟩ F.entry_list_append (F.args_list_append_2 _ _) (PySem.list_append l its.toArray n u (by rw[Ix];omega)) ⟨e,?_⟩;refine⟨.non,_,I.zmP (its':=its++[u]) hH e (by simp) (r.append (.cons ru .nil)) ?_,rfl,q⟩;rw[Ig,List.length_singleton];omega
def zpa:V->LC->Hp->VK->Prop:=λx vs H Q=>∃ l xs y,x = .ref l/\vs=[]/\H l=some (.lst xs)/\xs[xs.length-1]?=some y/\Q y (upd H l (.lst xs.dropLast))
def znm:MtM X "list.pop" zpa:=by
 intro aa s σ H x vs v us Q I rx rv h;obtain⟨l,xs,y,rfl,rfl,hH,hy,q⟩:=h;cases rx;have hus:=rv.zero;subst hus;obtain⟨z,its,n,r,hl,e⟩:=I.zjm hH;obtain⟨u,hu,ru⟩:=r.get hy;have hy' : its.toArray[its.toArray.size-1]?=some u:=by show its.toArray[its.length-1]?=some u;rw[← getElem?_toList,← hl];exact hu
 refine call_meets F.slot_list_pop ⟨_,e,rfl⟩ F.entry_list_pop (F.args_list_pop_1 _) (MeetsSeq.list_pop_last l its.toArray n u hy' (by rw[Ix];omega)) ⟨e,?_⟩;refine⟨y,_,I.zmP (its':=its.dropLast) hH e ?_ r.dropLast ?_,ru,q⟩
 .show its.toArray.eraseIdxIfInBounds (its.toArray.size-1)=its.dropLast.toArray;rw[Ix,List.eraseIdxIfInBounds_toArray,zeP]
 .rw[List.length_dropLast];omega
def znZ:R2:=λx y H Q=>∃ l b xs zs,x = .ref l/\y = .ref b/\H l=some (.lst xs)/\H b=some (.lst zs)/\xs.length+zs.length<=sizeLine/\∀ p,H p=none->Q (.ref p) (upd H p (.lst (xs++zs)))
def Wc:OpR X (binaryOp .Add) znZ:=by
 intro aa s σ H x y v u Q I rx ry h;obtain⟨l,b,xs,zs,rfl,rfl,hH,hB,hz,q⟩:=h;cases rx;cases ry;obtain⟨z,its,n,r,hl,e⟩:=I.zjm hH;obtain⟨z2,its2,n2,r2,hl2,e2⟩:=I.zjm hB;refine PySem.P.add_list e e2 ?_ (by rw[Ix,Ix];omega);have ea:its.toArray++its2.toArray=(its++its2).toArray:=by simp
 rw[ea];exact⟨.ref _,_,I.zoP (t':=s.toks) (r.append r2) (by rw[Ig];omega),rfl,q _ I.fresh⟩
end
section
variable {prog:Program}{w:World}{A:Around}{E:Value->SH->Prop}{s:SH}
set_option maxRecDepth 100000 in
end
end L2
namespace Att
open PySem PySem.W PySem.Calls PyProof.Rows
def zaO{P:Params}{h:Heap}:∀(ns:LX)(vs:LF),WellAll P h vs (ns.map WData.int)->IntsAre vs ns:=by
 intro ns
 induction ns with
 |nil=>intro vs w;rw[map_nil]at w;cases w;exact .nil
 |cons n ns ih=>
  intro vs w;rw[Ng]at w;cases w with
  |cons a b=>cases a;exact .cons _ _ (ih _ b)
def zgv{l:OpenLaw}{n:Nat}(hn:l.most=some n){P:Params}{h:Heap}{args:List WData}{vals:LF}(hpre:l.row.toRowW.claim.pre args=true)(hwl:WellAll P h vals args):
  ∃ a vs ns,vals=[Value.ref a]/\args=[WData.list (ns.map WData.int)]/\h.get? a=some {cls:=.type "list",data:=.seq vs.toArray}/\IntsAre vs ns/\ns.length<=n:=by
 have hsh:WShape.hasAll [] args [.list .int]=true:=(pre_splitW hpre).1;have hc:l.pre.holds [] {args:=args}=true:=(pre_splitW hpre).2;obtain⟨d,r,rfl,h1,h2⟩:=hasAllW_cons hsh;obtain rfl:=hasAllW_nil h2;obtain⟨xs,rfl,h3⟩:=hasW_list h1;obtain⟨ns,rfl⟩:=items_int h3;have hlen:ns.length<=n:=by
  unfold OpenLaw.pre at hc;have h4:(WTm.not (.lt (.lit (.int (n:Int))) (.len (.arg 0)))).holds [] {args:=[.list (ns.map .int)]}=true:=by have h4:=(holds_andW hc).1;rw[hn]at h4;exact h4
  have h5:=condW_of h4 (w_not (w_lt w_lit (w_len_list (w_arg rfl))));rw[Ie]at h5;refine Nat.le_of_not_lt λq=>?_;have q' : (n:Int)<((ns.length:Nat):Int):=by omega
  first
   |(rw[Ip q']at h5;exact absurd h5 (by decide))
   |(simp at h5;omega)
 cases hwl with
 |cons w1 w2=>
  cases w2;cases w1 with
  |list ho hall=>exact⟨_,_,ns,rfl,rfl,ho,zaO ns _ hall,hlen⟩
def zgk(l:OpenLaw)(args:List WData):l.row.toRowW.claim.post args (.bool true) args=true:=
 postW_of (r:=l.row.toRowW) (X:=(true==true))
  (show WShape.has [] (.bool true) .bool=true by first | rfl | decide | simp[WShape.has,WShape.arms,WShape.armsAll])
  (show(WTm.eq .res (.lit (.bool true))).value [] {args:=args,res:=some (.bool true),after:=args}=some (.bool (true==true))from w_eq_bool (w_res rfl) w_lit) rfl
def zdc{l:OpenLaw}{n:Nat}{q:Program}{loose:LB}{XP:(Str->LG)->Heap->Prop}{YP:World->Heap->Prop}{d:DefRec}(hn:l.most=some n)(hdf:d.params.defaults=[])(call:∀(w:World)(s₀ s₁:SH)(mg mb:Str->LG)(fa:AD)(o:Obj)(pm cd doc:Value)(a:AD)(vs:LF)(ns:LX),
   Ground q loose [] XP w s₀ mg mb s₁.heap->YP w s₁.heap->
   s₁.heap.get? fa=some o->o.data = .func (docDef d.name d.params d.body d.scope pm cd doc)->s₁.heap.CodeRec cd d.name->mg d.name=some (.ref fa)->
   s₁.heap.get? a=some {cls:=.type "list",data:=.seq vs.toArray}->IntsAre vs ns->ns.length<=n->s₁.gens = #[]->
   codeAny (model l.prog w) callerA (.call (.ref fa) ⟨[.ref a],[]⟩) (λr s' => r = .ok (.ret (.bool true))/\OldK s₁.heap s'.heap/\s'.os=s₁.os/\AllBare s'.gens) s₁):
  WalkO q loose XP YP l.row.toRowW d [] (λf vs=>PySem.call f vs):=by
 intro w s₀ s₁ mg mb G Y fa o pm cd doc dV kV ho hd hcd hD hmg hg args vals as hpre hlay hrd hwl hlo;obtain rfl:dV = .none:=Dflts.none hD hdf;obtain rfl:kV = .none:=Dflts.noKw hD;obtain⟨a,vs,ns,rfl,rfl,hobj,hints,hlen⟩:=zgv hn hpre hwl;refine enter_call (Ob (call w s₀ s₁ mg mb fa o pm cd doc a vs ns G Y ho (fd_plain hd) hcd hmg hobj hints hlen hg) λr s' hq=>?_);obtain⟨rfl,h2,h3,h4⟩:=hq;exact⟨.inl ⟨.bool true,.bool true,[],rfl,λ_=>rfl,.bool true,zgk l _,λ_=>⟨List.Pairwise.nil,λ_ hm=>(nomatch hm)⟩⟩,h2,h3,h4⟩
end Att
namespace L2
open PySem PySem.Spec PyProof.Rows
variable {x qual:Str}
theorem zcf:∀{vs:LF}{ns:LX},IntsAre vs ns->Vals (ns.map V.int) vs
 |_,_,.nil=>.nil
 |_,_,.cons n t h=>.cons ⟨t,rfl⟩ (zcf h)
noncomputable def We(s:Stmt):Arguments:=match s with
 |.FunctionDef _ a _ _ _ _ _ _ _ _=>a
 |_=>{posonlyargs:=[],args:=[],vararg:=none,kwonlyargs:=[],kw_defaults:=[],kwarg:=none,defaults:=[]}
noncomputable def Yj(s:Stmt):List Stmt:=match s with
 |.FunctionDef _ _ b _ _ _ _ _ _ _=>b
 |_=>[]
noncomputable def Zh(s:Stmt):Scope:=match s with
 |.FunctionDef _ _ _ _ _ _ sc _ _ _=>sc
 |_=>{kind:=.function,names:=[],isGenerator:=false,isCoroutine:=false}
abbrev CX0:CXT:=λ_ _ _ _ _ _=>False
abbrev E0:XK:=λ_ _ _=>False
def zn5{X:Cx}:zf7 CX0 X E0:=λ_ _ _ _ _ _ _ h=>h.elim
structure Fun(K:FG)(x qual:Str)(st:Stmt)(f:AD)(fd:FuncData):Prop where
 ex:∃(oc:Value)(od:Option AD)(kV doc pm:Value)(an:Option AD)(cdv ct:Value)(osl:Array (LG)),
  fd=PySem.W.fnOf x qual (We st) (Yj st) (Zh st) .none kV doc pm an cdv ct/\K.lookup f=some ⟨oc,od,.func fd,osl⟩/\codeIn K cdv qual=true
 kp:keepIn K (.ref f)=true
section
variable {P:Program}{w:World}{K:FG}{mg:Str->LG}{base:Heap}
def Fun.ok{st:Stmt}{f:AD}{fd:FuncData}{N ps:LB}{k:Nat}{sp:Sp}(F:Fun K x qual st f fd)(S:ZK N ps (Zh st))(len:∀ vs H Q E,sp vs H Q E->vs.length=ps.length)(hbody:∀(cdv:Value)(A:Around)(outer:LJ)(s:SH)(H:Hp)(vs:LC)(Q:VK)(E:XK),Wz k (A.deeper (envOfC qual (Zh st) s.heap.objs.size f cdv))->sp vs H Q E->
   ∃ t,PSs (zbJ CX0 P w K mg base N qual (Zh st) f cdv A outer s H E).nox (Yj st) t/\t {nx:=λ_ H' => Q .non H',rt:=Q} (start N vs) H):VH P w K mg base CX0 (k+1) f fd ps sp:=by
 obtain⟨oc,od,kV,doc,pm,an,cdv,ct,osl,rfl,lk,hcd⟩:=F.ex;refine zlQ lk hcd S len λA outer s H vs Q E hr hsp=>?_;obtain⟨t,h,q⟩:=hbody cdv A outer s H vs Q E hr hsp;exact⟨t,h.nox,q⟩
def Fun.binds{st:Stmt}{f:AD}{fd:FuncData}{ps:LB}(F:Fun K x qual st f fd)(h:∀(kV doc pm:Value)(an:Option AD)(cdv ct:Value)(us:LF),us.length=ps.length->bindArgs (PySem.W.fnOf x qual (We st) (Yj st) (Zh st) .none kV doc pm an cdv ct) ⟨us,[]⟩=pure (ps.zip us)):Binds K fd ps []:=by
 obtain⟨oc,od,kV,doc,pm,an,cdv,ct,osl,rfl,lk,hcd⟩:=F.ex;exact .all (h kV doc pm an cdv ct)
def Vv{st:Stmt}{f:AD}{oc:Value}{od an:Option AD}{osl:Array (LG)}{kV doc pm cdv ct:Value}(l:K.lookup f=some ⟨oc,od,.func (PySem.W.fnOf x qual (We st) (Yj st) (Zh st) .none kV doc pm an cdv ct),osl⟩)(c:codeIn K cdv qual=true)(k:keepIn K (.ref f)=true):Fun K x qual st f (PySem.W.fnOf x qual (We st) (Yj st) (Zh st) .none kV doc pm an cdv ct):=⟨⟨oc,od,kV,doc,pm,an,cdv,ct,osl,rfl,l,c⟩,k⟩
end
section
variable {X:Cx}
def pv(i:Nat){pos:Pos}(hN:X.N[i]?=some x:=by rfl)(hv:Vis X.env.scope x:=by first | exact Or.inl rfl | exact Or.inr (Or.inl rfl) | exact Or.inr (Or.inr rfl))(hd:(x==("__debug__" : Str))=false:=by decide)(hcd:(x==("__classdict__" : Str))=false:=by decide):PE X (.Name x pos) (Wj i):=zgD hN hv hd hcd
end
def zny{A B:Prop}(h:B):if false=true then A else B:=by rw[Im Ii];exact h
def zon{A B:Prop}(h:A):if true=true then A else B:=by rw[Iq rfl];exact h
def ZF(H H' : Hp):Prop:=∀ b o,H b=some o->H' b=some o
def ZF.refl(H:Hp):ZF H H:=λ_ _ h=>h
def ZF.trans{H H1 H2:Hp}(a:ZF H H1)(b:ZF H1 H2):ZF H H2:=λc o h=>b c o (a c o h)
def ZF.free{H H' : Hp}(e:ZF H H'){l:AD}(h:H' l=Option.none):H l=Option.none:=by
 cases q:H l with
 |none=>rfl
 |some o=>rw[e l o q]at h;cases h
def ZF.seq{K:FG}{H H' : Hp}{a:AD}{xs:LC}(e:ZF H H')(h:SqL K H a xs):SqL K H' a xs:=by
 rcases h with(h | ⟨o,h⟩) | h
 .exact .inl (.inl (e _ _ h))
 .exact .inl (.inr ⟨o,e _ _ h⟩)
 .exact .inr h
end L2
set_option maxHeartbeats 4000000
namespace L2
open PySem PySem.Spec PyProof.Rows
variable {i j:Int}{p pos px:Pos}{env:Env}{scope:Scope}{y:Str}{c e:Bool}{a elt iter:Expr}{js:List Nat}{fp:LH}{H' H G G':Hp}{ifs es as:List Expr}{tt:TT}{te:TE}{xs:LC}{ds:LA}{v:V}{o:HO}{α:Type}{t':Nat}{items:Array Value}
section
variable {X:Cx}
def zhj(i j:Int):Prop:=i.natAbs<2^4000/\j.natAbs<2^4000
def zhj.ok(h:zhj i j):IntMulOk i j:=IntMulOk.of_le (m:=4000) (n:=4000) (intBits_le_iff.mpr h.1) (intBits_le_iff.mpr h.2) (by decide)
def Wh:OpR X (binaryOp .Mult) (rI zhj λi j=>.int (i*j)):=opI λ_ _ _ _ _ _ _ hc q=>mul_int q hc.ok
def znB(i j:Int):Prop:=j≠0/\j.natAbs<2^4000
def zpj(h:znB i j):Builtin.divisionGoesByPylong i j=false:=by
 refine PyProof.noPylong_of_log2 ?_;have h0:j.natAbs≠0:=by have:=h.1;omega
 have:=(Nat.log2_lt h0).mpr h.2;omega
def zoh(i j:Int):Prop:=0<j/\j.natAbs<2^4000
def U4:OpR X (binaryOp .FloorDiv) (rI zoh λi j=>.int (i / j)):=opI λi j _ _ _ _ _ hc q=>by refine floordiv_int (by have:=hc.1;omega) ?_ (.inl (zpj ⟨by have:=hc.1;omega,hc.2⟩));rw[Int.fdiv_eq_ediv_of_nonneg i (by have:=hc.1;omega)];exact q
def plainIs{h:Heap}{p:AD}{its:Array Value}(pl:PlainL h p its):h.IsList p its:=by obtain⟨o,n,e,c,_,d⟩:=pl;exact⟨o,e,c,n,d⟩
end
noncomputable def Jz(env:Env):List (Str×NameKind)->List (Str×AD)->List (Str×AD)
 |[],acc=>acc
 |(n,k)::r,acc=>Jz env r (if(k==NameKind.free)=true then(n,(env.cells.lookup n).getD 0)::acc else acc)
def zel :∀(names:List (Str×NameKind))(acc:List (Str×AD)),(∀ p∈names,p.2 = .free->∃ c,env.cells.lookup p.1=some c)->
  (forIn names acc λ(x:Str×NameKind)(cs:List (Str×AD))=>(match x with
   |(name,kind)=>if(kind==NameKind.free)=true then(do let __do_lift ← cellOf env name;pure (ForInStep.yield ((name,__do_lift)::cs)))else pure (ForInStep.yield cs):Sem (ForInStep (List (Str×AD)))))=pure (Jz env names acc):=by
 intro names
 induction names with
 |nil=>intro acc _;rfl
 |cons p r ih=>
  intro acc h;obtain⟨n,k⟩:=p;rw[forIn_cons];have hr:=λacc=>ih acc λq hq=>h q (Iy _ hq);by_cases hk:k = .free
  .subst hk;obtain⟨c,hc⟩:=h (n,.free) ID rfl;have e:cellOf env n=pure c:=by unfold cellOf;rw[hc]
   simp only[beq_self_eq_true,Oj,e,pure_bind];rw[hr];simp only[Jz,beq_self_eq_true,Oj,hc,Option.getD_some]
  .have hb:(k==NameKind.free)=false:=by simpa using hk
   simp only[hb,IN,Nf,pure_bind];rw[hr];simp only[Jz,hb,IN,Nf]
def Xr(h:∀ p∈scope.names,p.2 = .free->∃ c,env.cells.lookup p.1=some c):closureFor scope env=pure (Jz env scope.names []):=by unfold closureFor;have e:=zel (env:=env) scope.names [] h;simp only[e,pure_bind]
theorem U8{c:AD}:∀{names:List (Str×NameKind)}{acc:List (Str×AD)},(∀ p∈names,p.2 = .free->∃ c,env.cells.lookup p.1=some c)->(∀ y c,acc.lookup y=some c->env.cells.lookup y=some c)->
  (Jz env names acc).lookup y=some c->env.cells.lookup y=some c
 |[],_,_,ha,e=>ha _ _ e
 |(n,k)::r,acc,h,ha,e=>by
  refine U8 (names:=r) (λp hp=>h p (Iy _ hp)) (λy c q=>?_) e;by_cases hk:(k==NameKind.free)=true
  .rw[Iq hk]at q;obtain⟨c',hc'⟩:=h (n,k) ID (by simpa using hk);rw[Oc]at q;cases hy:y==n with
   |true=>
    rw[hy]at q;have hy' : y=n:=by simpa using hy
    subst hy';rw[hc']at q;cases q;exact hc'
   |false=>rw[hy]at q;exact ha y c q
  .rw[Im hk]at q;exact ha y c q
theorem zdx :∀{names:List (Str×NameKind)}{acc:List (Str×AD)},(acc.lookup y).isSome=true->((Jz env names acc).lookup y).isSome=true
 |[],_,h=>h
 |(n,k)::r,acc,h=>by
  refine zdx (names:=r) ?_;split
  .rw[Oc];split
   .rfl
   .exact h
  .exact h
theorem W7 :∀{names:List (Str×NameKind)}{acc:List (Str×AD)},(y,NameKind.free)∈names->((Jz env names acc).lookup y).isSome=true
 |(n,k)::r,acc,h=>by
  rcases IE.mp h with e | h
  .cases e;refine zdx (names:=r) ?_;rw[Iq (by simp),Oc];simp
  .exact W7 (names:=r) h
abbrev Xg(X:Cx)(scope:Scope)(Nc:LB)(C:AD)(s0:SH)(H0:Hp)(ex:LH):Cx:={X with N:=Nc,s₀:=s0,H₀:=H0,env:=compEnvC scope (Jz X.env scope.names []) C X.env,outer:=X.stack,ex:=ex,fn:=λ_=>false,pn:=[],xe:=λ_ _=>False}
structure Xv(fr sc:Scope)(xs cap:LB):Prop where
 kind:sc.kind = .function
 cell:∀ p∈sc.names,p.2≠.cell
 names:∀ p∈sc.names,p.2 = .local->sc.names.lookup p.1=some .local
 free:∀ p∈sc.names,p.2 = .free->fr.names.lookup p.1=some .cell
 caps:∀ y∈cap,(y,NameKind.free)∈sc.names
 noboth:∀ y∈cap,sc.names.lookup y≠some .local
structure WY(fr sc:Scope)(x:Str)(cap:LB):Prop where
 kind:sc.kind = .function
 cell:∀ p∈sc.names,p.2≠.cell
 names:∀ p∈sc.names,p.2 = .local->sc.names.lookup p.1=some .local
 tgt:sc.names.lookup x=some .local
 free:∀ p∈sc.names,p.2 = .free->fr.names.lookup p.1=some .cell
 caps:∀ y∈cap,(y,NameKind.free)∈sc.names
 nd:(x::cap).Nodup
 noboth:∀ y∈cap,sc.names.lookup y≠some .local
def zaM{sc:Scope}{k:NameKind}(h:(y,k)∈(relabel sc env).names):∃ k',(y,k')∈sc.names/\(k=k' \/ (k' = .free/\k = .cell)):=by
 unfold relabel at h;obtain⟨⟨n,k'⟩,hm,e⟩:=N0.mp h;by_cases hc:(k'==NameKind.free&&env.scope.kind == .function&&env.kindOf n==some .cell)=true
 .have e:(n,NameKind.cell)=(y,k):=by simpa [hc]using e
  cases e;refine⟨k',hm,.inr ⟨?_,rfl⟩⟩;rw[IR,IR]at hc;simpa using hc.1.1
 .have e:(n,k')=(y,k):=by simpa [hc]using e
  cases e;exact⟨k,hm,.inl rfl⟩
section
variable {X:Cx}{aa:List (Addr×Obj)}{σ:St}{H:Hp}{s:SH}{sc:Scope}{xs cap:LB}
theorem Xv.cells(S:Xv X.env.scope sc xs cap)(ok:X.Ok):∀ p∈sc.names,p.2 = .free->∃ c,X.env.cells.lookup p.1=some c:=λp hp e=>ok.has p.1 (.inl (S.free p hp e))
def Xv.sub(S:Xv X.env.scope sc xs cap)(ok:X.Ok){c:AD}(h:(Jz X.env sc.names []).lookup y=some c):X.env.cells.lookup y=some c:=U8 (S.cells ok) (λ_ _ z=>by simp at z) h
def zeT{a b:AD}(h:a<b):a≠b:=IS h
def zoY{a b:AD}(h:b<a):a≠b:=ne_of_gt h
noncomputable def WK(σ:St)(js:List Nat):St:=js.map λj=>(σ[j]?).join
def zfE(S:Xv X.env.scope sc xs cap)(hjs:js.map (λj=>X.N[j]?)=cap.map some)(I:Inv X aa σ H s)(hf:∀ b∈fp,zcQ X aa H b)(hlt:∀ b∈fp,b<s.heap.objs.size){h1:Heap}{tk:Nat}{D C:AD}{oD:Obj}{m:Str->LG}(hD:D=s.heap.objs.size)(hC:C=s.heap.objs.size+1)(keep:∀ b o,s.heap.get? b=some o->h1.get? b=some o)(hoD:h1.get? D=some oD)(hnc:∀ v,oD.data≠.cell v)(hns:h1.Ns C m):
  Inv (Xg X sc (xs++cap) C s H fp) [(D,oD)] (xs.map (λ_=>none)++WK σ js) H {s with heap:=h1,toks:=tk}:=by
 subst hD hC;have lenJ:js.length=cap.length:=by have:=IT List.length hjs;simpa using this
 have ok:=I.ok;refine⟨⟨ok.mod,S.kind,ok.glob,ok.blt,?_,λy z c h1 h2=>ok.inj y z c (S.sub ok h1) (S.sub ok h2),λy hy=>?_,(λy c h=>Bool.noConfusion h),ok.hd,ok.frames,.inl rfl,λb hb=>⟨?_,λy c e=>(hf b hb).2.2.2.2.1 y c (S.sub ok e)⟩,I.bs,ND ok.bsz I.sz,λb o e hb=>?_,λb hb hb' => ?_,I.stack,I.zgm⟩,
  rfl,I.bare,Un.kept keep,⟨m,hns,λi y v e1 e2 e3=>?_⟩,λy c e=>?_,I.ad.fresh (Nat.le_succ _),λy c e=>I.freeC y c (S.sub ok e),λp hp=>?_,I.ad.kept keep,?_⟩
 .exact Nat.le_succ _
 .have hy' : ∃ k,(y,k)∈(relabel sc X.env).names/\(k = .cell\/k = .free):=by
   rcases hy with hy | hy
   .exact⟨_,IJ hy,.inl rfl⟩
   .exact⟨_,IJ hy,.inr rfl⟩
  obtain⟨k,hm,hk⟩:=hy';obtain⟨k',hm',hk'⟩:=zaM hm;have hfree:k' = .free:=by
   rcases hk' with e | ⟨e,_⟩
   .subst e;rcases hk with e | e
    .exact absurd e (S.cell _ hm')
    .exact e
   .exact e
  subst hfree;exact NE.mp (W7 hm')
 .exact zeT (Ow (hlt b hb))
 .obtain⟨_,_,_,z,_⟩:=hf b hb;rcases z with z | z
  .exact ok.noex b o e z
  .have:=IF (ok.bs b o e).1;exact absurd (IA this z) (OH _)
 .obtain⟨_,z1,z2,_⟩:=hf b hb;rcases IE.mp (I.zga b hb')with z | z
  .exact z1 z
  .exact z2 z
 .have e2:(xs.map (λ_=>(none:Option V))++WK σ js)[i]?=some (some v):=e2;have e1:(xs++cap)[i]?=some y:=e1;by_cases hi:i<xs.length
  .rw[IV (by rw[Ie];exact hi),Ij,Ib hi]at e2;cases e2
  .obtain⟨i,rfl⟩:∃ i',i=xs.length+i':=⟨i-xs.length,(by omega)⟩
   rw[IU (by rw[Ie];omega),Ie,Nat.add_sub_cancel_left]at e2;rw[IU (by omega),Nat.add_sub_cancel_left]at e1;have e1':=e1;have e2':=e2;have hy:y∈cap:=Iz e1';unfold WK at e2';rw[Ij]at e2';cases ej:js[i]? with
   |none=>rw[ej]at e2';cases e2'
   |some j=>
    rw[ej]at e2';have e2'' : (σ[j]?).join=some v:=Iu e2';have eN:X.N[j]?=some y:=by have:=IT (λl=>l[i]?) hjs;simp only[Ij,ej,e1',map_some]at this;exact Iu this
    have eσ:σ[j]?=some (some v):=by
     cases q:σ[j]? with
     |none=>rw[q]at e2'';cases e2''
     |some w' =>
      rw[q]at e2'';have:w'=some v:=by simpa using e2''
      rw[this]
    have kc:X.env.scope.names.lookup y=some .cell:=S.free (y,.free) (S.caps y hy) rfl;obtain⟨m0,hn0,hl0⟩:=I.loc;obtain⟨u,ru,lk⟩:=hl0 j y v eN eσ (.inr (.inl kc));refine⟨u,ru,?_⟩;rcases lk with⟨k,_⟩ | ⟨_,c,ec,hc⟩
    .have k' : X.env.scope.names.lookup y=some .local:=k;rw[kc]at k';cases k'
    .obtain⟨c',hc'⟩:=NE.mp (W7 (env:=X.env) (acc:=[]) (S.caps y hy));have hcc:c'=c:=Iu ((S.sub ok hc').symm.trans ec);subst hcc;refine .inr ⟨?_,c',hc',?_⟩
     .rcases e3 with e3 | e3 | e3
      .exfalso;have hm:=IJ e3;obtain⟨k',hm',hk'⟩:=zaM hm;rcases hk' with e | ⟨_,e⟩
       .subst e;exact S.noboth y hy (S.names _ hm' rfl)
       .cases e
      .exact .inl e3
      .exact .inr e3
     .obtain⟨o,ho,hd⟩:=hc;exact⟨o,keep _ o ho,hd⟩
 .obtain⟨v,o,ho,hd⟩:=I.cell y c (S.sub ok e);exact⟨v,o,keep _ o ho,hd⟩
 .have hp' : p=(s.heap.objs.size,oD):=by simpa using hp
  subst hp';refine⟨hoD,I.ad.fresh (Ik _),zeT (Nat.lt_succ_self _),λhb=>?_,hnc⟩;obtain⟨_,o,ho,_⟩:=I.stack.mem hb;exact OH _ (IF ho)
 .show(xs.map (λ_=>(none:Option V))++WK σ js).length=(xs++cap).length;unfold WK;simp[lenJ]
def VB(S:Xv X.env.scope sc xs cap)(I:Inv X aa σ H s)(hf:∀ b∈fp,zcQ X aa H b){D C:AD}{pn' : List (Addr×Obj)}{σ' : St}{s' : SH}{ys:LC}{its:LF}{k:Nat}{h' : Heap}(hD:D=s.heap.objs.size)(hC:C=s.heap.objs.size+1)(J:Inv (Xg X sc (xs++cap) C s H fp) pn' σ' H' s')(hnD:H' D=none)(hoD:s'.heap.get? D=some {cls:=.type "list",data:=.seq its.toArray k})(rv:Vals ys its)(hz:ys.length<=sizeLine)(hs:SameBut C s'.heap h'):Inv X aa σ (upd H' D (.lst ys)) {s' with heap:=h'}:=by
 subst hD hC;have base:Un (frs X.stack) fp H H' s.heap s'.heap:=J.base;have hnC:H' (s.heap.objs.size+1)=none:=J.free;have neC:∀{b:AD}{o:Obj},s.heap.get? b=some o->b≠s.heap.objs.size+1:=λe=>zeT (Ow (IF e));have neD:∀{b:AD}{o:Obj},s.heap.get? b=some o->b≠s.heap.objs.size:=λe=>zeT (IF e);have neDH:∀{b:AD}{o:HO},H b=some o->b≠s.heap.objs.size:=λe=>zeT (I.ad.lt e);refine I.call' (s':={s' with heap:=h'}) (ch:=fp) J.os ⟨λb o e n hb hx=>?_,λb o e n hb hx=>?_,λb o e n hx=>?_,λb o e hx=>?_,λb xs e=>?_,λb o u e=>?_,λb ps e=>?_⟩ (λb u e=>?_) J.bare λb hb=>?_
 .exact(hs.2 b (neC e)).trans (base.keep b o e n hb hx)
 .obtain⟨sl,q⟩:=base.slot b o e n hb hx;exact⟨sl,(hs.2 b (neC e)).trans q⟩
 .rw[Zr (neD e)];exact base.free b o e n hx
 .obtain⟨o',q⟩:=base.there b o e hx;exact⟨o',(hs.2 b (neC e)).trans q⟩
 .rw[Zr (neDH e)];exact base.tups b xs e
 .rw[Zr (neDH e)];exact base.frzs b o u e
 .rw[Zr (neDH e)];exact base.tbls b ps e
 .by_cases hb:b=s.heap.objs.size
  .subst hb;rw[Zo]at e;cases e;exact⟨hz,its,k,rv,(hs.2 _ (zeT (Nat.lt_succ_self _))).trans hoD⟩
  .rw[Zr hb]at e;have J' : Xk X.prog X.w H' s'.heap b u:=J.ad b u e;refine J'.stay (λc v hc q=>(hs.2 c ?_).trans q) (λc q=>?_) (λc xs q=>?_) λc o u q=>?_
   .rintro rfl;rcases hc with rfl | hc
    .rw[hnC]at e;cases e
    .rw[hnC]at hc;cases hc
   .rw[Zr (Zy q hnD)];exact q
   .rw[Zr (Zy q hnD)];exact q
   .rw[Zr (Zy q hnD)];exact q
 .obtain⟨_,z1,_,z3,z4,z5⟩:=hf b hb;exact⟨z3,z1,z4,z5⟩
end
section
variable {X:Cx}{aa:List (Addr×Obj)}{σ:St}{H:Hp}{s:SH}{sc:Scope}{x:Str}{cap:LB}
def PIf(X:Cx)(ifs:List Expr)(t:TT):Prop:=
 ∀(aa:List (Addr×Obj))(s:SH)(σ:St)(H:Hp)(Q:Bool->Hp->Prop),Inv X aa σ H s->t σ H Q->
  wpAny (model X.prog X.w) X.A (forIn ifs true λc r=>if r=true then do let ok ← isTrue c X.env (eval c X.env);pure (ForInStep.yield ok)else pure (ForInStep.yield r)) (TP X aa σ Q) X.xe s
def zgj:TT:=λ_ H Q=>Q true H
def X8{X:Cx}:PIf X [] zgj:=λ_ _ _ H _ I h=>wpAny_tests_nil ⟨H,I,h⟩
def zfO{X:Cx}{c:Expr}{t:TT}(h:PT X c t):PIf X [c] t:=λaa s σ H Q I q=>wpAny_tests_one (h aa s σ H Q I q)
end
section
variable {prog:Program}{w:World}{A:Around}{R:Result->SH->Prop}{s:SH}
def zeB{target:Expr}{it acc:Value}(J:Nat->SH->Prop)(turn:∀ n s,J n s->wpAny (model prog w) A (pyNext it) (λr s₁=>match r with
   |none=>R (.ok .next) s₁
   |some v=>wpAny (model prog w) A (letOwnedTupleGo target it v) (λ_ s₂=>wpAny (model prog w) A (assign target env v) (λ_ s₃=>
     wpAny (model prog w) A (forIn ifs true λc r=>if r=true then do let ok ← isTrue c env (eval c env);pure (ForInStep.yield ok)else pure (ForInStep.yield r)) (λok s₄=>
      if ok=true then wpAny (model prog w) A (eval elt env) (λx s₅=>
       wpAny (model prog w) A (call (.builtin "list.append") [acc,x]) (λ_ s₆=>∃ m,m<n/\J m s₆) (λ_ _=>False) s₅) (λ_ _=>False) s₄
      else ∃ m,m<n/\J m s₄) (λ_ _=>False) s₃) (λ_ _=>False) s₂) (λ_ _=>False) s₁) (λ_ _=>False) s)(n:Nat)(h:J n s):codeAny (model prog w) A (.compLoop (.ListComp elt [⟨target,iter,ifs,0⟩] scope pos) 0 it acc env) R s:=by
 refine codeAny_loop rfl J (λn s hJ=>?_) n h;show wpAny _ A ((compTurn (.ListComp elt [⟨target,iter,ifs,0⟩] scope pos) 0 it acc env).onRaise (λx=>do noteFrame x env;theTreesLotGoes x)) _ _ s;refine wpAny_noted ?_;rw[compTurn_list];refine Ia (OK (Ia (NJ (turn n s hJ) (λr s₁ h₁=>?_) λ_ _ z=>z.elim)));cases r with
 |none=>exact Ic h₁
 |some v=>
  refine Ia (NJ h₁ (λ_ s₂ h₂=>?_) λ_ _ z=>z.elim);refine Ia (NJ h₂ (λ_ s₃ h₃=>Ia (NJ h₃ (λok s₄ h₄=>?_) λ_ _ z=>z.elim)) λ_ _ z=>z.elim);cases ok with
  |false=>exact Ic ⟨rfl,h₄⟩
  |true=>exact Ia (Ia (NJ h₄ (λx s₅ h₅=>Ia (NJ h₅ (λ_ s₆ h₆=>Ic (Ic ⟨rfl,h₆⟩)) λ_ _ z=>z.elim)) λ_ _ z=>z.elim))
end
section
variable {X:Cx}{aa:List (Addr×Obj)}{σ:St}{H:Hp}{s:SH}{sc:Scope}{x:Str}{cap:LB}
def LCw(J:It)(js:List Nat)(σ:St)(tt:TT)(te:TE)(Q:VK)(W:Nat->Nat->LC->Hp->Prop):Prop:=
 ∀ i m ys H,W i m ys H->ys.length<sizeLine/\
  ((J.stop i H/\∀ p,H p=none->Q (.ref p) (upd H p (.lst ys)))\/
   (J.go i H/\∀ x H',J.yld i H x H' -> tt (some x::WK σ js) H' λb H2=>if b=true then te (some x::WK σ js) H2 λv H3=>∃ m',m'<m/\W (i+1) m' (ys++[v]) H3 else ∃ m',m'<m/\W (i+1) m' ys H2))
def tLC(wi:TI)(js:List Nat)(tt:TT)(te:TE):TE:=fun σ H Q=>wi σ H λJ H1=>∃ W:Nat->Nat->LC->Hp->Prop,(∃ m,W 0 m [] H1)/\LCw J js σ tt te Q W
def znF(n:Nat)(J:It)(js:List Nat)(σ:St)(g:TG)(tt:TT)(te:TE)(Q:VK)(W:Nat->Nat->LC->Hp->Prop):Prop:=
 ∀ i m ys H,W i m ys H->ys.length<sizeLine/\
  ((J.stop i H/\∀ p,H p=none->Q (.ref p) (upd H p (.lst ys)))\/
   (J.go i H/\∀ x H',J.yld i H x H' -> ∀ ws:List (Option V),ws.length=n->g x (ws++WK σ js) H' fun σ2 H2=>∃ ws',σ2=ws'++WK σ js/\ws'.length=n/\tt σ2 H2 λb H3=>if b=true then te σ2 H3 λv H4=>∃ m',m'<m/\W (i+1) m' (ys++[v]) H4 else ∃ m',m'<m/\W (i+1) m' ys H3))
end
section
variable {X:Cx}{aa:List (Addr×Obj)}{σ:St}{H:Hp}{s:SH}{sc:Scope}{xs cap:LB}
def Vp(S:Xv X.env.scope sc xs cap)(hjs:js.map (λj=>X.N[j]?)=cap.map some)(hc:X.calm=true){tg:Expr}{g:TG}(hg:∀ C s0 H0 ex,PG (Xg X sc (xs++cap) C s0 H0 ex) tg g){fp:LH}(hb:∀ C,PIf (Xg X sc (xs++cap) C s H fp) ifs tt/\PE (Xg X sc (xs++cap) C s H fp) elt te)(I:Inv X aa σ H s){J:It}{it:AD}{tn:Nat->Heap->Prop}(T:Turn X.prog X.w X.K tg J fp it tn)(st:tn 0 s.heap)(hf:∀ b∈fp,zcQ X aa H b){Q:VK}{W:Nat->Nat->LC->Hp->Prop}(w0:∃ m,W 0 m [] H)(turn:znF xs.length J js σ g tt te Q W){RR:Value->AD->Result->SH->Prop}{E:Value->SH->Prop}(hR:∀ D C s' σ' H' ys its k,D=s.heap.objs.size->C=s.heap.objs.size+1->Inv (Xg X sc (xs++cap) C s H fp) [(D,{cls:=.type "list",data:=.seq its.toArray k})] σ' H' s' -> Vals ys its->ys.length<=sizeLine->(∀ p,H' p=none->Q (.ref p) (upd H' p (.lst ys)))->RR (.ref D) C (.ok .next) s'):
  wpAny (model X.prog X.w) X.A (newList []) (λacc s₃=>wpAny (model X.prog X.w) X.A (newFunctionEnv sc X.env.globals (Jz X.env sc.names []) [] X.env.qual none .none (some X.env)) (λcenv s₄=>
   codeAny (model X.prog X.w) X.A (.compStart (.ListComp elt [⟨tg,iter,ifs,0⟩] sc pos) 0 (.ref it) acc {cenv with scope:=relabel sc X.env}) (RR acc cenv.locals) s₄) E s₃) E s:=by
 refine IK (wpAny_newFunctionEnv S.cell (by intro y hy;simp at hy) (λh₁ hns₁ hsb₁=>?_) S.kind);dsimp only at hns₁ hsb₁ ⊢;have hlt:∀ b∈fp,b<s.heap.objs.size:=λb hb' => by obtain⟨o,e,_⟩:=T.obj 0 _ st b hb';exact IF e
 generalize hH2:s.heap.push {cls:=.type "list",dict:=none,data:=.seq ([]:LF).toArray}=H2 at hns₁ hsb₁ ⊢;have hC:H2.objs.size=s.heap.objs.size+1:=by rw[← hH2,Nu]
 have old:∀ b o,s.heap.get? b=some o->h₁.get? b=some o:=λb o e=>hsb₁.extBut b o (by rw[hC];exact zeT (Ow (IF e))) (Ih _ (hH2 ▸ Ih _ e))
 have hacc:h₁.get? s.heap.objs.size=some {cls:=.type "list",data:=.seq ([]:LF).toArray}:=hsb₁.extBut _ _ (by rw[hC];exact zeT (Nat.lt_succ_self _)) (Ih _ (hH2 ▸ Io _ rfl))
 have st₁:tn 0 h₁:=T.keep _ _ _ st λb _ o e=>old b o e;obtain⟨m0,w0⟩:=w0;rw[hC]at hns₁ hsb₁ ⊢;generalize hCe:s.heap.objs.size+1=C at hns₁ hsb₁ hR ⊢;generalize hDe:s.heap.objs.size=D at hacc hR ⊢;have hDe':=hDe.symm;have hC' : C=s.heap.objs.size+1:=hCe.symm;have ltD:∀{b:AD},b<s.heap.objs.size->b≠D:=λh=>by rw[← hDe];exact zeT h
 have loop:∀ s₃:SH,s₃={s with heap:=h₁,toks:=s.toks+([]:List (Str×Value)).length}->
   codeAny (model X.prog X.w) X.A (.compLoop (.ListComp elt [⟨tg,iter,ifs,0⟩] sc pos) 0 (.ref it) (.ref D) (compEnvC sc (Jz X.env sc.names []) C X.env)) (RR (.ref D) C) s₃:=by
  rintro s₃ rfl;have I0:Inv (Xg X sc (xs++cap) C s H fp) [(D,{cls:=.type "list",data:=.seq ([]:LF).toArray})] (xs.map (λ_=>none)++WK σ js) H {s with heap:=h₁,toks:=s.toks+([]:List (Str×Value)).length}:=zfE S hjs I hf hlt hDe' hC' old hacc (λv z=>by cases z) hns₁
  have fpD:∀ b∈fp,b≠D:=λb hb' => ltD (hlt b hb');refine zeB (λn s' => ∃ i ws H' ys its k,ws.length=xs.length/\Inv (Xg X sc (xs++cap) C s H fp) [(D,{cls:=.type "list",data:=.seq its.toArray k})] (ws++WK σ js) H' s' /\ tn i s'.heap/\(∀ b∈fp,H' b=none)/\Vals ys its/\W i n ys H')
   ?_ m0 ⟨0,xs.map (λ_=>none),H,[],[],0,Ie _,I0,st₁,λb hb' => (hf b hb').1,.nil,w0⟩
  rintro n s3 ⟨i,ws,H3,ys,its,k,hws,I3,st3,fr3,rv,w3⟩;obtain⟨hlen,hor⟩:=turn i n ys H3 w3;have stat:∀{H' : Hp}{o:Obj},(∀ b∈fp,H' b=none)->∀ b∈fp,zcQ (Xg X sc (xs++cap) C s H fp) [(D,o)] H' b:=λ{H' o} hn b hb' =>
   ⟨hn b hb',(I3.ok.exf b hb').1,I3.ok.exfs b hb',.inl hb',(I3.ok.exf b hb').2,λp hp=>by
    have hp' : p=(D,o):=by simpa using hp
    rw[hp'];exact Ne.symm (fpD b hb')⟩
  rcases hor with⟨stop,qn⟩ | ⟨go,step⟩
  .refine thn (T.done (Xg X sc (xs++cap) C s H fp) rfl rfl rfl hc i _ s3 _ H3 _ I3 (stat fr3) st3 stop) λr s4 ⟨hr,I4⟩=>?_;subst hr;exact hR D C s4 _ H3 ys its k rfl rfl I4 rv (Oz hlen) qn
  .refine thn (T.item (Xg X sc (xs++cap) C s H fp) rfl rfl rfl hc i _ s3 _ H3 _ I3 (stat fr3) st3 go) λr s4 ⟨u,hr,h4⟩=>?_;subst hr;refine thn h4 λ_ s5 ⟨xv,H5,I5,r5,y5,st5,fr5⟩=>?_;have I5':=I5.pinned (stat fr5) (T.obj _ _ st5);refine thn (hg C s H fp _ s5 _ H5 xv u _ I5' r5 (step xv H5 y5 ws hws)) λ_ s6 ⟨σ6,H6,I6,ws',e6,hws',q6⟩=>?_;subst e6;refine thn ((hb C).1 _ s6 _ H6 _ I6 q6) λok s7 ⟨H7,I7,q7⟩=>?_;have fin:∀{s8:SH}{H8:Hp}{σ8:St},Inv (Xg X sc (xs++cap) C s H fp) ([(D,{cls:=.type "list",data:=.seq its.toArray k})]++Uu fp s5.heap) σ8 H8 s8->tn (i+1) s8.heap/\(∀ b∈fp,H8 b=none)/\s8.heap.get? D=some {cls:=.type "list",data:=.seq its.toArray k}/\H8 D=none/\D≠C:=λ{s8 H8 σ8} I8=>by
    have pinD:=I8.pin (D,{cls:=.type "list",data:=.seq its.toArray k}) (IL _ (List.mem_append_left _ (IH.mpr rfl)));have pinF:∀ b∈fp,∀ o,s5.heap.get? b=some o->s8.heap.get? b=some o/\H8 b=none:=λb hb' o e=>
     have z:=I8.pin (b,o) (IL _ (IL _ (Uj hb' e)))
     ⟨z.1,z.2.1⟩
    refine⟨T.keep _ _ _ st5 λb hb' o e=>(pinF b hb' o e).1,λb hb' => ?_,pinD.1,pinD.2.1,pinD.2.2.1⟩;obtain⟨o,e,_⟩:=T.obj _ _ st5 b hb';exact(pinF b hb' o e).2
   cases ok with
   |false=>rw[Im Ii]at q7 ⊢;obtain⟨m',hm,w7⟩:=q7;obtain⟨f1,f2,_⟩:=fin I7;exact⟨m',hm,i+1,ws',H7,ys,its,k,hws',I7.Vq,f1,f2,rv,w7⟩
   |true=>
    rw[Iq rfl]at q7 ⊢;refine thn ((hb C).2 _ s7 _ H7 _ I7 q7) λu8 s8 ⟨v,H8,I8,r8,q8⟩=>?_;obtain⟨f1,f2,f3,f4,f5⟩:=fin I8;obtain⟨m',hm,w8⟩:=q8;have rv' : Vals (ys++[v]) (its++[u8]):=rv.append (.cons r8 .nil);refine wpAny_list_append_plain ⟨k,f3⟩ (λh9 hl9 hs9=>?_) (by rw[Ix,← rv.length];exact Oz hlen);obtain⟨k9,e9⟩:=hl9;have e9' : h9.get? D=some {cls:=.type "list",data:=.seq (its++[u8]).toArray k9}:=by rw[e9];simp
    have In:Inv (Xg X sc (xs++cap) C s H fp) (Uu fp s5.heap) (ws'++WK σ js) H8 s8:=I8.VV λp hp=>I8.pin p (IL _ (IL _ hp));have It' : Inv (Xg X sc (xs++cap) C s H fp) (Uu fp s5.heap) (ws'++WK σ js) H8 {s8 with heap:=h9}:=
     In.turned (it:=D) (h':=h9) (t':=s8.toks) (λb o hb' e=>hs9.extBut b o hb' e) f4 f5 (.inr (le_of_eq hDe)) (λy c e z=>by
      obtain⟨v',o,ho,_⟩:=I.cell y c (S.sub I.ok e);exact ltD (IF ho) z) λp hp z=>by
      have hp' : p∈Uu fp s5.heap:=by simpa using hp
      exact fpD p.1 (zbZ hp').1 z
    refine⟨m',hm,i+1,ws',H8,ys++[v],its++[u8],k9,hws',It'.VV λp hp=>?_,T.keep _ _ _ f1 λb hb' o e=>hs9.extBut b o (fpD b hb') e,f2,rv',w8⟩;have hp' : p=(D,{cls:=.type "list",data:=.seq (its++[u8]).toArray k9}):=by simpa using hp
    subst hp';refine⟨e9',f4,f5,λhb' => ?_,λv z=>by cases z⟩;obtain⟨_,o,ho,_⟩:=I.stack.mem hb';exact ltD (IF ho) rfl
 exact codeAny_compStart_list (loop _ rfl) (T.self X.A 0 _ _ _ st₁ (loop _ rfl))
def zjW{J:It}{Q:VK}{W:Nat->Nat->LC->Hp->Prop}(h:LCw J js σ tt te Q W):znF 1 J js σ (VF 0) tt te Q W:=λi m ys H w=>by
 obtain⟨a,b⟩:=h i m ys H w;refine⟨a,b.imp id λ⟨go,st⟩=>⟨go,λx H' y ws hw=>?_⟩⟩
 match ws,hw with
 |[v],_=>exact⟨[some x],rfl,rfl,st x H' y⟩
end
section
variable {X:Cx}{aa:List (Addr×Obj)}{σ:St}{H:Hp}{s:SH}{sc:Scope}{x:Str}{cap:LB}
def WY.n{fr:Scope}(S:WY fr sc x cap):Xv fr sc [x] cap:=⟨S.kind,S.cell,S.names,S.free,S.caps,S.noboth⟩
def WY.pg(S:WY X.env.scope sc x cap)(C:AD)(s0:SH)(H0:Hp)(ex:LH):PG (Xg X sc ([x]++cap) C s0 H0 ex) (.Name x px) (VF 0):=Yh S.nd rfl (.inl (NW S.tgt)) (.inr (NW S.tgt))
def zbv(S:WY X.env.scope sc x cap)(hjs:js.map (λj=>X.N[j]?)=cap.map some)(hc:X.calm=true)(hxe:∀ e s,¬ X.xe e s){wi:TI}(hi:PI X (.Name x px) iter wi)(hb:∀ C s0 H0 ex,PIf (Xg X sc (x::cap) C s0 H0 ex) ifs tt/\PE (Xg X sc (x::cap) C s0 H0 ex) elt te)(hs:∀ x,foldedSetIterable iter X.env x=pure x:=by intro _;rfl):PE X (.ListComp elt [⟨.Name x px,iter,ifs,0⟩] sc pos) (tLC wi js tt te):=by
 intro aa s σ H Q I h;rw[eval_ListComp];refine Oh (use:=none) rfl hs (Xr (S.n.cells I.ok)) S.kind S.names (thn (hi aa s σ H _ I h) λxv s₁ h₁=>thn h₁ λitv s₂ h₂=>?_);obtain⟨it,fp,tn,J,H2,e,I2,T,st2,f2,W,w0,turn⟩:=h₂;subst e;refine Vp (xs:=[x]) (Q:=Q) (RR:=λacc C=>compPost (model X.prog X.w) X.A X.xe none (EP X aa σ Q) acc C) S.n hjs hc S.pg (λC=>hb C _ _ _) I2 T st2 f2 w0 (zjW turn) ?_;intro D C s' σ' H' ys its k hD hC J' rv hz q;obtain⟨m,hn,_⟩:=J'.loc;have pinD:=J'.pin (D,{cls:=.type "list",data:=.seq its.toArray k}) (IL _ (IH.mpr rfl));exact⟨m,hn,λh' hs' => ⟨.ref D,_,VB (xs:=[x]) S.n I2 f2 hD hC J' pinD.2.1 pinD.1 rv hz hs',rfl,q D pinD.2.1⟩⟩
def zoU(i:Nat)(wi:TI)(js:List Nat)(tt:TT)(te:TE):TS:=λD σ H=>tLC wi js tt te σ H λv H' => D.nx (σ.set i (some v)) H'
def zfA(S:WY X.env.scope sc x cap)(hjs:js.map (λj=>X.N[j]?)=cap.map some)(hc:X.calm=true)(hxe:∀ e s,¬ X.xe e s){py spos:Pos}{wi:TI}{i:Nat}(hN:X.N.Nodup)(hi' : X.N[i]?=some y)(hy:X.env.scope.names.lookup y=some .local)(hi:PI X (.Name x px) iter wi)(hb:∀ C s0 H0 ex,PIf (Xg X sc (x::cap) C s0 H0 ex) ifs tt/\PE (Xg X sc (x::cap) C s0 H0 ex) elt te)(hsw:swapsWith (.ListComp elt [⟨.Name x px,iter,ifs,0⟩] sc pos) (some (.Name y py)) spos.line X.env=pure true:=by rfl)(hs:∀ x,foldedSetIterable iter X.env x=pure x:=by intro _;rfl):PS X (.Assign [.Name y py] (.ListComp elt [⟨.Name x px,iter,ifs,0⟩] sc pos) spos) (zoU i wi js tt te):=by
 intro aa s σ H D0 I h;rw[exec_Assign_Name_used _ _ _ _ hsw];refine Ia (OK (Ia ?_));show wpAny _ X.A (do let _ ← comprehension (.ListComp elt [⟨.Name x px,iter,ifs,0⟩] sc pos) sc X.env _ (newList []) false (eval iter X.env) (some (assign (.Name y py) X.env))) _ _ s;refine Ia (NJ (Oh (use:=some (assign (.Name y py) X.env)) (Q:=λ_ s' => SP X aa D0 .next s') rfl hs (Xr (S.n.cells I.ok)) S.kind S.names
  (thn (hi aa s σ H _ I h) λxv s₁ h₁=>thn h₁ λitv s₂ h₂=>?_)) (λ_ s' hq=>Ic (Ic hq)) λ_ _ e=>e)
 obtain⟨it,fp,tn,J,H2,e,I2,T,st2,f2,W,w0,turn⟩:=h₂;subst e;refine Vp (xs:=[x]) (Q:=λv H' => D0.nx (σ.set i (some v)) H') (RR:=λacc C=>compPost (model X.prog X.w) X.A X.xe (some (assign (.Name y py) X.env)) (λ_ s' => SP X aa D0 .next s') acc C) S.n hjs hc S.pg (λC=>hb C _ _ _) I2 T st2 f2 w0 (zjW turn) ?_;intro D C s' σ' H' ys its k hD hC J' rv hz q;have gtC:∀{b:AD},b<s₂.heap.objs.size->b≠C:=λh=>by rw[hC];exact zeT (Ow h)
 have pinD:=J'.pin (D,{cls:=.type "list",data:=.seq its.toArray k}) (IL _ (IH.mpr rfl));obtain⟨m,hn,_⟩:=id J'.loc;have hn:s'.heap.Ns C m:=hn;obtain⟨oC,es,ep,hoC,hdC,rest⟩:=id hn;have hCn:C∉X.fs/\C≠X.env.locals:=by
  constructor
  .intro hb';obtain⟨_,o,ho,_⟩:=I2.zdr.mem hb';exact gtC (IF ho) rfl
  .exact λz=>gtC I2.lt z.symm
 have I3:Inv X aa σ (upd H' D (.lst ys)) s':=VB (xs:=[x]) (h':=s'.heap) S.n I2 f2 hD hC J' pinD.2.1 pinD.1 rv hz (.refl ..);have hDC:C≠D:=by rw[hC,hD];exact zoY (Nat.lt_succ_self _)
 have hH'C:H' C=none:=J'.free;have I4:Inv X [(C,oC)] σ (upd H' D (.lst ys)) s':=I3.VV λp hp=>by
  have hp' : p=(C,oC):=by simpa using hp
  subst hp';exact⟨hoC,by rw[Zr hDC];exact hH'C,hCn.2,hCn.1,λv z=>by rw[hdC]at z;cases z⟩
 have I5:Inv X (aa++[(C,oC)]) σ (upd H' D (.lst ys)) s':=I3.VV λp hp=>by
  rcases Nq.mp hp with hp | hp
  .exact I3.pin p (IL _ hp)
  .exact I4.pin p (IL _ hp)
 show wpAny _ X.A (assign (.Name y py) X.env (.ref D)) _ _ _;refine wpAny_assign_Name (JZ I5 hN hi' (.inl hy) (v:=.ref D) rfl (λs6 I6=>?_) (.inr hy));have pinC:=I6.pin (C,oC) (IL _ (IL _ (IH.mpr rfl)));refine⟨m,⟨oC,es,ep,pinC.1,hdC,rest⟩,λh' hs' => ⟨_,_,?_,q D pinD.2.1⟩⟩;refine I6.Vq.turned (it:=C) (h':=h') (t':=s6.toks) (λb o hb' e=>hs'.extBut b o hb' e) pinC.2.1 hCn.2 (.inr ?_) (λy' c e z=>?_) λp hp z=>?_
 .rw[hC];exact Nat.le_succ_of_le I2.sz
 .obtain⟨v',o,ho,_⟩:=I2.cell y' c e;exact gtC (IF ho) z
 .exact gtC (IF (I2.pin p hp).1) z
end
section
variable {X:Cx}
def zh5(hc:X.calm=true):V2 X (.builtin "all") (λxs H Q=>∃(p:AD)(bs:List Bool),xs=[.ref p]/\SqL X.K H p (bs.map V.bl)/\Q (.bl (bs.all id)) H):=by
 intro aa s σ H xs us Q I r h;obtain⟨p,bs,rfl,hq,q⟩:=h;obtain⟨u,rfl,r1⟩:=vals1 r;cases r1;obtain⟨its,rv,pl,hz⟩:=I.list hq;have hl:=plainIs pl;have hlt:p<s.heap.objs.size:=by obtain⟨_,e,_⟩:=hl;exact IF e
 have hlen:its.length=bs.length:=by rw[← rv.length,Ie]
 refine call_all_walk (wpAny_pyIter_list hl ?_);refine⟨s.heap.objs.size,[s.heap.objs.size,p],[s.heap.objs.size],its.toArray.size,_,_,λi=>(bs[i]?).getD true,rfl,Walks.list (A:=X.A.in1) (I.ok.hd hc) _ p (IS hlt) its.toArray,
  ⟨⟨_,Io _ rfl,rfl,rfl⟩,hl.push _⟩,λi v s' Q' E' hP hQ=>?_,λh' tk hk=>?_⟩
 .have hP' : its[i]?=some v:=by simpa using hP
  have hi:i<bs.length:=by rw[← hlen];exact(Il.mp hP').1
  obtain⟨u,hu,ru⟩:=rv.get (i:=i) (x:=V.bl bs[i]) (by rw[Ij,Ib hi];rfl);rw[hP']at hu;cases hu;cases(show v=Value.bool bs[i]from ru);simp only[Ib hi,Option.getD_some]at hQ;exact Nn hQ
 .have e:((List.range its.toArray.size).all λi=>(bs[i]?).getD true)=bs.all id:=by rw[Ix,hlen];exact PyProof.Rows.LSm.range_all bs
  rw[e];exact⟨.bl (bs.all id),H,I.kept λb o e=>hk b o (λhm=>by rw[IH.mp hm]at e;exact OH _ (IF e)) (Ih _ e),rfl,q⟩
end
mutual
def Dat(K:FG)(G:Hp):V->PD->Prop
 |v,.none=>v = .non
 |v,.bool b=>v = .bl b
 |v,.int i=>v = .int i
 |v,.str x=>v = .str x
 |v,.list ds=>∃ p xs,v = .ref p/\G p=some (.lst xs)/\YB K G xs ds
 |v,.tuple ds=>∃ p xs,v = .ref p/\SqT K G p xs/\YB K G xs ds
 |_,.dict _=>False
def YB(K:FG)(G:Hp):LC->LA->Prop
 |xs,[]=>xs=[]
 |xs,d::ds=>∃ y ys,xs=y::ys/\Dat K G y d/\YB K G ys ds
end
def ZF.tup{K:FG}{a:AD}(e:ZF H H')(h:SqT K H a xs):SqT K H' a xs:=by
 rcases h with(h | ⟨o,h⟩) | h
 .exact .inl (.inl (e _ _ h))
 .exact .inl (.inr ⟨o,e _ _ h⟩)
 .exact .inr h
section
variable {K:FG}{G G' : Hp}
def Zv(i:Int):Dat K G (.int i) (.int i):=by unfold Dat;rfl
def XR(x:Str):Dat K G (.str x) (.str x):=by unfold Dat;rfl
def Yc(b:Bool):Dat K G (.bl b) (.bool b):=by unfold Dat;rfl
def Q4:Dat K G .non .none:=by unfold Dat;rfl
def XX{p:AD}(h:SqT K G p xs)(r:YB K G xs ds):Dat K G (.ref p) (.tuple ds):=by unfold Dat;exact⟨p,xs,rfl,h,r⟩
def Xd{p:AD}(h:G p=some (.lst xs))(r:YB K G xs ds):Dat K G (.ref p) (.list ds):=by unfold Dat;exact⟨p,xs,rfl,h,r⟩
def Z9:YB K G [] []:=by unfold YB;rfl
def ZV{x:V}{d:PD}(h:Dat K G x d)(r:YB K G xs ds):YB K G (x::xs) (d::ds):=by unfold YB;exact⟨x,xs,rfl,h,r⟩
theorem Dat.int(h:Dat K G v (.int i)):v = .int i:=by unfold Dat at h;exact h
theorem Dat.str{x:Str}(h:Dat K G v (.str x)):v = .str x:=by unfold Dat at h;exact h
theorem Dat.bl{x:Bool}(h:Dat K G v (.bool x)):v = .bl x:=by unfold Dat at h;exact h
theorem Dat.non(h:Dat K G v .none):v = .non:=by unfold Dat at h;exact h
def Dat.tup(h:Dat K G v (.tuple ds)):∃ p xs,v = .ref p/\SqT K G p xs/\YB K G xs ds:=by unfold Dat at h;exact h
theorem Dat.lst(h:Dat K G v (.list ds)):∃ p xs,v = .ref p/\G p=some (.lst xs)/\YB K G xs ds:=by unfold Dat at h;exact h
def YB.nil(h:YB K G xs []):xs=[]:=by unfold YB at h;exact h
def YB.cons{d:PD}(h:YB K G xs (d::ds)):∃ y ys,xs=y::ys/\Dat K G y d/\YB K G ys ds:=by unfold YB at h;exact h
theorem YB.length:∀{ds:LA}{xs:LC},YB K G xs ds->xs.length=ds.length
 |[],_,h=>by rw[h.nil];rfl
 |d::ds,_,h=>by obtain⟨y,ys,rfl,_,r⟩:=h.cons;show ys.length+1=ds.length+1;rw[r.length]
theorem YB.get:∀{ds:LA}{xs:LC}{i:Nat}{d:PD},YB K G xs ds->ds[i]?=some d->∃ x,xs[i]?=some x/\Dat K G x d
 |[],_,_,_,_,e=>by simp at e
 |d::ds,_,0,_,h,e=>by obtain⟨y,ys,rfl,hd,r⟩:=h.cons;simp at e;subst e;exact⟨y,rfl,hd⟩
 |d::ds,_,i+1,d',h,e=>by obtain⟨y,ys,rfl,hd,r⟩:=h.cons;obtain⟨x,h1,h2⟩:=YB.get (i:=i) (d:=d') r (by simpa using e);exact⟨x,by simpa using h1,h2⟩
def YB.zgZ{i:Nat}{x:V}(h:YB K G xs ds)(e:xs[i]?=some x):∃ d,ds[i]?=some d/\Dat K G x d:=by have hl:=h.length;have hi:i<xs.length:=(Il.mp e).1;obtain⟨y,h1,h2⟩:=h.get (Ib (show i<ds.length by omega));rw[e]at h1;cases h1;exact⟨_,Ib (by omega),h2⟩
theorem W5:∀{ds es:LA}{xs ys:LC},YB K G xs ds->YB K G ys es->YB K G (xs++ys) (ds++es)
 |[],_,_,_,h,r=>by rw[h.nil];exact r
 |d::ds,_,_,_,h,r=>by obtain⟨y,ys,rfl,hd,r'⟩:=h.cons;exact ZV hd (W5 r' r)
def XF{d:PD}{x:V}(h:YB K G xs ds)(r:Dat K G x d):YB K G (xs++[x]) (ds++[d]):=W5 h (ZV r Z9)
theorem Qn:∀{ds:LA}{xs:LC}(n:Nat),YB K G xs ds->YB K G (xs.take n) (ds.take n)
 |_,_,0,_=>Z9
 |[],_,n+1,h=>by rw[h.nil];exact Z9
 |d::ds,_,n+1,h=>by obtain⟨y,ys,rfl,hd,r⟩:=h.cons;exact ZV hd (Qn n r)
theorem Qc:∀{ds:LA}{xs:LC}(n:Nat),YB K G xs ds->YB K G (xs.drop n) (ds.drop n)
 |_,_,0,h=>h
 |[],_,n+1,h=>by rw[h.nil];exact Z9
 |d::ds,_,n+1,h=>by obtain⟨y,ys,rfl,hd,r⟩:=h.cons;exact Qc n r
theorem U7:∀{ds:LA}{xs:LC},YB K G xs ds->YB K G xs.reverse ds.reverse
 |[],_,h=>by rw[h.nil];exact Z9
 |d::ds,_,h=>by obtain⟨y,ys,rfl,hd,r⟩:=h.cons;rw[Op,Op];exact XF (U7 r) hd
theorem zcp:∀ ns:LX,YB K G (ns.map V.int) (ns.map PyData.int)
 |[]=>Z9
 |n::ns=>ZV (Zv n) (zcp ns)
theorem YB.ints:∀{ns:LX}{xs:LC},YB K G xs (ns.map PyData.int)->xs=ns.map V.int
 |[],_,h=>h.nil
 |n::ns,_,h=>by obtain⟨y,ys,rfl,hd,r⟩:=h.cons;rw[hd.int,YB.ints r];rfl
end
mutual
theorem Dat.same{K:FG}(e:ZF G G'):∀{d:PD}{v:V},Dat K G v d->Dat K G' v d
 |.none,_,h=>by rw[h.non];exact Q4
 |.bool b,_,h=>by rw[h.bl];exact Yc b
 |.int i,_,h=>by rw[h.int];exact Zv i
 |.str x,_,h=>by rw[h.str];exact XR x
 |.list ds,_,h=>by obtain⟨p,xs,rfl,h1,h2⟩:=h.lst;exact Xd (e _ _ h1) (YB.same e h2)
 |.tuple ds,_,h=>by obtain⟨p,xs,rfl,h1,h2⟩:=h.tup;exact XX (e.tup h1) (YB.same e h2)
 |.dict _,_,h=>by unfold Dat at h;exact h.elim
theorem YB.same{K:FG}(e:ZF G G'):∀{ds:LA}{xs:LC},YB K G xs ds->YB K G' xs ds
 |[],_,h=>by rw[h.nil];exact Z9
 |d::ds,_,h=>by obtain⟨y,ys,rfl,hd,r⟩:=h.cons;exact ZV (Dat.same e hd) (YB.same e r)
end
section
variable {X:Cx}{aa:List (Addr×Obj)}{σ:St}{H G:Hp}{s:SH}
mutual
theorem Dat.reads(I:Inv X aa σ H s)(e:ZF G H):∀{d:PD}{v:V}{u:Value},Dat X.K G v d->RelV v u->∃ as,Reads s.heap u d as
 |.none,_,u,h,r=>by rw[h.non]at r;cases(show u=Value.none from r);exact⟨_,.none⟩
 |.bool b,_,u,h,r=>by rw[h.bl]at r;cases(show u=Value.bool b from r);exact⟨_,.bool b⟩
 |.int i,_,u,h,r=>by
  rw[h.int]at r;obtain⟨t,q⟩:=(show ∃ t,u=Value.int i t from r)
  subst q;exact⟨_,.int i t⟩
 |.str x,_,u,h,r=>by
  rw[h.str]at r;obtain⟨t,q⟩:=(show ∃ t,u=Value.str x t from r)
  subst q;exact⟨_,.str x t⟩
 |.list ds,_,u,h,r=>by obtain⟨p,xs,rfl,h1,h2⟩:=h.lst;cases(show u=Value.ref p from r);obtain⟨its,rv,⟨o,n,e1,c,_,d1⟩,_⟩:=I.list (SqL.of (e _ _ h1));obtain⟨as,ra⟩:=YB.reads I e h2 rv;exact⟨_,Reads.list e1 c d1 (by simpa using ra)⟩
 |.tuple ds,_,u,h,r=>by obtain⟨p,xs,rfl,h1,h2⟩:=h.tup;cases(show u=Value.ref p from r);obtain⟨its,rv,⟨o,e1,c,n,d1⟩,_⟩:=I.tuple (e.tup h1);obtain⟨as,ra⟩:=YB.reads I e h2 rv;exact⟨_,Reads.tuple e1 c d1 (by simpa using ra)⟩
 |.dict _,_,_,h,_=>by unfold Dat at h;exact h.elim
theorem YB.reads(I:Inv X aa σ H s)(e:ZF G H):∀{ds:LA}{xs:LC}{us:LF},YB X.K G xs ds->Vals xs us->∃ as,ReadsAll s.heap us ds as
 |[],_,us,h,r=>by rw[h.nil]at r;cases r;exact⟨_,.nil⟩
 |d::ds,_,us,h,r=>by
  obtain⟨y,ys,rfl,hd,hr⟩:=h.cons;cases r with
  |cons r1 r2=>obtain⟨as,ra⟩:=Dat.reads I e hd r1;obtain⟨bs,rb⟩:=YB.reads I e hr r2;exact⟨_,.cons ra rb⟩
end
end
mutual
noncomputable def noBool:PD->Bool
 |.bool _=>false
 |.dict _=>false
 |.list xs=>W3 xs
 |.tuple xs=>W3 xs
 |.none | .int _ | .str _=>true
noncomputable def W3:LA->Bool
 |[]=>true
 |x::xs=>noBool x&&W3 xs
end
mutual
theorem zee:∀ a b:PD,noBool a=true->noBool b=true->SeqAt.noMix a b=true
 |.list xs,.list ys,h,k=>by rw[SeqAt.noMix];exact zaF xs ys (by simpa [noBool]using h) (by simpa [noBool]using k)
 |.tuple xs,.tuple ys,h,k=>by rw[SeqAt.noMix];exact zaF xs ys (by simpa [noBool]using h) (by simpa [noBool]using k)
 |.bool _,_,h,_=>by simp[noBool]at h
 |.dict _,_,h,_=>by simp[noBool]at h
 |.none,.bool _,_,k | .int _,.bool _,_,k | .str _,.bool _,_,k | .list _,.bool _,_,k | .tuple _,.bool _,_,k=>by simp[noBool]at k
 |.none,.dict _,_,k | .int _,.dict _,_,k | .str _,.dict _,_,k | .list _,.dict _,_,k | .tuple _,.dict _,_,k=>by simp[noBool]at k
 |.none,.none,_,_ | .none,.int _,_,_ | .none,.str _,_,_ | .none,.list _,_,_ | .none,.tuple _,_,_=>by simp[SeqAt.noMix]
 |.int _,.none,_,_ | .int _,.int _,_,_ | .int _,.str _,_,_ | .int _,.list _,_,_ | .int _,.tuple _,_,_=>by simp[SeqAt.noMix]
 |.str _,.none,_,_ | .str _,.int _,_,_ | .str _,.str _,_,_ | .str _,.list _,_,_ | .str _,.tuple _,_,_=>by simp[SeqAt.noMix]
 |.list _,.none,_,_ | .list _,.int _,_,_ | .list _,.str _,_,_ | .list _,.tuple _,_,_=>by simp[SeqAt.noMix]
 |.tuple _,.none,_,_ | .tuple _,.int _,_,_ | .tuple _,.str _,_,_ | .tuple _,.list _,_,_=>by simp[SeqAt.noMix]
theorem zaF:∀ a b:LA,W3 a=true->W3 b=true->SeqAt.noMixAll a b=true
 |[],[],_,_ | [],_::_,_,_ | _::_,[],_,_=>by simp[SeqAt.noMixAll]
 |x::xs,y::ys,h,k=>by
  have h' : noBool x=true/\W3 xs=true:=by simpa [W3]using h
  have k' : noBool y=true/\W3 ys=true:=by simpa [W3]using k
  rw[SeqAt.noMixAll,zee x y h'.1 k'.1,zaF xs ys h'.2 k'.2];rfl
end
structure Pl(n:Nat)(d:PD):Prop where
 lay:d.canLay0=true
 dep:d.depth<=n
 nb:noBool d=true
theorem Pl.shaped{n:Nat}{d:PD}(h:Pl n d)(k:n<=64):SeqAt.shaped d=true:=by show(PyData.canLay0 d&&decide (PyData.depth d<=64))=true;rw[IR];exact⟨h.lay,Ip (ND h.dep k)⟩
def Pl.mix{n:Nat}{a b:PD}(h:Pl n a)(k:Pl n b):SeqAt.noMix a b=true:=zee a b h.nb k.nb
mutual
theorem zbX:∀{a b:PD},PySem.Spec.same a b=true->a=b
 |.none,b,h=>by cases b <;> first | rfl | simp[PySem.Spec.same]at h
 |.bool x,b,h=>by cases b <;> simp[PySem.Spec.same]at h <;> rw[h]
 |.int x,b,h=>by cases b <;> simp[PySem.Spec.same]at h <;> rw[h]
 |.str x,b,h=>by cases b <;> simp[PySem.Spec.same]at h <;> rw[h]
 |.list x,b,h=>by
  cases b <;> simp[PySem.Spec.same]at h
  rw[Ug h]
 |.tuple x,b,h=>by
  cases b <;> simp[PySem.Spec.same]at h
  rw[Ug h]
 |.dict x,b,h=>by
  cases b <;> simp[PySem.Spec.same]at h
  rw[Ur h]
theorem Ug:∀{a b:LA},sameAll a b=true->a=b
 |[],[],_=>rfl
 |[],_::_,h=>by simp[sameAll]at h
 |_::_,[],h=>by simp[sameAll]at h
 |x::xs,y::ys,h=>by
  have h' : PySem.Spec.same x y=true/\sameAll xs ys=true:=by simpa [sameAll]using h
  rw[zbX h'.1,Ug h'.2]
theorem Ur:∀{a b:List (PD×PD)},samePairs a b=true->a=b
 |[],[],_=>rfl
 |[],_::_,h=>by simp[samePairs]at h
 |_::_,[],h=>by simp[samePairs]at h
 |(x,z)::xs,(y,w)::ys,h=>by
  have h' : (PySem.Spec.same x y=true/\PySem.Spec.same z w=true)/\samePairs xs ys=true:=by simpa [samePairs]using h
  rw[zbX h'.1.1,zbX h'.1.2,Ur h'.2]
end
def zdp{a b:PD}(h:a≠b):PySem.Spec.same a b=false:=by
 cases e:PySem.Spec.same a b with
 |false=>rfl
 |true=>exact absurd (zbX e) h
section
variable {X:Cx}
def ziE(K:FG)(g:Bool->Bool):R2:=λx y H Q=>∃(G:Hp)(a b:PD),ZF G H/\Dat K G x a/\Dat K G y b/\(SeqAt.shaped a=true/\SeqAt.shaped b=true/\SeqAt.noMix a b=true)/\Q (.bl (g (PySem.Spec.same a b))) H
def zls(hu:X.A.units+64<cLine):OpR X (compareOp .Eq) (ziE X.K λb=>b):=by intro aa s σ H x y v u Q I rx ry h;obtain⟨G,a,b,e,ha,hb,⟨sa,sb,nm⟩,q⟩:=h;obtain⟨as,ra⟩:=Dat.reads I e ha rx;obtain⟨bs,rb⟩:=Dat.reads I e hb ry;exact eq_dataH_same ra rb sa sb hu nm ⟨.bl (PySem.Spec.same a b),H,I,rfl,q⟩
def zmy(hu:X.A.units+64<cLine):OpR X (compareOp .NotEq) (ziE X.K λb=>!b):=by intro aa s σ H x y v u Q I rx ry h;obtain⟨G,a,b,e,ha,hb,⟨sa,sb,nm⟩,q⟩:=h;obtain⟨as,ra⟩:=Dat.reads I e ha rx;obtain⟨bs,rb⟩:=Dat.reads I e hb ry;exact ne_dataH_same ra rb sa sb hu nm ⟨.bl (!PySem.Spec.same a b),H,I,rfl,q⟩
end
def zd0(i:Int){n:Nat}:Pl n (.int i):=⟨by unfold PyData.canLay0;rfl,by unfold PyData.depth;omega,by unfold noBool;rfl⟩
theorem J3:∀{ds:LA},(∀ d∈ds,d.canLay0=true)->PyData.canLayAll0 ds=true
 |[],_=>rfl
 |d::ds,h=>by unfold PyData.canLayAll0;rw[h d (by simp),J3 λe he=>h e (by simp[he])];rfl
theorem Ve:∀{ds:LA}{n:Nat},(∀ d∈ds,d.depth<=n)->PyData.depthAll ds<=n
 |[],_,_=>by unfold PyData.depthAll;omega
 |d::ds,n,h=>by have h1:=h d (by simp);have h2:=Ve (ds:=ds) (n:=n) λe he=>h e (by simp[he]);unfold PyData.depthAll;omega
theorem V9:∀{ds:LA},(∀ d∈ds,noBool d=true)->W3 ds=true
 |[],_=>rfl
 |d::ds,h=>by unfold W3;rw[h d (by simp),V9 λe he=>h e (by simp[he])];rfl
def ze1{n:Nat}(h:∀ d∈ds,Pl n d):Pl (n+1) (.tuple ds):=by
 refine⟨?_,?_,?_⟩
 .unfold PyData.canLay0;exact J3 λd hd=>(h d hd).lay
 .have:=Ve λd hd=>(h d hd).dep;unfold PyData.depth;omega
 .unfold noBool;exact V9 λd hd=>(h d hd).nb
def ziJ{n:Nat}(h:∀ d∈ds,Pl n d):Pl (n+1) (.list ds):=by
 refine⟨?_,?_,?_⟩
 .unfold PyData.canLay0;exact J3 λd hd=>(h d hd).lay
 .have:=Ve λd hd=>(h d hd).dep;unfold PyData.depth;omega
 .unfold noBool;exact V9 λd hd=>(h d hd).nb
def zcZ{n:Nat}(ns:LX):Pl (n+1) (.tuple (ns.map PyData.int)):=ze1 λd hd=>by obtain⟨i,_,rfl⟩:=N0.mp hd;exact zd0 i
structure YH(G H G' H' : Hp):Prop where
 gg:ZF G G'
 gh:ZF G' H'
 hh:ZF H H'
 fr:∀ b o,G' b=some o->G b=some o\/H b=none
theorem YH.refl(s:ZF G H):YH G H G H:=⟨ZF.refl _,s,ZF.refl _,λ_ _ h=>.inl h⟩
theorem YH.trans{G1 H1 G2 H2:Hp}(a:YH G H G1 H1)(b:YH G1 H1 G2 H2):YH G H G2 H2:=
 ⟨a.gg.trans b.gg,b.gh,a.hh.trans b.hh,λx o h=>by
  rcases b.fr x o h with h | h
  .exact a.fr x o h
  .exact .inr (a.hh.free h)⟩
def YF{p:AD}(s:ZF G H)(hp:H p=none):YH G H (upd G p o) (upd H p o):=by
 have hg:G p=none:=s.free hp;refine⟨λb u e=>?_,λb u e=>?_,λb u e=>?_,λb u e=>?_⟩
 .rw[Zr (Zy e hg)];exact e
 .by_cases h:b=p
  .subst h;rw[Zo]at e ⊢;exact e
  .rw[Zr h]at e ⊢;exact s b u e
 .rw[Zr (Zy e hp)];exact e
 .by_cases h:b=p
  .subst h;exact .inr hp
  .rw[Zr h]at e;exact .inl e
def Uv(s:ZF G H)(h:ZF H H'):YH G H G H':=⟨ZF.refl _,s.trans h,h,λ_ _ e=>.inl e⟩
def YH.out(a:YH G H G' H'){p:AD}(hp:H p=some o)(hg:G p=none):G' p=none:=by
 cases e:G' p with
 |none=>rfl
 |some u=>
  rcases a.fr p u e with h | h
  .rw[hg]at h;cases h
  .rw[hp]at h;cases h
def Ev(K:FG)(t:TE)(σ:St)(G:Hp)(d:PD):Prop:=∀ G1 H,ZF G G1->ZF G1 H->∀ Q:VK,(∀ v G' H',YH G1 H G' H' -> Dat K G' v d->Q v H')->t σ H Q
def EvT(t:TT)(σ:St)(G:Hp)(b:Bool):Prop:=∀ G1 H,ZF G G1->ZF G1 H->∀ Q:Bool->Hp->Prop,(∀ G' H',YH G1 H G' H' -> Q b H')->t σ H Q
def EvA(K:FG)(t:TA)(σ:St)(G:Hp)(ds:LA):Prop:=∀ G1 H,ZF G G1->ZF G1 H->∀ Q:LC->Hp->Prop,(∀ vs G' H',YH G1 H G' H' -> YB K G' vs ds->Q vs H')->t σ H Q
section
variable {K:FG}{σ:St}{G:Hp}{ta tb tc:TE}{a b d:PD}
def Ev.mono{t:TE}(h:Ev K t σ G d)(s:ZF G G'):Ev K t σ G' d:=λG1 H s1 s2 Q k=>h G1 H (s.trans s1) s2 Q k
def Ev.use{t:TE}{Q:VK}(h:Ev K t σ G d)(s:ZF G H)(k:∀ v G' H',YH G H G' H' -> Dat K G' v d->Q v H'):t σ H Q:=h G H (ZF.refl _) s Q k
def EvT.use{t:TT}{Q:Bool->Hp->Prop}(h:EvT t σ G c)(s:ZF G H)(k:∀ G' H',YH G H G' H' -> Q c H'):t σ H Q:=h G H (ZF.refl _) s Q k
def Zn{i:Nat}(h:σ[i]?=some (some v))(hd:Dat K G v d):Ev K (Wj i) σ G d:=λG1 H s1 s2 Q k=>⟨v,h,k v G1 H (YH.refl s2) (hd.same s1)⟩
def Xz(hd:Dat K G v d):Ev K (tC v) σ G d:=λG1 H s1 s2 Q k=>k v G1 H (YH.refl s2) (hd.same s1)
def YW :Ev K (tC (.int i)) σ G (.int i):=Xz (Zv i)
def Yk{x:Str}:Ev K (tC (.str x)) σ G (.str x):=Xz (XR x)
def zg2{x:Bool}:Ev K (tC (.bl x)) σ G (.bool x):=Xz (Yc x)
def QR{r:R2}(ha:Ev K ta σ G a)(hb:Ev K tb σ G b)(hr:∀ G1 H x y (Q:VK),ZF G G1->ZF G1 H->Dat K G1 x a->Dat K G1 y b->(∀ v G' H',YH G1 H G' H' -> Dat K G' v d->Q v H')->r x y H Q):Ev K (tOp r ta tb) σ G d:=
 λG1 H s1 s2 Q k=>ha G1 H s1 s2 _ λx G2 H2 g2 hx=>hb G2 H2 (s1.trans g2.gg) g2.gh _ λy G3 H3 g3 hy=>hr G3 H3 x y Q ((s1.trans g2.gg).trans g3.gg) g3.gh (hx.same g3.gg) hy λv G' H' g hv=>k v G' H' ((g2.trans g3).trans g) hv
def QS{g:Int->Int->V}(ha:Ev K ta σ G (.int i))(hb:Ev K tb σ G (.int j))(hg:Dat K G (g i j) d):Ev K (tOp (rI0 g) ta tb) σ G d:=
 QR ha hb λG1 H x y Q s1 s2 hx hy k=>by rw[hx.int,hy.int];exact⟨i,j,rfl,rfl,k _ G1 H (YH.refl s2) (hg.same s1)⟩
def zfU{C:Int->Int->Prop}{g:Int->Int->V}(ha:Ev K ta σ G (.int i))(hb:Ev K tb σ G (.int j))(hc:C i j)(hg:Dat K G (g i j) d):Ev K (tOp (rI C g) ta tb) σ G d:=
 QR ha hb λG1 H x y Q s1 s2 hx hy k=>by rw[hx.int,hy.int];exact⟨i,j,rfl,rfl,hc,k _ G1 H (YH.refl s2) (hg.same s1)⟩
def J8{n:Nat}(ha:Ev K ta σ G (.tuple ds))(hb:Ev K tb σ G (.int i))(hn:ixN ds.length i=some n)(hd:ds[n]?=some d):Ev K (tOp (zeU K) ta tb) σ G d:=
 QR ha hb λG1 H x y Q s1 s2 hx hy k=>by obtain⟨p,xs,rfl,hp,hxs⟩:=hx.tup;obtain⟨z,hz,hzd⟩:=hxs.get hd;rw[hy.int];exact⟨p,xs,i,z,rfl,rfl,s2.tup hp,by unfold atI;rw[hxs.length,hn];exact hz,k z G1 H (YH.refl s2) hzd⟩
def YS{n:Nat}(ha:Ev K ta σ G (.list ds))(hb:Ev K tb σ G (.int i))(hn:ixN ds.length i=some n)(hd:ds[n]?=some d):Ev K (tOp (zeF K) ta tb) σ G d:=
 QR ha hb λG1 H x y Q s1 s2 hx hy k=>by obtain⟨p,xs,rfl,hp,hxs⟩:=hx.lst;obtain⟨z,hz,hzd⟩:=hxs.get hd;rw[hy.int];exact⟨p,xs,i,z,rfl,rfl,SqL.of (s2 _ _ hp),by unfold atI;rw[hxs.length,hn];exact hz,k z G1 H (YH.refl s2) hzd⟩
def zf2{g:Bool->Bool}{n:Nat}(ha:Ev K ta σ G a)(hb:Ev K tb σ G b)(pa:Pl n a)(pb:Pl n b)(hn:n<=64):Ev K (tOp (ziE K g) ta tb) σ G (.bool (g (PySem.Spec.same a b))):=QR ha hb λG1 H x y Q s1 s2 hx hy k=>⟨G1,a,b,s2,hx,hy,⟨pa.shaped hn,pb.shaped hn,pa.mix pb⟩,k _ G1 H (YH.refl s2) (Yc _)⟩
def ZW:EvA K Vk σ G []:=λG1 H s1 s2 Q k=>k [] G1 H (YH.refl s2) Z9
def Zq{t:TA}(ha:Ev K ta σ G a)(hb:EvA K t σ G ds):EvA K (YC ta t) σ G (a::ds):=λG1 H s1 s2 Q k=>ha G1 H s1 s2 _ λx G2 H2 g2 hx=>hb G2 H2 (s1.trans g2.gg) g2.gh _ λys G3 H3 g3 hy=>k (x::ys) G3 H3 (g2.trans g3) (ZV (hx.same g3.gg) hy)
def zi5{t:TA}(h:EvA K t σ G ds)(hl:ds.length<=sizeLine):Ev K (ziB t) σ G (.tuple ds):=
 λG1 H s1 s2 Q k=>h G1 H s1 s2 _ λvs G2 H2 g2 hv=>⟨by rw[hv.length];exact hl,λp hp=>by
  have g:=YF (o:=.tup vs) g2.gh hp;exact k _ _ _ (g2.trans g) (XX (SqT.of Zo) (hv.same g.gg))⟩
def zdU{t:TA}(h:EvA K t σ G ds)(hl:ds.length<=sizeLine):Ev K (zhM t) σ G (.list ds):=
 λG1 H s1 s2 Q k=>h G1 H s1 s2 _ λvs G2 H2 g2 hv=>⟨by rw[hv.length];exact hl,λp hp=>by
  have g:=YF (o:=.lst vs) g2.gh hp;exact k _ _ _ (g2.trans g) (Xd Zo (hv.same g.gg))⟩
def zfz{r:LC->Hp->VK->Prop}{t:TA}(h:EvA K t σ G ds)(hr:∀ G1 H xs (Q:VK),ZF G G1->ZF G1 H->YB K G1 xs ds->(∀ v G' H',YH G1 H G' H' -> Dat K G' v d->Q v H')->r xs H Q):Ev K (tCB r t) σ G d:=λG1 H s1 s2 Q k=>h G1 H s1 s2 _ λvs G2 H2 g2 hv=>hr G2 H2 vs Q (s1.trans g2.gg) g2.gh hv λv G' H' g hd=>k v G' H' (g2.trans g) hd
def zf5{t:TA}(h:EvA K t σ G [.list ds]):Ev K (tCB (λxs H Q=>∃ p ys,xs=[.ref p]/\(SqL K H p ys\/SqT K H p ys)/\Q (.int ys.length) H) t) σ G (.int ds.length):=
 zfz h λG1 H xs Q s1 s2 hx k=>by obtain⟨y,ys,rfl,hy,r⟩:=hx.cons;rw[r.nil];obtain⟨p,zs,rfl,hp,hz⟩:=hy.lst;refine⟨p,zs,rfl,.inl (SqL.of (s2 _ _ hp)),?_⟩;rw[hz.length];exact k _ G1 H (YH.refl s2) (Zv _)
def zc3{t:TA}(h:EvA K t σ G [.tuple ds]):Ev K (tCB (λxs H Q=>∃ p ys,xs=[.ref p]/\(SqL K H p ys\/SqT K H p ys)/\Q (.int ys.length) H) t) σ G (.int ds.length):=
 zfz h λG1 H xs Q s1 s2 hx k=>by obtain⟨y,ys,rfl,hy,r⟩:=hx.cons;rw[r.nil];obtain⟨p,zs,rfl,hp,hz⟩:=hy.tup;refine⟨p,zs,rfl,.inr (s2.tup hp),?_⟩;rw[hz.length];exact k _ G1 H (YH.refl s2) (Zv _)
def Qp{t:TA}(h:EvA K t σ G [.list ds]):Ev K (tCB (λxs H Q=>∃ p ys,xs=[.ref p]/\((SqL K H p ys/\∀ l,H l=none->Q (.ref l) (upd H l (.tup ys)))\/(SqT K H p ys/\Q (.ref p) H))) t) σ G (.tuple ds):=
 zfz h λG1 H xs Q s1 s2 hx k=>by obtain⟨y,ys,rfl,hy,r⟩:=hx.cons;rw[r.nil];obtain⟨p,zs,rfl,hp,hz⟩:=hy.lst;refine⟨p,zs,rfl,.inl ⟨SqL.of (s2 _ _ hp),λl hl=>?_⟩⟩;have g:=YF (o:=.tup zs) s2 hl;exact k _ _ _ g (XX (SqT.of Zo) (hz.same g.gg))
def YL{t:TE}(h:Ev K t σ G (.bool c)):EvT (zcv t) σ G c:=λG1 H s1 s2 Q k=>h G1 H s1 s2 _ λv G' H' g hv=>⟨c,hv.bl,k G' H' g⟩
def zc0{t:TE}(h:Ev K t σ G (.bool c)):EvT (tB t) σ G c:=λG1 H s1 s2 Q k=>h G1 H s1 s2 _ λv G' H' g hv=>⟨c,hv.bl,k G' H' g⟩
def zkU{t:TT}(h:EvT t σ G c):EvT (zoi t) σ G (!c):=λG1 H s1 s2 Q k=>h G1 H s1 s2 _ λG' H' g=>k G' H' g
def zmc{t u:TT}(h:EvT t σ G c)(h' : c=false->EvT u σ G e):EvT (tOr t u) σ G (c||e):=λG1 H s1 s2 Q k=>h G1 H s1 s2 _ λG' H' g=>by
 cases c with
 |true=>rw[Iq rfl];exact k G' H' g
 |false=>rw[Im Ii];exact h' rfl G' H' (s1.trans g.gg) g.gh _ λG2 H2 g2=>k G2 H2 (g.trans g2)
def zi8{t u:TT}(h:EvT t σ G c)(h' : c=true->EvT u σ G e):EvT (zoC t u) σ G (c&&e):=λG1 H s1 s2 Q k=>h G1 H s1 s2 _ λG' H' g=>by
 cases c with
 |false=>rw[Im Ii];exact k G' H' g
 |true=>rw[Iq rfl];exact h' rfl G' H' (s1.trans g.gg) g.gh _ λG2 H2 g2=>k G2 H2 (g.trans g2)
def zlH{t:TT}(h:EvT t σ G c)(q:c=e):EvT t σ G e:=q ▸ h
def zd1{t:TE}{e:PD}(h:Ev K t σ G d)(q:d=e):Ev K t σ G e:=q ▸ h
def Uq{t:TT}(h:EvT t σ G c)(h1:c=true->Ev K ta σ G d)(h2:c=false->Ev K tb σ G d):Ev K (tIf t ta tb) σ G d:=λG1 H s1 s2 Q k=>h G1 H s1 s2 _ λG' H' g=>by
 cases c with
 |true=>rw[Iq rfl];exact h1 rfl G' H' (s1.trans g.gg) g.gh _ λv G2 H2 g2 hv=>k v G2 H2 (g.trans g2) hv
 |false=>rw[Im Ii];exact h2 rfl G' H' (s1.trans g.gg) g.gh _ λv G2 H2 g2 hv=>k v G2 H2 (g.trans g2) hv
def zi1(h:Ev K ta σ G (.bool c))(h' : c=true->Ev K tb σ G (.bool e)):Ev K (zkW ta tb) σ G (.bool (c&&e)):=λG1 H s1 s2 Q k=>h G1 H s1 s2 _ λv G' H' g hv=>⟨c,hv.bl,by
 cases c with
 |false=>rw[Im Ii];exact k _ G' H' g (Yc _)
 |true=>rw[Iq rfl];exact h' rfl G' H' (s1.trans g.gg) g.gh _ λw G2 H2 g2 hw=>k w G2 H2 (g.trans g2) hw⟩
def spP(K:FG)(R:LA->PD->Prop):Sp:=λvs H Q _=>∃(G:Hp)(ds:LA)(d:PD),ZF G H/\YB K G vs ds/\R ds d/\∀ v G' H',YH G H G' H' -> Dat K G' v d->Q v H'
def YQ{R:LA->PD->Prop}{E:XK}{t:TA}(h:EvA K t σ G ds)(hR:R ds d):Ev K (QM (spP K R) [] E t) σ G d:=
 λG1 H s1 s2 Q k=>h G1 H s1 s2 _ λvs G2 H2 g2 hv=>by refine⟨G2,ds,d,g2.gh,?_,hR,λv G' H' g hd=>k v G' H' (g2.trans g) hd⟩;rw[NK];exact hv
theorem Ue{β:Type}(f:α->Option β):∀ ds:List α,(List.range ds.length).filterMap (λi=>(ds[i]?).bind f)=ds.filterMap f
 |[]=>rfl
 |d::ds=>by
  rw[IC,List.range_succ_eq_map,NC,List.filterMap_map];have e:(λi=>((d::ds)[i]?).bind f)∘Nat.succ=λi=>(ds[i]?).bind f:=by funext i;simp
  rw[e,Ue f ds];rw[NC];simp
structure Walk(J:It)(n:Nat)(H:Hp)(items:Nat->V->Prop):Prop where
 go:∀ i H',ZF H H' -> i<n->J.go i H'
 stop:∀ i H',ZF H H' -> n<=i->J.stop i H'
 yld:∀ i H' x H'',ZF H H' -> J.yld i H' x H'' -> H''=H' /\ items i x
def zhn{a:AD}(h:SqT K H a xs):Walk (Itt K a) xs.length H (λi x=>xs[i]?=some x):=⟨λi H' s hi=>⟨xs,_,s.tup h,Ib hi⟩,λi H' s hi=>⟨xs,s.tup h,hi⟩,λi H' x H'' s y=>⟨y.1,y.2 xs (s.tup h)⟩⟩
def zin{a:AD}(h:SqL K H a xs):Walk (Itl K a) xs.length H (λi x=>xs[i]?=some x):=⟨λi H' s hi=>⟨xs,_,s.seq h,Ib hi⟩,λi H' s hi=>⟨xs,s.seq h,hi⟩,λi H' x H'' s y=>⟨y.1,y.2 xs (s.seq h)⟩⟩
def zmv{wi:TI}{Q:VK}{n:Nat}(f:Nat->Option PD)(items:Hp->Nat->V->Prop){G1:Hp}(s2:ZF G1 H)(hw:∀ R:It->Hp->Prop,(∀ J G2 H2,YH G1 H G2 H2->Walk J n H2 (items G2)->R J H2)->wi σ H R)(hn:n<sizeLine)(hc:∀ G2 i x,ZF G1 G2->i<n->items G2 i x->(∃ d,f i=some d/\EvT tt (some x::WK σ js) G2 true/\Ev K te (some x::WK σ js) G2 d)\/(f i=none/\EvT tt (some x::WK σ js) G2 false))(k:∀ v G' H',YH G1 H G' H' -> Dat K G' v (.list ((List.range n).filterMap f))->Q v H'):tLC wi js tt te σ H Q:=by
 refine hw _ λJ G2 H2 g2 W=>?_;refine⟨λi m ys H' => m=n-i/\i<=n/\ys.length<=i/\∃ G',YH G2 H2 G' H' /\ YB K G' ys ((List.range i).filterMap f),⟨n,(by omega),(by omega),(by simp),G2,YH.refl g2.gh,by simpa using Z9⟩,?_⟩;rintro i m ys H' ⟨rfl,hi,hl,G',g',hys⟩;refine⟨(by omega),?_⟩;by_cases h:i=n
 .subst h;refine .inl ⟨W.stop i H' g'.hh (Ik _),λp hp=>?_⟩;have g3:=YF (o:=.lst ys) g'.gh hp;exact k _ _ _ ((g2.trans g').trans g3) (Xd Zo (hys.same g3.gg))
 .refine .inr ⟨W.go i H' g'.hh (by omega),λx H'' hy=>?_⟩;obtain⟨rfl,hit⟩:=W.yld i H' x H'' g'.hh hy;rcases hc G2 i x g2.gg (by omega) hit with⟨d,hf,ht,he⟩ | ⟨hf,ht⟩
  .refine ht G' H'' g'.gg g'.gh _ λG4 H4 g4=>?_;rw[Iq rfl];refine he G4 H4 (g'.gg.trans g4.gg) g4.gh _ λv G5 H5 g5 hv=>⟨n-(i+1),(by omega),rfl,(by omega),by rw[Ig];show ys.length+1<=i+1;omega,G5,(g'.trans g4).trans g5,?_⟩
   rw[range_succ,Ox];simp only[NC,hf,List.filterMap_nil];exact XF (hys.same (g4.gg.trans g5.gg)) hv
  .refine ht G' H'' g'.gg g'.gh _ λG4 H4 g4=>?_;rw[Im Ii];refine⟨n-(i+1),(by omega),rfl,(by omega),(by omega),G4,g'.trans g4,?_⟩;rw[range_succ,Ox];simp only[NC,hf,List.filterMap_nil,NK];exact hys.same g4.gg
def Lc1(K:FG)(tt:TT)(te:TE)(σ' : St)(G:Hp)(o:Option PD):Prop:=(∃ d,o=some d/\EvT tt σ' G true/\Ev K te σ' G d)\/(o=none/\EvT tt σ' G false)
def zis{tl:TE}(as:List α)(enc:α->PD)(f:α->Option PD)(h:Ev K tl σ G (.tuple (as.map enc)))(hj:as.length<sizeLine)(hc:∀ G2 (i:Nat) (a:α) x,ZF G G2->as[i]?=some a->Dat K G2 x (enc a)->Lc1 K tt te (some x::WK σ js) G2 (f a)):Ev K (tLC (zn6 K tl) js tt te) σ G (.list (as.filterMap f)):=
 λG1 H s1 s2 Q k=>zmv (n:=as.length) (λi=>(as[i]?).bind f) (λG2 i x=>∃ a,as[i]?=some a/\Dat K G2 x (enc a)) s2 (λR hR=>h G1 H s1 s2 _ λv G2 H2 g2 hv=>by
  obtain⟨p,xs,rfl,hp,hxs⟩:=hv.tup;refine⟨p,rfl,⟨xs,g2.gh.tup hp⟩,hR _ G2 H2 g2 ?_⟩;have W:=zhn (K:=K) (H:=H2) (g2.gh.tup hp);rw[hxs.length,Ie]at W;refine⟨W.go,W.stop,λi H' x H'' s y=>⟨(W.yld i H' x H'' s y).1,?_⟩⟩;obtain⟨d,hd,hx⟩:=hxs.zgZ (W.yld i H' x H'' s y).2;rw[Ij]at hd;cases e:as[i]? with
  |none=>rw[e]at hd;cases hd
  |some a=>rw[e]at hd;cases hd;exact⟨a,rfl,hx⟩) hj
  (λG2 i x s3 hi ⟨a,ha,hx⟩=>by
   show Lc1 K tt te (some x::WK σ js) G2 ((as[i]?).bind f);rw[ha];exact hc G2 i a x (s1.trans s3) ha hx) (by rw[Ue];exact k)
def zdH{tl:TE}(as:List α)(enc:α->PD)(f:α->Option PD)(h:Ev K tl σ G (.list (as.map enc)))(hj:as.length<sizeLine)(hc:∀ G2 (i:Nat) (a:α) x,ZF G G2->as[i]?=some a->Dat K G2 x (enc a)->Lc1 K tt te (some x::WK σ js) G2 (f a)):Ev K (tLC (zhh K tl) js tt te) σ G (.list (as.filterMap f)):=
 λG1 H s1 s2 Q k=>zmv (n:=as.length) (λi=>(as[i]?).bind f) (λG2 i x=>∃ a,as[i]?=some a/\Dat K G2 x (enc a)) s2 (λR hR=>h G1 H s1 s2 _ λv G2 H2 g2 hv=>by
  obtain⟨p,xs,rfl,hp,hxs⟩:=hv.lst;refine⟨p,rfl,⟨xs,SqL.of (g2.gh _ _ hp)⟩,hR _ G2 H2 g2 ?_⟩;have W:=zin (K:=K) (H:=H2) (SqL.of (g2.gh _ _ hp));rw[hxs.length,Ie]at W;refine⟨W.go,W.stop,λi H' x H'' s y=>⟨(W.yld i H' x H'' s y).1,?_⟩⟩;obtain⟨d,hd,hx⟩:=hxs.zgZ (W.yld i H' x H'' s y).2;rw[Ij]at hd;cases e:as[i]? with
  |none=>rw[e]at hd;cases hd
  |some a=>rw[e]at hd;cases hd;exact⟨a,rfl,hx⟩) hj
  (λG2 i x s3 hi ⟨a,ha,hx⟩=>by
   show Lc1 K tt te (some x::WK σ js) G2 ((as[i]?).bind f);rw[ha];exact hc G2 i a x (s1.trans s3) ha hx) (by rw[Ue];exact k)
def lc1{σ' : St}(ht:EvT tt σ' G true)(he:Ev K te σ' G d):Lc1 K tt te σ' G (some d):=.inl ⟨d,rfl,ht,he⟩
def QG:EvT zgj σ G true:=λG1 H s1 s2 Q k=>k G1 H (YH.refl s2)
end
section
variable {K:FG}{σ:St}{G H:Hp}{te:TE}{d:PD}{D:Ends}
def Yz(h:Ev K te σ G d)(s:ZF G H)(k:∀ v G' H',YH G H G' H' -> Dat K G' v d->D.rt v H'):znN te D σ H:=h.use s k
def JH{i:Nat}(h:Ev K te σ G d)(s:ZF G H)(k:∀ v G' H',YH G H G' H' -> Dat K G' v d->D.nx (σ.set i (some v)) H'):zk3 te (VF i) D σ H:=h.use s k
def UG{tc:TT}{t u:TS}(h:EvT tc σ G c)(s:ZF G H)(k1:c=true->∀ G' H',YH G H G' H' -> t D σ H')(k2:c=false->∀ G' H',YH G H G' H' -> u D σ H'):zhG tc t u D σ H:=
 h.use s λG' H' g=>by
  cases c with
  |true=>rw[Iq rfl];exact k1 rfl G' H' g
  |false=>rw[Im Ii];exact k2 rfl G' H' g
def QQ{tc:TT}{t u:TS}(h:EvT tc σ G false)(s:ZF G H)(k:∀ G' H',YH G H G' H' -> u D σ H'):zhG tc t u D σ H:=UG h s (λz=>nomatch z) λ_=>k
theorem JT{β:Type}(f:α->β):∀ l:List α,l.filterMap (λx=>some (f x))=l.map f
 |[]=>rfl
 |x::l=>by rw[NC,Ng,JT f l]
abbrev dN(ns:List Nat):PD:=.tuple (ns.map λn=>PyData.int (n:Nat))
theorem zcn:∀ ns:List Nat,YB K G (ns.map λn=>V.int (n:Nat)) (ns.map λn=>PyData.int (n:Nat))
 |[]=>Z9
 |n::ns=>ZV (Zv _) (zcn ns)
def YG{n i:Nat}(h:i<n):ixN n (i:Int)=some i:=by unfold ixN;rw[Iq (by omega),Iq (by omega)];simp
end
section
variable {K:FG}{σ:St}{G H:Hp}{ta tb:TE}
def znO(ha:Ev K ta σ G (.int i))(hb:Ev K tb σ G (.int j)):Ev K (tOp rNe ta tb) σ G (.bool (!decide (i=j))):=
 QR ha hb λG1 H x y Q s1 s2 hx hy k=>by
  rw[hx.int,hy.int];refine⟨rfl,?_⟩;have e:decide (V.int i=V.int j)=decide (i=j):=by
   by_cases h:i=j
   .rw[Ip h,Ip (by rw[h])]
   .rw[Iw h,Iw λz=>h (by injection z)]
  rw[e];exact k _ G1 H (YH.refl s2) (Yc _)
def zau(ha:Ev K ta σ G (.int i))(hb:Ev K tb σ G (.int j)):Ev K (tOp rEq ta tb) σ G (.bool (decide (i=j))):=
 QR ha hb λG1 H x y Q s1 s2 hx hy k=>by
  rw[hx.int,hy.int];refine⟨rfl,?_⟩;have e:decide (V.int i=V.int j)=decide (i=j):=by
   by_cases h:i=j
   .rw[Ip h,Ip (by rw[h])]
   .rw[Iw h,Iw λz=>h (by injection z)]
  rw[e];exact k _ G1 H (YH.refl s2) (Yc _)
def QF{d:AD}(s:ZF G H)(n:G d=none):ZF G (upd H d o):=λb u e=>by rw[Zr (Zy e n)];exact s b u e
end
section
variable {X:Cx}{aa:List (Addr×Obj)}{σ:St}{H:Hp}{s:SH}{h' : Heap}
def Inv.zbr{T:AD}(I:Inv X aa σ H s)(k:∀ b u,b∉fp->s.heap.get? b=some u->h'.get? b=some u)(hf:∀ b∈fp,zcQ X aa H b)(hT:s.heap.objs.size<=T)(new:Xk X.prog X.w (upd H T o) h' T o):Inv X aa σ (upd H T o) {s with heap:=h',toks:=t'}:=by
 have nfp:∀ b u,H b=some u->b∉fp:=λb u e z=>by rw[(hf b z).1]at e;cases e
 have nT:∀ b u,H b=some u->b≠T:=λb u e=>IS (IA (I.ad.lt e) hT);have nT' : ∀ b u,s.heap.get? b=some u->b≠T:=λb u e=>IS (IA (IF e) hT);refine I.step (g':=s.gens) (d':=s.drawn) (ch:=fp) (λb hb=>?_) (λb u _ _ hc e _=>k b u hc e) (λb u _ _ hc e _=>⟨u.slots,k b u hc e⟩) (λb u _ e n=>by rw[Zr (nT' b u e)];exact n)
  (λb u hc e=>⟨u,k b u hc e⟩) (λb xs e=>by rw[Zr (nT b _ e)];exact e) (λb u v e=>by rw[Zr (nT b _ e)];exact e) (λb cr e=>by rw[Zr (nT b _ e)];exact e) (λm hm=>?_) (λb u e=>?_) I.bare
 .obtain⟨f0,f1,f2,f3,f4,f5⟩:=hf b hb;exact⟨f3,f1,f4,f5⟩
 .obtain⟨ob,es,ep,ho,r⟩:=hm;exact⟨ob,es,ep,k _ ob (λz=>(hf _ z).2.1 rfl) ho,r⟩
 .by_cases hb:b=T
  .subst hb;rw[Zo]at e;cases e;exact new
  .rw[Zr hb]at e;refine(I.ad b u e).stay (λc v hc q=>k c v ?_ q) (λc q=>by rw[Zr (nT c _ q)];exact q) (λc xs q=>by rw[Zr (nT c _ q)];exact q) λc o u q=>by rw[Zr (nT c _ q)];exact q
   rcases hc with z | z
   .rw[z];exact nfp b u e
   .exact nfp c _ z
def Inv.turns(I:Inv X aa σ H s)(k:∀ b u,b∉fp->s.heap.get? b=some u->h'.get? b=some u)(hf:∀ b∈fp,zcQ X aa H b):Inv X aa σ H {s with heap:=h',toks:=t'}:=by
 have nfp:∀ b u,H b=some u->b∉fp:=λb u e z=>by rw[(hf b z).1]at e;cases e
 refine I.step (g':=s.gens) (d':=s.drawn) (ch:=fp) (λb hb=>?_) (λb u _ _ hc e _=>k b u hc e) (λb u _ _ hc e _=>⟨u.slots,k b u hc e⟩) (λb u _ e n=>n)
  (λb u hc e=>⟨u,k b u hc e⟩) (λb xs e=>e) (λb u v e=>e) (λ_ _ e=>e) (λm hm=>?_) (λb u e=>?_) I.bare
 .obtain⟨f0,f1,f2,f3,f4,f5⟩:=hf b hb;exact⟨f3,f1,f4,f5⟩
 .obtain⟨ob,es,ep,ho,r⟩:=hm;exact⟨ob,es,ep,k _ ob (λz=>(hf _ z).2.1 rfl) ho,r⟩
 .refine(I.ad b u e).stay (λc v hc q=>k c v ?_ q) (λc q=>q) (λc xs q=>q) λc o u q=>q;rcases hc with z | z
  .rw[z];exact nfp b u e
  .exact nfp c _ z
end
section
variable {prog:Program}{w:World}{A:Around}{E:Value->SH->Prop}{s:SH}
def zek{it t:AD}{i:Nat}{x:Value}{Q:Value->SH->Prop}(q1:s.heap.IsTupleIter it t i)(q2:s.heap.IsTuple t items)(q3:items[i]?=some x)(k:∀ h',h'.IsTupleIter it t (i+1)->SameBut it s.heap h' -> Q x {s with heap:=h'}):wpAny (model prog w) A (Builtin.SmallTypes.nextOf (.ref it)) Q E s:=by
 obtain⟨oi,e1,e2,e3⟩:=id q1;obtain⟨ot,e4,_,nt,e5⟩:=q2;unfold Builtin.SmallTypes.nextOf;refine Ia (IM (name:=Str.ofString "__next__") q1.typeIs N5 (IP N5 q1.typeIs F.entry_tuple_iterator_next ?_ (F.args_tuple_iterator_next_1 _)));show wpAny (model prog w) _ (field (.ref it) 0 >>= _) _ _ s;refine Ia (IW e1 e3 (x:=.ref t) rfl ?_);rw[Im (show ¬ ((Value.ref t==Value.none)=true)from Ii)];refine Ia (IW e1 e3 (x:=.int i 0) rfl ?_);refine Ia (NH e4 e5 ?_);simp only[NG,q3];refine Ia (Ol e1 e3 (by simp) (Ic ⟨x,rfl,Ic (k _ ⟨_,NV _ e1 (Oy (NL e3 _)),(Obj.cls_mapFields ..).trans e2,by rw[NL e3];simp[rawInt]⟩ (SameBut.update ..))⟩))
def za3{it t:AD}{i:Nat}{Q:Value->SH->Prop}(q0:A.handled=none)(q1:s.heap.IsTupleIter it t i)(q2:s.heap.IsTuple t items)(q3:items[i]?=none)(k:∀ h' e,ExtBut it s.heap h' -> (∃ o,h'.get? e=some o/\o.cls = .type "StopIteration")->E (.ref e) {s with heap:=h'}):wpAny (model prog w) A (Builtin.SmallTypes.nextOf (.ref it)) Q E s:=by
 obtain⟨oi,e1,e2,e3⟩:=id q1;obtain⟨ot,e4,_,nt,e5⟩:=q2;unfold Builtin.SmallTypes.nextOf;refine Ia (IM (name:=Str.ofString "__next__") q1.typeIs N5 (IP N5 q1.typeIs F.entry_tuple_iterator_next ?_ (F.args_tuple_iterator_next_1 _)));show wpAny (model prog w) _ (field (.ref it) 0 >>= _) _ _ s;refine Ia (IW e1 e3 (x:=.ref t) rfl ?_);rw[Im (show ¬ ((Value.ref t==Value.none)=true)from Ii)];refine Ia (IW e1 e3 (x:=.int i 0) rfl ?_);refine Ia (NH e4 e5 ?_);simp only[NG,q3];refine Ia (NY (Ia (Ol e1 e3 (by simp) (Ia ?_))));simp only[newExc,newTuple];refine Ia (IK (Ia (m:=firstArgMember _ _) (OA (a:=Value.none) (by first | rfl | (simp only[firstArgMember];rfl)) (IK ?_ (by size_fits)))) (by size_fits));simp only[raiseNew];refine Ia (wpAny_handled (?_:wpAny _ _ _ _ _ _))
 first | rw[show A.in1.handled=none from q0] | rw[q0]
 exact Ia (Ic (wpAny_throw (k _ _ (((SameBut.update ..).extBut.push _).push _) ⟨_,Io _ rfl,rfl⟩)))
def Vz(hh:A.handled=none)(it l:AD)(hne:l≠it)(items:Array Value):
  Draws prog w A it [it,l] items.size (λi v=>items[i]?=some v) (λi h=>h.IsTupleIter it l i/\h.IsTuple l items) where
 live:=λ_ _ st=>let ⟨o,ho,_⟩:=st.1;⟨o,ho⟩
 frame:=λ_ _ _ st hk=>⟨let ⟨o,ho,r⟩:=st.1;⟨o,hk it (by simp) o ho,r⟩,let ⟨o,ho,r⟩:=st.2;⟨o,hk l (by simp) o ho,r⟩⟩
 item:=λi s Q E hi st hQ=>zek st.1 st.2 (x:=items[i]) (by simp[hi]) λh' hit' hs' => hQ _ h' s.toks (by simp[hi]) ⟨hit',let ⟨o,ho,r⟩:=st.2;⟨o,(hs'.2 l hne).trans ho,r⟩⟩ hs'
 done:=λs Q E st hE=>za3 hh st.1 st.2 (by simp) hE
end
noncomputable def zmz(K:FG)(a:AD):It:=⟨λi H=>∃ xs x,SqL K H a xs/\xs[i]?=some x,λi H v H' => ∃ p x,H p=none/\v = .ref p/\H'=upd H p (.tup [.int i,x])/\∀ xs,SqL K H a xs->xs[i]?=some x,λi H=>∃ xs,SqL K H a xs/\xs.length<=i⟩
def zgz{h:Heap}{a b:AD}{o u:Obj}(e:h.get? a=some o)(e' : h.get? b=some u)(n:o.cls≠u.cls):a≠b:=by rintro rfl;rw[e]at e';cases e';exact n rfl
def zeu{P:Program}{w:World}{K:FG}{elts:List Expr}{tk:Nat}{tpos:Pos}(a e it:AD):Turn P w K (.Tuple elts tk tpos) (zmz K a) [e,it] e (λi h=>(∃ old,IsEnum h e it i old)/\h.IsListIter it a i) where
 mem:=by simp
 obj:=λi h st b hb=>by
  obtain⟨⟨old,he⟩,o,ho,hc,hd⟩:=st;rcases IE.mp hb with rfl | hb
  .exact⟨_,he,λv z=>by cases z⟩
  .have eb:b=it:=by simpa using hb
   subst eb;exact⟨o,ho,λv z=>by rw[hd]at z;cases z⟩
 keep:=λi h h' st k=>by obtain⟨⟨old,he⟩,o,ho,r⟩:=st;exact⟨⟨old,k e (by simp) _ he⟩,o,k it (by simp) o ho,r⟩
 item:=by
  intro X hP hw hK hc i aa s σ H E I hf st hg;subst hP hw hK;obtain⟨xs,x,hq,hx⟩:=hg;obtain⟨its,rv,pl,hz⟩:=I.list hq;obtain⟨u,hu,ru⟩:=rv.get hx;obtain⟨⟨old,he⟩,hit⟩:=st;obtain⟨oi,hoi,hci,hdi⟩:=id hit;have p:s.heap.IsList a its.toArray:=pl.isList;obtain⟨ot,hot,hct,nt,hdt⟩:=id p;have hei:e≠it:=zgz he hoi (by rw[hci];show Value.type "enumerate" ≠ Value.type "list_iterator";decide);have hea:e≠a:=zgz he hot (by rw[hct];show Value.type "enumerate" ≠ Value.type "list";decide);have hai:a≠it:=zgz hot hoi (by rw[hci,hct];decide);have hlt:i<its.toArray.size:=by have:=(Il.mp hu).1;simpa using this
  refine wpAny_pyNext_enum_itemD (Draws.list (show X.A.in1.handled=none from I.ok.hd hc) it a hai its.toArray) he ⟨hit,p⟩ hlt hei (by simp[hei,hea]) λx' h' tk' hP ho hs' hT hsz hk=>?_;have ex:x'=u:=by
   have hP' : its.toArray[i]?=some x':=hP;have:its[i]?=some x':=by simpa using hP'
   rw[hu]at this;exact(Iu this).symm
  subst ex;refine⟨_,rfl,wpAny_letOwnedTupleGo_enum ho λh2 he2 hs2=>?_⟩;have het:e≠s.heap.objs.size:=IS (IF he);have new:Xk X.prog X.w (upd H s.heap.objs.size (.tup [.int i,x])) h2 s.heap.objs.size (.tup [.int i,x]):=⟨by show 2<=sizeLine;decide,[.int i tk',x'],.cons ⟨tk',rfl⟩ (.cons ru .nil),⟨_,(hs2.2 _ (Ne.symm het)).trans hT,rfl,_,rfl⟩,_,(hs2.2 _ (Ne.symm het)).trans hT,rfl⟩
  have kk:∀ b o,b∉[e,it]->s.heap.get? b=some o->h2.get? b=some o:=λb o hb q=>by have h1:b≠e:=λz=>hb (by simp[z]);have h2' : b≠it:=λz=>hb (by simp[z]);exact(hs2.2 b h1).trans (hk b o h1 h2' q)
  have fresh:=I.ad.fresh (Ik s.heap.objs.size);refine⟨.ref s.heap.objs.size,_,I.zbr (t':=tk'+1) kk hf (Ik _) new,rfl,⟨_,x,fresh,rfl,rfl,λys hy=>by rw[I.UW hy hq];exact hx⟩,⟨⟨_,he2⟩,?_⟩,λb hb=>?_⟩
  .obtain⟨o3,g1,g2,g3⟩:=hs'.1;exact⟨o3,(hs2.2 it (Ne.symm hei)).trans g1,g2,g3⟩
  .have hb' : b≠s.heap.objs.size:=by
    rcases IE.mp hb with rfl | hb
    .exact het
    .rw[IH.mp hb];exact IS (IF hoi)
   rw[Zr hb'];exact(hf b hb).1
 done:=by
  intro X hP hw hK hc i aa s σ H E I hf st hg;subst hP hw hK;obtain⟨xs,hq,hx⟩:=hg;obtain⟨its,rv,pl,hz⟩:=I.list hq;obtain⟨⟨old,he⟩,hit⟩:=st;have p:s.heap.IsList a its.toArray:=pl.isList;have hl:=rv.length;unfold pyNext;have hTy:s.TypeIs (.ref e) "enumerate" := ⟨_,he,rfl⟩
  refine Ia (N1 (IM (name:=Str.ofString "__next__") hTy F.slot_enumerate_next (IP F.slot_enumerate_next hTy F.entry_enumerate_next ?_ (F.args_enumerate_next_1 _))));show wpAny (model X.prog X.w) X.A.in1 (field (.ref e) 2 >>= _) _ _ s;refine Ia (IW he rfl (x:=.ref it) rfl (Ia (wpAny_nextOf_list_end (I.ok.hd hc) hit p (by simp;omega) λh' y g1 g2=>?_)));obtain⟨o,ho,hcl⟩:=g2;refine Ia (NO (T:= "StopIteration") (b:=true) ⟨o,ho,hcl⟩ isSubtype_stop (Ic ?_));exact⟨rfl,I.turns (t':=s.toks) (λb u hb q=>g1 b u (λz=>hb (by simp[z])) q) hf⟩
 self:=λ_ _ _ _ _ st h=>by obtain⟨⟨old,he⟩,_⟩:=st;exact wpAny_pyIter_enum he h
section
variable {X:Cx}
def zpf(K:FG)(ta:TA):TI:=fun σ H R=>ta σ H λvs H1=>∃ a,vs=[.ref a]/\(∃ xs,SqL K H1 a xs)/\R (zmz K a) H1
def zfW:bootBuiltins "enumerate" = some (.type "enumerate"):=by decide +kernel
def zdW{ta:TA}{elts:List Expr}{tk:Nat}{tpos:Pos}(hg:Gl X "enumerate")(hm:X.mg "enumerate" = none)(ha:PA X [a] ta)(hs:starEach [a] X.env=[(false,eval a X.env)]:=by rfl):PI X (.Tuple elts tk tpos) (.Call (.Name "enumerate" p) [a] [] pos) (zpf X.K ta):=by
 intro aa s σ H R I h;refine Call_ (QT I hg hm zfW (Nl (thn (ha pos aa s σ H _ I h) λus s1 ⟨vs,H1,I1,r1,q1⟩=>?_) hs rfl));obtain⟨l,e,⟨xs,hq⟩,q⟩:=q1;subst e;obtain⟨u,rfl,r⟩:=Vals.one r1;cases(show u=Value.ref l from r);obtain⟨its,rv,pt,hz⟩:=I1.list hq;refine call_enumerate_list pt.isList λh' he hi _ hk=>?_;refine wpAny_pyIter_enum he ⟨s1.heap.objs.size+1,[s1.heap.objs.size+1,s1.heap.objs.size],_,_,H1,rfl,I1.kept (t':=s1.toks) hk,zeu l _ _,⟨⟨_,he⟩,hi⟩,λb hb=>?_,q⟩;have hb' : s1.heap.objs.size<=b:=by
  rcases IE.mp hb with rfl | hb
  .exact Nat.le_succ _
  .rw[IH.mp hb];exact Ik _
 exact I1.zjT hb' (I1.ad.fresh hb')
def zeq{ys:LB}:∀{us:LF},Vals (ys.map V.str) us->StrsAre us ys:=by
 induction ys with
 |nil=>intro us r;rw[map_nil]at r;cases r;exact .nil
 |cons n ns ih=>
  intro us r;rw[Ng]at r;cases r with
  |cons r1 r2=>obtain⟨t,e⟩:=r1;subst e;exact .cons n t (ih r2)
def zhX:bootBuiltins "reversed" = some (.type "reversed"):=by decide +kernel
def zh0:bootBuiltins "list" = some (.type "list"):=by decide +kernel
end
section
variable {X:Cx}{K:FG}
def Z1(e:X.K=K):IxR X (zeU K):=by subst e;exact zmE
def Zu(e:X.K=K):IxR X (zeF K):=by subst e;exact zjI
def zhy(e:X.K=K):SlR X (znS K):=by subst e;exact zjv
def zax(e:X.K=K)(hu:X.A.units+64<cLine):OpR X (compareOp .Eq) (ziE K λb=>b):=by subst e;exact zls hu
def zkc(e:X.K=K)(hu:X.A.units+64<cLine):OpR X (compareOp .NotEq) (ziE K λb=>!b):=by subst e;exact zmy hu
def Yb(e:X.K=K):V2 X (.builtin "len") (λxs H Q=>∃ p ys,xs=[.ref p]/\(SqL K H p ys\/SqT K H p ys)/\Q (.int ys.length) H):=by subst e;exact zcO
def X4(e:X.K=K):V2 X (.type "tuple") (λxs H Q=>∃ p ys,xs=[.ref p]/\((SqL K H p ys/\∀ l,H l=none->Q (.ref l) (upd H l (.tup ys)))\/(SqT K H p ys/\Q (.ref p) H))):=by subst e;exact zbQ
end
def Vy{op:BoolOp}{vs:List Expr}:starEach (.BoolOp op vs p::es) env=(false,eval (.BoolOp op vs p) env)::starEach es env:=rfl
def ZS{op:Operator}{b:Expr}:starEach (.BinOp a op b p::es) env=(false,eval (.BinOp a op b p) env)::starEach es env:=rfl
def JL{op:UnaryOp}:starEach (.UnaryOp op a p::es) env=(false,eval (.UnaryOp op a p) env)::starEach es env:=rfl
def Wn{g:List Comprehension}{sc:Scope}:starEach (.ListComp a g sc p::es) env=(false,eval (.ListComp a g sc p) env)::starEach es env:=rfl
def Y0{ops:List CmpOp}{cs:List Expr}:starEach (.Compare a ops cs p::es) env=(false,eval (.Compare a ops cs p) env)::starEach es env:=rfl
def Yo{f:Expr}{kw:List Keyword}:starEach (.Call f as kw p::es) env=(false,eval (.Call f as kw p) env)::starEach es env:=rfl
def Zg{c:Const}{k:Nat}:starEach (.Constant c k p::es) env=(false,eval (.Constant c k p) env)::starEach es env:=rfl
def Zj{b:Expr}:starEach (.Subscript a b p::es) env=(false,eval (.Subscript a b p) env)::starEach es env:=rfl
def Zd{n:Str}:starEach (.Name n p::es) env=(false,eval (.Name n p) env)::starEach es env:=rfl
def zgI :starEach (.List as p::es) env=(false,eval (.List as p) env)::starEach es env:=rfl
def zbz{k:Nat}:starEach (.Tuple as k p::es) env=(false,eval (.Tuple as k p) env)::starEach es env:=rfl
noncomputable def tyN:PD->String
 |.none=> "NoneType"
 |.bool _=> "bool"
 |.int _=> "int"
 |.str _=> "str"
 |.list _=> "list"
 |.tuple _=> "tuple"
 |.dict _=> "dict"
def zol(K:FG):LC->Hp->VK->Prop:=λxs H Q=>∃ G x d n b,xs=[x,.ty n]/\ZF G H/\Dat K G x d/\kitOne K (.type (tyN d)) (.type n)=some b/\Q (.bl b) H
def zd3{X:Cx}{K:FG}(eK:X.K=K):V2 X (.builtin "isinstance") (zol K):=by
 subst eK;intro aa s σ H xs us Q I r h;obtain⟨G,x,d,n,b,rfl,sg,hd,e,q⟩:=h;obtain⟨u,w',rfl,rx,ry⟩:=vals2 r;cases(show w'=Value.type n from ry);have fin:∀ tk,EP X aa σ Q (.bool b) {s with toks:=tk}:=λtk=>⟨.bl b,H,I.tok _,rfl,q⟩
 cases d with
 |none=>rw[hd.non]at rx;exact VD I rx .non e fin
 |bool y=>rw[hd.bl]at rx;exact VD I rx (.bl y) e fin
 |int i=>rw[hd.int]at rx;exact VD I rx (.int i) e fin
 |str y=>rw[hd.str]at rx;exact VD I rx (.str y) e fin
 |list ds=>obtain⟨p,ys,rfl,hp,_⟩:=hd.lst;cases(show u=Value.ref p from rx);obtain⟨its,_,⟨o,n',e1,c,_⟩,_⟩:=I.list (SqL.of (sg _ _ hp));exact OL kitx_list I.kIn ⟨o,e1,c⟩ e (λz=>nomatch z) fin
 |tuple ds=>obtain⟨p,ys,rfl,hp,_⟩:=hd.tup;cases(show u=Value.ref p from rx);obtain⟨its,_,⟨o,e1,c,_⟩,_⟩:=I.tuple (sg.tup hp);exact OL kitx_tuple I.kIn ⟨o,e1,c⟩ e (λz=>nomatch z) fin
 |dict _=>unfold Dat at hd;exact hd.elim
def zfc{K:FG}{σ:St}{ta:TE}{d:PD}{n:String}{b:Bool}(ha:Ev K ta σ G d)(e:kitOne K (.type (tyN d)) (.type n)=some b):Ev K (tCB (zol K) (YC ta (YC (tC (.ty n)) Vk))) σ G (.bool b):=λG1 H s1 s2 Q k=>ha G1 H s1 s2 _ λx G2 H2 g2 hx=>⟨G2,x,d,n,b,rfl,g2.gh,hx,e,k _ G2 H2 g2 (Yc b)⟩
section
variable {X:Cx}
def zfs:V->LC->Hp->VK->Prop:=λx vs H Q=>∃ l xs i y,x = .ref l/\vs=[.int i,y]/\H l=some (.lst xs)/\0<=i/\i<=xs.length/\xs.length+1<=sizeLine/\Q .non (upd H l (.lst (xs.take i.toNat++y::xs.drop i.toNat)))
def zcx:MtM X "list.insert" zfs:=by
 intro aa s σ H x vs v us Q I rx rv h;obtain⟨l,xs,i,y,rfl,rfl,hH,h0,h1,hz,q⟩:=h;cases rx;obtain⟨u,w,rfl,ru,rw'⟩:=rv.two;obtain⟨t,rfl⟩:=ru;obtain⟨z,its,n,r,hl,e⟩:=I.zjm hH;have hs:xs.length<=16777216:=by have:=sizeLine_eq;omega
 have hlen:=r.length;refine call_meets F.slot_list_insert ⟨_,e,rfl⟩ F.entry_list_insert (F.args_list_insert_3 _ _ _)
  (AutoListH.list_insert_list_int_val_1 l its.toArray n i t w (by rw[fitsIndex_both (by omega) (by omega)];exact Ii) (by rw[Ix];omega)) ⟨e,?_⟩
 refine⟨.non,_,I.zmP (its':=its.take i.toNat++w::its.drop i.toNat) hH e ?_ ((r.take _).append (.cons rw' (r.drop _))) ?_,rfl,q⟩
 .have hk:(if i<0 then(i+((its.toArray.size:Nat):Int)).toNat else min i.toNat its.toArray.size)=i.toNat:=by rw[Im (by omega),Ix];omega
  show(its.toArray.extract 0 _).push w++its.toArray.extract _=_;rw[hk];apply Array.ext';simp[NQ]
 .simp only[Ig,IC,Nj,Nk];omega
end
def zjq{P:Program}{w:World}{k:Key}{u:Value}(r:RelV (kV k) u):(Xy P w).is k u=true:=by
 cases k with
 |inl i=>obtain⟨t,e⟩:=(show ∃ t,u=Value.int i t from r);subst e;exact zdt P w i t
 |inr x=>obtain⟨t,e⟩:=(show ∃ t,u=Value.str x t from r);subst e;exact zde P w x t
theorem zcE{P:Program}{w:World}:∀{ks:List Key}{us:LF},Vals (ks.map kV) us->ItemsAre (Xy P w) ks us
 |[],_,r=>by rw[map_nil]at r;cases r;exact .nil
 |k::ks,_,r=>by
  rw[Ng]at r;cases r with
  |cons h t=>exact .cons (zjq h) (zcE t)
section
variable {X:Cx}{aa:List (Addr×Obj)}{σ:St}{H:Hp}{s:SH}{a:AD}{y v:V}{u r:Value}{o:Option V}{A:Around}{E:Value->SH->Prop}
def Inv.big(I:Inv X aa σ H s):sysModules<s.heap.objs.size:=by have h:mainGlobals<s.heap.objs.size:=(I.mod.glob.keeps I.bk).lt;exact lt_trans (by decide) h
def zfY{h' : Heap}{ob:HO}(I:Inv X aa σ H s)(mu:Mut (H a))(hs:SameBut a s.heap h')(he:∃ q,h'.get? a=some q)(new:Xk X.prog X.w (upd H a ob) h' a ob):
  Inv X aa σ (upd H a ob) {s with heap:=h',toks:=t'}:=
 I.write (x:=a) (e:=a) mu (.inl rfl) (λb q hb z=>(hs.2 b hb).trans z) he new
end
open PySem PySem.Spec PyProof.Rows MeetsSeq
def VL(t:AD)(items:Array Value)(n:Nat)(dct:Option AD)(sl:Array (LG))(x:Value)(e:Value->Bool)(he:∀ y,y∈items->EqGives y x (e y))(j:Nat)(hj:j<items.size)(hit:e items[j]=true)(hno:∀ m (hm:m<items.size),m<j->e items[m]=false):
  Meets (Builtin.«tuple.index» ⟨[.ref t,x],[]⟩) (λ_ R s=>s.heap.get? t=some {cls:=.type "tuple",dict:=dct,data:=.seq items n,slots:=sl}/\R (.ok (.ret (.int j s.toks))) {s with toks:=s.toks+1}):=
 .of_wp λprog w A R s h=>by
  obtain⟨hp,g,d,tk,os⟩:=s;obtain⟨q1,h⟩:=h
  wp_walk using wpAny_loadPart' q1
  show wpAny (model prog w) A.in1 (forIn ([:min items.size items.size]:Std.Legacy.Range) ((none:Option Fin),()) _) _ _ _;rw[Std.Legacy.Range.forIn_eq_forIn_range'];have hz:[:min items.size items.size].size=items.size:=by simp[Std.Legacy.Range.size]
  rw[hz];refine N4 _ (λrest b s' => s'=⟨hp,g,d,tk,os⟩/\b=(none,())/\∃ i,i<=j/\rest=List.range' i (items.size-i)) _ ?_ ?_ _ _ ⟨rfl,rfl,0,Nr _,rfl⟩
  .rintro i rest b s' ⟨rfl,rfl,k,hk,hr⟩;have hlt:k<items.size:=by omega
   have hr' : i=k/\rest=List.range' (k+1) (items.size-(k+1)):=by rw[show items.size-k=(items.size-(k+1))+1 by omega,List.range'_succ]at hr;injection hr with e1 e2;exact⟨e1,e2⟩
   obtain⟨rfl,rfl⟩:=hr';have hi:items[i]?=some items[i]:=by simp[hlt]
   rw[hi];dsimp only;refine Ia (he _ (Array.getElem_mem hlt) prog w _ _ _ _ ?_);by_cases hij:i=j
   .subst hij;rw[hit,Iq rfl]
    wp_walk
    exact⟨_,rfl,h⟩
   .rw[hno i hlt (by omega)];exact Ic ⟨rfl,rfl,i+1,(by omega),rfl⟩
  .rintro b s' ⟨rfl,rfl,k,hk,hr⟩;have:items.size-k=0:=by have:=IT List.length hr;simpa using this.symm
   omega
noncomputable def zoS(z:Str):Value->Bool
 |.str a _=>a==z
 |_=>false
section
variable {X:Cx}
def zdn(K:FG):V->LC->Hp->VK->Prop:=λx vs H Q=>∃(p:AD)(ws:LB)(z:Str),x = .ref p/\vs=[.str z]/\SqT K H p (ws.map V.str)/\z∈ws/\Q (.int (ws.idxOf z:Nat)) H
def Qs{K:FG}(eK:X.K=K):MtM X "tuple.index" (zdn K):=by
 subst eK;intro aa s σ H x vs v us Q I rx rv h;obtain⟨p,ws,z,rfl,rfl,hp,hz,q⟩:=h;cases rx;obtain⟨u,rfl,ru⟩:=vals1 rv;obtain⟨t,rfl⟩:=ru;obtain⟨its,r,pt,hl⟩:=I.tuple hp;obtain⟨⟨c,dct,dt,sl⟩,e1,e2,n,e3⟩:=pt
 replace e2:c = .type "tuple" := e2
 replace e3:dt = .seq its.toArray n:=e3
 subst e2 e3;have hlen:its.length=ws.length:=by rw[← r.length,Ie]
 have el:∀(i:Nat)(hi:i<its.toArray.size),∃ t',its.toArray[i]=Value.str (ws.getD i z) t':=λi hi=>by
  have hi' : i<its.length:=by simpa using hi
  obtain⟨u,hu,ru⟩:=r.get (i:=i) (x:=V.str (ws.getD i z)) (by rw[Ij,Ir,Ib (by omega)];rfl);obtain⟨t',rfl⟩:=ru;refine⟨t',?_⟩;have:its[i]=Value.str (ws.getD i z) t':=by rw[Ib hi']at hu;exact Iu hu
  simpa using this
 have hjl:ws.idxOf z<its.length:=by rw[hlen];exact NP hz
 refine call_meets F.slot_tuple_index ⟨_,e1,rfl⟩ F.entry_tuple_index (F.args_tuple_index_2 _ _)
  (VL p its.toArray n dct sl (.str z t) (zoS z) (λy hy=>?_) (ws.idxOf z) (by simpa using hjl) ?_ λm hm hlt=>?_) ⟨e1,?_⟩
 .obtain⟨i,hi,rfl⟩:=Array.mem_iff_getElem.mp hy;obtain⟨t',e⟩:=el i hi;rw[e];exact eqGives_str _ _ _ _
 .obtain⟨t',e⟩:=el _ (by simpa using hjl);rw[e];have:ws.getD (ws.idxOf z) z=z:=by rw[Ir,Ib (by omega)];exact List.getElem_idxOf (by omega)
  rw[this];show(z==z)=true;exact beq_self_eq_true z
 .obtain⟨t',e⟩:=el m hm;rw[e];show(ws.getD m z==z)=false;have hm' : m<ws.length:=by have:m<its.length:=(by simpa using hm);omega
  have hne:(ws[m]==z)=false:=List.not_of_lt_findIdx (p:=(· == z)) (xs:=ws) hlt;rw[Ir,Ib hm'];exact hne
 .exact⟨.int _,H,I.tok _,⟨_,rfl⟩,q⟩
end
noncomputable def zoQ:Const->Option PD
 |.int i=>some (.int i)
 |.str x=>some (.str x)
 |.bool b=>some (.bool b)
 |.none=>some .none
 |_=>none
noncomputable def lits(f:Expr->Option PD):Nat->List Expr->Option (LA)
 |_,[]=>some []
 |0,_::_=>none
 |k+1,e::es=>match f e with
  |some d=>match lits f k es with
   |some ds=>some (d::ds)
   |none=>none
  |none=>none
noncomputable def zeL:Nat->Expr->Option PD
 |0,_=>none
 |n+1,e=>match e with
  |.Constant c _ _=>zoQ c
  |.List es _=>match lits (zeL n) 60 es with
   |some ds=>some (.list ds)
   |none=>none
  |.Tuple es _ _=>match lits (zeL n) 60 es with
   |some ds=>some (.tuple ds)
   |none=>none
  |_=>none
theorem zby{f:Expr->Option PD}:∀{k:Nat}{es:List Expr}{ds:LA},lits f k es=some ds->ds.length<=k
 |_,[],_,h=>by unfold lits at h;cases h;exact Nr _
 |0,_::_,_,h=>by unfold lits at h;cases h
 |k+1,e::es,ds,h=>by
  unfold lits at h;cases h1:f e with
  |none=>rw[h1]at h;cases h
  |some d=>
   rw[h1]at h;cases h2:lits f k es with
   |none=>rw[h2]at h;cases h
   |some ds' =>rw[h2]at h;cases h;have:=zby h2;show ds'.length+1<=k+1;omega
def zlr(K:FG)(d:PD):TE:=λ_ H Q=>∃ G,ZF G H/\∀ v G' H',YH G H G' H' -> Dat K G' v d->Q v H'
def znR(K:FG)(ds:LA):TA:=λ_ H Q=>∃ G,ZF G H/\∀ vs G' H',YH G H G' H' -> YB K G' vs ds->Q vs H'
section
variable {X:Cx}
def PE.imp{e:Expr}{t t' : TE}(h:PE X e t)(i:∀ σ H Q,t' σ H Q->t σ H Q):PE X e t':=λaa s σ H Q I q=>h aa s σ H Q I (i σ H Q q)
def PA.imp{t t' : TA}(h:PA X es t)(i:∀ σ H Q,t' σ H Q->t σ H Q):PA X es t':=λpos aa s σ H Q I q=>h pos aa s σ H Q I (i σ H Q q)
def zgc{n:Nat}{e:Expr}{d:PD}(h:zeL n e=some d)(es:List Expr)(env:Env):starEach (e::es) env=(false,eval e env)::starEach es env:=by
 cases n with
 |zero=>cases h
 |succ n=>
  cases e with
  |Constant c k p=>exact Zg
  |List as p=>exact zgI
  |Tuple as k p=>exact zbz
  |_=>cases h
theorem zc9{n:Nat}(ih:∀ e d,zeL n e=some d->PE X e (zlr X.K d)):∀(k:Nat)(es:List Expr)(ds:LA),lits (zeL n) k es=some ds->PA X es (znR X.K ds)
 |_,[],ds,h=>by unfold lits at h;cases h;exact PA.imp Ze fun σ H Q ⟨G,s,k⟩=>k [] G H (YH.refl s) Z9
 |0,_::_,_,h=>by unfold lits at h;cases h
 |k+1,e::es,ds,h=>by
  unfold lits at h;cases h1:zeL n e with
  |none=>rw[h1]at h;cases h
  |some d=>
   rw[h1]at h;cases h2:lits (zeL n) k es with
   |none=>rw[h2]at h;cases h
   |some ds' =>
    rw[h2]at h;cases h;refine PA.imp (Za (ih e d h1) (zc9 ih k es ds' h2) (zgc h1 es X.env)) fun σ H Q ⟨G,s,k⟩=>?_
    exact⟨G,s,λv G1 H1 g1 hv=>⟨G1,g1.gh,λvs G2 H2 g2 hvs=>k (v::vs) G2 H2 (g1.trans g2) (ZV (hv.same g2.gg) hvs)⟩⟩
theorem zdj:∀(n:Nat)(e:Expr)(d:PD),zeL n e=some d->PE X e (zlr X.K d)
 |0,_,_,h=>by cases h
 |n+1,e,d,h=>by
  have z:(60:Nat)<=sizeLine:=by decide
  cases e with
  |Constant c k p=>
   have h' : zoQ c=some d:=h;cases c with
   |int i=>cases h';exact PE.imp Zi fun σ H Q ⟨G,s,k⟩=>k _ G H (YH.refl s) (Zv i)
   |str x=>cases h';exact PE.imp ZD fun σ H Q ⟨G,s,k⟩=>k _ G H (YH.refl s) (XR x)
   |bool b=>cases h';exact PE.imp VR fun σ H Q ⟨G,s,k⟩=>k _ G H (YH.refl s) (Yc b)
   |none=>cases h';exact PE.imp zaj fun σ H Q ⟨G,s,k⟩=>k _ G H (YH.refl s) Q4
   |_=>cases h'
  |List as p=>
   have h' : (match lits (zeL n) 60 as with | some ds=>some (PyData.list ds) | none=>none)=some d:=h;cases h1:lits (zeL n) 60 as with
   |none=>rw[h1]at h';cases h'
   |some ds=>
    rw[h1]at h';cases h';have hl:=zby h1;refine PE.imp (Z3 (zc9 (zdj n) 60 as ds h1)) fun σ H Q ⟨G,s,k⟩=>⟨G,s,λvs G1 H1 g1 hv=>⟨by rw[hv.length];omega,λp hp=>?_⟩⟩
    have g:=YF (o:=.lst vs) g1.gh hp;exact k _ _ _ (g1.trans g) (Xd Zo (hv.same g.gg))
  |Tuple as kk p=>
   have h' : (match lits (zeL n) 60 as with | some ds=>some (PyData.tuple ds) | none=>none)=some d:=h;cases h1:lits (zeL n) 60 as with
   |none=>rw[h1]at h';cases h'
   |some ds=>
    rw[h1]at h';cases h';have hl:=zby h1;refine PE.imp (Xb (zc9 (zdj n) 60 as ds h1)) fun σ H Q ⟨G,s,k⟩=>⟨G,s,λvs G1 H1 g1 hv=>⟨by rw[hv.length];omega,λp hp=>?_⟩⟩
    have g:=YF (o:=.tup vs) g1.gh hp;exact k _ _ _ (g1.trans g) (XX (SqT.of Zo) (hv.same g.gg))
  |_=>cases h
def zlU{e:Expr}{d:PD}(h:zeL 6 e=some d):PE X e (zlr X.K d):=zdj 6 e d h
def zmT{K:FG}{σ:St}{d:PD}:Ev K (zlr K d) σ G d:=λG1 H s1 s2 Q k=>⟨G1,s2,k⟩
end
def zeQ(n:Nat):Builtin.Slice.sliceAdjust none none (-1) (n:Int)=((n:Int)-1,-1):=by unfold Builtin.Slice.sliceAdjust;simp
def zeA(n:Nat):Builtin.Slice.slicePlaces ((n:Int)-1) (-1) (-1)=n:=by unfold Builtin.Slice.slicePlaces;simp <;> omega
def zgE(xs:Array Value):((List.range xs.size).filterMap λ(m:Nat)=>xs[(((xs.size:Int)-1)+(m:Int)*(-1)).toNat]?).toArray=xs.toList.reverse.toArray:=by
 congr 1;refine ext_getElem? λi=>?_;have e:∀ m∈List.range xs.size,xs[(((xs.size:Int)-1)+(m:Int)*(-1)).toNat]?=some ((xs.toList.reverse)[m]?.getD .none):=λm hm=>by
  have hm':=OP.mp hm;have q:(((xs.size:Int)-1)+(m:Int)*(-1)).toNat=xs.size-1-m:=by omega
  rw[q,List.getElem?_reverse (by rw[Ov];exact hm'),Ov,getElem?_toList,Nb (by omega)];rfl
 have e2:((List.range xs.size).filterMap λ(m:Nat)=>xs[(((xs.size:Int)-1)+(m:Int)*(-1)).toNat]?)=(List.range xs.size).map λm=>(xs.toList.reverse)[m]?.getD .none:=by
  generalize List.range xs.size=L at e
  induction L with
  |nil=>rfl
  |cons m r ih=>rw[NC,e m ID,Ng,ih λk hk=>e k (Iy _ hk)]
 rw[e2,Ij];by_cases hi:i<xs.size
 .rw[getElem?_range hi];have:i<xs.toList.reverse.length:=by simpa using hi
  rw[map_some,Ib this];rfl
 .rw[NT (by simpa using hi),NT (by simpa using hi)];rfl
section
variable {prog:Program}{w:World}{A:Around}{E:Value->SH->Prop}{s:SH}
def UT{sl:AD}{t:Tok}{n:Nat}{Q:Int×Int×Nat->SH->Prop}(hs:s.heap.IsSliceOf sl .none .none (.int (-1) t))(h:Q ((n:Int)-1,-1,n) s):wpAny (model prog w) A (Builtin.Slice.sliceApplied (.ref sl) (pure (n:Int))) Q E s:=by
 obtain⟨os,hos,hcs,hds⟩:=id hs;unfold Builtin.Slice.sliceApplied Builtin.Slice.sliceFields;refine Ia (Ia (IW hos hds (x:=.none) rfl (Ia (IW hos hds (x:=.none) rfl (Ia (IW hos hds (x:=.int (-1) t) rfl (Ic ?_)))))));refine Ia (slicePart_int ?_);show wpAny _ _ (if((-1:Int)==0)=true then _ else _) _ _ s;rw[Im (by decide)];refine Ia (slicePart_none (Ia (slicePart_none (Ia (Ic ?_)))));show wpAny _ _ (match Builtin.Slice.sliceAdjust none none (-1) (n:Int)with | (lo,hi)=>pure (lo,(-1:Int),Builtin.Slice.slicePlaces lo hi (-1))) _ _ s;rw[zeQ];show wpAny _ _ (pure ((n:Int)-1,(-1:Int),Builtin.Slice.slicePlaces ((n:Int)-1) (-1) (-1))) _ _ s;rw[zeA];exact Ic h
def zaC{t sl:AD}{tk:Tok}{Q:Value->SH->Prop}(ht:IsTup s.heap t items)(hs:s.heap.IsSliceOf sl .none .none (.int (-1) tk))(h:Q (.ref s.heap.objs.size) {s with heap:=s.heap.push {cls:=.type "tuple",data:=.seq items.toList.reverse.toArray}})(hsz:items.size<=sizeLine):wpAny (model prog w) A (getItem (.ref t) (.ref sl)) Q E s:=by
 have htake:sizeOk (.seq items.toList.reverse.toArray):=by show items.toList.reverse.toArray.size<=sizeLine;simpa using hsz
 obtain⟨os,hos,hcs,hds⟩:=id hs;have hTs:s.TypeIs (.ref sl) "slice" := ⟨os,hos,hcs⟩
 unfold getItem
 try with_reducible refine Np ?_
 first | refine Ia (Ic ?_) | skip
 refine Ia (wpAny_sequenceKey ht.typeIs (by decide) ?_);refine Ia (IM (name:=Str.ofString "__getitem__") ht.typeIs Nm
  (IP Nm ht.typeIs entry_tuple_getitem ?_ (args_tuple_getitem _ _)))
 show wpAny _ _ (Builtin.Tuple.tupleItemsOf (.ref t) >>= _) _ _ s;refine Ia (tupleItemsOf_ ht ?_);refine Ia (wpAny_typeOf hTs ?_);rw[Iq (by decide)];refine Ia (UT hs ?_);have hno:¬ ((((items.size:Int)-1)==0&&(-1:Int)==1&&items.size==items.size)=true):=by intro q;rw[IR,IR]at q;exact absurd q.1.2 (by decide)
 show wpAny _ _ (if(((items.size:Int)-1)==0&&(-1:Int)==1&&items.size==items.size)=true then _ else _) _ _ s;rw[Im hno,zgE]
 first
  |exact Ia (m:=Builtin.Tuple.tupleExact _) (IK (Ic ⟨_,rfl,Ic h⟩) htake)
  |exact Ia (m:=Builtin.Tuple.tupleExact _) (IK (Ia (Ic (Ic ⟨_,rfl,Ic h⟩))) htake)
  |exact Ia (Ia (m:=Builtin.Tuple.tupleExact _) (IK (Ic (Ic ⟨_,rfl,Ic h⟩)) htake))
  |exact Ia (Ia (m:=Builtin.Tuple.tupleExact _) (IK (Ic ⟨_,rfl,Ic h⟩) htake))
end
section
variable {X:Cx}{K:FG}{e st:Expr}{te:TE}{ts:TO}{p2 pos:Pos}
def zjP(K:FG)(te:TE)(ts:TO):TE:=fun σ H Q=>te σ H λx H1=>ts σ H1 λc H4=>c=some (-1)/\∃ a xs,x = .ref a/\SqT K H4 a xs/\∀ p,H4 p=none->Q (.ref p) (upd H4 p (.tup xs.reverse))
def zge(ek:X.K=K)(he:PE X e te)(hst:PO X (some st) ts):PE X (.Subscript e (.Slice none none (some st) p2) pos) (zjP K te ts):=by
 subst ek;intro aa s σ H Q I h;refine Subscript_ (thn (he aa s σ H _ I h) λv s1 ⟨x,H1,I1,r1,q1⟩=>?_);refine wpAny_Slice ?_;rw[evalPart_none];refine Ic (Ic ?_);refine thn (hst aa s1 σ H1 _ I1 q1) λvs s4 ⟨c,H4,I4,ps,q4⟩=>?_;obtain⟨rfl,a,xs,rfl,hx,q⟩:=q4;cases r1;cases ps with
 |int _ t=>have I5:Inv X aa σ H4 {s4 with heap:=s4.heap.push {cls:=.type "slice",data:=.fields #[.none,.none,.int (-1) t]}}:=I4.kept (t':=s4.toks) λb ob q=>Ih _ q;obtain⟨its,r,ht,hz⟩:=I5.tuple hx;have hlen:=r.length;refine tail_any (ops:=[.ref a,.ref s4.heap.objs.size]) (T:= "tuple") ht.typeIs PyProof.Rows.slot_tuple_getitem.lookup ?_ (by with_unfolding_all rfl);refine zaC ht (Heap.IsSliceOf.new ..) ?_ (by rw[Ix,← hlen];exact hz);refine⟨.ref _,_,I5.laid (t':=s4.toks) (o:=.tup xs.reverse) (λb ob q=>Ih _ q) (Ik _) ⟨by rw[OB];exact hz,its.reverse,r.reverse,?_⟩,rfl,q _ (I5.ad.fresh (Ik _))⟩;exact⟨IsTup.new _ _,_,Io _ rfl,rfl⟩
end
end L2
namespace HT
open PySem PySem.Spec PyProof.Rows
section
variable {prog:Program}{w:World}{A:Around}{E:Value->SH->Prop}{s:SH}
def V6{t sl:AD}{items:Array Value}{vl vu:Value}{lo hi:LI}{Q:Value->SH->Prop}(ht:IsTup s.heap t items)(hs:s.heap.IsSliceOf sl vl vu .none)(pl:IsPart vl lo)(pu:IsPart vu hi)(hw:sIx items.size 0 lo=0/\sIx items.size items.size hi=items.size)(h:Q (.ref t) s):wpAny (model prog w) A (getItem (.ref t) (.ref sl)) Q E s:=by
 obtain⟨os,hos,hcs,hds⟩:=id hs;have hTs:s.TypeIs (.ref sl) "slice" := ⟨os,hos,hcs⟩
 unfold getItem
 try with_reducible refine Np ?_
 first | refine Ia (Ic ?_) | skip
 refine Ia (wpAny_sequenceKey ht.typeIs (by decide) ?_);refine Ia (IM (name:=Str.ofString "__getitem__") ht.typeIs Nm
  (IP Nm ht.typeIs entry_tuple_getitem ?_ (args_tuple_getitem _ _)))
 show wpAny _ _ (Builtin.Tuple.tupleItemsOf (.ref t) >>= _) _ _ s;refine Ia (tupleItemsOf_ ht ?_);refine Ia (wpAny_typeOf hTs ?_);rw[Iq (by decide)];refine Ia (J6 hs pl pu ?_);have hyes:(((sIx items.size 0 lo:Nat):Int)==0&&(1:Int)==1&&(sIx items.size items.size hi-sIx items.size 0 lo)==items.size)=true:=by rw[hw.1,hw.2];simp
 show wpAny _ _ (if (((sIx items.size 0 lo:Nat):Int)==0&&(1:Int)==1&&(sIx items.size items.size hi-sIx items.size 0 lo)==items.size)=true then _ else _) _ _ s;rw[Iq hyes];refine Ia (m:=Builtin.Tuple.tupleIsExact (.ref t)) ?_;unfold Builtin.Tuple.tupleIsExact;refine Ia (wpAny_typeOf ht.typeIs (Ic ?_));rw[Iq (by decide)];refine Ia (NY ?_)
 first
  |exact Ic ⟨_,rfl,Ic h⟩
  |exact Ia (Ic (Ic ⟨_,rfl,Ic h⟩))
end
end HT
namespace L2
open PySem PySem.Spec PyProof.Rows
section
variable {X:Cx}{K:FG}
def zcj(K:FG):V->LI->LI->Hp->VK->Prop:=λx lo hi H Q=>∃ a xs,x = .ref a/\SqT K H a xs/\
 ((HT.sIx xs.length 0 lo=0/\HT.sIx xs.length xs.length hi=xs.length)->Q (.ref a) H)/\(¬ (HT.sIx xs.length 0 lo=0/\HT.sIx xs.length xs.length hi=xs.length)->∀ p,H p=none->Q (.ref p) (upd H p (.tup (zgO xs lo hi))))
def WT(e:X.K=K):SlR X (zcj K):=by
 subst e;intro aa s σ H x v vl vu lo hi sl Q I rx hs pl pu h;obtain⟨a,xs,rfl,hx,q1,q2⟩:=h;by_cases hw:HT.sIx xs.length 0 lo=0/\HT.sIx xs.length xs.length hi=xs.length
 .cases rx;obtain⟨its,r,ht,hz⟩:=I.tuple hx;have hlen:its.toArray.size=xs.length:=by rw[Ix];exact r.length.symm
  exact⟨"tuple",_,PyProof.Rows.slot_tuple_getitem.lookup,ht.typeIs,HT.V6 ht hs pl pu (by rw[hlen];exact hw) ⟨.ref a,H,I,rfl,q1 hw⟩⟩
 .exact zmi aa s σ H _ v vl vu lo hi sl Q I rx hs pl pu ⟨a,xs,rfl,hx,hw,q2 hw⟩
def zf4{σ:St}{G:Hp}{te:TE}{tl th:TO}{ds:LA}{lo hi:LI}(h:Ev K te σ G (.tuple ds))(hl:∀ H (Q:LI->Hp->Prop),Q lo H->tl σ H Q)(hh:∀ H (Q:LI->Hp->Prop),Q hi H->th σ H Q):
  Ev K (tSl (zcj K) te tl th) σ G (.tuple ((ds.drop (HT.sIx ds.length 0 lo)).take (HT.sIx ds.length ds.length hi-HT.sIx ds.length 0 lo))):=
 λG1 H s1 s2 Q k=>h G1 H s1 s2 _ λv G2 H2 g2 hv=>by
  obtain⟨p,xs,rfl,hp,hxs⟩:=hv.tup;have hlen:=hxs.length;refine hl _ _ (hh _ _ ⟨p,xs,rfl,g2.gh.tup hp,λhw=>?_,λhw q hq=>?_⟩)
  .refine k _ _ _ g2 ?_;rw[hlen]at hw;rw[hw.1,hw.2,drop_zero,sub_zero,NQ (Ik _)];exact XX hp hxs
  .have g:=YF (o:=.tup (zgO xs lo hi)) g2.gh hq;refine k _ _ _ (g2.trans g) (XX (SqT.of Zo) ?_);have q:=Qn (HT.sIx ds.length ds.length hi-HT.sIx ds.length 0 lo) (Qc (HT.sIx ds.length 0 lo) (hxs.same g.gg));rw[← hlen]at q ⊢;exact q
end
end L2
namespace Frac
noncomputable def cmp(a b:Int×Int):Int:=if a.1*b.2<b.1*a.2 then -1 else if a.1*b.2>b.1*a.2 then 1 else 0
end Frac
namespace Lw
open PySem L2 Frac
def zo5:bootBuiltins "abs" = some (.builtin "abs"):=by decide +kernel
def zoL:bootBuiltins "isinstance" = some (.builtin "isinstance"):=by decide +kernel
def zi0:bootBuiltins "tuple" = some (.type "tuple"):=by decide +kernel
def zn7:bootBuiltins "bool" = some (.type "bool"):=by decide +kernel
def zgX:bootBuiltins "int" = some (.type "int"):=by decide +kernel
def znQ:bootBuiltins "all" = some (.builtin "all"):=by decide +kernel
def w0{i:Int}(h:i.natAbs<10^100):i.natAbs<2^4000:=IA h (by decide +kernel)
def mw{i j:Int}(h:i.natAbs<10^100)(h' : j.natAbs<10^100):zhj i j:=⟨w0 h,w0 h'⟩
def YK{H:Hp}{p:AD}{o:HO}(hp:H p=none):ZF H (upd H p o):=λb u e=>by rw[Zr (Zy e hp)];exact e
end Lw
namespace Ord
open PySem
abbrev S(x:String):Str:=Str.ofString x
noncomputable def zb5(want:Str):List (LB):=
 if want=S "order" then[[S "like"],[S "up",S "field"],[S "down",S "field"],[S "then",S "order",S "order"],[S "turn",S "order"],[S "pick",S "case",S "order",S "order"]]
 else if want=S "case" then[[S "same",S "field"],[S "both",S "mark"],[S "either",S "mark"],[S "not",S "case"],[S "and",S "case",S "case"],[S "or",S "case",S "case"]]
 else[[S "under",S "field",S "number"],[S "is",S "field",S "number"]]
inductive Wd where
 |t (x:Str)
 |n (a b:Int)
noncomputable def Wd.d:Wd->PD
 |.t x=>.str x
 |.n a b=>.tuple [.int a,.int b]
inductive Step(ae:Str->Prop)(num:Int->Int->Prop):LB->Wd->LB->Prop
 |field {x:Str}{st:LB}:ae x->Step ae num (S "field" :: st) (.t x) st
 |number {a b:Int}{st:LB}:num a b->Step ae num (S "number" :: st) (.n a b) st
 |word {want x:Str}{ps st:LB}:want≠S "field" -> want≠S "number" -> (x::ps)∈zb5 want->Step ae num (want::st) (.t x) (ps++st)
inductive Run(ae:Str->Prop)(num:Int->Int->Prop):LB->List Wd->LB->Prop
 |nil {st:LB}:Run ae num st [] st
 |cons {st st1 st2:LB}{w:Wd}{ws:List Wd}:Step ae num st w st1->Run ae num st1 ws st2->Run ae num st (w::ws) st2
def J9(ae:Str->Prop)(num:Int->Int->Prop)(ws:List Wd):Prop:=Run ae num [S "order"] ws []
def zff(want:Str):∀ o∈zb5 want,∃ x ps,o=x::ps/\ps.length<=3/\∀ p∈ps,p=S "order" \/ p=S "case" \/ p=S "mark" \/ p=S "field" \/ p=S "number" := by
 unfold zb5;intro o ho;have:o.length<=4/\o≠[]/\∀ p∈o.drop 1,p=S "order" \/ p=S "case" \/ p=S "mark" \/ p=S "field" \/ p=S "number" := by
  split at ho
  .revert o;decide +kernel
  .split at ho
   .revert o;decide +kernel
   .revert o;decide +kernel
 cases o with
 |nil=>exact absurd rfl this.2.1
 |cons x ps=>exact⟨x,ps,rfl,by have:=this.1;simp at this;omega,this.2.2⟩
end Ord
namespace L2
open PySem PySem.Spec PyProof.Rows
structure zb0(K:FG)(P:Params)(a:AD)(g:Str->Option (V×Value)):Prop where
 ex:∃(es:Array DictEntry)(n:Nat),K.lookup a=some ⟨.type "dict",none,.dict es n,#[]⟩/\KeysLit P es.toList
 lo:(a==sysModules)=false
 at_:∀ x,PySem.W.nsIn K a x=some ((g x).map (·.2))
 rel:∀ x v u,g x=some (v,u)->RelV v u
section
variable {X:Cx}
def zma:OpR X (compareOp .In) (λx y H Q=>∃ z a g,x = .str z/\y = .ref a/\zb0 X.K X.w.params a g/\Q (.bl (g z).isSome) H):=by intro aa s σ H x y v u Q I rx ry h;obtain⟨z,a,g,rfl,rfl,D,q⟩:=h;obtain⟨t,rfl⟩:=rx;cases ry;obtain⟨es,n,hl,hk⟩:=D.ex;obtain⟨m,F⟩:=I.fr;refine PySem.W.topIn_K F I.mod.kin hl hk (D.at_ z) D.lo ⟨.bl _,H,I.tok _,rfl,?_⟩;rw[Option.isSome_map];exact q
def zbM:IxR X (λx y H Q=>∃ z a g v u,x = .ref a/\y = .str z/\zb0 X.K X.w.params a g/\g z=some (v,u)/\Q v H):=by intro value slice aa s σ H x y v u Q I rx ry h hs;obtain⟨z,a,g,v',u',rfl,rfl,D,e,q⟩:=h;cases rx;obtain⟨t,rfl⟩:=ry;obtain⟨es,n,hl,hk⟩:=D.ex;obtain⟨m,F⟩:=I.fr;exact PySem.W.topItem_K F I.mod.kin hl hk (by rw[D.at_ z,e];rfl) ⟨v',H,I.tok _,D.rel z v' u' e,q⟩ hs
end
def zgi:typeLookup (.type "tuple") "__reversed__" = pure none:=by rw[Ot,NU];kernel_rfl
def zfL:typeLookup (.type "tuple") "__getitem__" = pure (some (.builtin "tuple.__getitem__")):=by rw[Ot,NU];kernel_rfl
def zeG:isSubtype (.type "tuple") (.type "dict")=pure false:=by rw[OD];kernel_rfl
def zbA(t:AD)(items:Array Value)(n:Nat)(dct:Option AD)(sl:Array (LG))(hsz:items.size<=sizeLine):
  Meets (Builtin.«reversed.__new__» ⟨[.type "reversed",.ref t],[]⟩) (λ_ R s=>s.heap.get? t=some {cls:=.type "tuple",dict:=dct,data:=.seq items n,slots:=sl}/\
   R (.ok (.ret (Value.ref s.heap.objs.size))) {s with heap:=s.heap.push {cls:=.type "reversed",data:=.fields #[.ref t,rawInt ((items.size:Int)-1)]},toks:=s.toks+1+1}):=
 .of_wp λprog w A R s h=>by
  obtain⟨hp,g,d,tk,os⟩:=s;obtain⟨q1,h⟩:=h;have hT:TypeIs ⟨hp,g,d,tk,os⟩ (.ref t) "tuple" := ⟨_,q1,rfl⟩
  unfold Builtin.«reversed.__new__»;refine Ia (OA (newClass_reversed _) ?_)
  try dsimp only
  refine Ia (OA (a:=()) (by first | rfl | kernel_rfl) ?_);refine Ia (OA (a:=()) (by first | rfl | kernel_rfl) ?_)
  try dsimp only
  refine Ia (NI hT zgi ?_)
  try dsimp only
  have hz:IsTup hp t items:=⟨_,q1,rfl,n,rfl⟩
  have z62:sizeLine<2^62:=by decide
  have hf:(items.size:Int)<2^63:=by omega
  wp_walk using NO (b:=false) hT zeG,NI hT zfL,len_tuple (s:=⟨hp,g,d,tk,os⟩) hz hf
  exact⟨_,rfl,h⟩
def zhe:Slot "reversed" "__init__" "object.__init__" :=
 .of (owner:= "object") (n:= "__init__") (by rw[Ot,NU];kernel_rfl) (by decide +kernel) (by decide +kernel) (by decide +kernel)
  (by first | exact .inl (by decide +kernel) | exact .inr (by decide +kernel)) (by rw[OD];kernel_rfl)
def zeJ:TypeCalled "reversed" "reversed.__new__" "object.__init__" :=⟨(by decide +kernel),(by decide +kernel),⟨_,_,F.mro_reversed⟩,F.made_reversed,(by decide +kernel),by rw[OD];kernel_rfl,zhe⟩
noncomputable def zkK(t:AD)(i:Int):Obj:={cls:=.type "reversed",data:=.fields #[.ref t,rawInt i]}
section
variable {prog:Program}{w:World}{A:Around}{E:Value->SH->Prop}{s:SH}
def zcL{t:AD}{items:Array Value}{Q:Value->SH->Prop}(ht:IsTup s.heap t items)(hsz:items.size<=sizeLine)(h:Q (.ref s.heap.objs.size) {s with heap:=s.heap.push (zkK t ((items.size:Int)-1)),toks:=s.toks+1+1}):wpAny (model prog w) A (call (.type "reversed") [.ref t]) Q E s:=by
 obtain⟨⟨c,dct,dt,sl⟩,e1,e2,n,e3⟩:=ht
 replace e2:c = .type "tuple" := e2
 replace e3:dt = .seq items n:=e3
 subst e2 e3;exact callType_new zeJ (by decide) (F.typeCall_reversed_1 _) (F.newCall_reversed_1 _) (λobj=>F.args_object_init_2 obj _) F.entry_reversed_new (zbA t items n dct sl hsz) ⟨e1,⟨_,Io _ rfl,rfl⟩,h⟩
end
def zdX:Manifest.owners.lookup (String.ofList ['d', 'e', 's', 'r', 'e', 'v', 'e', 'r'].reverse)=some Manifest.sig_reversed:=by kernel_rfl
def zag:Slot "reversed" "__next__" "reversed.__next__" :=
 .of (owner:= "reversed") (n:= "__next__") (by rw[Ot,NU];kernel_rfl) (by decide +kernel) (by decide +kernel) (by decide +kernel)
  (by first | exact .inl (by decide +kernel) | exact .inr (by decide +kernel)) (by rw[OD];kernel_rfl)
def zdy:entryFor table "reversed.__next__" = some Builtin.«reversed.__next__» := entryFor_of_tree (by kernel_rfl)
def zeW(a:Value):argsOk "reversed.__next__" ⟨[a],[]⟩:=by unfold argsOk;rw[signature?_of (id:= "reversed.__next__") (n:=['_', '_', 't', 'x', 'e', 'n', '_', '_']) (o:=['d', 'e', 's', 'r', 'e', 'v', 'e', 'r']) (by kernel_rfl) zdX];kernel_rfl
def zeg:Slot "reversed" "__iter__" "reversed.__iter__" :=
 .of (owner:= "reversed") (n:= "__iter__") (by rw[Ot,NU];kernel_rfl) (by decide +kernel) (by decide +kernel) (by decide +kernel)
  (by first | exact .inl (by decide +kernel) | exact .inr (by decide +kernel)) (by rw[OD];kernel_rfl)
def zh2(a:Value):argsOk "reversed.__iter__" ⟨[a],[]⟩:=by unfold argsOk;rw[signature?_of (id:= "reversed.__iter__") (n:=['_', '_', 'r', 'e', 't', 'i', '_', '_']) (o:=['d', 'e', 's', 'r', 'e', 'v', 'e', 'r']) (by kernel_rfl) zdX];kernel_rfl
def zfm:entryFor table "reversed.__iter__" = some Builtin.«dict_keyiterator.__iter__» :=entryFor_alias (id' := "dict_keyiterator.__iter__") (by kernel_rfl) (by first | rfl | decide +kernel | (unfold String.splitOn;simp +decide [String.splitOnAux])) (by decide +kernel) (by kernel_rfl)
def zfD(h:Heap)(a t:AD)(i:Int):Prop:=∃ o,h.get? a=some o/\o.cls = .type "reversed" /\ o.data = .fields #[.ref t,rawInt i]
def zfD.ty{s:SH}{a t:AD}{i:Int}(x:zfD s.heap a t i):s.TypeIs (.ref a) "reversed" := let ⟨o,ho,hc,_⟩:=x;⟨o,ho,hc⟩
section
variable {prog:Program}{w:World}{A:Around}{E:Value->SH->Prop}{s:SH}
def zkP{it t:AD}{i:Nat}{items:Array Value}{x:Value}{Q:LG->SH->Prop}(hit:zfD s.heap it t (i:Int))(ht:IsTup s.heap t items)(hx:items[i]?=some x)(hi:(i:Int)<2^62)(hQ:∀ h' tk,zfD h' it t ((i:Int)-1)->SameBut it s.heap h' -> Q (some x) {s with heap:=h',toks:=tk}):wpAny (model prog w) A (pyNext (.ref it)) Q E s:=by
 obtain⟨o,ho,hc,hd⟩:=id hit;have hlt:i<items.size:=by
  rcases Nat.lt_or_ge i items.size with z | z
  .exact z
  .rw[Array.getElem?_eq_none z]at hx;cases hx
 unfold pyNext;refine Ia (N1 (IM (name:=Str.ofString "__next__") hit.ty zag (IP zag hit.ty zdy ?_ (zeW _))));unfold Builtin.«reversed.__next__»;refine Ia (OA (a:=(Value.ref it,[])) rfl ?_)
 try dsimp only
 refine Ia (IW ho hd (x:=.ref t) rfl ?_);refine Ia (IW ho hd (x:=rawInt (i:Int)) rfl ?_);show wpAny _ _ (if(i:Int)<0 then _ else _) _ _ s;rw[Im (by omega)];refine Ia (NI ht.typeIs zfL ?_);show wpAny _ _ (if(some (Value.builtin "tuple.__getitem__")).isNone=true then _ else _) _ _ _;rw[Im (by decide)];refine Ia (wpAny_mkInt ?_);refine Ia (N1 (getItem_tuple (s:={s with toks:=s.toks+1}) ht (by omega) (by omega) (j:=i) (by unfold seqIndex?;simp;omega) hx ?_));refine Ia (IW (s:={s with toks:=s.toks+1}) ho hd (x:=rawInt (i:Int)) rfl ?_)
 try dsimp only
 refine Ia (Ol (s:={s with toks:=s.toks+1}) ho hd (by simp) ?_);refine Ic ⟨x,rfl,Ic (hQ _ _ ?_ (SameBut.update ..))⟩;exact⟨_,NV _ ho (Oy (NL hd _)),(Obj.cls_mapFields ..).trans hc,by
  rw[NL hd];simp⟩
def zmq{it t:AD}{Q:LG->SH->Prop}(hh:A.handled=none)(hit:zfD s.heap it t (-1))(hQ:∀ h',ExtBut it s.heap h' -> Q none {s with heap:=h'}):wpAny (model prog w) A (pyNext (.ref it)) Q E s:=by
 obtain⟨o,ho,hc,hd⟩:=id hit;unfold pyNext;refine Ia (N1 (IM (name:=Str.ofString "__next__") hit.ty zag (IP zag hit.ty zdy ?_ (zeW _))));unfold Builtin.«reversed.__next__»;refine Ia (OA (a:=(Value.ref it,[])) rfl ?_)
 try dsimp only
 refine Ia (IW ho hd (x:=.ref t) rfl ?_);refine Ia (IW ho hd (x:=rawInt (-1)) rfl ?_);show wpAny _ _ (if(-1:Int)<0 then _ else _) _ _ s;rw[Iq (by decide)];refine Ia (NY ?_);refine Ia ?_;show wpAny _ _ (setField (.ref it) 1 (rawInt (-1)) >>= λ_=>setField (.ref it) 0 .none) _ _ s;refine Ia (Ol ho hd (by simp) ?_);have ho2:=NV (Obj.mapFields λf=>f.setIfInBounds 1 (rawInt (-1))) ho (Oy (NL hd _));refine Ol ho2 (NL hd _) (by simp) ?_;refine Ia ?_;show wpAny _ _ (newExc (.type "StopIteration") [] >>= _) _ _ _;refine Ia ?_;simp only[newExc,newTuple];refine Ia (IK ?_ (by size_fits));refine Ia (m:=firstArgMember _ _) (OA (a:=Value.none) (by first | rfl | (simp only[firstArgMember];rfl)) ?_);refine IK ?_ (by size_fits);simp only[raiseNew];refine Ia (wpAny_handled ?_);rw[show A.in1.handled=none from hh];refine Ia (Ic (wpAny_throw ?_));refine Ia (NO (T:= "StopIteration") (b:=true) ⟨_,Io _ rfl,rfl⟩ isSubtype_stop ?_);refine Ic (hQ _ ((ExtBut.push (ExtBut.push (λb o hb e=>?_) _) _)));exact(NF _ _ (Ne.symm hb)).trans ((NF _ _ (Ne.symm hb)).trans e)
def zfe{it t:AD}{i:Int}{Q:Value->SH->Prop}(hit:zfD s.heap it t i)(h:Q (.ref it) s):wpAny (model prog w) A (pyIter (.ref it)) Q E s:=by refine wpAny_pyIter_slot hit.ty zeg (IP zeg hit.ty zfm ?_ (zh2 _));show wpAny _ _ (ret (.ref it)) _ _ s;exact Ic ⟨_,rfl, "reversed",_,hit.ty,zag.lookup,h⟩
end
def zfD.at{h h' : Heap}{a l:AD}{i:Int}(x:zfD h a l i)(e:∀ o,h.get? a=some o->h'.get? a=some o):zfD h' a l i:=let ⟨o,ho,r⟩:=x;⟨o,e _ ho,r⟩
section
variable {X:Cx}
noncomputable def Itv(K:FG)(a:AD)(n:Nat):It:=⟨λi H=>i<n/\∃ xs,SqT K H a xs/\xs.length=n,λi H x H' => H'=H/\∀ xs,SqT K H a xs->xs.reverse[i]?=some x,λi H=>i=n/\∃ xs,SqT K H a xs⟩
def zh6{P:Program}{w:World}{K:FG}{tg:Expr}(a it:AD)(n:Nat):Turn P w K tg (Itv K a n) [it] it (λi h=>zfD h it a ((n:Int)-1-(i:Int))) where
 mem:=by simp
 obj:=λi h st b hb=>by
  have e:b=it:=by simpa using hb
  subst e;obtain⟨o,e,c,d⟩:=st;exact⟨o,e,λv z=>by rw[d]at z;cases z⟩
 keep:=λi h h' st k=>st.at λo e=>k it (by simp) o e
 item:=by
  intro X hP hw hK hc i aa s σ H E I hf st hg;subst hP hw hK;obtain⟨hi,xs,hq,hl⟩:=hg;obtain⟨its,rv,p,hz⟩:=I.tuple hq;have z62:sizeLine<2^62:=by decide
  have hx:xs.reverse[i]?=some (xs.reverse[i]'(by rw[OB];omega)):=Ib _;obtain⟨u,hu,ru⟩:=rv.reverse.get hx;obtain⟨f0,f1,f2,f3,f4,f5⟩:=hf it (by simp);have e1:(n:Int)-1-(i:Int)=((n-1-i:Nat):Int):=by omega
  have st1:=st;rw[e1]at st1;have hl' : its.length=n:=by rw[← rv.length];exact hl
  have hu' : its.toArray[n-1-i]?=some u:=by rw[List.getElem?_reverse (by omega)]at hu;simpa [hl']using hu
  refine zkP st1 p hu' (by omega) λh' tk st' sb=>?_;have I1:Inv X aa σ H {s with heap:=h',toks:=tk}:=I.turned (λb o hb e=>(sb.2 b hb).trans e) f0 f1 f3 f4 f5;have e2:((n-1-i:Nat):Int)-1=(n:Int)-1-((i+1:Nat):Int):=by omega
  rw[e2]at st';obtain⟨o,e,c,d⟩:=id st';exact⟨u,rfl,zim (s:={s with heap:=h',toks:=tk}) e c d (by decide) ⟨_,H,I1,ru,⟨rfl,λys hy=>by rw[I.Vm hy hq];exact hx⟩,st',λb hb=>(hf b hb).1⟩⟩
 done:=by
  intro X hP hw hK hc i aa s σ H E I hf st hg;subst hP hw hK;obtain⟨rfl,xs,hq⟩:=hg;obtain⟨f0,f1,f2,f3,f4,f5⟩:=hf it (by simp);have e1:(i:Int)-1-(i:Int) = -1:=by omega
  rw[e1]at st;exact zmq (I.ok.hd hc) st λh' eb=>⟨rfl,I.turned (t':=s.toks) (λb o hb e=>eb b o hb e) f0 f1 f3 f4 f5⟩
 self:=λ_ _ _ _ _ st h=>zfe st h
def zoW(K:FG)(tl:TE):TI:=fun σ H R=>tl σ H λx H1=>∃ a xs,x = .ref a/\SqT K H1 a xs/\R (Itv K a xs.length) H1
def zlb{tg l:Expr}{tl:TE}{p2 q2:Pos}(hg2:Gl X "reversed")(hm2:X.mg "reversed" = none)(hl:PE X l tl)(hs2:starEach [l] X.env=[(false,eval l X.env)]:=by rfl):PI X tg (.Call (.Name "reversed" p2) [l] [] q2) (zoW X.K tl):=by
 intro aa s σ H R I h;refine Nt (QT I hg2 hm2 zhX (Nl ?_ hs2 rfl));rw[hs2];show wpAny _ _ (spliced [(false,eval l X.env)]) _ _ s;refine spliced_cons (thn (hl aa s σ H _ I h) λv s1 ⟨x,H1,I1,r1,q1⟩=>spliced_nil ?_);obtain⟨a,xs,e,hq,q⟩:=q1;subst e;cases r1;obtain⟨its,rv,p,hz⟩:=I1.tuple hq;have hsz:its.toArray.size<=sizeLine:=by rw[Ix,← rv.length];exact hz
 refine zcL p hsz ?_;have it1:zfD (s1.heap.push (zkK a ((its.toArray.size:Int)-1))) s1.heap.objs.size a ((xs.length:Int)-1-((0:Nat):Int)):=by refine⟨_,Io _ rfl,rfl,?_⟩;show Data.fields #[.ref a,rawInt ((its.toArray.size:Int)-1)]=_;rw[Ix,← rv.length];simp
 refine zfe (s:={s1 with heap:=s1.heap.push (zkK a ((its.toArray.size:Int)-1)),toks:=s1.toks+1+1}) it1 ?_;refine⟨s1.heap.objs.size,[s1.heap.objs.size],_,_,H1,rfl,I1.kept (t':=s1.toks+1+1) λb o e=>Ih _ e,zh6 a _ xs.length,it1,λb hb=>?_,q⟩;have e:b=s1.heap.objs.size:=by simpa using hb
 subst e;exact I1.zjT (Ik _) (I1.ad.fresh (Ik _))
end
noncomputable def zhr(K:FG):Value->Option (LF)
 |.ref a=>(match K.lookup a with
  |some o=>(match o.cls,o.data with
   |.type n,.seq its _=>if n == "tuple" && its.size<=8 then some its.toList else none
   |_,_=>none)
  |none=>none)
 |_=>none
noncomputable def zbe:LF->Option (LB)
 |[]=>some []
 |.str x _::r=>(zbe r).map (x :: ·)
 |_=>none
noncomputable def znx(K:FG)(e:DictEntry)(r:Str×Str×LB):Bool:=
 match e.key with
 |.str x _=>x==r.1&&(match zhr K e.val with
  |some [.str k _,v2]=>k==r.2.1&&(match zhr K v2 with
   |some its=>zbe its==some r.2.2
   |none=>false)
  |_=>false)
 |_=>false
noncomputable def zcA(K:FG):List DictEntry->List (Str×Str×LB)->Bool
 |[],[]=>true
 |e::es,r::rs=>znx K e r&&zcA K es rs
 |_,_=>false
noncomputable def gOf(es:List DictEntry)(z:Str):Option (V×Value):=(es.find? (·.key.isStr z)).map λe=>((zox e.val).getD .non,e.val)
def zch{K:FG}{v:Value}{its:LF}(h:zhr K v=some its):∃ a,v = .ref a/\∀(H:Hp)(xs:LC),Vals xs its->SqT K H a xs:=by
 unfold zhr at h;cases v with
 |ref a=>
  dsimp only at h;refine⟨a,rfl,λH xs hv=>?_⟩;cases hk:K.lookup a with
  |none=>rw[hk]at h;cases h
  |some o=>
   rw[hk]at h;dsimp only at h;split at h
   .rename_i n its' m hc hd
    split at h
    .rename_i hz
     injection h with h;subst h;simp only[IR,beq_iff_eq,decide_eq_true_eq]at hz;exact .inr ⟨o,its',m,hk,by rw[hc,hz.1],hd,ND hz.2 (by decide),hv⟩
    .cases h
   .cases h
 |_=>cases h
theorem zaN:∀{l:LF}{xs:LB},zbe l=some xs->Vals (xs.map V.str) l
 |[],xs,h=>by unfold zbe at h;injection h with h;subst h;exact .nil
 |v::r,xs,h=>by
  unfold zbe at h;split at h
  .rename_i e;cases e
  .rename_i x t r' e
   injection e with e1 e2;subst e1 e2;cases hr:zbe r with
   |none=>rw[hr]at h;cases h
   |some ys=>rw[hr]at h;injection h with h;subst h;exact .cons ⟨_,rfl⟩ (zaN hr)
  .cases h
def U9{K:FG}{e:DictEntry}{r:Str×Str×LB}(h:znx K e r=true):(∃ t,e.key = .str r.1 t)/\∃ a,e.val = .ref a/\∀ G:Hp,Dat K G (.ref a) (.tuple [.str r.2.1,.tuple (r.2.2.map PyData.str)]):=by
 unfold znx at h;split at h
 .rename_i x t hk
  rw[IR,beq_iff_eq]at h;obtain⟨rfl,h⟩:=h;refine⟨⟨t,hk⟩,?_⟩;split at h
  .rename_i k t2 v2 ht
   rw[IR,beq_iff_eq]at h;obtain⟨rfl,h⟩:=h;split at h
   .rename_i its hi
    rw[beq_iff_eq]at h;obtain⟨a,ha,sa⟩:=zch ht;obtain⟨b,hb,sb⟩:=zch hi;refine⟨a,ha,λG=>XX (sa G [.str r.2.1,.ref b] (.cons ⟨_,rfl⟩ (.cons (by rw[hb];rfl) .nil))) (ZV (XR _) (ZV (XX (sb G _ (zaN h)) ?_) Z9))⟩;exact dats_strs' _
   .cases h
  .cases h
 .cases h
where
 dats_strs' {K:FG}{G:Hp}:∀ ws:LB,YB K G (ws.map V.str) (ws.map PyData.str)
  |[]=>Z9
  |w::ws=>ZV (XR w) (dats_strs' ws)
def zca{x z:Str}{t:Tok}:(Value.str x t).isStr z=decide (x=z):=by
 unfold Value.isStr;by_cases h:x=z
 .subst h;simp
 .simp[h]
theorem zaa{K:FG}(z:Str):∀{es:List DictEntry}{rs:List (Str×Str×LB)},zcA K es rs=true->
  (es.find? (·.key.isStr z)=none/\rs.find? (λr=>decide (r.1=z))=none)\/∃ e r,es.find? (·.key.isStr z)=some e/\rs.find? (λr=>decide (r.1=z))=some r/\znx K e r=true
 |[],[],_=>.inl ⟨rfl,rfl⟩
 |[],_::_,h=>by cases h
 |_::_,[],h=>by cases h
 |e::es,r::rs,h=>by
  unfold zcA at h;rw[IR]at h;obtain⟨⟨t,hk⟩,_⟩:=U9 h.1;have q:e.key.isStr z=decide (r.1=z):=by rw[hk];exact zca
  rw[OO,OO,q];by_cases hz:r.1=z
  .rw[Ip hz];exact .inr ⟨e,r,rfl,rfl,h.1⟩
  .rw[Iw hz];exact zaa z h.2
theorem zb1{K:FG}:∀{es:List DictEntry}{rs:List (Str×Str×LB)},zcA K es rs=true->es.any (·.refKey)=false
 |[],[],_=>rfl
 |[],_::_,h=>by cases h
 |_::_,[],h=>by cases h
 |e::es,r::rs,h=>by unfold zcA at h;rw[IR]at h;obtain⟨⟨t,hk⟩,_⟩:=U9 h.1;rw[any_cons,zb1 h.2,Bool.or_false];unfold DictEntry.refKey;rw[hk]
def zhx{K:FG}{P:Params}{a:AD}{es:Array DictEntry}{n:Nat}{rs:List (Str×Str×LB)}(hl:K.lookup a=some ⟨.type "dict",none,.dict es n,#[]⟩)(hk:KeysLit P es.toList)(lo:(a==sysModules)=false)(h:zcA K es.toList rs=true):zb0 K P a (gOf es.toList)/\∀ z,(rs.find? (λr=>decide (r.1=z))=none/\gOf es.toList z=none)\/∃ r v u,rs.find? (λr=>decide (r.1=z))=some r/\gOf es.toList z=some (v,u)/\∀ G:Hp,Dat K G v (.tuple [.str r.2.1,.tuple (r.2.2.map PyData.str)]):=by
 refine⟨⟨⟨es,n,hl,hk⟩,lo,λx=>?_,λx v u e=>?_⟩,λz=>?_⟩
 .unfold PySem.W.nsIn;rw[hl];dsimp only;unfold gOf;rcases zaa x h with⟨e1,_⟩ | ⟨e,r,e1,_,_⟩
  .rw[e1,zb1 h];rfl
  .rw[e1];rfl
 .unfold gOf at e;rcases zaa x h with⟨e1,_⟩ | ⟨e',r,e1,_,ok⟩
  .rw[e1]at e;cases e
  .rw[e1]at e;obtain⟨_,a',ha,_⟩:=U9 ok;rw[map_some]at e;injection e with e;injection e with e1 e2;subst e1 e2;rw[ha];rfl
 .rcases zaa z h with⟨e1,e2⟩ | ⟨e,r,e1,e2,ok⟩
  .exact .inl ⟨e2,by unfold gOf;rw[e1];rfl⟩
  .obtain⟨_,a',ha,hd⟩:=U9 ok;refine .inr ⟨r,.ref a',e.val,e2,?_,hd⟩;unfold gOf;rw[e1,map_some,ha];rfl
end L2
namespace Ord
open PySem L2
noncomputable def zaJ:List (Str×Str×LB):=
 [(S "like",S "order",[]),(S "up",S "order",[S "field"]),(S "down",S "order",[S "field"]),(S "then",S "order",[S "order",S "order"]),(S "turn",S "order",[S "order"]),(S "pick",S "order",[S "case",S "order",S "order"]),
  (S "same",S "case",[S "field"]),(S "both",S "case",[S "mark"]),(S "either",S "case",[S "mark"]),(S "not",S "case",[S "case"]),(S "and",S "case",[S "case",S "case"]),(S "or",S "case",[S "case",S "case"]),
  (S "under",S "mark",[S "field",S "number"]),(S "is",S "mark",[S "field",S "number"])]
noncomputable def Yr(z:Str):Option (Str×Str×LB):=zaJ.find? (λr=>decide (r.1=z))
structure Wds(K:FG)(P:Params)(mg:Str->LG) where
 a:AD
 g:Str->Option (V×Value)
 m:mg "WORDS" = some (.ref a)
 D:zb0 K P a g
 no:∀ z,Yr z=none->g z=none
 yes:∀ z r,Yr z=some r->∃ v u,g z=some (v,u)/\∀ G:Hp,Dat K G v (.tuple [.str r.2.1,.tuple (r.2.2.map PyData.str)])
def zmJ{K:FG}{P:Params}{mg:Str->LG}{a:AD}{es:Array DictEntry}{n:Nat}(hm:mg "WORDS" = some (.ref a))(hl:K.lookup a=some ⟨.type "dict",none,.dict es n,#[]⟩)(hk:KeysLit P es.toList)(lo:(a==sysModules)=false)(h:zcA K es.toList zaJ=true):Nonempty (Wds K P mg):=by
 obtain⟨D,q⟩:=zhx hl hk lo h;refine⟨⟨a,_,hm,D,λz e=>?_,λz r e=>?_⟩⟩
 .rcases q z with⟨_,e1⟩ | ⟨r,v,u,e1,_⟩
  .exact e1
  .rw[show Yr z=_ from e1]at e;cases e
 .rcases q z with⟨e1,_⟩ | ⟨r',v,u,e1,e2,hd⟩
  .rw[show Yr z=_ from e1]at e;cases e
  .rw[show Yr z=_ from e1]at e;injection e with e;subst e;exact⟨v,u,e2,hd⟩
def zez:∀ want∈[S "order",S "case",S "mark"],∀ o∈zb5 want,∃ x ps,o=x::ps/\Yr x=some (x,want,ps):=by
 intro want hw;simp only[IE,Nz,Od]at hw;have key:∀ want∈[S "order",S "case",S "mark"],∀ o∈zb5 want,o≠[]/\Yr (o.headD (S ""))=some (o.headD (S ""),want,o.tail):=by decide +kernel
 intro o ho;have q:=key want (by simpa using hw) o ho;cases o with
 |nil=>exact absurd rfl q.1
 |cons x ps=>exact⟨x,ps,rfl,q.2⟩
end Ord
namespace Rdo
open PySem Ord L2 Frac
def zcm{z:Str}{r:Str×Str×LB}(h:Yr z=some r):r∈zaJ/\r.1=z:=by unfold Yr at h;exact⟨List.mem_of_find?_eq_some h,by have:=List.find?_some h;simpa using this⟩
def zac{ae:Str->Prop}{num:Int->Int->Prop}{st st1:LB}{w:Wd}(h:Step ae num st w st1)(hs:∀ x∈st,x∈[S "order",S "case",S "mark",S "field",S "number"]):
  (∃ x st0,st=S "field" :: st0/\w = .t x/\ae x/\st1=st0)\/(∃ a b st0,st=S "number" :: st0/\w = .n a b/\num a b/\st1=st0)\/
  ∃ want x ps st0,st=want::st0/\w = .t x/\want≠S "field" /\ want≠S "number" /\ Yr x=some (x,want,ps)/\ps.length<=3/\st1=ps++st0:=by
 cases h with
 |field hx=>exact .inl ⟨_,_,rfl,rfl,hx,rfl⟩
 |number hx=>exact .inr (.inl ⟨_,_,_,rfl,rfl,hx,rfl⟩)
 |@word want x ps st0 n1 n2 ho=>
  have hw:=hs want ID;have hw3:want∈[S "order",S "case",S "mark"]:=by
   simp only[IE,Nz,Od]at hw ⊢;rcases hw with z | z | z | z | z
   .exact .inl z
   .exact .inr (.inl z)
   .exact .inr (.inr z)
   .exact absurd z n1
   .exact absurd z n2
  obtain⟨y,qs,e,hy⟩:=zez want hw3 _ ho;injection e with e1 e2;subst e1 e2;obtain⟨x',ps',e,hl,_⟩:=zff want _ ho;injection e with e1 e2;subst e1 e2;exact .inr (.inr ⟨want,x,ps,st0,rfl,rfl,n1,n2,hy,hl,rfl⟩)
end Rdo
namespace L2
open PySem PySem.Spec PyProof.Rows
variable {ds:LA}{c e:Bool}{v:V}{k i ep tk:Nat}{H:Hp}{p a f i1 i2 a1 a2:AD}{xs vs:LC}{u:TS}{te:TE}{Q:Value->SH->Prop}{lo hi:LI}{x qual:Str}{j:Int}{js:List Nat}{tt:TT}{α β:Type}{N ps:LB}{fd:FuncData}{h h':Heap}{es:Array DictEntry}{pos tpos:Pos}{σ vals:St}{elts:List Expr}{params:Arguments}{ns:LX}
section
variable {K:FG}{σ:St}{G:Hp}{ta tb:TE}
def zjF{t:TA}{b:Bool}(h:EvA K t σ G [.bool b]):Ev K (tCB (λxs H Q=>(∃ i,xs=[.int i]/\Q (.int i) H)\/∃ k,xs=[.bl k]/\Q (.int (if k then 1 else 0)) H) t) σ G (.int (if b then 1 else 0)):=
 zfz h λG1 H xs Q s1 s2 hx k=>by obtain⟨y,r,rfl,hy,hr⟩:=hx.cons;cases hr.nil;cases hy.bl;exact .inr ⟨b,rfl,k _ G1 H (YH.refl s2) (Zv _)⟩
def zke{ts:TO}(ha:Ev K ta σ G (.tuple ds))(hs:∀ H (Q:LI->Hp->Prop),Q (some (-1)) H->ts σ H Q):Ev K (zjP K ta ts) σ G (.tuple ds.reverse):=
 λG1 H s1 s2 Q k=>ha G1 H s1 s2 _ λv G2 H2 g2 hv=>by obtain⟨p,xs,rfl,hp,hxs⟩:=hv.tup;refine hs _ _ ⟨rfl,p,xs,rfl,g2.gh.tup hp,λq hq=>?_⟩;have g:=YF (o:=.tup xs.reverse) g2.gh hq;exact k _ _ _ (g2.trans g) (XX (SqT.of Zo) (U7 (hxs.same g.gg)))
end
section
variable {X:Cx}
def zoq(g:Bool->Bool):R2:=λx y H Q=>∃ b,y = .bl b/\Q (.bl (g (decide (x = .bl b)))) H
def zfF:OpR X (compareOp .IsNot) (zoq λb=>!b):=by
 intro aa s σ H x y v u Q I rx ry h;obtain⟨b,rfl,q⟩:=h;cases ry;cases x with
 |bl c=>cases rx;refine wpAny_isNot_plain (by rfl) (Yx I q ?_);cases b <;> cases c <;> rfl
 |_=>first
  |(cases rx;exact wpAny_isNot_plain (by rfl) (Yx I q (by first | rfl | (cases b <;> rfl))))
  |(obtain⟨t,rfl⟩:=rx;exact wpAny_isNot_plain (by rfl) (Yx I q (by first | rfl | (cases b <;> rfl))))
end
section
variable {K:FG}{σ:St}{G:Hp}{ta tb:TE}{a b d:PD}
def zm0{g:Bool->Bool}{t:Bool}(h:Ev K ta σ G (.bool c)):Ev K (tOp (zoq g) ta (tC (.bl t))) σ G (.bool (g (decide (c=t)))):=
 QR h zg2 λG1 H u v Q s1 s2 hu hv k=>by rw[hu.bl,hv.bl];refine⟨t,rfl,?_⟩;have e:decide (V.bl c=V.bl t)=decide (c=t):=decide_eq_decide.mpr ⟨λz=>by injection z,λz=>by rw[z]⟩;rw[e];exact k _ G1 H (YH.refl s2) (Yc _)
def zkh{g:Bool->Bool}(ha:Ev K ta σ G a)(hb:Ev K tb σ G b)(sh:SeqAt.shaped a=true/\SeqAt.shaped b=true/\SeqAt.noMix a b=true):Ev K (tOp (ziE K g) ta tb) σ G (.bool (g (PySem.Spec.same a b))):=QR ha hb λG1 H x y Q s1 s2 hx hy k=>⟨G1,a,b,s2,hx,hy,sh,k _ G1 H (YH.refl s2) (Yc _)⟩
noncomputable def kD:Key->PD
 |.inl i=>.int i
 |.inr x=>.str x
def zo2{k:Key}(h:Dat K G v (kD k)):v=kV k:=by
 cases k with
 |inl i=>exact h.int
 |inr x=>exact h.str
end
open PySem PySem.Spec PyProof.Rows Lw
structure Tg where
 ok:AD->LH->Hp->Hp->Prop
 st:∀{p:AD}{fp:LH}{G H G' H' : Hp},ok p fp G H->ZF G G' -> (∀ a∈p::fp,H' a=H a)->ok p fp G' H'
 live:∀{p:AD}{fp:LH}{G H:Hp},ok p fp G H->∀ a∈p::fp,∃ o,H a=some o
inductive PV where
 |un
 |dat (d:PD)
 |own (ds:LA)
 |lnt (p:AD) (ds:LA)
 |scr (ns:LX)
 |val (x:V)
 |thg (T:Tg)
abbrev LD:=List PV
noncomputable def PV.rd:PV->Option (LA)
 |.own ds=>some ds
 |.lnt _ ds=>some ds
 |_=>none
noncomputable def PV.mut:PV->Bool
 |.un=>false
 |.dat _=>false
 |.scr _=>false
 |.val _=>false
 |_=>true
def PV.zl1{v:PV}(h:v.rd=some ds):v.mut=true:=by cases v <;> first | rfl | cases h
def Sl(K:FG)(G H:Hp)(o:Option (Option V)):PV->LH->Prop
 |.un,F=>F=[]
 |.dat d,F=>F=[]/\∃ x,o=some (some x)/\Dat K G x d
 |.own ds,F=>∃ p xs,F=[p]/\o=some (some (.ref p))/\H p=some (.lst xs)/\YB K G xs ds
 |.lnt p ds,F=>∃ xs,F=[p]/\o=some (some (.ref p))/\H p=some (.lst xs)/\YB K G xs ds
 |.scr ns,F=>F=[]/\∃ a,o=some (some (.ref a))/\SqL K G a (ns.map V.int)
 |.val x,F=>F=[]/\o=some (some x)
 |.thg T,F=>∃ p fp,F=p::fp/\o=some (some (.ref p))/\T.ok p fp G H
theorem Sl.rd{K:FG}{G:Hp}{o:Option (Option V)}{v:PV}{F:LH}(s:Sl K G H o v F)(h:v.rd=some ds):∃ p xs,F=[p]/\o=some (some (.ref p))/\H p=some (.lst xs)/\YB K G xs ds:=by
 cases v with
 |own es=>cases h;exact s
 |lnt p es=>cases h;exact⟨p,s⟩
 |_=>cases h
structure Gw(E:AD->Prop)(G0 H0 G H:Hp):Prop where
 gg:ZF G0 G
 gh:ZF G H
 kp:∀ b o,¬ E b->H0 b=some o->H b=some o
 al:∀ b,H b=none->H0 b=none
 fr:∀ b o,G b=some o->G0 b=some o\/H0 b=none
structure Rl(K:FG)(B:Hp)(E:AD->Prop)(G0 H0 G H:Hp)(σ:St)(ρ:LD)(F:Nat->LH):Prop where
 g:Gw E G0 H0 G H
 bb:ZF B G
 ls:σ.length=ρ.length
 sl:∀ i v,ρ[i]?=some v->Sl K G H σ[i]? v (F i)
 fr:∀ i a,a∈F i->G a=none/\(∃ o,H a=some o)/\(E a\/H0 a=none)
 dj:∀ i j a,a∈F i->a∈F j->i=j
 ow:∀ i ds a,ρ[i]?=some (.own ds)->a∈F i->H0 a=none
structure Nw(G H H0:Hp)(F:Nat->LH)(Fv:LH):Prop where
 fr:∀ a∈Fv,G a=none/\(∃ o,H a=some o)/\H0 a=none
 dj:∀ a∈Fv,∀ j,a∉F j
section
variable {K:FG}{B:Hp}{E:AD->Prop}{G0 H0 G H G' H' : Hp}{σ:St}{ρ:LD}{F:Nat->LH}
theorem Gw.refl(s:ZF G H):Gw E G H G H:=⟨ZF.refl _,s,λ_ _ _ h=>h,λ_ h=>h,λ_ _ h=>.inl h⟩
def Gw.grow(g:Gw E G0 H0 G H)(k:YH G H G' H'):Gw E G0 H0 G' H' :=⟨g.gg.trans k.gg,k.gh,λb o n h=>k.hh b o (g.kp b o n h),λb h=>g.al b (k.hh.free h),λb o h=>(k.fr b o h).elim (g.fr b o) λz=>.inr (g.al b z)⟩
def Gw.zdD(g:Gw (λ_=>False) G0 H0 G H):YH G0 H0 G H:=⟨g.gg,g.gh,λb o h=>g.kp b o (λz=>z) h,g.fr⟩
def Sl.grow{o:Option (Option V)}{v:PV}{L:LH}(s:Sl K G H o v L)(gg:ZF G G')(hh:∀ a∈L,H' a=H a):Sl K G' H' o v L:=by
 cases v with
 |un=>exact s
 |dat d=>obtain⟨e,x,hx,hd⟩:=s;exact⟨e,x,hx,hd.same gg⟩
 |own ds=>obtain⟨p,xs,e,hx,hp,hd⟩:=s;exact⟨p,xs,e,hx,by rw[hh p (by rw[e];simp)];exact hp,hd.same gg⟩
 |lnt p ds=>obtain⟨xs,e,hx,hp,hd⟩:=s;exact⟨xs,e,hx,by rw[hh p (by rw[e];simp)];exact hp,hd.same gg⟩
 |scr ns=>obtain⟨e,a,hx,hq⟩:=s;exact⟨e,a,hx,gg.seq hq⟩
 |val x=>exact s
 |thg T=>obtain⟨p,fp,e,hx,ht⟩:=s;exact⟨p,fp,e,hx,T.st ht gg (by rw[← e];exact hh)⟩
theorem Rl.grow(r:Rl K B E G0 H0 G H σ ρ F)(k:YH G H G' H'):Rl K B E G0 H0 G' H' σ ρ F:=by
 have hh:∀ i,∀ a∈F i,H' a=H a:=λi a ha=>by obtain⟨_,⟨o,ho⟩,_⟩:=r.fr i a ha;rw[ho];exact k.hh a o ho
 refine⟨r.g.grow k,r.bb.trans k.gg,r.ls,λi v h=>(r.sl i v h).grow k.gg (hh i),λi a ha=>?_,r.dj,r.ow⟩;obtain⟨h1,⟨o,h2⟩,h3⟩:=r.fr i a ha;exact⟨k.out h2 h1,⟨o,k.hh a o h2⟩,h3⟩
theorem Rl.set{r:PV}{L:LH}(R:Rl K B E G0 H0 G H σ ρ F)(s:Sl K G H (some (some v)) r L)(n:Nw G H H0 F L):Rl K B E G0 H0 G H (σ.set i (some v)) (ρ.set i r) (λk=>if k=i then L else F k):=by
 refine⟨R.g,R.bb,by rw[Og,Og,R.ls],λk u h=>?_,λk a ha=>?_,λk j a ha hb=>?_,λk ds a h ha=>?_⟩
 .by_cases e:k=i
  .subst e;rw[Iq rfl];have hk:k<ρ.length:=by have:=(Il.mp h).1;rw[Og]at this;exact this
   rw[IY hk]at h;cases h;rw[IY (by rw[R.ls];exact hk)];exact s
  .rw[Im e];rw[I9 (Ne.symm e)]at h ⊢;exact R.sl k u h
 .by_cases e:k=i
  .rw[Iq e]at ha;obtain⟨h1,h2,h3⟩:=n.fr a ha;exact⟨h1,h2,.inr h3⟩
  .rw[Im e]at ha;exact R.fr k a ha
 .by_cases e:k=i
  .by_cases e' : j=i
   .rw[e,e']
   .rw[Iq e]at ha;rw[Im e']at hb;exact absurd hb (n.dj a ha j)
  .by_cases e' : j=i
   .rw[Im e]at ha;rw[Iq e']at hb;exact absurd ha (n.dj a hb k)
   .rw[Im e]at ha;rw[Im e']at hb;exact R.dj k j a ha hb
 .by_cases e:k=i
  .rw[Iq e]at ha;exact(n.fr a ha).2.2
  .rw[Im e]at ha;rw[I9 (Ne.symm e)]at h;exact R.ow k ds a h ha
def QW:Nw G H H0 F []:=⟨λ_ h=>(by cases h),λ_ h=>(by cases h)⟩
def Rl.zlg{d:PD}(R:Rl K B E G0 H0 G H σ ρ F)(s:Dat K G v d):Rl K B E G0 H0 G H (σ.set i (some v)) (ρ.set i (.dat d)) (λk=>if k=i then[]else F k):=R.set ⟨rfl,v,rfl,s⟩ QW
def Rx(K:FG)(B:Hp)(G:Hp)(σ:St)(ρ:LD):Prop:=ZF B G/\(∀(i:Nat)(d:PD),ρ[i]?=some (PV.dat d)->∃ x,σ[i]?=some (some x)/\Dat K G x d)/\(∀(i:Nat)(v:PV)(ds:LA),ρ[i]?=some v->v.rd=some ds->∃ x,σ[i]?=some (some x)/\Dat K G x (.list ds))/\(∀(i:Nat)(T:Tg),ρ[i]?=some (PV.thg T)->∃ p fp,σ[i]?=some (some (.ref p))/\T.ok p fp G G)/\(∀(i:Nat)(ns:LX),ρ[i]?=some (PV.scr ns)->∃ a,σ[i]?=some (some (.ref a))/\SqL K G a (ns.map V.int))/\∀(i:Nat)(x:V),ρ[i]?=some (PV.val x)->σ[i]?=some (some x)
def Er(K:FG)(B:Hp)(t:TE)(ρ:LD)(d:PD):Prop:=∀ G σ,Rx K B G σ ρ->Ev K t σ G d
def Et(K:FG)(B:Hp)(t:TT)(ρ:LD)(b:Bool):Prop:=∀ G σ,Rx K B G σ ρ->EvT t σ G b
def Ea(K:FG)(B:Hp)(t:TA)(ρ:LD)(ds:LA):Prop:=∀ G σ,Rx K B G σ ρ->EvA K t σ G ds
noncomputable def PV.msk:PV->PV
 |.dat d=>.dat d
 |.scr ns=>.scr ns
 |.val x=>.val x
 |_=>.un
abbrev msk(ρ:LD):LD:=ρ.map PV.msk
def Rl.rx(R:Rl K B E G0 H0 G H σ ρ F):Rx K B G σ (msk ρ):=by
 refine⟨R.bb,?_,?_,?_,?_,?_⟩
 .intro i d h;rw[Ij]at h;cases e:ρ[i]? with
  |none=>rw[e]at h;cases h
  |some v=>
   rw[e]at h;cases v with
   |dat d' =>cases h;exact(R.sl i _ e).2
   |_=>cases h
 .intro i u ds h hu;rw[Ij]at h;cases e:ρ[i]? with
  |none=>rw[e]at h;cases h
  |some v=>rw[e]at h;cases v <;> cases h <;> cases hu
 .intro i T h;rw[Ij]at h;cases e:ρ[i]? with
  |none=>rw[e]at h;cases h
  |some v=>rw[e]at h;cases v <;> cases h
 .intro i ns h;rw[Ij]at h;cases e:ρ[i]? with
  |none=>rw[e]at h;cases h
  |some v=>
   rw[e]at h;cases v with
   |scr ms=>cases h;exact(R.sl i _ e).2
   |_=>cases h
 .intro i x h;rw[Ij]at h;cases e:ρ[i]? with
  |none=>rw[e]at h;cases h
  |some v=>
   rw[e]at h;cases v with
   |val y=>cases h;exact(R.sl i _ e).2
   |_=>cases h
open Classical in
noncomputable def gPl(ρ:LD)(F:Nat->LH)(G H:Hp):Hp:=λb=>if ∃ i v,ρ[i]?=some v/\v.mut=true/\b∈F i then H b else G b
def Rl.gpl(R:Rl K B E G0 H0 G H σ ρ F):ZF G (gPl ρ F G H)/\ZF (gPl ρ F G H) H/\Rx K B (gPl ρ F G H) σ ρ:=by
 have s1:ZF G (gPl ρ F G H):=λb o h=>by
  unfold gPl;split
  .exact R.g.gh b o h
  .exact h
 refine⟨s1,λb o h=>?_,R.bb.trans s1,λi d h=>?_,λi v ds h hv=>?_,λi T h=>?_,λi ns h=>?_,λi x h=>(R.sl i _ h).2⟩
 .unfold gPl at h;split at h
  .exact h
  .exact R.g.gh b o h
 .obtain⟨_,x,hx,hd⟩:=R.sl i _ h;exact⟨x,hx,hd.same s1⟩
 .obtain⟨p,xs,e,hx,hp,hd⟩:=(R.sl i _ h).rd hv;refine⟨_,hx,Xd (xs:=xs) ?_ (hd.same s1)⟩;unfold gPl;rw[Iq ⟨i,v,h,PV.zl1 hv,by rw[e];simp⟩];exact hp
 .obtain⟨p,fp,e,hx,ht⟩:=R.sl i _ h;refine⟨p,fp,hx,T.st ht s1 λa ha=>?_⟩;unfold gPl;rw[Iq ⟨i,_,h,rfl,by rw[e];exact ha⟩]
 .obtain⟨_,a,hx,hq⟩:=R.sl i _ h;exact⟨a,hx,s1.seq hq⟩
noncomputable def flat:PD->Bool
 |.none | .bool _ | .int _ | .str _=>true
 |_=>false
theorem Dat.flat{d:PD}(h:Dat K G v d)(f:flat d=true)(G' : Hp):Dat K G' v d:=by
 cases d with
 |none=>rw[h.non];exact Q4
 |bool b=>rw[h.bl];exact Yc b
 |int i=>rw[h.int];exact Zv i
 |str x=>rw[h.str];exact XR x
 |list _=>cases f
 |tuple _=>cases f
 |dict _=>cases f
def Ex(K:FG)(B:Hp)(t:TE)(ρ:LD)(d:PD):Prop:=∀ E G0 H0 G H σ F,Rl K B E G0 H0 G H σ ρ F->∀ Q:VK,(∀ v G' H',YH G H G' H' -> Dat K G' v d->Q v H')->t σ H Q
def zaQ{t:TE}{d:PD}(h:Er K B t (msk ρ) d):Ex K B t ρ d:=λ_ _ _ G H σ F R Q k=>h G σ R.rx G H (ZF.refl _) R.g.gh Q k
def zkY{t:TE}{d:PD}(h:Er K B t ρ d)(f:flat d=true):Ex K B t ρ d:=λ_ _ _ G H σ F R Q k=>by obtain⟨s1,s2,x⟩:=R.gpl;exact h _ σ x _ H (ZF.refl _) s2 Q λv G' H' g hv=>k v G H' (Uv R.g.gh g.hh) (hv.flat f G)
def Eg(K:FG)(B:Hp)(t:TE)(ρ:LD)(R:PV->LD->Prop):Prop:=∀ E G0 H0 G H σ F,Rl K B E G0 H0 G H σ ρ F->∀ Q:VK,
 (∀ v r ρ' G' H' F' L,R r ρ' -> ZF G G' -> Rl K B E G0 H0 G' H' σ ρ' F' -> Sl K G' H' (some (some v)) r L->Nw G' H' H0 F' L->Q v H')->t σ H Q
def zlW{t:TE}{d:PD}{R:PV->LD->Prop}(h:Ex K B t ρ d)(k:R (.dat d) ρ):Eg K B t ρ R:=λE G0 H0 G H σ F r Q q=>h E G0 H0 G H σ F r Q λv G' H' g hv=>q v _ ρ G' H' F [] k g.gg (r.grow g) ⟨rfl,v,rfl,hv⟩ QW
def ZR{t:TE}{d:PD}{R:PV->LD->Prop}(h:Er K B t (msk ρ) d)(k:R (.dat d) ρ):Eg K B t ρ R:=zlW (zaQ h) k
def zjz{t:TE}{d:PD}{R:PV->LD->Prop}(h:Er K B t ρ d)(f:flat d=true)(k:R (.dat d) ρ):Eg K B t ρ R:=zlW (zkY h f) k
def Rl.zmN(R:Rl K B E G0 H0 G H σ ρ F)(hp:H p=none)(hd:YB K G xs ds):Rl K B E G0 H0 G (upd H p (.lst xs)) σ ρ F/\Sl K G (upd H p (.lst xs)) (some (some (.ref p))) (.own ds) [p]/\Nw G (upd H p (.lst xs)) H0 F [p]:=by
 have gp:G p=none:=R.g.gh.free hp;refine⟨R.grow (Uv R.g.gh (YK hp)),⟨p,xs,rfl,rfl,Zo,hd⟩,λa ha=>?_,λa ha j hj=>?_⟩
 .rw[IH.mp ha];exact⟨gp,⟨_,Zo⟩,R.g.al p hp⟩
 .rw[IH.mp ha]at hj;obtain⟨_,⟨o,h⟩,_⟩:=R.fr j p hj;rw[hp]at h;cases h
def zce{t:TA}{R:PV->LD->Prop}(h:Ea K B t (msk ρ) ds)(hl:ds.length<=sizeLine)(k:R (.own ds) ρ):Eg K B (zhM t) ρ R:=λE G0 H0 G H σ F r Q q=>
 h G σ r.rx G H (ZF.refl _) r.g.gh _ λvs G' H' g hv=>⟨by rw[hv.length];exact hl,λp hp=>by
  obtain⟨a,b,c⟩:=(r.grow g).zmN hp hv;exact q _ _ ρ G' _ F [p] k g.gg a b c⟩
structure Pn where
 nx:LD->Prop
 rt:PV->LD->Prop
 bk:LD->Prop:=λ_=>False
 ct:LD->Prop:=λ_=>False
structure Dn(K:FG)(B:Hp)(E:AD->Prop)(G0 H0 Gs:Hp)(R:Pn)(D:Ends):Prop where
 nx:∀{G H σ ρ F},R.nx ρ->ZF Gs G->Rl K B E G0 H0 G H σ ρ F->D.nx σ H
 rt:∀{v r G H σ ρ F L},R.rt r ρ->ZF Gs G->Rl K B E G0 H0 G H σ ρ F->Sl K G H (some (some v)) r L->Nw G H H0 F L->D.rt v H
 bk:∀{G H σ ρ F},R.bk ρ->ZF Gs G->Rl K B E G0 H0 G H σ ρ F->D.bk σ H
 ct:∀{G H σ ρ F},R.ct ρ->ZF Gs G->Rl K B E G0 H0 G H σ ρ F->D.ct σ H
def Dn.mono{Gs Gt:Hp}{R:Pn}{D:Ends}(d:Dn K B E G0 H0 Gs R D)(s:ZF Gs Gt):Dn K B E G0 H0 Gt R D:=⟨λx y=>d.nx x (s.trans y),λx y=>d.rt x (s.trans y),λx y=>d.bk x (s.trans y),λx y=>d.ct x (s.trans y)⟩
def Sv(K:FG)(B:Hp)(t:TS)(ρ:LD)(R:Pn):Prop:=∀ E G0 H0 G H σ F D,Rl K B E G0 H0 G H σ ρ F->Dn K B E G0 H0 G R D->t D σ H
def Zt{t:TS}{R:Pn}(h:Sv K B t ρ {R with nx:=fun ρ' => Sv K B u ρ' R}):Sv K B (ziQ t u) ρ R:=λE G0 H0 G H σ F D r d=>h E G0 H0 G H σ F {D with nx:=u D} r ⟨λhs s r' => hs E G0 H0 _ _ _ _ D r' (d.mono s),d.rt,d.bk,d.ct⟩
def Z4{R:Pn}(h:R.nx ρ):Sv K B zl4 ρ R:=λE G0 H0 G H σ F D r d=>d.nx h (ZF.refl _) r
def znd{t:TS}{R R' : Pn}(h:Sv K B t ρ R)(n:∀ ρ,R.nx ρ->R'.nx ρ)(q:∀ r ρ,R.rt r ρ->R'.rt r ρ)(b:∀ ρ,R.bk ρ->R'.bk ρ)(c:∀ ρ,R.ct ρ->R'.ct ρ):Sv K B t ρ R':=λE G0 H0 G H σ F D r d=>h E G0 H0 G H σ F D r ⟨λx=>d.nx (n _ x),λx=>d.rt (q _ _ x),λx=>d.bk (b _ x),λx=>d.ct (c _ x)⟩
def ZP{R:Pn}(h:Eg K B te ρ λr ρ' => R.nx (ρ'.set i r)):Sv K B (zk3 te (VF i)) ρ R:=λE G0 H0 G H σ F D r d=>h E G0 H0 G H σ F r _ λv w ρ' G' H' F' L hR s r' sl n=>d.nx hR s (r'.set sl n)
def UV{c:TT}{t:TS}{b:Bool}{R:Pn}(h:Et K B c ρ b)(k1:b=true->Sv K B t ρ R)(k2:b=false->Sv K B u ρ R):Sv K B (zhG c t u) ρ R:=λE G0 H0 G H σ F D r d=>by
 obtain⟨s1,s2,x⟩:=r.gpl;refine h _ σ x _ H (ZF.refl _) s2 _ λG' H' g=>?_;have r':=r.grow (Uv r.g.gh g.hh);cases b with
 |true=>rw[Iq rfl];exact k1 rfl E G0 H0 _ _ σ F D r' d
 |false=>rw[Im Ii];exact k2 rfl E G0 H0 _ _ σ F D r' d
def Vh{c:TT}{t:TS}{R:Pn}(h:Et K B c ρ true)(k1:Sv K B t ρ R):Sv K B (zhG c t u) ρ R:=UV h (λ_=>k1) λz=>(by cases z)
def Xm{c:TT}{t:TS}{R:Pn}(h:Et K B c ρ false)(k1:Sv K B u ρ R):Sv K B (zhG c t u) ρ R:=UV h (λz=>by cases z) λ_=>k1
def Ym{R:Pn}(h:Eg K B te ρ R.rt):Sv K B (znN te) ρ R:=λE G0 H0 G H σ F D r d=>h E G0 H0 G H σ F r _ λv w ρ' G' H' F' L hR s r' sl n=>d.rt hR s r' sl n
open Classical in
end
section
variable {prog:Program}{w:World}{A:Around}{E:Value->SH->Prop}{s:SH}
def zc8{Q:LF->SH->Prop}{r:AD}{a b c:Int}{t u v:Tok}{n:Nat}(hh:A.handled=none)(hr:IsRange s.heap r a b c t u v)(hsmall:Builtin.Range.small a b c=true)(hn:Builtin.Range.rangeSize a b c=n)(hlen:n<=2^24)(hQ:∀(h' : Heap)(tk:Nat)(acc:Array Value),(∀ b o,s.heap.get? b=some o->h'.get? b=some o)->ItemsOf (λi v=>∃ t,v = .int (a+i*c) t) acc n->Q acc.toList {s with heap:=h',toks:=tk}):wpAny (model prog w) A (collect (.ref r)) Q E s:=by
 have e1:=F.entry_proto_collect;have e2:=F.entry_list_iadd;have p1:=F.plain_proto_collect;have p2:=F.plain_list_iadd;unfold collect;refine Ia (wpAny_runValue (codeAny_builtin e1 ?_));rw[Around.under_plainId p1 _];show wpAny _ A.in1 (newList [] >>= λz=>again (.builtin "list.__iadd__" ⟨[z,.ref r],[]⟩)) _ _ s;refine Ia (IK (Ic ⟨plainId_quiet p2 _,codeAny_builtin e2 ?_⟩));rw[Around.under_plainId p2 _];show wpAny (model prog w) A.in1 (Builtin.List.listExtendWith (.ref s.heap.objs.size) (.ref r) (.ref s.heap.objs.size)) _ _ _;have hS:(s.heap.push {cls:=.type "list",data:=.seq ([]:LF).toArray}).get? s.heap.objs.size=some {cls:=.type "list",data:=.seq #[] 0}:=Io _ rfl
 have fin' : ∀(h' : Heap)(tk:Nat)(acc:Array Value)(c' : Nat),(∀ b o,s.heap.get? b=some o->h'.get? b=some o)->h'.get? s.heap.objs.size=some {cls:=.type "list",dict:=none,data:=.seq acc c',slots:=#[]}->ItemsOf (λi v=>∃ t,v = .int (a+i*c) t) acc n->
   wpAny (model prog w) A (match Value.ref s.heap.objs.size with
   |Value.ref a=>do
    match (← load a).data with
     |Data.seq xs _=>pure xs.toList | _=>unsupported "internal:collect"
   |_=>unsupported "internal:collect") Q E {s with heap:=h',toks:=tk}:=λh' tk acc c' hk hS' hacc=>by
  show wpAny (model prog w) A (load s.heap.objs.size >>= _) Q E _;exact Ia (wpAny_load hS' (Ic (hQ h' tk acc hk hacc)))
 refine NJ (wpAny_extend_range (A:=A) (R:=λrs s' => ∃(h' : Heap)(tk:Nat)(acc:Array Value)(c' : Nat),rs = .ok (.ret (.ref s.heap.objs.size))/\s'={s with heap:=h',toks:=tk}/\(∀ b o,s.heap.get? b=some o->h'.get? b=some o)/\h'.get? s.heap.objs.size=some {cls:=.type "list",dict:=none,data:=.seq acc c',slots:=#[]}/\ItemsOf (λi v=>∃ t,v = .int (a+i*c) t) acc n)
  (s:={s with heap:=s.heap.push {cls:=.type "list",data:=.seq ([]:LF).toArray}}) hh (Ih _ hr) hsmall hn hlen _ _ 0 hS λh' tk acc' c' hk hS' hacc=>⟨h',tk,acc',c',rfl,rfl,λb o e=>hk b o (IS (IF e)) (Ih _ e),hS',hacc⟩) (λfin s' h=>?_) (λe s' h=>?_)
 .cases fin with
  |done f=>obtain⟨h',tk,acc,c',e,rfl,k1,k2,k3⟩:=h;cases e;exact fin' h' tk acc c' k1 k2 k3
  |again cc=>exact⟨h.1,Ob h.2 λrs s'' hr' => by
    obtain⟨h',tk,acc,c',rfl,rfl,k1,k2,k3⟩:=hr';exact fin' h' tk acc c' k1 k2 k3⟩
 .obtain⟨_,_,_,_,z,_⟩:=h;cases z
end
def zho{lo:Int}{n:Nat}{acc:Array Value}(h:ItemsOf (λi v=>∃ t,v = .int (lo+i*1) t) acc n):Vals ((List.range n).map λ(i:Nat)=>V.int (lo+i)) acc.toList:=by
 obtain⟨z1,z2⟩:=h;have key:∀(n:Nat)(l:LF),l.length=n->(∀(i:Nat) v,l[i]?=some v->∃ t,v=Value.int (lo+i) t)->Vals ((List.range n).map λ(i:Nat)=>V.int (lo+i)) l:=by
  intro n
  induction n with
  |zero=>intro l hl _;cases l with
   |nil=>exact .nil
   |cons _ _=>cases hl
  |succ n ih=>
   intro l hl hi;have e1:l=l.dropLast++[l[n]'(by omega)]:=by
    have hne:l≠[]:=by intro z;subst z;cases hl
    have:=(List.dropLast_concat_getLast hne).symm;rw[List.getLast_eq_getElem]at this;simpa [hl]using this
   rw[e1,range_succ,IX];refine Vals.append (ih l.dropLast (by simp[hl]) λi v hv=>?_) ?_
   .refine hi i v ?_;rw[List.getElem?_dropLast]at hv;split at hv
    .exact hv
    .cases hv
   .obtain⟨t,e⟩:=hi n (l[n]'(by omega)) (Ib (by omega));exact .cons ⟨t,e⟩ .nil
 refine key n acc.toList (by simp[z1]) λi v hv=>?_;obtain⟨t,e⟩:=z2 i v (by simpa using hv);exact⟨t,by rw[e];congr 1;omega⟩
section
variable {K:FG}{B:Hp}{E:AD->Prop}{G0 H0 G H G' H' : Hp}{σ:St}{ρ:LD}{F:Nat->LH}{ta tb te:TE}{a b d:PD}{ds es:LA}
def Rx.mono(r:Rx K B G σ ρ)(s:ZF G G'):Rx K B G' σ ρ:=
 ⟨r.1.trans s,λi d h=>let ⟨x,hx,hd⟩:=r.2.1 i d h;⟨x,hx,hd.same s⟩,λi v d h hv=>let ⟨x,hx,hd⟩:=r.2.2.1 i v d h hv;⟨x,hx,hd.same s⟩,λi T h=>let ⟨p,fp,hx,ht⟩:=r.2.2.2.1 i T h;⟨p,fp,hx,T.st ht s λa ha=>by
  obtain⟨o,ho⟩:=T.live ht a ha;rw[ho,s a o ho]⟩,λi ns h=>let ⟨a,hx,hq⟩:=r.2.2.2.2.1 i ns h;⟨a,hx,s.seq hq⟩,r.2.2.2.2.2⟩
def Zc(h:ρ[i]?=some (.dat d)):Er K B (Wj i) ρ d:=λG σ r=>let ⟨x,hx,hd⟩:=r.2.1 i d h;Zn hx hd
def ziI{u:PV}(h:ρ[i]?=some u)(hu:u.rd=some ds):Er K B (Wj i) ρ (.list ds):=λG σ r=>let ⟨x,hx,hd⟩:=r.2.2.1 i u ds h hu;Zn hx hd
def Zw{i:Int}:Er K B (tC (.int i)) ρ (.int i):=λ_ _ _=>YW
def ZX :Er K B (tC (.str x)) ρ (.str x):=λ_ _ _=>Yk
def zgb{x:Bool}:Er K B (tC (.bl x)) ρ (.bool x):=λ_ _ _=>zg2
def Xa{g:Int->Int->V}{i:Int}(ha:Er K B ta ρ (.int i))(hb:Er K B tb ρ (.int j))(hg:∀ G,Dat K G (g i j) d):Er K B (tOp (rI0 g) ta tb) ρ d:=λG σ r=>QS (ha G σ r) (hb G σ r) (hg G)
def UL{C:Int->Int->Prop}{g:Int->Int->V}{i:Int}(ha:Er K B ta ρ (.int i))(hb:Er K B tb ρ (.int j))(hc:C i j)(hg:∀ G,Dat K G (g i j) d):Er K B (tOp (rI C g) ta tb) ρ d:=λG σ r=>zfU (ha G σ r) (hb G σ r) hc (hg G)
def Xx{i:Int}{n:Nat}(ha:Er K B ta ρ (.tuple ds))(hb:Er K B tb ρ (.int i))(hn:ixN ds.length i=some n)(hd:ds[n]?=some d):Er K B (tOp (zeU K) ta tb) ρ d:=λG σ r=>J8 (ha G σ r) (hb G σ r) hn hd
def XJ{i:Int}{n:Nat}(ha:Er K B ta ρ (.list ds))(hb:Er K B tb ρ (.int i))(hn:ixN ds.length i=some n)(hd:ds[n]?=some d):Er K B (tOp (zeF K) ta tb) ρ d:=λG σ r=>YS (ha G σ r) (hb G σ r) hn hd
def zfu{g:Bool->Bool}{n:Nat}(ha:Er K B ta ρ a)(hb:Er K B tb ρ b)(pa:Pl n a)(pb:Pl n b)(hn:n<=64):Er K B (tOp (ziE K g) ta tb) ρ (.bool (g (PySem.Spec.same a b))):=λG σ r=>zf2 (ha G σ r) (hb G σ r) pa pb hn
def zl6{i:Int}(ha:Er K B ta ρ (.int i))(hb:Er K B tb ρ (.int j)):Er K B (tOp rNe ta tb) ρ (.bool (!decide (i=j))):=λG σ r=>znO (ha G σ r) (hb G σ r)
def zbo{i:Int}(ha:Er K B ta ρ (.int i))(hb:Er K B tb ρ (.int j)):Er K B (tOp rEq ta tb) ρ (.bool (decide (i=j))):=λG σ r=>zau (ha G σ r) (hb G σ r)
def Zk:Ea K B Vk ρ []:=λ_ _ _=>ZW
def Zb{t:TA}(ha:Er K B ta ρ a)(hb:Ea K B t ρ ds):Ea K B (YC ta t) ρ (a::ds):=λG σ r=>Zq (ha G σ r) (hb G σ r)
def Wv{t:TA}(h:Ea K B t ρ ds)(hl:ds.length<=sizeLine):Er K B (ziB t) ρ (.tuple ds):=λG σ r=>zi5 (h G σ r) hl
def Yp{t:TA}(h:Ea K B t ρ ds)(hl:ds.length<=sizeLine):Er K B (zhM t) ρ (.list ds):=λG σ r=>zdU (h G σ r) hl
def zdl{t:TA}(h:Ea K B t ρ [.list ds]):Er K B (tCB (λxs H Q=>∃ p ys,xs=[.ref p]/\(SqL K H p ys\/SqT K H p ys)/\Q (.int ys.length) H) t) ρ (.int ds.length):=λG σ r=>zf5 (h G σ r)
def J0{t:TA}(h:Ea K B t ρ [.tuple ds]):Er K B (tCB (λxs H Q=>∃ p ys,xs=[.ref p]/\(SqL K H p ys\/SqT K H p ys)/\Q (.int ys.length) H) t) ρ (.int ds.length):=λG σ r=>zc3 (h G σ r)
def zai{t:TA}(h:Ea K B t ρ [.list ds]):Er K B (tCB (λxs H Q=>∃ p ys,xs=[.ref p]/\((SqL K H p ys/\∀ l,H l=none->Q (.ref l) (upd H l (.tup ys)))\/(SqT K H p ys/\Q (.ref p) H))) t) ρ (.tuple ds):=λG σ r=>Qp (h G σ r)
def Z0{t:TE}(h:Er K B t ρ (.bool c)):Et K B (zcv t) ρ c:=λG σ r=>YL (h G σ r)
def znw{t:TE}(h:Er K B t ρ (.bool c)):Et K B (tB t) ρ c:=λG σ r=>zc0 (h G σ r)
def zcr{t:TT}(h:Et K B t ρ c):Et K B (zoi t) ρ (!c):=λG σ r=>zkU (h G σ r)
def zj3{t u:TT}(h:Et K B t ρ c)(h' : c=false->Et K B u ρ e):Et K B (tOr t u) ρ (c||e):=λG σ r=>zmc (h G σ r) λz=>h' z G σ r
def QV{t:TT}(h:Et K B t ρ c)(q:c=e):Et K B t ρ e:=q ▸ h
def Vd:Et K B zgj ρ true:=λ_ _ _=>QG
def Xw{t:TE}{e:PD}(h:Er K B t ρ d)(q:d=e):Er K B t ρ e:=q ▸ h
def zdZ(h:Er K B ta ρ (.bool c))(h' : c=true->Er K B tb ρ (.bool e)):Er K B (zkW ta tb) ρ (.bool (c&&e)):=λG σ r=>zi1 (h G σ r) λz=>h' z G σ r
def Xe{R:LA->PD->Prop}{X:XK}{t:TA}(h:Ea K B t ρ ds)(hR:R ds d):Er K B (QM (spP K R) [] X t) ρ d:=λG σ r=>YQ (h G σ r) hR
def zla{n:String}(ha:Er K B ta ρ d)(e:kitOne K (.type (tyN d)) (.type n)=some c):Er K B (tCB (zol K) (YC ta (YC (tC (.ty n)) Vk))) ρ (.bool c):=λG σ r=>zfc (ha G σ r) e
def zbw{p q:Int->Int->Bool}{tc:TE}{i k:Int}(ha:Er K B ta ρ (.int i))(hb:Er K B tb ρ (.int j))(hc:Er K B tc ρ (.int k)):Er K B (zeZ (rI0 λi j=>.bl (p i j)) (rI0 λi j=>.bl (q i j)) ta tb tc) ρ (.bool (p i j&&q j k)):=λG σ r G1 H s1 s2 Q kk=>by
 refine ha G σ r G1 H s1 s2 _ λv G2 H2 g2 hv=>hb G σ r G2 H2 (s1.trans g2.gg) g2.gh _ λu G3 H3 g3 hu=>⟨i,j,hv.int,hu.int,p i j,rfl,?_⟩
 have g23:=g2.trans g3;cases e:p i j with
 |false=>rw[Im Ii];rw[e]at kk;exact kk _ G3 H3 g23 (Yc _)
 |true=>rw[Iq rfl];rw[e]at kk;exact hc G σ r G3 H3 (s1.trans g23.gg) g23.gh _ λw' G4 H4 g4 hw=>⟨j,k,hu.int,hw.int,kk _ G4 H4 (g23.trans g4) (Yc _)⟩
structure Wd(K:FG)(J:It)(G:Hp)(ds:LA):Prop where
 go:∀ i H',ZF G H' -> i<ds.length->J.go i H'
 stop:∀ i H',ZF G H' -> i=ds.length->J.stop i H'
 yld:∀ i H1 x H2 G1 d,ZF G G1->ZF G1 H1->ds[i]?=some d->J.yld i H1 x H2->∃ G2,YH G1 H1 G2 H2/\Dat K G2 x d
def Ei(K:FG)(B:Hp)(wi:TI)(ρ:LD)(ds:LA):Prop:=∀ G H σ,Rx K B G σ ρ->ZF G H->∀ R:It->Hp->Prop,(∀ J G' H',YH G H G' H' -> Wd K J G' ds->R J H')->wi σ H R
def zdF{lo:Int}{n:Nat}:Wd K (Itr lo n) G ((List.range n).map λ(i:Nat)=>PyData.int (lo+i)):=by
 refine⟨λi H' _ h=>by rw[Ie,IG]at h;exact h,λi H' _ h=>by rw[Ie,IG]at h;exact le_of_eq h.symm,λi H1 x H2 G1 d s1 s2 hd y=>?_⟩;obtain⟨rfl,rfl⟩:=y;refine⟨G1,YH.refl s2,?_⟩;rw[Ij]at hd;by_cases h:i<n
 .rw[getElem?_range h]at hd;cases hd;exact Zv _
 .rw[NT (by rw[IG];omega)]at hd;cases hd
def zmx(h:G p=some (.lst xs))(hd:YB K G xs ds):Wd K (Itl K p) G ds:=by refine⟨λi H' s hi=>⟨xs,_,SqL.of (s _ _ h),Ib (by rw[hd.length];exact hi)⟩,λi H' s hi=>⟨xs,SqL.of (s _ _ h),by rw[hd.length];exact le_of_eq hi.symm⟩,λi H1 x H2 G1 d s1 s2 he y=>?_⟩;obtain⟨rfl,y⟩:=y;obtain⟨x',hx',hdx⟩:=hd.get he;have:=y xs (SqL.of (s2 _ _ (s1 _ _ h)));rw[hx']at this;cases this;exact⟨G1,YH.refl s2,hdx.same s1⟩
def zmA(h:SqT K G p xs)(hd:YB K G xs ds):Wd K (Itt K p) G ds:=by refine⟨λi H' s hi=>⟨xs,_,s.tup h,Ib (by rw[hd.length];exact hi)⟩,λi H' s hi=>⟨xs,s.tup h,by rw[hd.length];exact le_of_eq hi.symm⟩,λi H1 x H2 G1 d s1 s2 he y=>?_⟩;obtain⟨rfl,y⟩:=y;obtain⟨x',hx',hdx⟩:=hd.get he;have:=y xs (s2.tup (s1.tup h));rw[hx']at this;cases this;exact⟨G1,YH.refl s2,hdx.same s1⟩
def zgC(h:Er K B te ρ (.list ds)):Ei K B (zhh K te) ρ ds:=λG H σ r s R k=>h G σ r G H (ZF.refl _) s _ λv G' H' g hv=>by obtain⟨p,xs,rfl,hp,hx⟩:=hv.lst;exact⟨p,rfl,⟨xs,SqL.of (g.gh _ _ hp)⟩,k _ G' H' g (zmx hp hx)⟩
def zfw(h:Er K B te ρ (.tuple ds)):Ei K B (zn6 K te) ρ ds:=λG H σ r s R k=>h G σ r G H (ZF.refl _) s _ λv G' H' g hv=>by obtain⟨p,xs,rfl,hp,hx⟩:=hv.tup;exact⟨p,rfl,⟨xs,g.gh.tup hp⟩,k _ G' H' g (zmA hp hx)⟩
def zmO{t:TA}(h:Ea K B t ρ [.int j])(hj:-(2^62)<=j/\j<2^62):Ei K B (zfy t) ρ ((List.range j.toNat).map λ(i:Nat)=>PyData.int (0+i)):=λG H σ r s R k=>h G σ r G H (ZF.refl _) s _ λvs G' H' g hv=>by obtain⟨y,ys,rfl,hy,r⟩:=hv.cons;rw[r.nil,hy.int];exact⟨j,rfl,hj.1,hj.2,k _ G' H' g zdF⟩
noncomputable def za0(ρ:LD)(js:List Nat):LD:=js.map λj=>(ρ[j]?).getD .un
def zf6{x:V}(r:Rx K B G σ ρ)(hd:Dat K G x d):Rx K B G (some x::WK σ js) (.dat d::za0 ρ js):=by
 refine⟨r.1,λi e h=>?_,λi u e h hu=>?_,λi T h=>?_,λi ns h=>?_,λi y h=>?_⟩
 .cases i with
  |zero=>cases h;exact⟨x,rfl,hd⟩
  |succ i=>
   rw[NM]at h ⊢;unfold za0 at h;unfold WK;rw[Ij]at h ⊢;cases q:js[i]? with
   |none=>rw[q]at h;cases h
   |some j=>
    rw[q]at h;have h:(ρ[j]?).getD .un = .dat e:=Iu h;cases z:ρ[j]? with
    |none=>rw[z]at h;cases h
    |some u=>rw[z]at h;have h:u = .dat e:=h;subst h;obtain⟨y,hy,hyd⟩:=r.2.1 j e z;exact⟨y,by show some (σ[j]?).join=_;rw[hy];rfl,hyd⟩
 .cases i with
  |zero=>cases h;cases hu
  |succ i=>
   rw[NM]at h ⊢;unfold za0 at h;unfold WK;rw[Ij]at h ⊢;cases q:js[i]? with
   |none=>rw[q]at h;cases h
   |some j=>
    rw[q]at h;have h:(ρ[j]?).getD .un=u:=Iu h;cases z:ρ[j]? with
    |none=>rw[z]at h;subst h;cases hu
    |some u' =>rw[z]at h;have h:u'=u:=h;subst h;obtain⟨y,hy,hyd⟩:=r.2.2.1 j u' e z hu;exact⟨y,by show some (σ[j]?).join=_;rw[hy];rfl,hyd⟩
 .cases i with
  |zero=>cases h
  |succ i=>
   rw[NM]at h ⊢;unfold za0 at h;unfold WK;rw[Ij]at h ⊢;cases q:js[i]? with
   |none=>rw[q]at h;cases h
   |some j=>
    rw[q]at h;have h:(ρ[j]?).getD .un = .thg T:=Iu h;cases z:ρ[j]? with
    |none=>rw[z]at h;cases h
    |some u' =>rw[z]at h;have h:u' = .thg T:=h;subst h;obtain⟨p,fp,hy,hyd⟩:=r.2.2.2.1 j T z;exact⟨p,fp,by show some (σ[j]?).join=_;rw[hy];rfl,hyd⟩
 .cases i with
  |zero=>cases h
  |succ i=>
   rw[NM]at h ⊢;unfold za0 at h;unfold WK;rw[Ij]at h ⊢;cases q:js[i]? with
   |none=>rw[q]at h;cases h
   |some j=>
    rw[q]at h;have h:(ρ[j]?).getD .un = .scr ns:=Iu h;cases z:ρ[j]? with
    |none=>rw[z]at h;cases h
    |some u' =>rw[z]at h;have h:u' = .scr ns:=h;subst h;obtain⟨p,hy,hyd⟩:=r.2.2.2.2.1 j ns z;exact⟨p,by show some (σ[j]?).join=_;rw[hy];rfl,hyd⟩
 .cases i with
  |zero=>cases h
  |succ i=>
   rw[NM]at h ⊢;unfold za0 at h;unfold WK;rw[Ij]at h ⊢;cases q:js[i]? with
   |none=>rw[q]at h;cases h
   |some j=>
    rw[q]at h;have h:(ρ[j]?).getD .un = .val y:=Iu h;cases z:ρ[j]? with
    |none=>rw[z]at h;cases h
    |some u' =>rw[z]at h;have h:u' = .val y:=h;subst h;have hy:=r.2.2.2.2.2 j y z;show some (σ[j]?).join=_;rw[hy];rfl
def Lcx(K:FG)(B:Hp)(tt:TT)(te:TE)(ρ:LD)(o:Option PD):Prop:=(∃ d,o=some d/\Et K B tt ρ true/\Er K B te ρ d)\/(o=none/\Et K B tt ρ false)
def lx1(ht:Et K B tt ρ true)(he:Er K B te ρ d):Lcx K B tt te ρ (some d):=.inl ⟨d,rfl,ht,he⟩
def lxB(ht:Et K B tt ρ c)(he:c=true->Er K B te ρ d):Lcx K B tt te ρ (if c then some d else none):=by
 cases c with
 |true=>exact .inl ⟨d,rfl,ht,he rfl⟩
 |false=>exact .inr ⟨rfl,ht⟩
def zfh{wi:TI}(as:List α)(enc:α->PD)(f:α->Option PD)(h:Ei K B wi ρ (as.map enc))(hn:as.length<sizeLine)(hc:∀ a∈as,Lcx K B tt te (.dat (enc a)::za0 ρ js) (f a))(r:Rx K B G σ ρ)(s:ZF G H){Q:VK}(k:∀ p xs G' H',YH G H G' H' -> H' p=none->YB K G' xs (as.filterMap f)->Q (.ref p) (upd H' p (.lst xs))):tLC wi js tt te σ H Q:=by
 refine h G H σ r s _ λJ G2 H2 g2 W=>?_;have fl:∀ i (hi:i<as.length),((as.take (i+1)).filterMap f)=(as.take i).filterMap f++(f as[i]).toList:=λi hi=>by rw[take_succ,Ox,Ib hi];show _++List.filterMap f [as[i]]=_;rw[NC];cases f as[i] <;> rfl
 refine⟨λi m ys H' => m=as.length-i/\i<=as.length/\ys.length<=i/\∃ G',YH G2 H2 G' H' /\ YB K G' ys ((as.take i).filterMap f),⟨as.length,(by omega),(by omega),(by simp),G2,YH.refl g2.gh,by simpa using Z9⟩,?_⟩;rintro i m ys H' ⟨rfl,hi,hl,G',g',hys⟩;refine⟨(by omega),?_⟩;have sgh:ZF G2 H':=g'.gg.trans g'.gh;by_cases hin:i=as.length
 .subst hin;refine .inl ⟨W.stop _ H' sgh (by rw[Ie]),λp hp=>?_⟩;rw[OE]at hys;exact k p ys G' H' (g2.trans g') hp hys
 .have hi' : i<as.length:=by omega
  refine .inr ⟨W.go i H' sgh (by rw[Ie];exact hi'),λx H'' hy=>?_⟩;obtain⟨G3,g3,hx⟩:=W.yld i H' x H'' G' (enc as[i]) g'.gg g'.gh (by rw[Ij,Ib hi'];rfl) hy;have rx:=zf6 (js:=js) ((r.mono (g2.gg.trans g'.gg)).mono g3.gg) hx;rcases hc as[i] (IQ hi')with⟨d,hf,ht,he⟩ | ⟨hf,ht⟩
  .refine ht _ _ rx G3 H'' (ZF.refl _) g3.gh _ λG4 H4 g4=>?_;rw[Iq rfl];refine he _ _ (rx.mono g4.gg) G4 H4 (ZF.refl _) g4.gh _ λv G5 H5 g5 hv=>⟨as.length-(i+1),(by omega),rfl,(by omega),by rw[Ig];show ys.length+1<=i+1;omega,G5,((g'.trans g3).trans g4).trans g5,?_⟩
   rw[fl i hi',hf];exact XF (hys.same ((g3.gg.trans g4.gg).trans g5.gg)) hv
  .refine ht _ _ rx G3 H'' (ZF.refl _) g3.gh _ λG4 H4 g4=>?_;rw[Im Ii];refine⟨as.length-(i+1),(by omega),rfl,(by omega),(by omega),G4,(g'.trans g3).trans g4,?_⟩;rw[fl i hi',hf];show YB K G4 ys (_++[]);rw[NK];exact hys.same (g3.gg.trans g4.gg)
def zm8{wi:TI}(as:List α)(enc:α->PD)(f:α->Option PD)(h:Ei K B wi ρ (as.map enc))(hn:as.length<sizeLine)(hc:∀ a∈as,Lcx K B tt te (.dat (enc a)::za0 ρ js) (f a)):Er K B (tLC wi js tt te) ρ (.list (as.filterMap f)):=
 λG σ r G1 H s1 s2 Q k=>zfh as enc f h hn hc (r.mono s1) s2 λp xs G' H' g hp hd=>by have g3:=YF (o:=.lst xs) g.gh hp;exact k _ _ _ (g.trans g3) (Xd Zo (hd.same g3.gg))
def zks{wi:TI}{R:PV->LD->Prop}(as:List α)(enc:α->PD)(f:α->Option PD)(h:Ei K B wi (msk ρ) (as.map enc))(hn:as.length<sizeLine)(hc:∀ a∈as,Lcx K B tt te (.dat (enc a)::za0 (msk ρ) js) (f a))(k:R (.own (as.filterMap f)) ρ):Eg K B (tLC wi js tt te) ρ R:=
 λE G0 H0 G H σ F r Q q=>zfh as enc f h hn hc r.rx r.g.gh λp xs G' H' g hp hd=>by obtain⟨a,b,c⟩:=(r.grow g).zmN hp hd;exact q _ _ ρ G' _ F [p] k g.gg a b c
def Gt(K:FG)(B:Hp)(g:TG)(d:PD)(ρ:LD)(P:LD->Prop):Prop:=∀ E G0 H0 G H σ F x (Q:St->Hp->Prop),Rl K B E G0 H0 G H σ ρ F->Dat K G x d->(∀ σ' ρ' G' H' F',P ρ' -> ZF G G' -> Rl K B E G0 H0 G' H' σ' ρ' F' -> Q σ' H')->g x σ H Q
def Um{P:LD->Prop}(h:P (ρ.set i (.dat d))):Gt K B (VF i) d ρ P:=λE G0 H0 G H σ F x Q r hd k=>k _ _ G H _ h (ZF.refl _) (r.zlg hd)
def Jr{g:TG}{R:Pn}(h:Ex K B te ρ d)(k:Gt K B g d ρ R.nx):Sv K B (zk3 te g) ρ R:=λE G0 H0 G H σ F D r dn=>h E G0 H0 G H σ F r _ λv G' H' gr hv=>k E G0 H0 G' H' σ F v _ (r.grow gr) hv fun σ' ρ' G2 H2 F' hP s r' => dn.nx hP (gr.gg.trans s) r'
def zcC{wi:TI}{g:TG}{tb:TS}{R:Pn}(as:List α)(enc:α->PD)(h:Ei K B wi (msk ρ) (as.map enc))(Iv:Nat->LD->Prop)(h0:Iv 0 ρ)(hs:∀(i:Nat)(hi:i<as.length) ρ',Iv i ρ' -> Gt K B g (enc as[i]) ρ' fun ρ2=>Sv K B tb ρ2 {nx:=Iv (i+1),ct:=Iv (i+1),bk:=R.nx,rt:=R.rt})(hd:∀ ρ',Iv as.length ρ' -> R.nx ρ'):Sv K B (znt wi g tb) ρ R:=λE G0 H0 G H σ F D r dn=>by
 refine h G H σ r.rx r.g.gh _ λJ G1 H1 g1 W=>?_;refine⟨λi m σ' H' => m=as.length-i/\i<=as.length/\∃ ρ' G' F',Iv i ρ' /\ Rl K B E G0 H0 G' H' σ' ρ' F' /\ ZF G1 G',⟨as.length,(by omega),(by omega),ρ,G1,F,h0,r.grow g1,ZF.refl _⟩,?_⟩;rintro i m σ' H' ⟨rfl,hi,ρ',G',F',hI,r',s'⟩;by_cases hin:i=as.length
 .subst hin;exact .inl ⟨W.stop _ H' (s'.trans r'.g.gh) (by rw[Ie]),dn.nx (hd ρ' hI) (g1.gg.trans s') r'⟩
 .have hi' : i<as.length:=by omega
  refine .inr ⟨W.go i H' (s'.trans r'.g.gh) (by rw[Ie];exact hi'),fun σ2 H2=>∃ ρ2 G2 F2,Iv (i+1) ρ2/\Rl K B E G0 H0 G2 H2 σ2 ρ2 F2/\ZF G1 G2,fun σ2 H2 ⟨ρ2,G2,F2,q⟩=>⟨as.length-(i+1),(by omega),rfl,(by omega),ρ2,G2,F2,q⟩,λx H'' hy=>?_⟩;obtain⟨G3,g3,hx⟩:=W.yld i H' x H'' G' (enc as[i]) s' r'.g.gh (by rw[Ij,Ib hi'];rfl) hy;have r3:=r'.grow g3;have s3:ZF G1 G3:=s'.trans g3.gg;refine hs i hi' ρ' hI E G0 H0 G3 H'' σ' F' x _ r3 hx fun σ4 ρ4 G4 H4 F4 hP s4 r4=>?_
  have s14:=s3.trans s4;refine hP E G0 H0 G4 H4 σ4 F4 _ r4 ⟨λhI2 s5 r5=>⟨_,_,_,hI2,r5,s14.trans s5⟩,λhR s5 r5 sl n=>dn.rt hR (g1.gg.trans (s14.trans s5)) r5 sl n,λhR s5 r5=>dn.nx hR (g1.gg.trans (s14.trans s5)) r5,λhI2 s5 r5=>⟨_,_,_,hI2,r5,s14.trans s5⟩⟩
def zg8{c:TT}{tb:TS}{R:Pn}(Iv:Nat->LD->Prop)(m0:Nat)(h0:Iv m0 ρ)(hs:∀ m ρ',Iv m ρ' -> ∃ b,Et K B c ρ' b/\(b=true->Sv K B tb ρ' {nx:=fun ρ2=>∃ m',m'<m/\Iv m' ρ2,ct:=fun ρ2=>∃ m',m'<m/\Iv m' ρ2,bk:=R.nx,rt:=R.rt})/\(b=false->R.nx ρ')):Sv K B (zfP c tb) ρ R:=λE G0 H0 G H σ F D r dn=>by
 refine⟨λm σ' H' => ∃ ρ' G' F',Iv m ρ' /\ Rl K B E G0 H0 G' H' σ' ρ' F' /\ ZF G G',⟨m0,ρ,G,F,h0,r,ZF.refl _⟩,?_⟩;rintro m σ' H' ⟨ρ',G',F',hI,r',s'⟩;obtain⟨b,hb,ht,hf⟩:=hs m ρ' hI;obtain⟨s1,s2,x⟩:=r'.gpl;refine hb _ σ' x _ H' (ZF.refl _) s2 _ λG2 H2 g=>?_;have r2:=r'.grow (Uv r'.g.gh g.hh);cases b with
 |false=>rw[Im Ii];exact dn.nx (hf rfl) s' r2
 |true=>rw[Iq rfl];refine⟨fun σ3 H3=>∃ m',m'<m/\∃ ρ3 G3 F3,Iv m' ρ3/\Rl K B E G0 H0 G3 H3 σ3 ρ3 F3/\ZF G G3,fun σ3 H3 q=>q,?_⟩;refine ht rfl E G0 H0 G' H2 σ' F' _ r2 ⟨λ⟨m',hm,hI2⟩ s5 r5=>⟨m',hm,_,_,_,hI2,r5,s'.trans s5⟩,λhR s5 r5 sl n=>dn.rt hR (s'.trans s5) r5 sl n,λhR s5 r5=>dn.nx hR (s'.trans s5) r5,λ⟨m',hm,hI2⟩ s5 r5=>⟨m',hm,_,_,_,hI2,r5,s'.trans s5⟩⟩
noncomputable def PV.put:PV->LA->PV
 |.own _,ds=>.own ds
 |.lnt p _,ds=>.lnt p ds
 |v,_=>v
theorem Rl.put{u:PV}(R:Rl K B E G0 H0 G H σ ρ F)(hi:ρ[i]?=some u)(hu:u.rd=some ds)(hx:σ[i]?=some (some (.ref p)))(hd:YB K G xs es):Rl K B E G0 H0 G (upd H p (.lst xs)) σ (ρ.set i (u.put es)) F:=by
 obtain⟨p',xs',e,hx',hp,_⟩:=(R.sl i _ hi).rd hu;rw[hx]at hx';cases hx';have hpi:p∈F i:=by rw[e];simp
 obtain⟨gp,_,hE⟩:=R.fr i p hpi;have hlt:i<ρ.length:=(Il.mp hi).1;refine⟨⟨R.g.gg,QF R.g.gh gp,λb o n h=>?_,λb h=>?_,R.g.fr⟩,R.bb,by rw[Og];exact R.ls,λj v h=>?_,λj a ha=>?_,R.dj,λj ds' a h ha=>?_⟩
 .have:b≠p:=λz=>by
   subst z;rcases hE with hE | hE
   .exact n hE
   .rw[hE]at h;cases h
  rw[Zr this];exact R.g.kp b o n h
 .by_cases z:b=p
  .subst z;rw[Zo]at h;cases h
  .rw[Zr z]at h;exact R.g.al b h
 .by_cases z:j=i
  .subst z;rw[IY hlt]at h;cases h;cases u with
   |own es' => exact⟨p,xs,e,hx,Zo,hd⟩
   |lnt q es' =>obtain⟨_,e2,hx2,_⟩:=R.sl j _ hi;rw[hx]at hx2;cases hx2;exact⟨xs,e,hx,Zo,hd⟩
   |_=>cases hu
  .rw[I9 (Ne.symm z)]at h;refine(R.sl j v h).grow (ZF.refl _) λa ha=>Zr λq=>?_;subst q;exact z (R.dj j i a ha hpi)
 .obtain⟨h1,⟨o,h2⟩,h3⟩:=R.fr j a ha;refine⟨h1,?_,h3⟩;by_cases z:a=p
  .subst z;exact⟨_,Zo⟩
  .exact⟨o,by rw[Zr z];exact h2⟩
 .by_cases z:j=i
  .subst z;rw[IY hlt]at h;cases u with
   |own es' => exact R.ow j es' a hi ha
   |lnt q es' => cases h
   |_=>cases hu
  .rw[I9 (Ne.symm z)]at h;exact R.ow j ds' a h ha
def zeV{R:Pn}(h:Eg K B te ρ λr ρ' => ∃(d:PD)(u:PV)(ds:LA),r = .dat d/\ρ'[i]?=some u/\u.rd=some ds/\ds.length<sizeLine/\R.nx (ρ'.set i (u.put (ds++[d])))){u0:PV}{ds0:LA}(hi:ρ[i]?=some u0)(hu:u0.rd=some ds0):Sv K B (zkm (tBM K "list" zfJ (Wj i) (YC te Vk))) ρ R:=λE G0 H0 G H σ F D r dn=>by obtain⟨p,xs,e,hx,hp,hd⟩:=(r.sl i _ hi).rd hu;refine⟨_,hx,.inl ⟨rfl,xs,SqL.of hp⟩,?_⟩;refine h E G0 H0 G H σ F r _ λv w ρ' G' H' F' L hR s r' sl n=>?_;obtain⟨d,u,ds,rfl,hi',hu',hl,hR⟩:=hR;obtain⟨p',xs',e',hx',hp',hd'⟩:=(r'.sl i _ hi').rd hu';rw[hx]at hx';cases hx';obtain⟨_,x,hxv,hxd⟩:=sl;cases hxv;refine⟨p,xs',v,rfl,rfl,hp',by rw[hd'.length];exact hl,?_⟩;exact dn.nx hR s (r'.put hi' hu' hx (XF hd' hxd))
noncomputable def W9(N:LB)(vs:LD):LD:=vs++List.replicate (N.length-vs.length) .un
def zf1(sb:ZF B G)(s:ZF G H)(hv:YB K G vs ds):Rl K B (λ_=>False) G H G H (start N vs) (W9 N (ds.map .dat)) (λ_=>[]):=by
 refine⟨Gw.refl s,sb,?_,λi v h=>?_,λ_ _ h=>(by cases h),λ_ _ _ h _=>(by cases h),λ_ _ _ _ h=>(by cases h)⟩
 .unfold start W9;rw[Ig,Ig,Ie,Ie,NN,NN,hv.length]
 .unfold W9 at h;unfold start;by_cases hi:i<ds.length
  .rw[IV (by rw[Ie];exact hi),Ij,Ib hi]at h;cases h;obtain⟨x,hx,hxd⟩:=hv.get (Ib hi);exact⟨rfl,x,by rw[IV (by rw[Ie,hv.length];exact hi),Ij,hx];rfl,hxd⟩
  .rw[IU (by rw[Ie];omega)]at h;have:=Iz h;rw[(mem_replicate.mp this).2];rfl
variable {P:Program}{w:World}{mg:Str->LG}{base:Heap}
def zgF(K:FG)(B:Hp)(R:LA->PD->Prop):Sp:=λvs H Q _=>∃(G:Hp)(ds:LA)(d:PD),ZF B G/\ZF G H/\YB K G vs ds/\R ds d/\∀ v G' H',YH G H G' H' -> Dat K G' v d->Q v H'
def Vj{R:LA->PD->Prop}{X:XK}{t:TA}(h:Ea K B t ρ ds)(hR:R ds d):Er K B (QM (zgF K B R) [] X t) ρ d:=λG σ r G1 H s1 s2 Q k=>by refine h G σ r G1 H s1 s2 _ λvs G2 H2 g hv=>?_;rw[NK];exact⟨G2,ds,d,(r.1.trans s1).trans g.gg,g.gh,hv,hR,λv G' H' g' hv=>k v G' H' (g.trans g') hv⟩
def Fun.znK{st:Stmt}{R:LA->PD->Prop}(Fn:Fun K x qual st f fd)(S:ZK N ps (Zh st))(len:∀ ds d,R ds d->ds.length=ps.length)(hb:∀(cdv:Value)(A:Around)(outer:LJ)(s:SH)(H:Hp)(E:XK),Wz k (A.deeper (envOfC qual (Zh st) s.heap.objs.size f cdv))->∀ ds d,R ds d->
   ∃ t,PSs (zbJ CX0 P w K mg base N qual (Zh st) f cdv A outer s H E).nox (Yj st) t/\Sv K B t (W9 N (ds.map .dat)) {nx:=λ_=>d = .none,rt:=λr _=>r = .dat d}):VH P w K mg base CX0 (k+1) f fd ps (zgF K B R):=by
 refine Fn.ok S (λvs H Q E h=>?_) λcdv A outer s H vs Q E hr h=>?_
 .obtain⟨G,ds,d,_,_,hv,hR,_⟩:=h;rw[hv.length];exact len ds d hR
 .obtain⟨G,ds,d,sb,sg,hv,hR,kk⟩:=h;obtain⟨t,ht,hs⟩:=hb cdv A outer s H E hr ds d hR;refine⟨t,ht,hs _ _ _ _ _ _ _ _ (zf1 sb sg hv) ⟨λe _ r=>?_,λe _ r sl n=>?_,λe=>e.elim,λe=>e.elim⟩⟩
  .have e:d = .none:=e;subst e;exact kk _ _ _ r.g.zdD Q4
  .subst e;obtain⟨_,y,hy,hd⟩:=sl;cases hy;exact kk _ _ _ r.g.zdD hd
abbrev B0:Hp:=λ_=>none
def b0:ZF B0 G:=λ_ _ h=>by cases h
def Fun.okP{st:Stmt}{R:LA->PD->Prop}(Fn:Fun K x qual st f fd)(S:ZK N ps (Zh st))(len:∀ ds d,R ds d->ds.length=ps.length)(hb:∀(cdv:Value)(A:Around)(outer:LJ)(s:SH)(H:Hp)(E:XK),Wz k (A.deeper (envOfC qual (Zh st) s.heap.objs.size f cdv))->∀ ds d,R ds d->
   ∃ t,PSs (zbJ CX0 P w K mg base N qual (Zh st) f cdv A outer s H E).nox (Yj st) t/\Sv K B0 t (W9 N (ds.map .dat)) {nx:=λ_=>d = .none,rt:=λr _=>r = .dat d}):VH P w K mg base CX0 (k+1) f fd ps (spP K R):=
 (Fn.znK S len hb).imp λvs H Q E ⟨G,ds,d,sg,hv,hR,kk⟩=>⟨G,ds,d,b0,sg,hv,hR,kk⟩
def EgA(K:FG)(B:Hp)(t:TA)(ρ:LD)(R:LA->LD->Prop):Prop:=∀ E G0 H0 G H σ F,Rl K B E G0 H0 G H σ ρ F->∀ Q:LC->Hp->Prop,
 (∀ vs ds ρ' G' H' F',R ds ρ' -> ZF G G' -> Rl K B E G0 H0 G' H' σ ρ' F' -> YB K G' vs ds->Q vs H')->t σ H Q
def Xf{t:TA}{R:LA->LD->Prop}(h:Ea K B t (msk ρ) ds)(k:R ds ρ):EgA K B t ρ R:=λE G0 H0 G H σ F r Q q=>h G σ r.rx G H (ZF.refl _) r.g.gh Q λvs G' H' g hv=>q vs ds ρ G' H' F k g.gg (r.grow g) hv
def Yu{t:TA}{R:LA->LD->Prop}(h:Eg K B te ρ λr ρ1=>∃ d,r = .dat d/\EgA K B t ρ1 λds ρ2=>R (d::ds) ρ2):EgA K B (YC te t) ρ R:=λE G0 H0 G H σ F r Q q=>
 h E G0 H0 G H σ F r _ λv w ρ1 G1 H1 F1 L hw s1 r1 sl n=>by obtain⟨d,rfl,h2⟩:=hw;obtain⟨_,y,hy,hd⟩:=sl;cases hy;exact h2 E G0 H0 G1 H1 σ F1 r1 _ λvs ds ρ2 G2 H2 F2 hR s2 r2 hv=>q _ _ ρ2 G2 H2 F2 hR (s1.trans s2) r2 (ZV (hd.same s2) hv)
def Wf{r:R2}{R:PV->LD->Prop}(h:Eg K B ta ρ λx ρ1=>∃ a,x = .dat a/\Eg K B tb ρ1 λy ρ2=>∃ b c,y = .dat b/\(∀ G σ va vb,Dat K G va a->Dat K G vb b->Ev K (tOp r (tC va) (tC vb)) σ G c)/\R (.dat c) ρ2):Eg K B (tOp r ta tb) ρ R:=λE G0 H0 G H σ F r Q q=>
 h E G0 H0 G H σ F r _ λv w ρ1 G1 H1 F1 L hw s1 r1 sl n=>by obtain⟨a,rfl,h2⟩:=hw;obtain⟨_,y,hy,hd⟩:=sl;cases hy;refine h2 E G0 H0 G1 H1 σ F1 r1 _ λv2 w2 ρ2 G2 H2 F2 L2 hw2 s2 r2 sl2 n2=>?_;obtain⟨b,c,rfl,hop,hR⟩:=hw2;obtain⟨_,y2,hy2,hd2⟩:=sl2;cases hy2;exact hop G2 σ v v2 (hd.same s2) hd2 G2 H2 (ZF.refl _) r2.g.gh Q λv3 G3 H3 g3 hv3=>q v3 _ ρ2 G3 H3 F2 [] hR ((s1.trans s2).trans g3.gg) (r2.grow g3) ⟨rfl,v3,rfl,hv3⟩ QW
end
def zfx(h:Heap)(d:AD)(es:Array DictEntry)(ep:Nat):Prop:=∃ o,h.get? d=some o/\o.ExactDict/\o.data = .dict es ep
def zfx.keep{d:AD}(x:zfx h d es ep)(k:∀ o,h.get? d=some o->h'.get? d=some o):zfx h' d es ep:=let ⟨o,e,r⟩:=x;⟨o,k o e,r⟩
section
variable {prog:Program}{w:World}{A:Around}{E:Value->SH->Prop}{s:SH}
def zfx.ty{d:AD}(x:zfx s.heap d es ep):s.TypeIs (.ref d) "dict" := let ⟨o,e,c,_⟩:=x;⟨o,e,c.1⟩
abbrev kIt(d:AD)(n ep:Nat):Obj:={cls:=.type "dict_keyiterator",data:=.fields #[.ref d,.int 0 0,.int n 0,.int ep 0]}
def zjo{d:AD}(hd:(d==sysModules)=false)(x:zfx s.heap d es ep)(q:Q (.ref s.heap.objs.size) {s with heap:=s.heap.push (kIt d es.size ep)}):wpAny (model prog w) A (pyIter (.ref d)) Q E s:=by have hT:=x.ty;obtain⟨o,e,_,hdat⟩:=x;refine wpAny_pyIter_slot hT F.slot_dict_iter (IP F.slot_dict_iter hT F.entry_dict_iter ?_ (F.args_dict_iter_1 _));unfold Builtin.«dict.__iter__»;refine Ia ?_;unfold Builtin.Dict.dictSlotNone;refine Ia (wpAny_notOrdered_dict hT (Ic (a:=Value.ref d) ?_));refine Ia (m:=Builtin.Dict.showsAll d) ?_;unfold Builtin.Dict.showsAll;rw[Im (by rw[hd];exact Ii)];exact Ic (Ia (wpAny_dictEntries e hdat (Ia (wpAny_dictEpoch e hdat (Ia (IK (Ic ⟨_,rfl, "dict_keyiterator",_,⟨_,Io _ rfl,rfl⟩,F.slot_dict_keyiterator_next.lookup,q⟩)))))))
def zkg{it d:AD}{en:DictEntry}{Q:LG->SH->Prop}(hit:s.heap.IsKeyIter it d i es.size ep)(x:zfx s.heap d es ep)(hx:es[i]?=some en)(q:∀ h',h'.IsKeyIter it d (i+1) es.size ep->SameBut it s.heap h' -> Q (some en.key) {s with heap:=h'}):wpAny (model prog w) A (pyNext (.ref it)) Q E s:=by
 obtain⟨o,ho,hc,hd⟩:=id hit;obtain⟨od,hod,_,hdd⟩:=x;have ty:=hit.typeIs;unfold pyNext;refine Ia (N1 (IM (name:=Str.ofString "__next__") ty NZ (IP NZ ty F.entry_dict_keyiterator_next (Ia (Ic (Ia (Ia ?_)))) (F.args_dict_keyiterator_next_1 _))))
 first | refine Ia (NX ty (Ic (Ia (wpAny_fieldsOf ho hd ?_)))) | refine Ia (Oi ty (Ic (Ia (wpAny_fieldsOf ho hd ?_))))
 have own:Builtin.Dict_items.ownsTuple "dict_keyiterator" = false:=by decide
 simp only[own,Nf,IN];show wpAny _ _ (if(Value.ref d==Value.none)=true then _ else _) _ _ s;rw[Im (λz:(Value.ref d==Value.none)=true=>Ii z)];refine Ia (Ic (Ia (wpAny_dictEntries hod hdd ?_)));rw[Im (by simp)];refine Ia (Ic (Ia (wpAny_dictEpoch hod hdd ?_)));rw[Im (by simp)];refine Ic ?_;have lt:i<es.size:=by
  rcases Nat.lt_or_ge i es.size with h | h
  .exact h
  .rw[Array.getElem?_eq_none h]at hx;cases hx
 have ee:es[i]=en:=by rw[Nb lt]at hx;exact Iu hx
 simp only[show ¬ ((i:Int)<0)by omega,Nf,NG,Nb lt];refine Ia ?_
 first | refine Ia (NX ty (Ic (Ia (wpAny_isOneOf_keyiter ty ?_)))) | refine Ia (Oi ty (Ic (Ia (wpAny_isOneOf_keyiter ty ?_))))
 refine Ia (m:=setField (.ref it) 1 (rawInt ((i:Int)+1))) (Ol ho hd (by simp) ?_);have hit' : (s.heap.update it (Obj.mapFields (·.setIfInBounds 1 (rawInt ((i:Int)+1))))).IsKeyIter it d (i+1) es.size ep:=⟨_,NV _ ho (Oy (NL hd _)),(Obj.cls_mapFields ..).trans hc,by rw[NL hd];simp[rawInt]⟩
 refine Ia (Np (Ia (wpAny_isOneOf_keyiter (s:={s with heap:=s.heap.update it (Obj.mapFields (·.setIfInBounds 1 (rawInt ((i:Int)+1))))}) hit'.typeIs ?_)));show wpAny _ _ (pure es[i].key) _ _ _;rw[ee];exact Ic (Ic ⟨_,rfl,Ic (q _ hit' (SameBut.update ..))⟩)
def zl9{it d:AD}{Q:LG->SH->Prop}(hh:A.handled=none)(hit:s.heap.IsKeyIter it d i es.size ep)(x:zfx s.heap d es ep)(hx:es.size<=i)(q:∀ h',ExtBut it s.heap h' -> Q none {s with heap:=h'}):wpAny (model prog w) A (pyNext (.ref it)) Q E s:=by
 obtain⟨o,ho,hc,hd⟩:=id hit;obtain⟨od,hod,_,hdd⟩:=x;have ty:=hit.typeIs;unfold pyNext;refine Ia (N1 (IM (name:=Str.ofString "__next__") ty NZ (IP NZ ty F.entry_dict_keyiterator_next (Ia (Ic (Ia (Ia ?_)))) (F.args_dict_keyiterator_next_1 _))))
 first | refine Ia (NX ty (Ic (Ia (wpAny_fieldsOf ho hd ?_)))) | refine Ia (Oi ty (Ic (Ia (wpAny_fieldsOf ho hd ?_))))
 have own:Builtin.Dict_items.ownsTuple "dict_keyiterator" = false:=by decide
 simp only[own,Nf,IN];show wpAny _ _ (if(Value.ref d==Value.none)=true then _ else _) _ _ s;rw[Im (λz:(Value.ref d==Value.none)=true=>Ii z)];refine Ia (Ic (Ia (wpAny_dictEntries hod hdd ?_)));rw[Im (by simp)];refine Ia (Ic (Ia (wpAny_dictEpoch hod hdd ?_)));rw[Im (by simp)];refine Ic ?_;simp only[show ¬ ((i:Int)<0)by omega,Nf,NG,Array.getElem?_eq_none hx];refine Ia ?_
 first | refine Ia (NX ty (Ic ?_)) | refine Ia (Oi ty (Ic ?_))
 refine Ia (m:=setField (.ref it) 0 .none) (Ol ho hd (by simp) (Ia (m:=newExc (.type "StopIteration") []) ?_));simp only[newTuple,newExc];refine Ia (IK (Ia (m:=firstArgMember _ _) (OA (a:=Value.none) (by first | rfl | (simp only[firstArgMember];rfl)) (IK ?_ (by size_fits)))) (by size_fits));simp only[raiseNew];refine Ia (wpAny_handled ?_);rw[show A.in1.handled=none from hh];refine Ia (Ic (wpAny_throw ?_));exact Ia (NO (T:= "StopIteration") (b:=true) ⟨_,Io _ rfl,rfl⟩ isSubtype_stop (Ic (q _ (((SameBut.update ..).extBut.push _).push _))))
def zji(hh:A.handled=none)(I d:AD)(hne:d≠I)(es:Array DictEntry)(ep:Nat):Walks prog w A I [I,d] [I] es.size (λi v=>∃ en,es[i]?=some en/\v=en.key) (λi h=>h.IsKeyIter I d i es.size ep/\zfx h d es ep) where
 sub:=λb hb=>by simp at hb;simp[hb]
 frame:=λ_ _ _ st hk=>⟨st.1.at λo e=>hk I (by simp) o e,st.2.keep λo e=>hk d (by simp) o e⟩
 item:=λi s Q E hi st hQ=>zkg st.1 st.2 (Nb hi) λh' hit' hs' => hQ _ h' s.toks ⟨_,Nb hi,rfl⟩ ⟨hit',st.2.keep λo e=>hs'.extBut d o hne e⟩ λb o hb e=>hs'.extBut b o (λh=>hb (by simp[h])) e
 done:=λs Q E st hQ=>zl9 hh st.1 st.2 (Ik _) λh' he' => hQ h' s.toks λb o hb e=>he' b o (λh=>hb (by simp[h])) e
 self:=λ_ _ _ _ st hQ=>wpAny_pyIter_keyiter st.1 hQ
def zbH:typeLookup (.type "dict") "__len__" = pure (some (.builtin "dict.__len__")):=by rw[Ot,NU];kernel_rfl
def zdh{R:Result->SH->Prop}(hh:A.handled=none)(S d:AD)(res:Value)(c0:Nat)(hd:(d==sysModules)=false)(x:zfx s.heap d es ep)(hSd:S≠d)(hS:s.heap.get? S=some {cls:=.type "list",data:=.seq #[] c0})(hn:es.size<=sizeLine)(hR:∀ s' acc' c',Moved [S,s.heap.objs.size] (λa b=>b=a) {s with heap:=s.heap.push (kIt d es.size ep)} s' -> s'.heap.get? S=some {cls:=.type "list",dict:=none,data:=.seq acc' c',slots:=#[]}->ItemsOf (λi v=>∃ en,es[i]?=some en/\v=en.key) acc' es.size->R (.ok (.ret res)) s'):
  wpAny (model prog w) A.in1 (Builtin.List.listExtendWith (.ref S) (.ref d) res)
   (λfin s' => match fin with | .done f=>R (.ok f) s' | .again c' => c'.quiet=true/\codeAny (model prog w) A c' R s') (λe s' => R (.error e) s') s:=by
 have hT:=x.ty;have ltS:=IF hS;have ltd:d<s.heap.objs.size:=by obtain⟨o,e,_⟩:=id x;exact IF e
 unfold Builtin.List.listExtendWith;refine Ia (wpAny_typeOf hT ?_);have z1:Builtin.List.listSameRef (.ref S) (.ref d)=false:=by simp[Builtin.List.listSameRef,hSd]
 rw[Im (by rw[z1];decide)];refine Ia (zjo hd x (Ia (Np ?_)));have hT1:TypeIs {s with heap:=s.heap.push (kIt d es.size ep)} (.ref d) "dict" := by obtain⟨o,e,c,_⟩:=id x;exact⟨o,Ih _ e,c.1⟩
 unfold Builtin.List.listLengthHint;refine Ia (NI hT1 zbH ?_);generalize hid:("dict.__len__" : String)=id0
 wp_delta
 rw[show splitId id0=some ("dict", "__len__")from by subst hid;decide +kernel];subst hid;refine Ia (NO (b:=true) hT1 (by rw[OD];kernel_rfl) ?_);rw[Im (show ¬ ((!true)=true)by decide)];dsimp only;rw[Iq (by decide +kernel)];refine Ia (wpAny_typeOf hT1 (Ic ?_));rw[Iq (by decide +kernel)];refine Ia (NY (Ia ?_));have hSp:(s.heap.push (kIt d es.size ep)).get? S=some {cls:=.type "list",data:=.seq #[] c0}:=Ih _ hS;show wpAny _ A.in1 (updateSeq S (·.push .none) >>= λ_=>updateSeq S (·.pop)) _ _ _;refine Ia (wpAny_updateSeq (s:={s with heap:=s.heap.push (kIt d es.size ep)}) hSp rfl ?_);have q2:=NV (Obj.mapSeq (·.push Value.none)) hSp rfl;refine wpAny_updateSeq (hz:=by seq_fits) q2 rfl ?_;have q3:=NV (Obj.mapSeq (·.pop)) q2 rfl;have oth:∀ b o,b≠S->(s.heap.push (kIt d es.size ep)).get? b=some o->(((s.heap.push (kIt d es.size ep)).update S (Obj.mapSeq (·.push Value.none))).update S (Obj.mapSeq (·.pop))).get? b=some o:=λb o hb e=>(NF _ _ (Ne.symm hb)).trans ((NF _ _ (Ne.symm hb)).trans e)
 have ndI:d≠s.heap.objs.size:=IS ltd;have nSI:S≠s.heap.objs.size:=IS ltS;have W:=(zji (prog:=prog) (w:=w) (A:=A.in1) (show A.in1.handled=none from hh) s.heap.objs.size d ndI es ep).toS;have hSf:S∉[s.heap.objs.size,d]:=λhm=>by
  rcases IE.mp hm with z | z
  .exact nSI z
  .exact hSd (IH.mp z)
 refine Ic ⟨plainId_quiet F.plain_extend_loop _,codeAny_extend_loopS W hn S hSf _ es.size 0 _ _ _ rfl (Nr _) ⟨?_,?_⟩ q3 (ItemsOf.nil _) λs' acc' c' hm hS' hacc=>?_⟩
 .exact⟨_,oth _ _ (Ne.symm nSI) (Io _ rfl),rfl,rfl⟩
 .exact x.keep λo e=>oth d o (Ne.symm hSd) (Ih _ e)
 .exact hR s' acc' c' ⟨λb o hb e=>hm.heap b o hb (oth b o (λh=>hb (by simp[h])) e),hm.gens,hm.drawn,hm.os,hm.toks⟩ hS' hacc
def za1(hh:A.handled=none){d:AD}(hd:(d==sysModules)=false)(x:zfx s.heap d es ep)(hn:es.size<=sizeLine)(q:∀ s' acc' c',(∀ b o,s.heap.get? b=some o->s'.heap.get? b=some o)->s'={s with heap:=s'.heap,toks:=s'.toks}->s'.heap.get? s.heap.objs.size=some {cls:=.type "list",dict:=none,data:=.seq acc' c',slots:=#[]}->ItemsOf (λi v=>∃ en,es[i]?=some en/\v=en.key) acc' es.size->Q (.ref s.heap.objs.size) s'):
  wpAny (model prog w) A (call (.type "list") [.ref d]) Q E s:=by
 have ltd:d<s.heap.objs.size:=by obtain⟨o,e,_⟩:=id x;exact IF e
 refine callType_codes (Q₁:=λobj s₁=>obj = .ref s.heap.objs.size/\s₁={s with heap:=s.heap.push {cls:=.type "list",data:=.seq #[]}}) F.called_list (F.typeCall_list_1 _) F.entry_list_init (code_list_new _ ⟨rfl,rfl⟩) λobj s1 h1=>?_;obtain⟨rfl,rfl⟩:=h1;have hS:(s.heap.push {cls:=.type "list",data:=.seq #[]}).get? s.heap.objs.size=some {cls:=.type "list",data:=.seq #[]}:=Io _ rfl;refine⟨⟨_,hS,rfl⟩,F.args_list_init_2 _ _,?_⟩;refine Ia (m:=Builtin.List.listItems (.ref s.heap.objs.size)) ?_;unfold Builtin.List.listItems;refine Ia (NH hS rfl (Ic ?_));refine Ia (m:=updateSeq s.heap.objs.size (λ_=>#[])) (wpAny_updateSeq hS rfl ?_);have hS2:=NV (Obj.mapSeq (λ_=>(#[]:Array Value))) hS rfl;have oth:∀ b o,b≠s.heap.objs.size->(s.heap.push {cls:=.type "list",data:=.seq #[]}).get? b=some o->((s.heap.push {cls:=.type "list",data:=.seq #[]}).update s.heap.objs.size (Obj.mapSeq (λ_=>(#[]:Array Value)))).get? b=some o:=λb o hb e=>(NF _ _ (Ne.symm hb)).trans e;have old:∀ b o,s.heap.get? b=some o->((s.heap.push {cls:=.type "list",data:=.seq #[]}).update s.heap.objs.size (Obj.mapSeq (λ_=>(#[]:Array Value)))).get? b=some o:=λb o e=>oth b o (IS (IF e)) (Ih _ e);refine Ia (wpAny_letGo ?_);refine zdh (A:=A.in1) (prog:=prog) (w:=w) (s:={s with heap:=(s.heap.push {cls:=.type "list",data:=.seq #[]}).update s.heap.objs.size (Obj.mapSeq (λ_=>(#[]:Array Value)))}) (show A.in1.handled=none from hh) s.heap.objs.size d .none _ hd (x.keep λo e=>old d o e) (ne_of_gt ltd) hS2 hn λs' acc' c' hm hS' hacc=>?_;refine⟨rfl,q s' acc' c' (λb o e=>?_) ?_ hS' hacc⟩
 .have hb:=IF e;refine hm.heap b o (λhmem=>?_) (Ih _ (old b o e));have hsz:((s.heap.push {cls:=.type "list",data:=.seq #[]}).update s.heap.objs.size (Obj.mapSeq (λ_=>(#[]:Array Value)))).objs.size=s.heap.objs.size+1:=by rw[Heap.size_update,Nu]
  rcases IE.mp hmem with z | z
  .exact zeT hb z
  .have z':=IH.mp z;rw[show(Shared.heap {s with heap:=(s.heap.push {cls:=.type "list",data:=.seq #[]}).update s.heap.objs.size (Obj.mapSeq (λ_=>(#[]:Array Value)))}).objs.size=s.heap.objs.size+1 from hsz]at z';exact zeT (Ow hb) z'
 .obtain⟨h1,h2,h3,h4,h5⟩:=s';have e1:h2=s.gens:=hm.gens;have e2:h3=s.drawn:=hm.drawn;have e3:h5=s.os:=hm.os;subst e1 e2 e3;rfl
end
section
variable {prog:Program}{w:World}{K:Type}[DecidableEq K](knd:KeyKind prog w K)
def It2(h:Heap):List (List K)->LF->Prop:=Paired λk v=>∃ b,v = .ref b/\IsTupleKey knd h k b
def WF(h:Heap)(ks:List (List K))(a:AD):Prop:=∃ o items n,h.get? a=some o/\o.cls = .type "tuple" /\ o.data = .seq items n/\It2 knd h ks items.toList
variable {knd}
theorem It2.inj :∀{x y:List (List K)}{vs:LF},It2 knd h x vs->It2 knd h y vs->x=y
 |_,_,_,.nil,.nil=>rfl
 |_,_,_,.cons ⟨b,e,i⟩ r,.cons ⟨b',e',i'⟩ r' => by have z:Value.ref b=Value.ref b':=e.symm.trans e';cases z;rw[i.inj i',It2.inj r r']
def WF.ty{s:SH}{ks:List (List K)}(x:WF knd s.heap ks a):s.TypeIs (.ref a) "tuple" := let ⟨o,_,_,ho,hc,_⟩:=x;⟨o,ho,hc⟩
theorem WF.inj{x y:List (List K)}(hx:WF knd h x a)(hy:WF knd h y a):x=y:=by obtain⟨o,its,n,ho,_,hd,hi⟩:=hx;obtain⟨o',its',n',ho',_,hd',hi'⟩:=hy;rw[ho]at ho';cases ho';rw[hd]at hd';cases hd';exact hi.inj hi'
theorem It2.map(f:∀ k b,IsTupleKey knd h k b->IsTupleKey knd h' k b):∀{ks:List (List K)}{vs:LF},It2 knd h ks vs->It2 knd h' ks vs
 |_,_,.nil=>.nil
 |_,_,.cons ⟨b,e,i⟩ r=>.cons ⟨b,e,f _ _ i⟩ (It2.map f r)
theorem WF.keeps{ks:List (List K)}{d:AD}{o:Obj}{es ep}(x:WF knd h ks a)(ho:h.get? d=some o)(hd:o.data = .dict es ep)(hs:SameBut d h h'):WF knd h' ks a:=by
 obtain⟨o',its,n,ho',hc,hd',hi⟩:=x;have ne:a≠d:=by rintro rfl;rw[ho]at ho';cases ho';rw[hd]at hd';cases hd'
 exact⟨o',its,n,(hs.2 a ne).trans ho',hc,hd',hi.map λk b i=>i.keeps ho hd hs⟩
noncomputable def zkz(knd:KeyKind prog w K)(ks:List (List K)):Int:=reduceHash (Builtin.Tuple.tupleHashOf (ks.map (tupleKeyHash knd)))
noncomputable def Vw(ks:List (List K)):Nat:=(ks.map λk=>k.length+1).sum
variable {A:Around}{E:Value->SH->Prop}{s:SH}
def zgx{ks:List (List K)}{Q:Int->SH->Prop}(hu:A.units+1<cLine)(hk:WF knd s.heap ks a)(h:Q (zkz knd ks) {s with toks:=s.toks+(Vw ks+1)}):wpAny (model prog w) A (pyHash (.ref a)) Q E s:=by
 have hT:=hk.ty;obtain⟨o,items,n,ho,_,hd,hi⟩:=hk;unfold pyHash
 first | unfold pyHashByItsType | skip
 first | refine Ia (wpAny_cRoomFor_or (.inr (by omega)) ?_) | skip
 refine Ia (NI hT F.slot_tuple_hash.lookup ?_);rw[Im (by rw[beq_builtin_none];exact Ii)];refine Ia (NI hT F.slot_tuple_hash.lookup ?_);refine Ia (m:=callSpecialIfBoundUnlessNone? (.ref a) "__hash__" _) (wpAny_callSpecialIfBoundUnlessNone?_slot hT F.slot_tuple_hash (IP F.slot_tuple_hash hT F.entry_tuple_hash (Ia (m:=Builtin.Tuple.tupleItemsOf (.ref a)) (wpAny_tupleItemsOf ho hd (Ia ?_))) (F.args_tuple_hash_1 _)));rw[← forIn_toList];refine N4 _ (λrest (b:Array Int) s' => ∃ done left,ks=done++left/\It2 knd s.heap left rest/\b.toList=done.map (tupleKeyHash knd)/\s'={s with toks:=s.toks+Vw done}) _ ?_ ?_ _ _ ⟨[],ks,rfl,hi,rfl,rfl⟩
 .rintro x rest b s' ⟨done,left,rfl,hl,hb,rfl⟩;cases hl with
  |@cons k _ ks' _ h1 hl' =>
   obtain⟨c,rfl,hc⟩:=h1;have hdr:Vw (done++[k])=Vw done+(k.length+1):=by simp[Vw]
   refine Ia (wpAny_pyHash_tuple (s:={s with toks:=s.toks+Vw done}) (by show A.units+1<cLine;exact hu) hc ?_);have fin:({s with toks:=s.toks+Vw done+(k.length+1)}:SH)={s with toks:=s.toks+Vw (done++[k])}:=by rw[hdr,add_assoc]
   first
    |exact Ic ⟨done++[k],ks',(by simp),hl',by simp[hb],fin⟩
    |exact Ia (Ic (Ic ⟨done++[k],ks',(by simp),hl',by simp[hb],fin⟩))
 .rintro b s' ⟨done,left,rfl,hl,hb,rfl⟩;cases hl;rw[NK]at h;show wpAny _ _ (retInt (Builtin.Tuple.tupleHashOf b.toList)) _ _ _;rw[hb];refine wpAny_ret_mkInt ?_;unfold zkz at h;generalize Builtin.Tuple.tupleHashOf (done.map (tupleKeyHash knd))=x at h;show wpAny _ _ (if(decide (-(2:Int)^63<=x)&&decide (x<2^63))=true then _ else _) Q E _;unfold reduceHash at h;by_cases hr:(decide (-(2:Int)^63<=x)&&decide (x<2^63))=true
  .rw[Iq hr];rw[Iq hr]at h;exact Ic (by simpa [add_assoc]using h)
  .rw[Im hr];rw[Im hr]at h;exact Ia (NY (Ic (by simpa [add_assoc]using h)))
def zij{x y:List (List K)}{b:AD}{P:Fin->SH->Prop}(hu:A.units<cLine)(hx:WF knd s.heap x a)(hy:WF knd s.heap y b)(h:P (.done (.ret (.bool (decide (x=y))))) s):wpAny (model prog w) A (Builtin.«tuple.__eq__» ⟨[.ref a,.ref b],[]⟩) P E s:=by
 have hTb:=hy.ty;obtain⟨oa,xs,na,hoa,_,hda,hia⟩:=hx;obtain⟨ob,ys,nb,hob,_,hdb,hib⟩:=hy;refine Ia (m:=isInstance (.ref b) (.type "tuple")) (NO hTb isSubtype_tuple_tuple ?_);simp only[N2,Nf,IN];refine Ia (wpAny_tupleItemsOf hoa hda (Ia (wpAny_tupleItemsOf hob hdb (Ia ?_))));refine N4 _ (λrest r s' => r.1=none/\s'=s/\∃ x' y' xs' ys',rest=List.zip xs' ys' /\ It2 knd s.heap x' xs' /\ It2 knd s.heap y' ys' /\ decide (x'=y')=decide (x=y)/\(xs'.length==ys'.length)=(xs.size==ys.size)) _ ?_ ?_ _ _ ⟨rfl,rfl,x,y,xs.toList,ys.toList,rfl,hia,hib,rfl,(by simp)⟩
 .rintro⟨u,v⟩ rest r s' ⟨hr,rfl,x',y',xs',ys',hz,hx',hy',hdec,hlen⟩;cases hx' with
  |nil=>simp at hz
  |@cons k1 u' x'' xs'' h1 hx'' =>
   cases hy' with
   |nil=>simp at hz
   |@cons k2 v' y'' ys'' h2 hy'' =>
    simp only[List.cons.injEq,List.zip_cons_cons,Prod.mk.injEq]at hz;obtain⟨⟨rfl,rfl⟩,rfl⟩:=hz;obtain⟨c1,rfl,i1⟩:=h1;obtain⟨c2,rfl,i2⟩:=h2;refine Ia (wpAny_eqBool_tuple hu i1 i2 ?_);by_cases hk:k1=k2
    .subst hk;rw[Ip rfl];simp only[N2,Nf,IN];refine Ic ⟨rfl,rfl,x'',y'',xs'',ys'',rfl,hx'',hy'',?_,by simpa using hlen⟩;rw[← hdec];by_cases hxy:x''=y'' <;> simp[hxy]
    .rw[Iw hk];simp only[Bool.not_false,Oj];have hf:decide (x=y)=false:=by rw[← hdec];simp[hk]
     rw[hf]at h;exact Ia (Ic (Ic (Ic h)))
 .rintro⟨r1,r2⟩ s' ⟨hr,rfl,x',y',xs',ys',hz,hx',hy',hdec,hlen⟩;simp only at hr;subst hr;refine Ic ?_;have e:(xs.size==ys.size)=decide (x=y):=by
   rw[← hdec,← hlen];cases hx' with
   |nil=>cases hy' with
    |nil=>simp
    |cons _ _=>simp
   |cons _ _=>cases hy' with
    |nil=>simp
    |cons _ _=>simp at hz
  show P (.done (.ret (.bool (xs.size==ys.size)))) s';rw[e];exact h
def zkp{x y:List (List K)}{b:AD}{Q:Bool->SH->Prop}(hu:A.units+1<cLine)(hx:WF knd s.heap x a)(hy:WF knd s.heap y b)(h:Q (decide (x=y)) s):wpAny (model prog w) A (eqBool (.ref a) (.ref b)) Q E s:=by
 unfold eqBool
 try with_reducible refine Np ?_
 by_cases hab:(Value.ref a==Value.ref b)=true
 .rw[Iq hab];have e:a=b:=by have:=eq_of_beq hab;injection this
  subst e;obtain rfl:=hx.inj hy;exact Ia (NY (Ic (by simpa using h)))
 .rw[Im hab];exact Ia (wpAny_richCompare_same_room (op:=.Eq) hx.ty hy.ty F.slot_tuple_eq (IP F.slot_tuple_eq hx.ty F.entry_tuple_eq (zij (by show A.units+1<cLine;exact hu) hx hy ⟨_,rfl,(λe=>nomatch e),Nn h⟩) (F.args_tuple_eq_2 _ _)) (by omega))
def zmu{ks:List K}{m:Nat}{Q:Bool->SH->Prop}(hk:IsTupleKey knd s.heap ks a)(h:Q true s):wpAny (model prog w) A (eqIsQuiet (m+1) (.ref a)) Q E s:=by
 have hT:=hk.typeIs;obtain⟨o,items,n,ho,_,hd,hi⟩:=hk;unfold eqIsQuiet;refine Ia (NI hT F.slot_tuple_eq.lookup (Ia (m:=isInstance (.ref a) (.type "tuple")) (NO hT isSubtype_tuple_tuple ?_)));simp only[N2,Nf,IN];refine Ia (NH ho hd (Ia (m:=forIn items _ _) ?_));rw[← forIn_toList];refine N4 _ (λrest r s' => r.1=none/\s'=s/\∀ v∈rest,carriedByValue v=true) _ ?_ ?_ _ _ ⟨rfl,rfl,hi.byValue⟩
 .rintro v rest r s' ⟨hr,rfl,hall⟩;rw[eqIsQuiet_byValue _ (hall v ID)];refine Ia (Ic ?_);simp only[N2,Nf,IN];exact Ic ⟨rfl,rfl,λu hu' => hall u (Iy _ hu')⟩
 .rintro⟨r1,r2⟩ s' ⟨hr,rfl,_⟩;simp only at hr;subst hr;exact Ic h
def zle{ks:List (List K)}{Q:Bool->SH->Prop}(hk:WF knd s.heap ks a)(h:Q true s):wpAny (model prog w) A (eqIsQuiet 8 (.ref a)) Q E s:=by
 have hT:=hk.ty;obtain⟨o,items,n,ho,_,hd,hi⟩:=hk;unfold eqIsQuiet;refine Ia (NI hT F.slot_tuple_eq.lookup (Ia (m:=isInstance (.ref a) (.type "tuple")) (NO hT isSubtype_tuple_tuple ?_)));simp only[N2,Nf,IN];refine Ia (NH ho hd (Ia (m:=forIn items _ _) ?_));rw[← forIn_toList];refine N4 _ (λrest r s' => r.1=none/\s'=s/\∃ left,It2 knd s.heap left rest) _ ?_ ?_ _ _ ⟨rfl,rfl,ks,hi⟩
 .rintro v rest r s' ⟨hr,rfl,left,hl⟩;cases hl with
  |@cons k _ ks' _ h1 hl' =>obtain⟨c,rfl,hc⟩:=h1;refine Ia (zmu (m:=6) hc ?_);simp only[N2,Nf,IN];exact Ic ⟨rfl,rfl,ks',hl'⟩
 .rintro⟨r1,r2⟩ s' ⟨hr,rfl,_⟩;simp only at hr;subst hr;exact Ic h
end
noncomputable def zhF{prog:Program}{w:World}{K:Type}[DecidableEq K](knd:KeyKind prog w K):HeapKind prog w (List (List K)) where
 is:=WF knd
 hash:=zkz knd
 draws:=λks=>Vw ks+1
 room:=λA=>A.units+1<cLine
 inj:=λhx hy=>hx.inj hy
 keeps:=λx ho hd hs=>x.keeps ho hd hs
 pyHash:=λhu hk h=>zgx hu hk h
 eqBool:=λhu hx hy h=>zkp hu hx hy h
 quiet:=λhk h=>zle hk h
abbrev KX:=List (List Key)
noncomputable def zcG(k:KX):PD:=.tuple (k.map λl=>.tuple (l.map kD))
def zoJ(P:Program)(w:World)(a:AD)(xs:List (KX×AD))(h:Heap):Prop:=(a==sysModules)=false/\xs.length<=sizeLine/\∃ o es ep,h.get? a=some o/\o.ExactDict/\o.data = .dict es ep/\es.toList=xs.map (λx=>entryOfKey (zhF (Xy P w)) (x.1,x.2,.bool true))/\(xs.map (·.1)).Nodup
noncomputable def dX(P:Program)(w:World)(a:AD)(xs:List (KX×AD)):HO:=.ext (zoJ P w a xs)
noncomputable def zl3(xs:List (KX×AD))(k:KX):Bool:=xs.any λx=>decide (x.1=k)
def zbS{xs:List (KX×AD)}{k:KX}:zl3 xs k=true↔k∈xs.map (·.1):=by
 unfold zl3;rw[any_eq_true];constructor
 .rintro⟨x,hx,e⟩;exact N0.mpr ⟨x,hx,IB e⟩
 .intro h;obtain⟨x,hx,e⟩:=N0.mp h;exact⟨x,hx,Ip e⟩
noncomputable def zhW(xs:List (KX×AD))(k:KX)(b:AD):List (KX×AD):=if zl3 xs k=true then xs else xs++[(k,b)]
def ziN{P:Program}{w:World}{xs:List (KX×AD)}(x:zoJ P w a xs h):Xk P w H h a (dX P w a xs):=by
 refine⟨x,?_,λh1 h2 y k=>?_⟩
 .obtain⟨_,_,o,_,_,e,_⟩:=x;exact⟨o,e⟩
 .obtain⟨z1,z2,o,es,ep,e,r⟩:=y;exact⟨z1,z2,o,es,ep,k o e,r⟩
section
variable {X:Cx}{aa:List (Addr×Obj)}{σ:St}{H G:Hp}{s:SH}
theorem ziW(I:Inv X aa σ H s)(sg:ZF G H):∀{k:KX}{xs:LC}{its:LF},Vals xs its->YB X.K G xs (k.map λl=>.tuple (l.map kD))->It2 (Xy X.prog X.w) s.heap k its
 |[],_,_,r,h=>by have e:=h.nil;subst e;cases r;exact .nil
 |l::k,_,_,r,h=>by
  obtain⟨y,ys,rfl,hy,hr⟩:=h.cons;cases r with
  |cons r1 r2=>
   obtain⟨p,zs,rfl,hp,hz⟩:=Dat.tup hy;cases r1;obtain⟨jts,rj,⟨o,h1,h2,n,h3⟩,zz⟩:=I.tuple (sg.tup hp);clear zz;have e:zs=l.map kV:=by
    clear rj hp hr r2 hy h
    induction l generalizing zs with
    |nil=>exact hz.nil
    |cons q l ih=>obtain⟨u,us,rfl,hu,hus⟩:=hz.cons;rw[zo2 hu,ih us hus];rfl
   subst e;exact .cons ⟨p,rfl,o,jts.toArray,n,h1,h2,h3,by simpa using zcE rj⟩ (ziW I sg r2 hr)
def zcl(I:Inv X aa σ H s)(sg:ZF G H){k:KX}{b:AD}(h:Dat X.K G (.ref b) (zcG k)):WF (Xy X.prog X.w) s.heap k b:=by obtain⟨p,xs,e,hp,hx⟩:=Dat.tup h;cases e;obtain⟨its,r,⟨o,h1,h2,n,h3⟩,_⟩:=I.tuple (sg.tup hp);exact⟨o,its.toArray,n,h1,h2,h3,by simpa using ziW I sg r hx⟩
def zlK(P:Program)(w:World):TE:=λ_ H Q=>∀ p,H p=none->Q (.ref p) (upd H p (dX P w p []))
def zhm{P:Program}{w:World}(eP:X.prog=P)(ew:X.w=w):PE X (.Dict [] [] pos) (zlK P w):=by
 subst eP ew;exact λaa s σ H Q I h=>
 wpAny_Dict_empty ⟨.ref s.heap.objs.size,_,I.laid (a:=s.heap.objs.size) (o:=dX X.prog X.w s.heap.objs.size []) (t':=s.toks) (λ_ _ q=>Ih _ q) (Ik _)
  (ziN ⟨beq_eq_false_iff_ne.mpr (Ne.symm (IS I.big)),Nr _,_,#[],0,Io _ rfl,⟨rfl,rfl,rfl⟩,rfl,rfl,nodup_nil⟩),rfl,h _ (I.ad.fresh (Ik _))⟩
def znl(P:Program)(w:World)(K:FG)(td ty tv:TE):TS:=λD σ H=>tv σ H λv H1=>td σ H1 λx H2=>ty σ H2 λy H3=>∃(a b:AD)(k:KX)(xs:List (KX×AD))(G:Hp),v = .bl true/\x = .ref a/\y = .ref b/\H3 a=some (dX P w a xs)/\ZF G H3/\Dat K G (.ref b) (zcG k)/\(∀ z∈xs,Dat K G (.ref z.2) (zcG z.1))/\xs.length<sizeLine/\D.nx σ (upd H3 a (dX P w a (zhW xs k b)))
theorem zaE{P:Program}{w:World}:∀(xs:List (KX×AD))(k:KX),(atKey (xs.map λx=>(x.1,x.2,Value.bool true)) k=none↔k∉xs.map (·.1))
 |[],k=>by simp[atKey]
 |x::r,k=>by
  have ih:=zaE (P:=P) (w:=w) r k;unfold atKey at ih ⊢;by_cases h:x.1=k
  .simp[OO,h]
  .have h' : ¬ k=x.1:=λe=>h e.symm;simp only[Ng,OO,h,decide_false,IE,h',false_or];exact ih
def zew{P:Program}{w:World}(xs:List (KX×AD))(k:KX)(b:AD):storedH (xs.map λx=>(x.1,x.2,Value.bool true)) k b (.bool true)=(zhW xs k b).map λx=>(x.1,x.2,Value.bool true):=by
 by_cases h:k∈xs.map (·.1)
 .have hn:atKey (xs.map λx=>(x.1,x.2,Value.bool true)) k≠none:=λe=>((zaE (P:=P) (w:=w) xs k).mp e) h;obtain⟨p,hp⟩:=Option.ne_none_iff_exists'.mp hn;rw[storedH_old hp,zhW,Iq (zbS.mpr h),N8];refine map_congr_left λx _=>?_;show putAt k (.bool true) (x.1,x.2,.bool true)=_;unfold putAt;split <;> rfl
 .rw[storedH_new ((zaE (P:=P) (w:=w) xs k).mpr h),zhW,Im (λz=>h (zbS.mp z)),IX];rfl
def zif{P:Program}{w:World}{K:FG}(eP:X.prog=P)(ew:X.w=w)(eK:X.K=K){o i value:Expr}{pos':Pos}{td ty tv:TE}(hu:X.A.units+64<cLine)(ho:PE X o td)(hi:PE X i ty)(hv:PE X value tv)(hs:swapsWith value (some (.Subscript o i pos')) pos.line X.env=pure false):
  PS X (.Assign [.Subscript o i pos'] value pos) (znl P w K td ty tv):=by
 subst eP ew eK;intro aa s σ H D I h;refine wpAny_Assign_Subscript (thn (hv aa s σ H _ I h) λr s1 ⟨v,H1,I1,rv,q1⟩=>thn (ho aa s1 σ H1 _ I1 q1) λu s2 ⟨x,H2,I2,rx,q2⟩=>thn (hi aa s2 σ H2 _ I2 q2) λiv s3 ⟨y,H3,I3,ry,a,b,k,xs,G,ev,ex,ey,ha,sg,hb,hxs,hl,q3⟩=>?_) hs;subst ev ex ey;obtain rfl:r=Value.bool true:=rv;obtain rfl:u=Value.ref a:=rx;obtain rfl:iv=Value.ref b:=ry;obtain⟨⟨hsm,_,o',es,ep,h1,h2,h3,h4,h5⟩,_⟩:=(show Xk X.prog X.w H3 s3.heap a (dX X.prog X.w a xs)from I3.ad a _ ha)
 have dd:s3.heap.DictOfH (zhF (Xy X.prog X.w)) a (xs.map λx=>(x.1,x.2,Value.bool true)):=⟨o',es,ep,h1,h2,h3,by rw[h4,N8];rfl,λz hz=>by
  obtain⟨x,hx,rfl⟩:=N0.mp hz;exact zcl I3 sg (hxs x hx),by rw[N8];exact h5⟩
 refine wpAny_setItem_heap (hsz:=by rw[Ie];omega) (show X.A.units+1+1<cLine by omega) (zcl I3 sg hb) dd λh' dd' hs=>?_;rw[zew (P:=X.prog) (w:=X.w)]at dd';obtain⟨q,es',ep',hq,g2,g3,g4,_,g5⟩:=dd';have hlen:(zhW xs k b).length<=sizeLine:=by
  unfold zhW;split
  .omega
  .rw[Ig];show xs.length+1<=sizeLine;omega
 exact⟨σ,_,zfY I3 (by rw[ha];exact True.intro) hs ⟨q,hq⟩ (ziN ⟨hsm,hlen,q,es',ep',hq,g2,g3,by rw[g4,N8];rfl,by rw[N8]at g5;exact g5⟩),q3⟩
def znW(P:Program)(w:World):LC->Hp->VK->Prop:=λvs H Q=>∃(a:AD)(xs:List (KX×AD)),vs=[.ref a]/\H a=some (dX P w a xs)/\∀ l,H l=none->Q (.ref l) (upd H l (.lst (xs.map λx=>V.ref x.2)))
def zeD{P:Program}{w:World}(eP:X.prog=P)(ew:X.w=w)(hc:X.calm=true):V2 X (.type "list") (znW P w):=by
 subst eP ew;intro aa s σ H xs us Q I r h;obtain⟨a,ks,rfl,ha,q⟩:=h;obtain⟨u,rfl,rx⟩:=vals1 r;cases rx;obtain⟨⟨hsm,hl,o',es,ep,h1,h2,h3,h4,h5⟩,_⟩:=(show Xk X.prog X.w H s.heap a (dX X.prog X.w a ks)from I.ad a _ ha)
 have hsz:es.size=ks.length:=by rw[← Ov,h4,Ie]
 refine za1 (I.ok.hd hc) hsm ⟨o',h1,h2,h3⟩ (by omega) λs' acc c' hk hs' hS hacc=>?_;have hv:Vals (ks.map λx=>V.ref x.2) acc.toList:=by
  have e:acc.toList=ks.map λx=>Value.ref x.2:=by
   refine ext_getElem? λj=>?_;rw[Ij,getElem?_toList];cases ev:acc[j]? with
   |none=>
    have hj:acc.size<=j:=by simpa using ev
    rw[NT (by rw[← hsz,← hacc.1];exact hj)];rfl
   |some v=>
    obtain⟨en,he,rfl⟩:=hacc.2 j v ev;rw[← getElem?_toList,h4,Ij]at he;cases ek:ks[j]? with
    |none=>rw[ek]at he;cases he
    |some x=>rw[ek]at he;cases he;rfl
  rw[e];have key:∀ l:List (KX×AD),Vals (l.map λx=>V.ref x.2) (l.map λx=>Value.ref x.2):=λl=>by
   induction l with
   |nil=>exact .nil
   |cons x r ih=>exact .cons rfl ih
  exact key ks
 rw[hs'];exact⟨.ref s.heap.objs.size,_,I.laid (t':=s'.toks) hk (Ik _) (show Xk X.prog X.w _ s'.heap _ (.lst (ks.map λx=>V.ref x.2))from⟨by rw[Ie];exact hl,acc.toList,c',hv,by rw[hS]⟩),rfl,q _ (I.ad.fresh (Ik _))⟩
end
def zhw(K:FG):R2:=λx y H Q=>∃ a b xs ys,x = .ref a/\y = .ref b/\SqT K H a xs/\SqT K H b ys/\xs.length+ys.length<=sizeLine/\(xs=[]->Q (.ref b) H)/\(xs≠[]->ys=[]->Q (.ref a) H)/\(xs≠[]->ys≠[]->∀ p,H p=none->Q (.ref p) (upd H p (.tup (xs++ys))))
def YT{X:Cx}{K:FG}(e:X.K=K):OpR X (binaryOp .Add) (zhw K):=by
 subst e;intro aa s σ H x y v u Q I rx ry h;obtain⟨a,b,xs,ys,ex,ey,ha,hb,hz,q0,q1,q2⟩:=h;by_cases hx:xs=[]
 .subst ex ey;cases rx;cases ry;obtain⟨its,r1,p1,_⟩:=I.tuple ha;obtain⟨its2,r2,p2,_⟩:=I.tuple hb;have e0:its=[]:=r1.zbt.mpr hx;obtain⟨⟨cls,dd,data,sl⟩,ho,hc,n,hd⟩:=id p1;obtain⟨⟨cls2,dd2,data2,sl2⟩,ho2,hc2,n2,hd2⟩:=id p2;simp only at hc hd hc2 hd2;subst hc hd hc2 hd2;exact concat_meets ⟨_,ho,rfl⟩ ⟨_,ho2,rfl⟩ noFill_tuple_add seq_tuple_add F.slot_tuple_add F.entry_tuple_add (F.args_tuple_add_2 _ _) (tuple_addW0 a b its.toArray its2.toArray n n2 dd dd2 sl sl2 (by simp[e0])) ⟨ho,ho2,.ref b,H,I,rfl,q0 hx⟩
 .exact zkJ aa s σ H x y v u Q I rx ry ⟨a,b,xs,ys,ex,ey,ha,hb,hx,hz,q1 hx,q2 hx⟩
def zkZ{K:FG}{G:Hp}{ta tb:TE}{es:LA}(ha:Ev K ta σ G (.tuple ds))(hb:Ev K tb σ G (.tuple es))(hz:ds.length+es.length<=sizeLine):Ev K (tOp (zhw K) ta tb) σ G (.tuple (ds++es)):=
 QR ha hb λG1 H x y Q s1 s2 hx hy k=>by
  obtain⟨p,us,rfl,hp,hus⟩:=hx.tup;obtain⟨q,vs,rfl,hq,hvs⟩:=hy.tup;have l1:=hus.length;have l2:=hvs.length;refine⟨p,q,us,vs,rfl,rfl,s2.tup hp,s2.tup hq,(by omega),λz=>?_,λz z2=>?_,λz z2 l hl=>?_⟩
  .subst z;have:ds=[]:=by cases ds with | nil=>rfl | cons=>simp at l1
   subst this;exact k _ G1 H (YH.refl s2) (XX hq hvs)
  .subst z2;have:es=[]:=by cases es with | nil=>rfl | cons=>simp at l2
   subst this;rw[NK]at k;exact k _ G1 H (YH.refl s2) (XX hp hus)
  .have g:=YF (o:=.tup (us++vs)) s2 hl;exact k _ _ _ g (XX (SqT.of Zo) ((W5 hus hvs).same g.gg))
structure Zap(z TI TO i1 i2:AD)(f1 f2:LH):Prop where
 iz:TI≠z
 oz:TO≠z
 az:i1≠z
 bz:i2≠z
 io:TI≠TO
 ia:TI≠i1
 ib:TI≠i2
 oa:TO≠i1
 ob:TO≠i2
 ab:i1≠i2
 z1:z∉f1
 z2:z∉f2
 o1:TO∉f1
 o2:TO∉f2
 b1:i2∉f1
 a2:i1∉f2
section
variable {prog:Program}{w:World}{A:Around}{E:Value->SH->Prop}{s:SH}{z TI TO i1 i2:AD}{f1 f2:LH}{n1 n2 k:Nat}{P1 P2:Nat->Value->Prop}{S1 S2:Nat->Heap->Prop}{a b:Value}
def Jg{c d:AD}{f:LH}(h:d∉f)(hc:c∈f):c≠d:=λe=>h (e ▸ hc)
def zkO(Z:Zap z TI TO i1 i2 f1 f2)(D1:Draws prog w A i1 f1 n1 P1 S1)(D2:Draws prog w A i2 f2 n2 P2 S2)(hz:IsZip s.heap z TI TO .none)(ht:IsPair s.heap TI (.ref i1) (.ref i2))(ho:IsPair s.heap TO a b)(t1:S1 k s.heap)(t2:S2 k s.heap)(k1:k<n1)(k2:k<n2)(q:∀ x y h' tk,P1 k x->P2 k y->IsZip h' z TI TO (rawInt s.heap.objs.size)->IsPair h' TO x y->S1 (k+1) h' -> S2 (k+1) h' -> IsPair h' s.heap.objs.size x y->
   (∀ c o,c≠z->c≠TO->c≠i1->c≠i2->s.heap.get? c=some o->h'.get? c=some o)->Q (.ref s.heap.objs.size) {s with heap:=h',toks:=tk}):
  wpAny (model prog w) A (Builtin.«zip.__next__» ⟨[.ref z],[]⟩) (λfin s' => ∃ v,fin = .done (.ret v)/\Q v s') E s:=by
 refine Ia (m:=field (.ref z) 2) (IW hz rfl (x:=.bool false) rfl (Ia (m:=field (.ref z) 3) (IW hz rfl (x:=.ref TI) rfl (Ia (NH ht rfl ?_)))));refine Ia (m:=Builtin.SmallTypes.ownedTupleIsFree (.ref z)) ?_;unfold Builtin.SmallTypes.ownedTupleIsFree;refine Ia (IW hz rfl (x:=.none) rfl (Ic ?_));rw[Iq (by simp)];refine Ia (NY (Ia (IW hz rfl (x:=.ref TO) rfl (Ia (N6 hz (by simp) λg1 (z1:IsZip g1 z TI TO .ellipsis) e1=>Ia ?_)))));simp only[List.zipIdx_cons,forIn_cons,List.zipIdx_nil,List.forIn_nil];refine Ia (Ia (wpAny_onRaise (Ia (m:=Builtin.SmallTypes.nextOf (.ref i1)) ?_)));refine D1.item k _ _ _ k1 (D1.frame _ _ _ t1 λc hc o e=>e1.extBut _ _ (Jg Z.z1 hc) e) λx g2 tk2 px u1 e2=>Ic ?_;dsimp only at e2 ⊢;have o2:IsPair g2 TO a b:=e2.extBut _ _ Z.oa (e1.extBut _ _ Z.oz ho);refine Ia (NH o2 rfl (Ia (wpAny_updateSeq_pair o2 λg3 (o3:IsPair g3 TO x b) e3=>Ia (wpAny_letGo (Ic ?_)))));refine Ia (Ia (wpAny_onRaise (Ia (m:=Builtin.SmallTypes.nextOf (.ref i2)) ?_)));refine D2.item k _ _ _ k2 (D2.frame _ _ _ t2 λc hc o e=>e3.extBut _ _ (Jg Z.o2 hc) (e2.extBut _ _ (Jg Z.a2 hc) (e1.extBut _ _ (Jg Z.z2 hc) e))) λy g4 tk4 py u2 e4=>Ic ?_;dsimp only at e4 ⊢;have o4:IsPair g4 TO x b:=e4.extBut _ _ Z.ob o3;refine Ia (NH o4 rfl (Ia (wpAny_updateSeq_pair o4 λg5 (o5:IsPair g5 TO x y) e5=>Ia (wpAny_letGo (Ic (Ic (Ia (NH o5 rfl (Ia (wpAny_newTuple ?_))))))))));have z5:IsZip g5 z TI TO .ellipsis:=e5.extBut _ _ Z.oz.symm (e4.extBut _ _ Z.bz.symm (e3.extBut _ _ Z.oz.symm (e2.extBut _ _ Z.az.symm z1)));have sz:g5.objs.size=s.heap.objs.size:=by rw[e5.1,e4.1,e3.1,e2.1,e1.1]
 have kp:∀ c o,c≠z->c≠TO->c≠i1->c≠i2->s.heap.get? c=some o->g5.get? c=some o:=λc o c1 c2 c3 c4 e=>e5.extBut _ _ c2 (e4.extBut _ _ c4 (e3.extBut _ _ c2 (e2.extBut _ _ c3 (e1.extBut _ _ c1 e))));have u15:S1 (k+1) g5:=D1.frame _ _ _ u1 λc hc o e=>e5.extBut _ _ (Jg Z.o1 hc) (e4.extBut _ _ (Jg Z.b1 hc) (e3.extBut _ _ (Jg Z.o1 hc) e));have u25:S2 (k+1) g5:=D2.frame _ _ _ u2 λc hc o e=>e5.extBut _ _ (Jg Z.o2 hc) e;have lz:=IF z5;refine Ia (m:=Builtin.SmallTypes.ownedTupleHandOut (.ref z) (.ref g5.objs.size)) ?_;unfold Builtin.SmallTypes.ownedTupleHandOut;have z6:IsZip (g5.push {cls:=.type "tuple",data:=.seq #[x,y]}) z TI TO .ellipsis:=Ih _ z5;refine Ia (N6 z6 (by simp) λg7 (z7:IsZip g7 z TI TO (rawInt g5.objs.size)) e7=>N6 z7 (by simp) λg8 (z8:IsZip g8 z TI TO (rawInt g5.objs.size)) e8=>?_);have up:∀ c o,c≠z->g5.get? c=some o->g8.get? c=some o:=λc o c1 e=>e8.extBut _ _ c1 (e7.extBut _ _ c1 (Ih _ e));have t8:IsPair g8 g5.objs.size x y:=e8.extBut _ _ (ne_of_gt lz) (e7.extBut _ _ (ne_of_gt lz) (Io _ rfl));refine Ic ⟨.ref g5.objs.size,rfl,?_⟩;rw[sz]at z8 t8 ⊢;exact q x y g8 _ px py z8 (up _ _ Z.oz o5) (D1.frame _ _ _ u15 λc hc o e=>up c o (Jg Z.z1 hc) e) (D2.frame _ _ _ u25 λc hc o e=>up c o (Jg Z.z2 hc) e) t8 λc o c1 c2 c3 c4 e=>up c o c1 (kp c o c1 c2 c3 c4 e)
def zmp{Q:Fin->SH->Prop}(Z:Zap z TI TO i1 i2 f1 f2)(D1:Draws prog w A i1 f1 n1 P1 S1)(D2:Draws prog w A i2 f2 n2 P2 S2)(hz:IsZip s.heap z TI TO .none)(ht:IsPair s.heap TI (.ref i1) (.ref i2))(ho:IsPair s.heap TO a b)(t1:S1 k s.heap)(t2:S2 k s.heap)(hk:k=n1\/(k<n1/\k=n2))(q:∀ h' e tk,(∀ c o,c≠z->c≠TO->c≠i1->c≠i2->s.heap.get? c=some o->h'.get? c=some o)->(∃ o,h'.get? e=some o/\o.cls = .type "StopIteration")->E (.ref e) {s with heap:=h',toks:=tk}):
  wpAny (model prog w) A (Builtin.«zip.__next__» ⟨[.ref z],[]⟩) Q E s:=by
 refine Ia (m:=field (.ref z) 2) (IW hz rfl (x:=.bool false) rfl (Ia (m:=field (.ref z) 3) (IW hz rfl (x:=.ref TI) rfl (Ia (NH ht rfl ?_)))));refine Ia (m:=Builtin.SmallTypes.ownedTupleIsFree (.ref z)) ?_;unfold Builtin.SmallTypes.ownedTupleIsFree;refine Ia (IW hz rfl (x:=.none) rfl (Ic ?_));rw[Iq (by simp)];refine Ia (NY (Ia (IW hz rfl (x:=.ref TO) rfl (Ia (N6 hz (by simp) λg1 (z1:IsZip g1 z TI TO .ellipsis) e1=>Ia ?_)))));simp only[List.zipIdx_cons,forIn_cons,List.zipIdx_nil,List.forIn_nil];refine Ia (Ia (wpAny_onRaise (Ia (m:=Builtin.SmallTypes.nextOf (.ref i1)) ?_)));have fr1:S1 k g1:=D1.frame _ _ _ t1 λc hc o e=>e1.extBut _ _ (Jg Z.z1 hc) e;rcases hk with rfl | ⟨k1,rfl⟩
 .refine D1.done _ _ _ fr1 λg2 e e2 he=>?_;obtain⟨oe,hoe,hce⟩:=he;have z2:IsZip g2 z TI TO .ellipsis:=e2 _ _ Z.az.symm z1;have ez:e≠z:=λx=>by subst x;rw[z2]at hoe;cases hoe;simp at hce
  exact N6 z2 (by simp) λg3 _ e3=>q g3 e _ (λc o c1 _ c3 _ x=>e3.extBut _ _ c1 (e2 _ _ c3 (e1.extBut _ _ c1 x))) ⟨oe,e3.extBut _ _ ez hoe,hce⟩
 .refine D1.item k _ _ _ k1 fr1 λx g2 tk2 px u1 e2=>Ic ?_;dsimp only at e2 ⊢;have o2:IsPair g2 TO a b:=e2.extBut _ _ Z.oa (e1.extBut _ _ Z.oz ho);refine Ia (NH o2 rfl (Ia (wpAny_updateSeq_pair o2 λg3 (o3:IsPair g3 TO x b) e3=>Ia (wpAny_letGo (Ic ?_)))));refine Ia (Ia (wpAny_onRaise (Ia (m:=Builtin.SmallTypes.nextOf (.ref i2)) ?_)));refine D2.done _ _ _ (D2.frame _ _ _ t2 λc hc o e=>e3.extBut _ _ (Jg Z.o2 hc) (e2.extBut _ _ (Jg Z.a2 hc) (e1.extBut _ _ (Jg Z.z2 hc) e))) λg4 e e4 he=>?_;dsimp only at e4 ⊢;obtain⟨oe,hoe,hce⟩:=he;have z4:IsZip g4 z TI TO .ellipsis:=e4 _ _ Z.bz.symm (e3.extBut _ _ Z.oz.symm (e2.extBut _ _ Z.az.symm z1));have ez:e≠z:=λx=>by subst x;rw[z4]at hoe;cases hoe;simp at hce
  exact N6 z4 (by simp) λg5 _ e5=>q g5 e _ (λc o c1 c2 c3 c4 x=>e5.extBut _ _ c1 (e4 _ _ c4 (e3.extBut _ _ c2 (e2.extBut _ _ c3 (e1.extBut _ _ c1 x))))) ⟨oe,e5.extBut _ _ ez hoe,hce⟩
end
abbrev lIt(l:AD):Obj:={cls:=.type "list_iterator",data:=.fields #[.ref l,.int 0 0]}
abbrev yq2(h:Heap)(l1 l2:AD):Heap:=(h.push (lIt l1)).push (lIt l2)
abbrev yq4(h:Heap)(l1 l2:AD):Heap:=((yq2 h l1 l2).push {cls:=.type "tuple",data:=.seq #[.ref h.objs.size,.ref (h.push (lIt l1)).objs.size]}).push {cls:=.type "tuple",data:=.seq #[.none,.none]}
abbrev yq5(h:Heap)(l1 l2:AD):Heap:=(yq4 h l1 l2).push {cls:=.type "zip",data:=.fields #[.none,.bool false,.bool false,.ref (yq2 h l1 l2).objs.size,.ref ((yq2 h l1 l2).push {cls:=.type "tuple",data:=.seq #[.ref h.objs.size,.ref (h.push (lIt l1)).objs.size]}).objs.size]}
def IsList.zjd{l:AD}{xs:Array Value}(hl:h.IsList l xs)(o:Obj):(h.push o).IsList l xs:=by obtain⟨ob,e,r⟩:=hl;exact⟨ob,Ih _ e,r⟩
def zhd(l1 l2:AD)(xs ys:Array Value):
  Meets (Builtin.«zip.__new__» ⟨[.type "zip",.ref l1,.ref l2],[]⟩) (λ_ R s=>s.heap.IsList l1 xs/\s.heap.IsList l2 ys/\R (.ok (.ret (.ref (yq4 s.heap l1 l2).objs.size))) {s with heap:=yq5 s.heap l1 l2}):=
 .of_wp λprog w A R s h=>by
  obtain⟨hp,g,d,tk,os⟩:=s;obtain⟨t1,t2,h⟩:=h;have q0:=sub_zip;have q1:Heap.IsList (Shared.heap ⟨hp,g,d,tk,os⟩) l1 xs:=t1;have q2:Heap.IsList (Shared.heap ⟨hp.push (lIt l1),g,d,tk,os⟩) l2 ys:=IsList.zjd t2 _
  wp_walk using wpAny_pyIter_list q1,wpAny_pyIter_list q2
  exact⟨_,rfl,h⟩
section
variable {prog:Program}{w:World}{A:Around}{E:Value->SH->Prop}{s:SH}
def zeX{l1 l2:AD}{xs ys:Array Value}(q1:s.heap.IsList l1 xs)(q2:s.heap.IsList l2 ys)(h:∀ h',IsZip h' (s.heap.objs.size+4) (s.heap.objs.size+2) (s.heap.objs.size+3) .none->IsPair h' (s.heap.objs.size+2) (.ref s.heap.objs.size) (.ref (s.heap.objs.size+1))->IsPair h' (s.heap.objs.size+3) .none .none->
   h'.IsListIter s.heap.objs.size l1 0->h'.IsListIter (s.heap.objs.size+1) l2 0->(∀ c o,s.heap.get? c=some o->h'.get? c=some o)->Q (.ref (s.heap.objs.size+4)) {s with heap:=h'}):
  wpAny (model prog w) A (call (.type "zip") [.ref l1,.ref l2]) Q E s:=by
 refine callType_new F.called_zip (by decide) (F.typeCall_zip_2 _ _) (F.newCall_zip_2 _ _) (λobj=>F.args_object_init_3 obj _ _) F.entry_zip_new (zhd l1 l2 xs ys) ⟨q1,q2,?_⟩;have a1:(s.heap.push (lIt l1)).objs.size=s.heap.objs.size+1:=Nu ..;have a2:(yq2 s.heap l1 l2).objs.size=s.heap.objs.size+2:=by rw[Nu,a1]
 have a3:((yq2 s.heap l1 l2).push {cls:=.type "tuple",data:=.seq #[.ref s.heap.objs.size,.ref (s.heap.push (lIt l1)).objs.size]}).objs.size=s.heap.objs.size+3:=by rw[Nu,a2]
 have a4:(yq4 s.heap l1 l2).objs.size=s.heap.objs.size+4:=by rw[Nu,a3]
 have u:∀{hh:Heap}{o:Obj}{c:AD}{ob:Obj},hh.get? c=some ob->(hh.push o).get? c=some ob:=λe=>Ih _ e;have g5:(yq5 s.heap l1 l2).get? (yq4 s.heap l1 l2).objs.size=some _:=Io _ rfl;have g4:(yq5 s.heap l1 l2).get? ((yq2 s.heap l1 l2).push {cls:=.type "tuple",data:=.seq #[.ref s.heap.objs.size,.ref (s.heap.push (lIt l1)).objs.size]}).objs.size=some _:=u (Io _ rfl);have g3:(yq5 s.heap l1 l2).get? (yq2 s.heap l1 l2).objs.size=some _:=u (u (Io _ rfl));have g2:(yq5 s.heap l1 l2).get? (s.heap.push (lIt l1)).objs.size=some (lIt l2):=u (u (u (Io _ rfl)));have g1:(yq5 s.heap l1 l2).get? s.heap.objs.size=some (lIt l1):=u (u (u (u (Io _ rfl))));rw[a2,a3,a4]at g5;rw[a1,a2]at g3;rw[a3]at g4;rw[a1]at g2;show _/\_;rw[a4];exact⟨⟨_,g5,rfl⟩,h _ g5 g3 g4 ⟨_,g1,rfl,rfl⟩ ⟨_,g2,rfl,rfl⟩ λc o x=>u (u (u (u (u x))))⟩
def ze9{z TI TO:AD}{f1 f2:LH}{n1 n2:Nat}{P1 P2:Nat->Value->Prop}{S1 S2:Nat->Heap->Prop}{a b:Value}{Q:LG->SH->Prop}(Z:Zap z TI TO i1 i2 f1 f2)(D1:Draws prog w A.in1 i1 f1 n1 P1 S1)(D2:Draws prog w A.in1 i2 f2 n2 P2 S2)(hz:IsZip s.heap z TI TO .none)(ht:IsPair s.heap TI (.ref i1) (.ref i2))(ho:IsPair s.heap TO a b)(t1:S1 k s.heap)(t2:S2 k s.heap)(k1:k<n1)(k2:k<n2)(q:∀ x y h' tk,P1 k x->P2 k y->IsZip h' z TI TO (rawInt s.heap.objs.size)->IsPair h' TO x y->S1 (k+1) h' -> S2 (k+1) h' -> IsPair h' s.heap.objs.size x y->
   (∀ c o,c≠z->c≠TO->c≠i1->c≠i2->s.heap.get? c=some o->h'.get? c=some o)->Q (some (.ref s.heap.objs.size)) {s with heap:=h',toks:=tk}):wpAny (model prog w) A (pyNext (.ref z)) Q E s:=by
 have hT:s.TypeIs (.ref z) "zip" := ⟨_,hz,rfl⟩
 unfold pyNext;exact Ia (N1 (IM (name:=Str.ofString "__next__") hT F.slot_zip_next (IP F.slot_zip_next hT F.entry_zip_next (zkO Z D1 D2 hz ht ho t1 t2 k1 k2 λx y h' tk p1 p2 b1 b2 b3 b4 b5 b6=>Ic (q x y h' tk p1 p2 b1 b2 b3 b4 b5 b6)) (F.args_zip_next_1 _))))
def zfq{z TI TO:AD}{f1 f2:LH}{n1 n2:Nat}{P1 P2:Nat->Value->Prop}{S1 S2:Nat->Heap->Prop}{a b:Value}{Q:LG->SH->Prop}(Z:Zap z TI TO i1 i2 f1 f2)(D1:Draws prog w A.in1 i1 f1 n1 P1 S1)(D2:Draws prog w A.in1 i2 f2 n2 P2 S2)(hz:IsZip s.heap z TI TO .none)(ht:IsPair s.heap TI (.ref i1) (.ref i2))(ho:IsPair s.heap TO a b)(t1:S1 k s.heap)(t2:S2 k s.heap)(hk:k=n1\/(k<n1/\k=n2))(q:∀ h' tk,(∀ c o,c≠z->c≠TO->c≠i1->c≠i2->s.heap.get? c=some o->h'.get? c=some o)->Q none {s with heap:=h',toks:=tk}):wpAny (model prog w) A (pyNext (.ref z)) Q E s:=by
 have hT:s.TypeIs (.ref z) "zip" := ⟨_,hz,rfl⟩
 unfold pyNext;refine Ia (N1 (IM (name:=Str.ofString "__next__") hT F.slot_zip_next (IP F.slot_zip_next hT F.entry_zip_next (zmp Z D1 D2 hz ht ho t1 t2 hk λh' e tk hk' he=>?_) (F.args_zip_next_1 _))));obtain⟨o,ho',hc⟩:=he;exact Ia (NO (T:= "StopIteration") (b:=true) ⟨o,ho',hc⟩ isSubtype_stop (Ic (q _ _ hk')))
end
noncomputable def zlM(K:FG)(a1 a2:AD):It:=
 ⟨λi H=>∃ xs x ys y,SqL K H a1 xs/\xs[i]?=some x/\SqL K H a2 ys/\ys[i]?=some y,λi H v H' => ∃ p x y,H p=none/\v = .ref p/\H'=upd H p (.tup [x,y])/\(∀ xs,SqL K H a1 xs->xs[i]?=some x)/\∀ ys,SqL K H a2 ys->ys[i]?=some y,
  λi H=>∃ xs ys,SqL K H a1 xs/\SqL K H a2 ys/\(i=xs.length\/(i<xs.length/\i=ys.length))⟩
def zgn{P:Program}{w:World}{K:FG}{z TI TO:AD}(Z:Zap z TI TO i1 i2 [i1,a1] [i2,a2])(n1:a1≠i1)(n2:a2≠i2):Turn P w K (.Tuple elts tk tpos) (zlM K a1 a2) [z,TI,TO,i1,i2] z (λi h=>IsZip h z TI TO .none/\IsPair h TI (.ref i1) (.ref i2)/\(∃ a b,IsPair h TO a b)/\h.IsListIter i1 a1 i/\h.IsListIter i2 a2 i) where
 mem:=by simp
 obj:=λi h st c hc=>by
  obtain⟨hz,ht,⟨a,b,ho⟩,⟨o1,e1,_,d1⟩,⟨o2,e2,_,d2⟩⟩:=st;simp only[IE,Nz,Od]at hc;rcases hc with rfl | rfl | rfl | rfl | rfl
  .exact⟨_,hz,λv q=>by cases q⟩
  .exact⟨_,ht,λv q=>by cases q⟩
  .exact⟨_,ho,λv q=>by cases q⟩
  .exact⟨o1,e1,λv q=>by rw[d1]at q;cases q⟩
  .exact⟨o2,e2,λv q=>by rw[d2]at q;cases q⟩
 keep:=λi h h' st k=>by obtain⟨hz,ht,⟨a,b,ho⟩,⟨o1,e1,r1⟩,⟨o2,e2,r2⟩⟩:=st;exact⟨k z (by simp) _ hz,k TI (by simp) _ ht,⟨a,b,k TO (by simp) _ ho⟩,⟨o1,k i1 (by simp) _ e1,r1⟩,⟨o2,k i2 (by simp) _ e2,r2⟩⟩
 item:=by
  intro X hP hw hK hc i aa s σ H E I hf st hg;subst hP hw hK;obtain⟨xs,x,ys,y,hq1,hx,hq2,hy⟩:=hg;obtain⟨its1,rv1,p1,_⟩:=I.list hq1;obtain⟨its2,rv2,p2,_⟩:=I.list hq2;obtain⟨u1,hu1,ru1⟩:=rv1.get hx;obtain⟨u2,hu2,ru2⟩:=rv2.get hy;obtain⟨hz,ht,⟨a,b,ho⟩,t1,t2⟩:=st;have l1:i<its1.toArray.size:=by have:=(Il.mp hu1).1;simpa using this
  have l2:i<its2.toArray.size:=by have:=(Il.mp hu2).1;simpa using this
  have hh:X.A.in1.handled=none:=I.ok.hd hc;refine ze9 Z (Draws.list hh i1 a1 n1 its1.toArray) (Draws.list hh i2 a2 n2 its2.toArray) hz ht ho ⟨t1,p1.isList⟩ ⟨t2,p2.isList⟩ l1 l2 λx' y' h' tk' hP1 hP2 b1 b2 b3 b4 b5 b6=>?_;have ex:x'=u1:=by
   have:its1[i]?=some x':=by simpa using hP1
   rw[hu1]at this;exact(Iu this).symm
  have ey:y'=u2:=by
   have:its2[i]?=some y':=by simpa using hP2
   rw[hu2]at this;exact(Iu this).symm
  subst ex ey;refine⟨_,rfl,wpAny_letOwnedTupleGo_zip b1 λh2 hz2 hs2=>?_⟩;have zt:z≠s.heap.objs.size:=IS (IF hz);have new:Xk X.prog X.w (upd H s.heap.objs.size (.tup [x,y])) h2 s.heap.objs.size (.tup [x,y]):=⟨by show 2<=sizeLine;decide,[x',y'],.cons ru1 (.cons ru2 .nil),⟨_,(hs2.2 _ (Ne.symm zt)).trans b5,rfl,_,rfl⟩,_,(hs2.2 _ (Ne.symm zt)).trans b5,rfl⟩
  have kk:∀ b o,b∉[z,TI,TO,i1,i2]->s.heap.get? b=some o->h2.get? b=some o:=λb o hb q=>by simp only[IE,Nz,Od,not_or]at hb;exact(hs2.2 b hb.1).trans (b6 b o hb.1 hb.2.2.1 hb.2.2.2.1 hb.2.2.2.2 q)
  have fresh:=I.ad.fresh (Ik s.heap.objs.size);refine⟨.ref s.heap.objs.size,_,I.zbr (t':=tk') kk hf (Ik _) new,rfl,⟨_,x,y,fresh,rfl,rfl,λzs hy' => by rw[I.UW hy' hq1];exact hx,λzs hy' => by rw[I.UW hy' hq2];exact hy⟩,⟨hz2,?_,⟨_,_,(hs2.2 TO Z.oz).trans b2⟩,?_,?_⟩,λc hc=>?_⟩
  .exact(hs2.2 TI Z.iz).trans (b6 TI _ Z.iz Z.io Z.ia Z.ib ht)
  .obtain⟨o3,g1,g2⟩:=b3.1;exact⟨o3,(hs2.2 i1 Z.az).trans g1,g2⟩
  .obtain⟨o3,g1,g2⟩:=b4.1;exact⟨o3,(hs2.2 i2 Z.bz).trans g1,g2⟩
  .have lt:∃ o,s.heap.get? c=some o:=by
    simp only[IE,Nz,Od]at hc;rcases hc with rfl | rfl | rfl | rfl | rfl
    .exact⟨_,hz⟩
    .exact⟨_,ht⟩
    .exact⟨_,ho⟩
    .obtain⟨o,e,_⟩:=t1;exact⟨o,e⟩
    .obtain⟨o,e,_⟩:=t2;exact⟨o,e⟩
   obtain⟨o,e⟩:=lt;rw[Zr (IS (IF e))];exact(hf c hc).1
 done:=by
  intro X hP hw hK hc i aa s σ H E I hf st hg;subst hP hw hK;obtain⟨xs,ys,hq1,hq2,hi⟩:=hg;obtain⟨its1,rv1,p1,_⟩:=I.list hq1;obtain⟨its2,rv2,p2,_⟩:=I.list hq2;have e1:=rv1.length;have e2:=rv2.length;obtain⟨hz,ht,⟨a,b,ho⟩,t1,t2⟩:=st;have hh:X.A.in1.handled=none:=I.ok.hd hc;refine zfq Z (Draws.list hh i1 a1 n1 its1.toArray) (Draws.list hh i2 a2 n2 its2.toArray) hz ht ho ⟨t1,p1.isList⟩ ⟨t2,p2.isList⟩ (by simp only[Ix];omega) λh' tk' b6=>?_;exact⟨rfl,I.turns (t':=tk') (λc u hc' q=>by
   simp only[IE,Nz,Od,not_or]at hc';exact b6 c u hc'.1 hc'.2.2.1 hc'.2.2.2.1 hc'.2.2.2.2 q) hf⟩
 self:=λ_ _ _ _ _ st h=>wpAny_pyIter_zip st.1 h
def ziz{n l1 l2:Nat}(b1:l1<n)(b2:l2<n):Zap (n+4) (n+2) (n+3) n (n+1) [n,l1] [n+1,l2]:=by
 have h:∀{a b c:Nat},a≠b->a≠c->a∉[b,c]:=λh1 h2 hm=>by
  rcases IE.mp hm with e | e
  .exact h1 e
  .exact h2 (IH.mp e)
 constructor
 all_goals first
  |exact h (by omega) (by omega)
  |(show(_:Nat)≠_;omega)
def zir{K:FG}{ys:LC}{g:TG}{tb:TS}{D:Ends}(Pv:Nat->St->Hp->Prop)(h0:Pv 0 σ H)(hxy:xs.length=ys.length)(hl:∀ i σ H,i<=xs.length->Pv i σ H->SqL K H a1 xs/\SqL K H a2 ys)(hs:∀ i x y σ H p,xs[i]?=some x->ys[i]?=some y->Pv i σ H->H p=none->g (.ref p) σ (upd H p (.tup [x,y])) fun σ2 H2=>tb {D with nx:=Pv (i+1),ct:=Pv (i+1),bk:=D.nx} σ2 H2)(hd:∀ σ H,Pv xs.length σ H->D.nx σ H):
  ∃ W:Nat->Nat->St->Hp->Prop,(∃ m,W 0 m σ H)/\∀ i m σ H,W i m σ H->
   ((zlM K a1 a2).stop i H/\D.nx σ H)\/((zlM K a1 a2).go i H/\∃ N:St->Hp->Prop,(∀ σ' H',N σ' H' -> ∃ m',m'<m/\W (i+1) m' σ' H')/\∀ x H',(zlM K a1 a2).yld i H x H' -> g x σ H' fun σ2 H2=>tb {D with nx:=N,ct:=N,bk:=D.nx} σ2 H2):=by
 refine⟨λi m σ H=>m=xs.length-i/\i<=xs.length/\Pv i σ H,⟨xs.length,(by simp),Nr _,h0⟩,?_⟩;rintro i m σ H ⟨rfl,hi,p⟩;obtain⟨q1,q2⟩:=hl i σ H hi p;by_cases hlt:i<xs.length
 .refine .inr ⟨⟨xs,_,ys,_,q1,Ib hlt,q2,Ib (by omega)⟩,Pv (i+1),fun σ' H' p' => ⟨xs.length-(i+1),(by omega),rfl,hlt,p'⟩,λx H' y=>?_⟩;obtain⟨p',x',y',hp',rfl,rfl,hx,hy⟩:=y;exact hs i x' y' σ H p' (hx xs q1) (hy ys q2) p hp'
 .have e:i=xs.length:=by omega
  subst e;exact .inl ⟨⟨xs,ys,q1,q2,.inl rfl⟩,hd σ H p⟩
section
variable {X:Cx}
def zph(K:FG)(ta:TA):TI:=fun σ H R=>ta σ H λvs H1=>∃ a1 a2,vs=[.ref a1,.ref a2]/\(∃ xs,SqL K H1 a1 xs)/\(∃ ys,SqL K H1 a2 ys)/\R (zlM K a1 a2) H1
def boot_zip:bootBuiltins "zip" = some (.type "zip"):=by decide +kernel
def zjX{K:FG}(eK:X.K=K){a b:Expr}{ta:TA}{p:Pos}(hg:Gl X "zip")(hm:X.mg "zip" = none)(ha:PA X [a,b] ta)(hs:starEach [a,b] X.env=[(false,eval a X.env),(false,eval b X.env)]:=by rfl)(hs2:starEach [b] X.env=[(false,eval b X.env)]:=by rfl):
  PI X (.Tuple elts tk tpos) (.Call (.Name "zip" p) [a,b] [] pos) (zph K ta):=by
 subst eK;intro aa s σ H R I h;refine Call_ (QT I hg hm boot_zip (Nl (thn (ha pos aa s σ H _ I h) λus s1 ⟨vs,H1,I1,r1,q1⟩=>?_) (by rw[hs,hs2]) (by rw[hs2];rfl)));obtain⟨l1,l2,e,⟨xs,hq1⟩,⟨ys,hq2⟩,q⟩:=q1;subst e;cases r1 with
 |cons r rr=>
  cases rr with
  |cons r' rr=>
   cases rr;cases(show _=Value.ref l1 from r);cases(show _=Value.ref l2 from r');obtain⟨its1,rv1,p1,_⟩:=I1.list hq1;obtain⟨its2,rv2,p2,_⟩:=I1.list hq2;have b1:l1<s1.heap.objs.size:=by obtain⟨o,e,_⟩:=id p1.isList;exact IF e
   have b2:l2<s1.heap.objs.size:=by obtain⟨o,e,_⟩:=id p2.isList;exact IF e
   refine zeX (show s1.heap.IsList l1 its1.toArray from p1.isList) (show s1.heap.IsList l2 its2.toArray from p2.isList) λh' hz ht ho i1 i2 hk=>?_;have Z:=ziz b1 b2;refine wpAny_pyIter_zip hz ⟨s1.heap.objs.size+4,_,_,_,H1,rfl,I1.kept (t':=s1.toks) hk,zgn Z (IS b1) (IS (Ow b2)),⟨hz,ht,⟨_,_,ho⟩,i1,i2⟩,λc hc=>?_,q⟩;have hc' : s1.heap.objs.size<=c:=by
    simp only[IE,Nz,Od]at hc;rcases hc with rfl | rfl | rfl | rfl | rfl
    .exact Oq _ _
    .exact Oq _ _
    .exact Oq _ _
    .exact Ik _
    .exact Oq _ _
   exact I1.zjT hc' (I1.ad.fresh hc')
end
abbrev tIt(l:AD):Obj:={cls:=.type "tuple_iterator",data:=.fields #[.ref l,.int 0 0]}
abbrev zq2(h:Heap)(l1 l2:AD):Heap:=(h.push (tIt l1)).push (tIt l2)
abbrev zq4(h:Heap)(l1 l2:AD):Heap:=((zq2 h l1 l2).push {cls:=.type "tuple",data:=.seq #[.ref h.objs.size,.ref (h.push (tIt l1)).objs.size]}).push {cls:=.type "tuple",data:=.seq #[.none,.none]}
abbrev zq5(h:Heap)(l1 l2:AD):Heap:=(zq4 h l1 l2).push {cls:=.type "zip",data:=.fields #[.none,.bool false,.bool false,.ref (zq2 h l1 l2).objs.size,.ref ((zq2 h l1 l2).push {cls:=.type "tuple",data:=.seq #[.ref h.objs.size,.ref (h.push (tIt l1)).objs.size]}).objs.size]}
def IsTuple.zjd{l:AD}{xs:Array Value}(hl:h.IsTuple l xs)(o:Obj):(h.push o).IsTuple l xs:=by obtain⟨ob,e,r⟩:=hl;exact⟨ob,Ih _ e,r⟩
def zhu(l1 l2:AD)(xs ys:Array Value):
  Meets (Builtin.«zip.__new__» ⟨[.type "zip",.ref l1,.ref l2],[]⟩) (λ_ R s=>s.heap.IsTuple l1 xs/\s.heap.IsTuple l2 ys/\R (.ok (.ret (.ref (zq4 s.heap l1 l2).objs.size))) {s with heap:=zq5 s.heap l1 l2}):=
 .of_wp λprog w A R s h=>by
  obtain⟨hp,g,d,tk,os⟩:=s;obtain⟨t1,t2,h⟩:=h;have q0:=sub_zip;have q1:Heap.IsTuple (Shared.heap ⟨hp,g,d,tk,os⟩) l1 xs:=t1;have q2:Heap.IsTuple (Shared.heap ⟨hp.push (tIt l1),g,d,tk,os⟩) l2 ys:=IsTuple.zjd t2 _
  wp_walk using wpAny_pyIter_tuple q1,wpAny_pyIter_tuple q2
  exact⟨_,rfl,h⟩
section
variable {prog:Program}{w:World}{A:Around}{E:Value->SH->Prop}{s:SH}
def zfp{l1 l2:AD}{xs ys:Array Value}(q1:s.heap.IsTuple l1 xs)(q2:s.heap.IsTuple l2 ys)(h:∀ h',IsZip h' (s.heap.objs.size+4) (s.heap.objs.size+2) (s.heap.objs.size+3) .none->IsPair h' (s.heap.objs.size+2) (.ref s.heap.objs.size) (.ref (s.heap.objs.size+1))->IsPair h' (s.heap.objs.size+3) .none .none->
   h'.IsTupleIter s.heap.objs.size l1 0->h'.IsTupleIter (s.heap.objs.size+1) l2 0->(∀ c o,s.heap.get? c=some o->h'.get? c=some o)->Q (.ref (s.heap.objs.size+4)) {s with heap:=h'}):
  wpAny (model prog w) A (call (.type "zip") [.ref l1,.ref l2]) Q E s:=by
 refine callType_new F.called_zip (by decide) (F.typeCall_zip_2 _ _) (F.newCall_zip_2 _ _) (λobj=>F.args_object_init_3 obj _ _) F.entry_zip_new (zhu l1 l2 xs ys) ⟨q1,q2,?_⟩;have a1:(s.heap.push (tIt l1)).objs.size=s.heap.objs.size+1:=Nu ..;have a2:(zq2 s.heap l1 l2).objs.size=s.heap.objs.size+2:=by rw[Nu,a1]
 have a3:((zq2 s.heap l1 l2).push {cls:=.type "tuple",data:=.seq #[.ref s.heap.objs.size,.ref (s.heap.push (tIt l1)).objs.size]}).objs.size=s.heap.objs.size+3:=by rw[Nu,a2]
 have a4:(zq4 s.heap l1 l2).objs.size=s.heap.objs.size+4:=by rw[Nu,a3]
 have u:∀{hh:Heap}{o:Obj}{c:AD}{ob:Obj},hh.get? c=some ob->(hh.push o).get? c=some ob:=λe=>Ih _ e;have g5:(zq5 s.heap l1 l2).get? (zq4 s.heap l1 l2).objs.size=some _:=Io _ rfl;have g4:(zq5 s.heap l1 l2).get? ((zq2 s.heap l1 l2).push {cls:=.type "tuple",data:=.seq #[.ref s.heap.objs.size,.ref (s.heap.push (tIt l1)).objs.size]}).objs.size=some _:=u (Io _ rfl);have g3:(zq5 s.heap l1 l2).get? (zq2 s.heap l1 l2).objs.size=some _:=u (u (Io _ rfl));have g2:(zq5 s.heap l1 l2).get? (s.heap.push (tIt l1)).objs.size=some (tIt l2):=u (u (u (Io _ rfl)));have g1:(zq5 s.heap l1 l2).get? s.heap.objs.size=some (tIt l1):=u (u (u (u (Io _ rfl))));rw[a2,a3,a4]at g5;rw[a1,a2]at g3;rw[a3]at g4;rw[a1]at g2;show _/\_;rw[a4];exact⟨⟨_,g5,rfl⟩,h _ g5 g3 g4 ⟨_,g1,rfl,rfl⟩ ⟨_,g2,rfl,rfl⟩ λc o x=>u (u (u (u (u x))))⟩
end
noncomputable def zoA(K:FG)(a1 a2:AD):It:=
 ⟨λi H=>∃ xs x ys y,SqT K H a1 xs/\xs[i]?=some x/\SqT K H a2 ys/\ys[i]?=some y,λi H v H' => ∃ p x y,H p=none/\v = .ref p/\H'=upd H p (.tup [x,y])/\(∀ xs,SqT K H a1 xs->xs[i]?=some x)/\∀ ys,SqT K H a2 ys->ys[i]?=some y,
  λi H=>∃ xs ys,SqT K H a1 xs/\SqT K H a2 ys/\(i=xs.length\/(i<xs.length/\i=ys.length))⟩
def zgH{P:Program}{w:World}{K:FG}{z TI TO:AD}(Z:Zap z TI TO i1 i2 [i1,a1] [i2,a2])(n1:a1≠i1)(n2:a2≠i2):Turn P w K (.Tuple elts tk tpos) (zoA K a1 a2) [z,TI,TO,i1,i2] z (λi h=>IsZip h z TI TO .none/\IsPair h TI (.ref i1) (.ref i2)/\(∃ a b,IsPair h TO a b)/\h.IsTupleIter i1 a1 i/\h.IsTupleIter i2 a2 i) where
 mem:=by simp
 obj:=λi h st c hc=>by
  obtain⟨hz,ht,⟨a,b,ho⟩,⟨o1,e1,_,d1⟩,⟨o2,e2,_,d2⟩⟩:=st;simp only[IE,Nz,Od]at hc;rcases hc with rfl | rfl | rfl | rfl | rfl
  .exact⟨_,hz,λv q=>by cases q⟩
  .exact⟨_,ht,λv q=>by cases q⟩
  .exact⟨_,ho,λv q=>by cases q⟩
  .exact⟨o1,e1,λv q=>by rw[d1]at q;cases q⟩
  .exact⟨o2,e2,λv q=>by rw[d2]at q;cases q⟩
 keep:=λi h h' st k=>by obtain⟨hz,ht,⟨a,b,ho⟩,⟨o1,e1,r1⟩,⟨o2,e2,r2⟩⟩:=st;exact⟨k z (by simp) _ hz,k TI (by simp) _ ht,⟨a,b,k TO (by simp) _ ho⟩,⟨o1,k i1 (by simp) _ e1,r1⟩,⟨o2,k i2 (by simp) _ e2,r2⟩⟩
 item:=by
  intro X hP hw hK hc i aa s σ H E I hf st hg;subst hP hw hK;obtain⟨xs,x,ys,y,hq1,hx,hq2,hy⟩:=hg;obtain⟨its1,rv1,p1,_⟩:=I.tuple hq1;obtain⟨its2,rv2,p2,_⟩:=I.tuple hq2;obtain⟨u1,hu1,ru1⟩:=rv1.get hx;obtain⟨u2,hu2,ru2⟩:=rv2.get hy;obtain⟨hz,ht,⟨a,b,ho⟩,t1,t2⟩:=st;have l1:i<its1.toArray.size:=by have:=(Il.mp hu1).1;simpa using this
  have l2:i<its2.toArray.size:=by have:=(Il.mp hu2).1;simpa using this
  have hh:X.A.in1.handled=none:=I.ok.hd hc;refine ze9 Z (Vz hh i1 a1 n1 its1.toArray) (Vz hh i2 a2 n2 its2.toArray) hz ht ho ⟨t1,p1⟩ ⟨t2,p2⟩ l1 l2 λx' y' h' tk' hP1 hP2 b1 b2 b3 b4 b5 b6=>?_;have ex:x'=u1:=by
   have:its1[i]?=some x':=by simpa using hP1
   rw[hu1]at this;exact(Iu this).symm
  have ey:y'=u2:=by
   have:its2[i]?=some y':=by simpa using hP2
   rw[hu2]at this;exact(Iu this).symm
  subst ex ey;refine⟨_,rfl,wpAny_letOwnedTupleGo_zip b1 λh2 hz2 hs2=>?_⟩;have zt:z≠s.heap.objs.size:=IS (IF hz);have new:Xk X.prog X.w (upd H s.heap.objs.size (.tup [x,y])) h2 s.heap.objs.size (.tup [x,y]):=⟨by show 2<=sizeLine;decide,[x',y'],.cons ru1 (.cons ru2 .nil),⟨_,(hs2.2 _ (Ne.symm zt)).trans b5,rfl,_,rfl⟩,_,(hs2.2 _ (Ne.symm zt)).trans b5,rfl⟩
  have kk:∀ b o,b∉[z,TI,TO,i1,i2]->s.heap.get? b=some o->h2.get? b=some o:=λb o hb q=>by simp only[IE,Nz,Od,not_or]at hb;exact(hs2.2 b hb.1).trans (b6 b o hb.1 hb.2.2.1 hb.2.2.2.1 hb.2.2.2.2 q)
  have fresh:=I.ad.fresh (Ik s.heap.objs.size);refine⟨.ref s.heap.objs.size,_,I.zbr (t':=tk') kk hf (Ik _) new,rfl,⟨_,x,y,fresh,rfl,rfl,λzs hy' => by rw[I.Vm hy' hq1];exact hx,λzs hy' => by rw[I.Vm hy' hq2];exact hy⟩,⟨hz2,?_,⟨_,_,(hs2.2 TO Z.oz).trans b2⟩,?_,?_⟩,λc hc=>?_⟩
  .exact(hs2.2 TI Z.iz).trans (b6 TI _ Z.iz Z.io Z.ia Z.ib ht)
  .obtain⟨o3,g1,g2⟩:=b3.1;exact⟨o3,(hs2.2 i1 Z.az).trans g1,g2⟩
  .obtain⟨o3,g1,g2⟩:=b4.1;exact⟨o3,(hs2.2 i2 Z.bz).trans g1,g2⟩
  .have lt:∃ o,s.heap.get? c=some o:=by
    simp only[IE,Nz,Od]at hc;rcases hc with rfl | rfl | rfl | rfl | rfl
    .exact⟨_,hz⟩
    .exact⟨_,ht⟩
    .exact⟨_,ho⟩
    .obtain⟨o,e,_⟩:=t1;exact⟨o,e⟩
    .obtain⟨o,e,_⟩:=t2;exact⟨o,e⟩
   obtain⟨o,e⟩:=lt;rw[Zr (IS (IF e))];exact(hf c hc).1
 done:=by
  intro X hP hw hK hc i aa s σ H E I hf st hg;subst hP hw hK;obtain⟨xs,ys,hq1,hq2,hi⟩:=hg;obtain⟨its1,rv1,p1,_⟩:=I.tuple hq1;obtain⟨its2,rv2,p2,_⟩:=I.tuple hq2;have e1:=rv1.length;have e2:=rv2.length;obtain⟨hz,ht,⟨a,b,ho⟩,t1,t2⟩:=st;have hh:X.A.in1.handled=none:=I.ok.hd hc;refine zfq Z (Vz hh i1 a1 n1 its1.toArray) (Vz hh i2 a2 n2 its2.toArray) hz ht ho ⟨t1,p1⟩ ⟨t2,p2⟩ (by simp only[Ix];omega) λh' tk' b6=>?_;exact⟨rfl,I.turns (t':=tk') (λc u hc' q=>by
   simp only[IE,Nz,Od,not_or]at hc';exact b6 c u hc'.1 hc'.2.2.1 hc'.2.2.2.1 hc'.2.2.2.2 q) hf⟩
 self:=λ_ _ _ _ _ st h=>wpAny_pyIter_zip st.1 h
section
variable {X:Cx}
def zoB(K:FG)(ta:TA):TI:=fun σ H R=>ta σ H λvs H1=>∃ a1 a2,vs=[.ref a1,.ref a2]/\(∃ xs,SqT K H1 a1 xs)/\(∃ ys,SqT K H1 a2 ys)/\R (zoA K a1 a2) H1
def zkt{K:FG}(eK:X.K=K){a b:Expr}{ta:TA}{p:Pos}(hg:Gl X "zip")(hm:X.mg "zip" = none)(ha:PA X [a,b] ta)(hs:starEach [a,b] X.env=[(false,eval a X.env),(false,eval b X.env)]:=by rfl)(hs2:starEach [b] X.env=[(false,eval b X.env)]:=by rfl):
  PI X (.Tuple elts tk tpos) (.Call (.Name "zip" p) [a,b] [] pos) (zoB K ta):=by
 subst eK;intro aa s σ H R I h;refine Call_ (QT I hg hm boot_zip (Nl (thn (ha pos aa s σ H _ I h) λus s1 ⟨vs,H1,I1,r1,q1⟩=>?_) (by rw[hs,hs2]) (by rw[hs2];rfl)));obtain⟨l1,l2,e,⟨xs,hq1⟩,⟨ys,hq2⟩,q⟩:=q1;subst e;cases r1 with
 |cons r rr=>
  cases rr with
  |cons r' rr=>
   cases rr;cases(show _=Value.ref l1 from r);cases(show _=Value.ref l2 from r');obtain⟨its1,rv1,p1,_⟩:=I1.tuple hq1;obtain⟨its2,rv2,p2,_⟩:=I1.tuple hq2;have b1:l1<s1.heap.objs.size:=by obtain⟨o,e,_⟩:=id p1;exact IF e
   have b2:l2<s1.heap.objs.size:=by obtain⟨o,e,_⟩:=id p2;exact IF e
   refine zfp (show s1.heap.IsTuple l1 its1.toArray from p1) (show s1.heap.IsTuple l2 its2.toArray from p2) λh' hz ht ho i1 i2 hk=>?_;have Z:=ziz b1 b2;refine wpAny_pyIter_zip hz ⟨s1.heap.objs.size+4,_,_,_,H1,rfl,I1.kept (t':=s1.toks) hk,zgH Z (IS b1) (IS (Ow b2)),⟨hz,ht,⟨_,_,ho⟩,i1,i2⟩,λc hc=>?_,q⟩;have hc' : s1.heap.objs.size<=c:=by
    simp only[IE,Nz,Od]at hc;rcases hc with rfl | rfl | rfl | rfl | rfl
    .exact Oq _ _
    .exact Oq _ _
    .exact Oq _ _
    .exact Ik _
    .exact Oq _ _
   exact I1.zjT hc' (I1.ad.fresh hc')
end
structure Jw(fr sc:Scope)(x x2:Str)(cap:LB):Prop where
 kind:sc.kind = .function
 cell:∀ p∈sc.names,p.2≠.cell
 names:∀ p∈sc.names,p.2 = .local->sc.names.lookup p.1=some .local
 tgt:sc.names.lookup x=some .local
 tgt2:sc.names.lookup x2=some .local
 free:∀ p∈sc.names,p.2 = .free->fr.names.lookup p.1=some .cell
 caps:∀ y∈cap,(y,NameKind.free)∈sc.names
 nd:(x::x2::cap).Nodup
 noboth:∀ y∈cap,sc.names.lookup y≠some .local
section
variable {X:Cx}{aa:List (Addr×Obj)}{σ:St}{H:Hp}{s:SH}{sc:Scope}{x x2:Str}{cap:LB}
def zoM(K:FG)(J:It)(js:List Nat)(σ:St)(tt:TT)(te:TE)(Q:VK)(W:Nat->Nat->LC->Hp->Prop):Prop:=
 ∀ i m ys H,W i m ys H->ys.length<sizeLine/\
  ((J.stop i H/\∀ p,H p=none->Q (.ref p) (upd H p (.lst ys)))\/
   (J.go i H/\∀ x H',J.yld i H x H' -> ∃ p u1 u2,x = .ref p/\SqT K H' p [u1,u2]/\tt (some u1::some u2::WK σ js) H' λb H2=>if b=true then te (some u1::some u2::WK σ js) H2 λv H3=>∃ m',m'<m/\W (i+1) m' (ys++[v]) H3 else ∃ m',m'<m/\W (i+1) m' ys H2))
def zod(K:FG)(wi:TI)(js:List Nat)(tt:TT)(te:TE):TE:=fun σ H Q=>wi σ H λJ H1=>∃ W:Nat->Nat->LC->Hp->Prop,(∃ m,W 0 m [] H1)/\zoM K J js σ tt te Q W
def zms{K:FG}{J:It}{Q:VK}{W:Nat->Nat->LC->Hp->Prop}(h:zoM K J js σ tt te Q W):znF 2 J js σ (znG K 2 (zcY (VF 0) (zcY (VF 1) znv))) tt te Q W:=λi m ys H w=>by
 obtain⟨a,b⟩:=h i m ys H w;refine⟨a,b.imp id λ⟨go,st⟩=>⟨go,λx H' y ws hw=>?_⟩⟩;obtain⟨pv',u1,u2,rfl,hsq,st'⟩:=st x H' y
 match ws,hw with
 |[v,v'],_=>exact⟨pv',[u1,u2],rfl,hsq,rfl,u1,[u2],rfl,u2,[],rfl,rfl,[some u1,some u2],rfl,rfl,st'⟩
def Jw.n{fr:Scope}(S:Jw fr sc x x2 cap):Xv fr sc [x,x2] cap:=⟨S.kind,S.cell,S.names,S.free,S.caps,S.noboth⟩
def Jw.pg(S:Jw X.env.scope sc x x2 cap)(hc:X.calm=true){px py:Pos}(C:AD)(s0:SH)(H0:Hp)(ex:LH):PG (Xg X sc ([x,x2]++cap) C s0 H0 ex) (.Tuple [.Name x px,.Name x2 py] tk tpos) (znG X.K 2 (zcY (VF 0) (zcY (VF 1) znv))):=zdK hc (YD (Yh S.nd rfl (.inl (NW S.tgt)) (.inr (NW S.tgt))) (YD (Yh S.nd rfl (.inl (NW S.tgt2)) (.inr (NW S.tgt2))) Jo))
end
structure Ws(fr sc:Scope)(ps cap:LB):Prop where
 kind:sc.kind = .function
 co:sc.isCoroutine=false
 gen:sc.isGenerator=false
 cell:∀ p∈sc.names,p.2≠.cell
 par:∀ y∈ps,sc.names.lookup y=some .local
 free:∀ p∈sc.names,p.2 = .free->fr.names.lookup p.1=some .cell
 caps:∀ y∈cap,(y,NameKind.free)∈sc.names
 capl:∀ y∈cap,sc.names.lookup y=some .free
 nd:(ps++cap).Nodup
def zcV(H:Hp)(f:AD)(q:Str)(params:Arguments)(body:Expr)(sc:Scope)(cl:List (Str×AD)):Prop:=∃(pm ctv:Value)(c' : AD)(oc:Obj),H f=some (.frz (kla_obj "<lambda>" q params body sc cl pm c' ctv) (.own f))/\H c'=some (.frz oc (.own c'))/\zdA oc q
structure CellsAre(s:SH)(H:Hp)(cl:List (Str×AD))(cap:LB)(vals:St):Prop where
 inj:∀ x y c,cl.lookup x=some c->cl.lookup y=some c->x=y
 isc:∀ x c,cl.lookup x=some c->(∃ v,s.heap.IsCell c v)/\H c=none
 val:∀(i:Nat)(y:Str)(v:V),cap[i]?=some y->vals[i]?=some (some v)->∃ c u,cl.lookup y=some c/\s.heap.IsCell c (some u)/\RelV v u
def zad{P:Program}{w:World}{c:AD}{oc:Obj}{q:Str}(ok:HOk P w H h)(e:H c=some (.frz oc (.own c)))(hc:zdA oc q):h.CodeRec (.ref c) q:=by obtain⟨e1,_⟩:=ok c _ e;obtain⟨vs,t,d1,d2⟩:=hc;exact⟨c,oc,vs,t,rfl,e1,d1,d2⟩
def CellsAre.un{s s' : SH}{H':Hp}{cl:List (Str×AD)}{cap:LB}{fs:LH}(C:CellsAre s H cl cap vals)(u:Un fs [] H H' s.heap s'.heap):CellsAre s' H' cl cap vals:=by
 have kc:∀ c v,H c=none->s.heap.IsCell c v->s'.heap.IsCell c v:=λc v n ⟨o,ho,hd⟩=>by obtain⟨sl,e⟩:=u.any ho n (by simp);exact⟨_,e,hd⟩
 refine⟨C.inj,λx c h=>?_,λi y v h1 h2=>?_⟩
 .obtain⟨⟨v,hv⟩,n⟩:=C.isc x c h;obtain⟨o,ho,hd⟩:=id hv;exact⟨⟨v,kc c v n hv⟩,u.free c o ho n (by simp)⟩
 .obtain⟨c,w,e1,e2,r⟩:=C.val i y v h1 h2;exact⟨c,w,e1,kc c _ (C.isc y c e1).2 e2,r⟩
def zcV.same{H':Hp}{q:Str}{body:Expr}{sc:Scope}{cl:List (Str×AD)}(L:zcV H f q params body sc cl)(k:∀ b o u,H b=some (.frz o u)->H' b=some (.frz o u)):zcV H' f q params body sc cl:=let ⟨pm,ctv,c',oc,h1,h2,h3⟩:=L;⟨pm,ctv,c',oc,k _ _ _ h1,k _ _ _ h2,h3⟩
theorem lookup_mem{y:Str}{u:α}:∀{l:List (Str×α)},(l.map (·.1)).Nodup->(y,u)∈l->l.lookup y=some u
 |[],_,h=>by simp at h
 |(z,v)::l,nd,h=>by
  rw[Oc];rw[Ng,OM]at nd;rcases IE.mp h with e | h
  .cases e;simp
  .have:y≠z:=λe=>nd.1 (e ▸ List.mem_map_of_mem (f:=(·.1)) h);have hb:(y==z)=false:=by simpa using this
   rw[hb];exact lookup_mem nd.2 h
theorem zfk :∀(l:List α)(m:List β),(l.zip m).map (·.1)=l.take m.length
 |[],_=>by simp
 |_::_,[]=>by simp
 |a::l,b::m=>by rw[List.zip_cons_cons,Ng,IC,List.take_succ_cons,zfk l m]
def zep{us:List α}{y:Str}{u:α}(nd:ps.Nodup)(hp:ps[i]?=some y)(hu:us[i]?=some u):(ps.zip us).reverse.lookup y=some u:=by
 refine lookup_mem ?_ ?_
 .rw[List.map_reverse];refine(List.reverse_perm _).nodup_iff.mpr ?_;rw[zfk];exact nd.sublist (List.take_sublist _ _)
 .rw[List.mem_reverse];refine Iz (i:=i) ?_;rw[NS];exact⟨hp,hu⟩
noncomputable def zgs(P:Program)(w:World)(K:FG)(mg:Str->LG)(base:Heap)(N:LB)(q:Str)(sc:Scope)(f c' : AD)(cl:List (Str×AD))(A:Around)(outer:LJ)(s:SH)(H:Hp):Cx where
 prog:=P
 w:=w
 K:=K
 mg:=mg
 base:=base
 A:=A.deeper (PySem.W.envX q sc s.heap.objs.size f (.ref c') cl)
 N:=N
 s₀:=s
 H₀:=H
 env:=PySem.W.envX q sc s.heap.objs.size f (.ref c') cl
 outer:=outer
 stack:=PySem.W.envX q sc s.heap.objs.size f (.ref c') cl::outer
 ex:=[]
 calm:=true
 fn:=λ_=>false
 pn:=[]
 xe:=λ_ _=>False
section
variable {P:Program}{w:World}{K:FG}{mg:Str->LG}{base:Heap}{A:Around}{outer:LJ}{s:SH}{H:Hp}{f:AD}{q:Str}{params:Arguments}{body:Expr}{fr sc:Scope}{cl:List (Str×AD)}{ps cap:LB}
def zkD{c' : AD}{us:LF}{h₁:Heap}(S:Ws fr sc ps cap)(hcap:∀ y,sc.names.lookup y=some .free->∃ c,cl.lookup y=some c)(hd:A.handled=none)(e0:zdQ P w K mg base A outer s H)(hl:vs.length=ps.length)(hv:vals.length=cap.length)(r:Vals vs us)(C:CellsAre s H cl cap vals)(hns:h₁.Ns s.heap.objs.size (λx=>(ps.zip us).reverse.lookup x))(hk:∀ b o,s.heap.get? b=some o->h₁.get? b=some o):
  Inv (zgs P w K mg base (ps++cap) q sc f c' cl A outer s H) [] (vs.map some++vals) H {s with heap:=h₁,toks:=tk}:=by
 have noA:∀ b:AD,b∉(zgs P w K mg base (ps++cap) q sc f c' cl A outer s H).ex:=λb z=>absurd (show b∈([]:LH)from z) (by simp);have ndp:ps.Nodup:=(nodup_append.mp S.nd).1;refine⟨⟨e0.mod,S.kind,rfl,rfl,Ik _,C.inj,λy hy=>?_,(λy c h=>Bool.noConfusion h),λ_=>hd,frames_deeper e0.frames,.inr ⟨rfl,rfl⟩,λb z=>absurd z (noA b),e0.bs,e0.bsz,λb _ _=>noA b,λb z=>absurd z (noA b),e0.zdr,e0.frf⟩,
  rfl,e0.bare,Un.kept hk,⟨_,hns,λi y v h1 h2 h3=>?_⟩,λy c h=>?_,e0.ad.fresh (Ik _),λy c h=>(C.isc y c h).2,λp hp=>absurd (show p∈([]:List (Addr×Obj))from hp) (by simp),e0.ad.kept hk,?_⟩
 .have hy:sc.names.lookup y=some .cell\/sc.names.lookup y=some .free:=hy;rcases hy with hy | hy
  .exact absurd rfl (S.cell _ (IJ hy))
  .exact hcap y hy
 .by_cases hi:i<ps.length
  .have hp:ps[i]?=some y:=by have:(ps++cap)[i]?=some y:=h1;rw[IV hi]at this;exact this
   have ha:vs[i]?=some v:=by
    rw[IV (by rw[Ie];omega),Ij]at h2;cases e:vs[i]? with
    |none=>rw[e]at h2;cases h2
    |some a=>rw[e]at h2;cases h2;rfl
   obtain⟨u,hu,rv⟩:=r.get ha;refine⟨u,rv,.inl ⟨S.par y (Iz hp),?_⟩⟩;exact zep ndp hp hu
  .have hc:cap[i-ps.length]?=some y:=by have:(ps++cap)[i]?=some y:=h1;rw[IU (by omega)]at this;exact this
   have ha:vals[i-ps.length]?=some (some v):=by rw[IU (by rw[Ie];omega),Ie,hl]at h2;exact h2
   obtain⟨c,u,e1,e2,rv⟩:=C.val _ y v hc ha;obtain⟨o,ho,hd'⟩:=e2;exact⟨u,rv,.inr ⟨.inr (S.capl y (Iz hc)),c,e1,o,hk _ _ ho,hd'⟩⟩
 .obtain⟨⟨v,o,ho,hd'⟩,_⟩:=C.isc y c h;exact⟨v,o,hk _ _ ho,hd'⟩
 .show(vs.map some++vals).length=(ps++cap).length;rw[Ig,Ig,Ie,hl,hv]
def zkH{us:LF}{Q:VK}{E:XK}(S:Ws fr sc ps cap)(hcap:∀ y,sc.names.lookup y=some .free->∃ c,cl.lookup y=some c)(hr:Wz (k+1) A)(e0:zdQ P w K mg base A outer s H)(L:zcV H f q params body sc cl)(C:CellsAre s H cl cap vals)(hbind:∀(pm ctv:Value)(c' : AD),bindArgs (kla_fn "<lambda>" q params body sc cl pm (.ref c') ctv) ⟨us,[]⟩=pure (ps.zip us))(hl:vs.length=ps.length)(hv:vals.length=cap.length)(r:Vals vs us)(hbody:∀ c',Wz k (A.deeper (PySem.W.envX q sc s.heap.objs.size f (.ref c') cl))->PE (zgs P w K mg base (ps++cap) q sc f c' cl A outer s H) body te)(hq:te (vs.map some++vals) H Q):
  codeAny (model P w) A (.call (.ref f) ⟨us,[]⟩) (CR CX0 outer P w H s Q E) s:=by
 obtain⟨pm,ctv,c',oc,h1,h2,h3⟩:=L;obtain⟨ho,_⟩:=e0.ad f _ h1;have lim:s.heap.NoLimit:=e0.mod.nolimit.keeps λb o e=>(e0.bs b o e).1;refine PySem.W.kla_callFunE hr.depth ho rfl S.co S.gen rfl (zad e0.ad h2 h3) ?_;rw[hbind pm ctv c'];refine Ic (wpAny_newFunctionEnv S.cell (λy hy=>S.par y.1 (ON hy).1) (λh₁ hns hsb=>⟨lim.fresh _ hsb,?_⟩) S.kind);have old1:∀ b u,s.heap.get? b=some u->h₁.get? b=some u:=λb u e=>hsb.extBut b u (IS (IF e)) (Ih _ e)
 have I:=zkD (tk:=s.toks+(ps.zip us).length) (f:=f) (q:=q) (c':=c') S hcap hr.hd e0 hl hv r C hns old1;refine PySem.W.kla_codeExpr (NJ (hbody c' (hr.deeper _) [] _ _ H Q I hq) (λv s' hs=>?_) λe s' z=>z.elim);obtain⟨x,H',J,rv,q'⟩:=hs;exact⟨x,H',J.os,J.bare,J.base,J.ad,rv,q'⟩
end
def BM(mg:Str->LG)(h:Heap):Prop:=∃ bm ob,mg "__builtins__" = some (.ref bm)/\bm≠builtinsNs/\h.get? bm=some ob/\ob.cls = .type "module" /\ ob.dict=some builtinsNs/\ob.data = .plain
def zbd{pos':Pos}{c v:Value}:∀(l:LF),TriplesOk l->codeAmong pos' (l++[rawInt pos.line,rawInt pos.col,c])=some v->codeAmong pos' l=some v\/(pos'.line=pos.line/\pos'.col=pos.col/\v=c):=by
 intro l h
 fun_induction TriplesOk l
  with
 |case1=>
  intro e;simp only[nil_append,rawInt,codeAmong]at e;split at e
  .rename_i hc
   simp at hc;cases e;exact .inr ⟨(by omega),(by omega),rfl⟩
  .cases e
 |case2 a t b u x rest ih=>
  intro e;simp only[NA,codeAmong]at e ⊢;split at e
  .rename_i hc;rw[Iq hc];exact .inl e
  .rename_i hc;rw[Im hc];exact ih h e
 |case3 l z1 z2=>exact False.elim h
section
variable {X:Cx}{aa:List (Addr×Obj)}{σ:St}{H:Hp}{s:SH}{sc:Scope}{ps cap:LB}{P c:AD}{cr:Nat->Nat->Option Str}{q:Str}{params:Arguments}{body:Expr}{pos:Pos}
theorem Ws.cells(S:Ws X.env.scope sc ps cap)(ok:X.Ok):∀ p∈sc.names,p.2 = .free->∃ c,X.env.cells.lookup p.1=some c:=λp hp e=>ok.has p.1 (.inl (S.free p hp e))
def Ws.sub(S:Ws X.env.scope sc ps cap)(ok:X.Ok){y:Str}{c:AD}(h:(Jz X.env sc.names []).lookup y=some c):X.env.cells.lookup y=some c:=U8 (S.cells ok) (λ_ _ z=>by simp at z) h
def Inv.zhl(I:Inv X aa σ H s)(S:Ws X.env.scope sc ps cap)(hjs:js.map (λj=>X.N[j]?)=cap.map some):CellsAre s H (Jz X.env sc.names []) cap (WK σ js):=by
 have ok:=I.ok;refine⟨λx y c h1 h2=>ok.inj x y c (S.sub ok h1) (S.sub ok h2),λx c h=>⟨I.cell x c (S.sub ok h),I.freeC x c (S.sub ok h)⟩,λi y v e1 e2=>?_⟩;have hy:y∈cap:=Iz e1;unfold WK at e2;rw[Ij]at e2;cases ej:js[i]? with
 |none=>rw[ej]at e2;cases e2
 |some j=>
  rw[ej]at e2;have e2'' : (σ[j]?).join=some v:=Iu e2;have eN:X.N[j]?=some y:=by have:=IT (λl=>l[i]?) hjs;simp only[Ij,ej,e1,map_some]at this;exact Iu this
  have eσ:σ[j]?=some (some v):=by
   cases z:σ[j]? with
   |none=>rw[z]at e2'';cases e2''
   |some w' =>
    rw[z]at e2'';have:w'=some v:=by simpa using e2''
    rw[this]
  have kc:X.env.scope.names.lookup y=some .cell:=S.free (y,.free) (S.caps y hy) rfl;obtain⟨m0,hn0,hl0⟩:=I.loc;obtain⟨u,ru,lk⟩:=hl0 j y v eN eσ (.inr (.inl kc));rcases lk with⟨k,_⟩ | ⟨_,c,ec,hc⟩
  .have k' : X.env.scope.names.lookup y=some .local:=k;rw[kc]at k';cases k'
  .obtain⟨c',hc'⟩:=NE.mp (W7 (env:=X.env) (acc:=[]) (S.caps y hy));have hcc:c'=c:=Iu ((S.sub ok hc').symm.trans ec);subst hcc;exact⟨c',u,hc',hc,ru⟩
def zpl(P:AD)(cr:Nat->Nat->Option Str)(q:Str)(params:Arguments)(body:Expr)(sc:Scope)(cl:List (Str×AD)):TE:=fun σ H Q=>H P=some (.tbl cr)/\∀ f H',H f=none->ZF H H' -> zcV H' f q params body sc cl->Q (.ref f) H'
def zm1(S:Ws X.env.scope sc ps cap)(hcode:X.env.code = .ref c)(C:CodeHd X.base c P)(hbm:BM X.mg X.base)(hq:q=X.env.qual ++ "<lambda>")(hcr:cr pos.line pos.col=some q)(hdef:defaultsOf params X.env=([],[]):=by rfl):
  PE X (.Lambda params body sc pos) (zpl P cr q params body sc (Jz X.env sc.names [])):=by
 intro aa s σ H Q I h;obtain⟨hP,h⟩:=h;refine PySem.W.kla_eval hdef ?_;rw[← hq];obtain⟨tb,hget,ht3,hcodes⟩:=I.ad P _ hP;have hg:s.heap.Ns mainGlobals X.mg:=I.mod.glob.keeps I.bk;have hgP:mainGlobals≠P:=λz=>by obtain⟨o,es,ep,e,hd,_⟩:=hg;rw[z,hget]at e;cases e;cases hd
 have hb:s.heap.BuiltinsAt X.mg P:=by
  obtain⟨bm,ob,b1,b2,b3,b4,b5,b6⟩:=hbm;have e:=I.bk _ _ b3;refine⟨bm,ob,b1,b2,λz=>?_,λz=>?_,e,b4,b5,b6⟩
  .obtain⟨o,es,ep,e',hd,_⟩:=hg;rw[← z,e]at e';cases e';rw[b6]at hd;cases hd
  .rw[z,hget]at e;cases e;cases b4
 have hcl:closureFor sc X.env=pure (Jz X.env sc.names []):=Xr (S.cells I.ok);cases hf:codeAmong pos tb.toList with
 |some cv=>obtain⟨c',oc,q',rfl,e2,e3,e4⟩:=hcodes pos cv hf;rw[hcr]at e2;cases e2;refine PySem.W.kla_makeFunctionHit hcl I.ok.glob hg hcode (C.keeps I.bk) hget ht3 hf hb λctv h' tk hk hsz=>?_;have hfr:H h'.objs.size=none:=I.ad.fresh hsz;refine⟨.ref h'.objs.size,upd H h'.objs.size (.frz (kla_obj "<lambda>" q params body sc (Jz X.env sc.names []) ((X.mg "__name__").getD .none) c' ctv) (.own h'.objs.size)),I.laid (t':=tk) (λb u e=>Ih _ (hk b u e)) hsz ⟨Io _ rfl,_,Io _ rfl⟩,rfl,h _ _ hfr (λb u e=>by rw[Zr (Zy e hfr)];exact e) ⟨_,_,c',oc,Zo,?_,e4⟩⟩;rw[Zr (Zy e3 hfr)];exact e3
 |none=>
  refine PySem.W.kla_makeFunction hcl I.ok.glob hg hcode (C.keeps I.bk) hget ht3 hf hgP hb λc' ctv h' tk hx hge hlt hrec htb=>?_;obtain⟨c2,oc,vs,tt,e2,hoc,hd,hv⟩:=hrec;cases e2;have hcn:H c'=none:=I.ad.fresh hge;have hsz:s.heap.objs.size<=h'.objs.size:=Oz (Nat.lt_of_le_of_lt hge hlt);have hfr:H h'.objs.size=none:=I.ad.fresh hsz;have hcf:c' ≠ h'.objs.size:=IS hlt;have hPc:P≠c':=Zy hP hcn;have hPf:P≠h'.objs.size:=Zy hP hfr;have sm:∀ b u,H b=some u->upd (upd H c' (.frz oc (.own c'))) h'.objs.size (.frz (kla_obj "<lambda>" q params body sc (Jz X.env sc.names []) ((X.mg "__name__").getD .none) c' ctv) (.own h'.objs.size)) b=some u:=λb u e=>by rw[Zr (Zy e hfr),Zr (Zy e hcn)];exact e
  have cc:upd (upd H c' (.frz oc (.own c'))) h'.objs.size (.frz (kla_obj "<lambda>" q params body sc (Jz X.env sc.names []) ((X.mg "__name__").getD .none) c' ctv) (.own h'.objs.size)) c'=some (.frz oc (.own c')):=by rw[Zr hcf,Zo]
  have hk:∀ b o,b≠P->s.heap.get? b=some o->(h'.push (kla_obj "<lambda>" q params body sc (Jz X.env sc.names []) ((X.mg "__name__").getD .none) c' ctv)).get? b=some o:=λb o hb e=>Ih _ (hx b o hb e);refine⟨.ref h'.objs.size,_,I.un (t':=tk) ⟨λb o e n _ _=>hk b o (λz=>by rw[z,hP]at n;cases n) e,λb o e n _ _=>⟨o.slots,hk b o (λz=>by rw[z,hP]at n;cases n) e⟩,λb o e n _=>?_,λb o e _=>?_,λb xs e=>sm b _ e,λb o u e=>sm b _ e,λb r e=>sm b _ e⟩ ?_,rfl,h _ _ hfr sm ⟨_,_,c',oc,Zo,cc,vs,tt,hd,hv⟩⟩
  .have h1:b≠c':=IS (IA (IF e) hge);have h2:b≠h'.objs.size:=IS (IA (IF e) hsz);rw[Zr h2,Zr h1];exact n
  .by_cases hb:b=P
   .subst hb;exact⟨_,Ih _ htb⟩
   .exact⟨o,hk b o hb e⟩
  .intro b u e;by_cases h1:b=h'.objs.size
   .subst h1;rw[Zo]at e;cases e;exact⟨Io _ rfl,_,Io _ rfl⟩
   .by_cases h2:b=c'
    .subst h2;rw[cc]at e;cases e;exact⟨Ih _ hoc,_,Ih _ hoc⟩
    .rw[Zr h1,Zr h2]at e;by_cases h3:b=P
     .subst h3;rw[hP]at e;cases e;refine⟨_,Ih _ htb,?_,λpos' v e=>?_⟩
      .rw[toList_append];exact TriplesOk_snoc _ _ _ _ ht3
      .rw[toList_append]at e;rcases zbd (pos:=pos) tb.toList ht3 e with e | ⟨e1,e2,rfl⟩
       .obtain⟨d,od,q',z1,z2,z3,z4⟩:=hcodes pos' v e;exact⟨d,od,q',z1,z2,sm _ _ z3,z4⟩
       .exact⟨c',oc,q,rfl,by rw[e1,e2];exact hcr,cc,vs,tt,hd,hv⟩
     .refine(I.ad b u e).stay (λd v hd' e' => hk d v ?_ e') (λd e' => sm d _ e') (λd xs e' => sm d _ e') λd o' u' e' => sm d _ e';rintro rfl;rcases hd' with z | z
      .exact h3 z.symm
      .rw[hP]at z;cases z
end
abbrev SpS:=SH->LC->Hp->VK->Prop
structure zc2(P:Program)(w:World)(K:FG)(mg:Str->LG)(base:Heap)(k:Nat)(f:AD)(fd:FuncData)(ps:LB)(sp:SpS):Prop where
 len:∀ s vs H Q,sp s vs H Q->vs.length=ps.length
 run:∀(A:Around)(outer:LJ)(s:SH)(H:Hp)(args:Args)(us:LF)(vs:LC)(Q:VK),Wz k A->zdQ P w K mg base A outer s H->BindsTo s fd args (ps.zip us)->Vals vs us->sp s vs H Q->
  codeAny (model P w) A (.call (.ref f) args) (CR CX0 outer P w H s Q E0) s
def zl8{P:Program}{w:World}{K:FG}{mg:Str->LG}{base:Heap}{name:Str}{body:List Stmt}{scope:Scope}{dV kV doc pm cdv ct oc:Value}{an od:Option AD}{osl:Array (LG)}{N ps:LB}{sp:SpS}(lk:K.lookup f=some ⟨oc,od,.func (PySem.W.fnOf name qual params body scope dV kV doc pm an cdv ct),osl⟩)(hcd:codeIn K cdv qual=true)(S:ZK N ps scope)(len:∀ s vs H Q,sp s vs H Q->vs.length=ps.length)(hbody:∀(A:Around)(outer:LJ)(s:SH)(H:Hp)(vs:LC)(Q:VK),Wz k (A.deeper (envOfC qual scope s.heap.objs.size f cdv))->sp s vs H Q->
   ∃ t,PSs (zbJ CX0 P w K mg base N qual scope f cdv A outer s H E0) body t/\t {nx:=λ_ H' => Q .non H',rt:=Q} (start N vs) H):
  zc2 P w K mg base (k+1) f (PySem.W.fnOf name qual params body scope dV kV doc pm an cdv ct) ps sp:=by
 refine⟨len,λA outer s H args us vs Q hr e0 hb r hsp=>?_⟩;have hl:=len _ _ _ _ hsp;have KX:K.In s.heap:=e0.mod.kin.keeps λb o e=>(e0.bs b o e).1;have lim:s.heap.NoLimit:=e0.mod.nolimit.keeps λb o e=>(e0.bs b o e).1;have hkind:∀ y∈ps.zip us,scope.names.lookup y.1=some .local\/(scope.names.lookup y.1=some .cell/\((cellsFrom (s.heap.objs.size+1) scope.names []).lookup y.1).isSome=true):=λ⟨n,v⟩ hy=>by
  rcases S.par n (ON hy).1 with q | q
  .exact .inl q
  .exact .inr ⟨q,cellsFrom_some _ _ _ (.inl q)⟩
 refine codeAny_call_function hr.depth (KX _ _ lk) rfl S.co S.gen rfl (codeRec_of KX hcd) (hb _ _ _ _ ?_);refine wpAny_newFunctionEnv_cells S.kind hkind λenv he s1 x=>?_;subst he;refine⟨lim.keeps x.toInCall.keep,codeAny_func ?_⟩;obtain⟨t,ht,hq⟩:=hbody A outer s H vs Q (hr.deeper _) hsp;have I:Inv (zbJ CX0 P w K mg base N qual scope f cdv A outer s H E0) [] (start N vs) H s1:=zcu S hr.hd e0 hl r x;refine NJ (ht [] s1 (start N vs) H _ I hq) (λfl s' hs=>?_) λe s' hs=>hs;have fin:∀{σ' : St}{H' : Hp}{v:V}{u:Value},Inv (zbJ CX0 P w K mg base N qual scope f cdv A outer s H E0) [] σ' H' s' -> RelV v u->Q v H' -> CE outer P w H s Q u s' :=λ{σ' H' v u} J rv q=>⟨v,H',J.os,J.bare,J.base,J.ad,rv,q⟩
 cases fl with
 |ret u=>obtain⟨v,σ',H',J,rv,q⟩:=hs;exact fin J rv q
 |next=>obtain⟨σ',H',J,q⟩:=hs;exact fin (v:=V.non) (u:=Value.none) J rfl q
 |brk=>obtain⟨_,_,_,q⟩:=hs;exact False.elim q
 |cont=>obtain⟨_,_,_,q⟩:=hs;exact False.elim q
section
variable {P:Program}{w:World}{K:FG}{mg:Str->LG}{base:Heap}
def Fun.okS{st:Stmt}{sp:SpS}(F:Fun K x qual st f fd)(S:ZK N ps (Zh st))(len:∀ s vs H Q,sp s vs H Q->vs.length=ps.length)(hbody:∀(cdv:Value)(A:Around)(outer:LJ)(s:SH)(H:Hp)(vs:LC)(Q:VK),Wz k (A.deeper (envOfC qual (Zh st) s.heap.objs.size f cdv))->sp s vs H Q->
   ∃ t,PSs (zbJ CX0 P w K mg base N qual (Zh st) f cdv A outer s H E0).nox (Yj st) t/\t {nx:=λ_ H' => Q .non H',rt:=Q} (start N vs) H):zc2 P w K mg base (k+1) f fd ps sp:=by
 obtain⟨oc,od,kV,doc,pm,an,cdv,ct,osl,rfl,lk,hcd⟩:=F.ex;refine zl8 lk hcd S len λA outer s H vs Q hr hsp=>?_;obtain⟨t,h,q⟩:=hbody cdv A outer s H vs Q hr hsp;exact⟨t,h.nox,q⟩
def Fun.okC{st:Stmt}{sp:Sp}(F:Fun K x qual st f fd)(S:ZK N ps (Zh st))(len:∀ vs H Q E,sp vs H Q E->vs.length=ps.length)(hbody:∀(cdv:Value)(A:Around)(outer:LJ)(s:SH)(H:Hp)(vs:LC)(Q:VK)(E:XK),cdv=fd.code->Wz k (A.deeper (envOfC qual (Zh st) s.heap.objs.size f cdv))->sp vs H Q E->
   ∃ t,PSs (zbJ CX0 P w K mg base N qual (Zh st) f cdv A outer s H E).nox (Yj st) t/\t {nx:=λ_ H' => Q .non H',rt:=Q} (start N vs) H):VH P w K mg base CX0 (k+1) f fd ps sp:=by
 obtain⟨oc,od,kV,doc,pm,an,cdv,ct,osl,rfl,lk,hcd⟩:=F.ex;refine zlQ lk hcd S len λA outer s H vs Q E hr hsp=>?_;obtain⟨t,h,q⟩:=hbody cdv A outer s H vs Q E rfl hr hsp;exact⟨t,h.nox,q⟩
end
def znT(K:FG)(P:AD)(cr:Nat->Nat->Option Str)(R:LA->PD->Prop):Sp:=λvs H Q _=>∃(G:Hp)(ds:LA)(d:PD),G P=some (.tbl cr)/\ZF G H/\YB K G vs ds/\R ds d/\∀ v G' H',YH G H G' H' -> Dat K G' v d->Q v H'
def zdu{K:FG}{P:AD}{cr:Nat->Nat->Option Str}{G:Hp}{d:PD}{R:LA->PD->Prop}{E:XK}{t:TA}(hP:G P=some (.tbl cr))(h:EvA K t σ G ds)(hR:R ds d):Ev K (QM (znT K P cr R) [] E t) σ G d:=
 λG1 H s1 s2 Q k=>h G1 H s1 s2 _ λvs G2 H2 g2 hv=>by refine⟨G2,ds,d,g2.gg _ _ (s1 _ _ hP),g2.gh,?_,hR,λv G' H' g hd=>k v G' H' (g2.trans g) hd⟩;rw[NK];exact hv
theorem Vi{b:β}:∀{l:List (AD×β)},l.lookup a=some b->(a,b)∈l
 |[],h=>by simp at h
 |(z,v)::l,h=>by
  rw[Oc]at h;cases hb:a==z with
  |true=>
   rw[hb]at h;have:a=z:=by simpa using hb
   cases h;subst this;exact ID
  |false=>rw[hb]at h;exact Iy _ (Vi h)
theorem zed{b:β}:∀{l:List (AD×β)},(l.map (·.1)).Nodup->(a,b)∈l->l.lookup a=some b
 |[],_,h=>by simp at h
 |(z,v)::l,nd,h=>by
  rw[Oc];rw[Ng,OM]at nd;rcases IE.mp h with e | h
  .cases e;simp
  .have:a≠z:=λe=>nd.1 (e ▸ List.mem_map_of_mem (f:=(·.1)) h);have hb:(a==z)=false:=by simpa using this
   rw[hb];exact zed nd.2 h
structure Bs(K:FG)(mg:Str->LG)(base:Heap):Prop where
 kin:K.In base
 bm:BM mg base
abbrev ziV:=List (AD×(Nat->Nat->Option Str))
def zcM(H:Hp)(tabs:ziV):Prop:=∀ p∈tabs,H p.1=some (.tbl p.2)
def zfK{P:Program}{w:World}{K:FG}{mg mb:Str->LG}{fa:AD}{sp:Sp}{s₁:SH}{vs:LF}(tabs:ziV)(KX:K.In s₁.heap)(hns:s₁.heap.Ns mainGlobals mg)(hb:s₁.heap.Ns builtinsNs mb)(hbb:∀ x:Str,x≠ "__name__" -> mb x=bootBuiltins x)(hlim:s₁.heap.NoLimit)(hg:s₁.gens = #[])(ha:s₁.heap.get? a=some {cls:=.type "list",data:=.seq vs.toArray})(hi:IntsAre vs ns)(hl:ns.length<=sizeLine)(hr:Wz k callerA)(hbm:BM mg s₁.heap)(hT:∀ p∈tabs,s₁.heap.get? p.1=some {cls:=.none,data:=.fields #[]})(hIs:∀ p∈tabs,isCodeTable s₁.heap p.1)(hKt:∀ p∈tabs,K.lookup p.1=none)(hnd:(tabs.map (·.1)).Nodup)(F:∀ base:Heap,K.In base->base.Ns mainGlobals mg->Bs K mg base->VH P w K mg base CX0 k fa fd [x] sp)(hbind:∀(s:SH)(u:Value),BindsTo s fd ⟨[u],[]⟩ [(x,u)])(hsp:∀ H:Hp,zcM H tabs->SqL K H a (ns.map V.int)->sp [.ref a] H (λv _=>v = .bl true) λ_ _ _=>False):
  codeAny (model P w) callerA (.call (.ref fa) ⟨[.ref a],[]⟩) (λr s' => r = .ok (.ret (.bool true))/\OldK s₁.heap s'.heap/\s'.os=s₁.os/\AllBare s'.gens) s₁:=by
 have rv:=zcf hi;have lenV:=hi.length;have core:∀ H:Hp,zcM H tabs->SqL K H a (ns.map V.int)->HOk P w H s₁.heap->(∀ b,H b≠none->(b=a/\∃ o xs,H b=some (.frz o (.lst xs)))\/∃ p∈tabs,p.1=b)->(H a≠none->K.lookup a=none)->
   codeAny (model P w) callerA (.call (.ref fa) ⟨[.ref a],[]⟩) (λr s' => r = .ok (.ret (.bool true))/\OldK s₁.heap s'.heap/\s'.os=s₁.os/\AllBare s'.gens) s₁:=by
  intro H hTb hS ad hA hK;have base_of:∀{b:AD}{o:Obj},s₁.heap.get? b=some o->H b=none->(zgU s₁.heap H).get? b=some o:=λe n=>zha e n;have noT:∀{b:AD}{o:Obj},s₁.heap.get? b=some o->(∀ vs n,o.data≠.seq vs n)->(∀ vs,o.data≠.fields vs)->H b=none:=λ{b o} e d1 d2=>by
   cases q:H b with
   |none=>rfl
   |some u=>
    rcases hA b (by rw[q];simp)with⟨e',_⟩ | ⟨p,hp,e'⟩
    .subst e';rw[ha]at e;cases e;exact absurd rfl (d1 _ _)
    .subst e';rw[hT p hp]at e;cases e;exact absurd rfl (d2 _)
  have noA:∀{b:AD}{o:Obj}{es:Array DictEntry}{ep:Nat},s₁.heap.get? b=some o->o.data = .dict es ep->H b=none:=λ{b o es ep} e d=>noT e (λvs n z=>by rw[d]at z;cases z) λvs z=>by rw[d]at z;cases z
  have nsK:∀{b:AD}{m:Str->LG},s₁.heap.Ns b m->(zgU s₁.heap H).Ns b m:=λ{b m} ⟨o,es,ep,e,d,r⟩=>⟨o,es,ep,base_of e (noA e d),d,r⟩
  have hKb:K.In (zgU s₁.heap H):=λb o e=>base_of (KX b o e) (by
   cases q:H b with
   |none=>rfl
   |some u=>
    rcases hA b (by rw[q];simp)with⟨e',_⟩ | ⟨p,hp,e'⟩
    .subst e';rw[hK (by rw[q];simp)]at e;cases e
    .subst e';rw[hKt p hp]at e;cases e)
  have hBs:Bs K mg (zgU s₁.heap H):=⟨hKb,by
   obtain⟨bm,ob,b1,b2,b3,b4,b5,b6⟩:=hbm;exact⟨bm,ob,b1,b2,base_of b3 (noT b3 (λvs n z=>by rw[b6]at z;cases z) λvs z=>by rw[b6]at z;cases z),b4,b5,b6⟩⟩
  have hM:Mod K mg (zgU s₁.heap H):=⟨hKb,nsK hns,⟨mb,nsK hb,hbb⟩,let ⟨mc,h1,h2⟩:=hlim;⟨mc,nsK h1,h2⟩⟩
  have e0:zdQ P w K mg (zgU s₁.heap H) callerA [] s₁ H:=⟨rfl,hM,λb o e=>zjl e,le_of_eq (ze0 _ _),trivial,λb hb=>absurd (show b∈([]:LH)from hb) (by simp),ad,.of_eq hg⟩
  refine Ob ((F _ hKb (nsK hns) hBs).run callerA [] s₁ H ⟨[.ref a],[]⟩ [.ref a] [.ref a] _ _ hr e0 (hbind s₁ (.ref a)) (.cons rfl .nil) (hsp H hTb hS)) λr s' h=>?_;cases r with
  |error e=>exact False.elim h
  |ok fl=>
   cases fl with
   |next=>exact False.elim h
   |brk=>exact False.elim h
   |cont=>exact False.elim h
   |ret u=>
    obtain⟨v,H',os,bare,un,hok',r',q⟩:=h;have q' : v = .bl true:=q;subst q';obtain rfl:u=Value.bool true:=r';refine⟨rfl,⟨λb o e=>?_,λb o e=>un.there b o e (by simp)⟩,os,bare⟩;cases q:H b with
    |none=>exact .inl (un.keep b o e q (by intro z;exact absurd (show b∈([]:LH)from z) (by simp)) (by simp))
    |some u=>
     rcases hA b (by rw[q];simp)with⟨e',ob,xs,z⟩ | ⟨p,hp,e'⟩
     .have z2:=un.frzs b ob _ z;obtain⟨e1,_⟩:=ad b _ z;obtain⟨e2,_⟩:=hok' b _ z2;rw[e]at e1;cases e1;exact .inl e2
     .subst e';have z:=un.tbls _ _ (hTb p hp);obtain⟨ps,e1,_⟩:=hok' _ _ z;rw[hT p hp]at e;cases e;exact .inr (.inl ⟨hIs p hp,rfl,#[],ps,rfl,by rw[Array.empty_append];exact e1⟩)
 have hpa:∀ p∈tabs,p.1≠a:=λp hp z=>by have:=hT p hp;rw[z,ha]at this;cases this
 have tl:∀ p∈tabs,tabs.lookup p.1=some p.2:=λp hp=>zed hnd hp;have okT:∀(H:Hp)(b:AD)(cr:Nat->Nat->Option Str),tabs.lookup b=some cr->Xk P w H s₁.heap b (.tbl cr):=λH b cr e=>⟨#[],hT (b,cr) (Vi e),trivial,λpos v z=>by cases z⟩
 cases hk:K.lookup a with
 |some o=>
  have e:=KX a o hk;rw[ha]at e;cases e;refine core (λb=>(tabs.lookup b).map HO.tbl) (λp hp=>by show(tabs.lookup p.1).map HO.tbl=_;rw[tl p hp];rfl) (.inr ⟨_,vs.toArray,_,hk,rfl,rfl,rfl,by rw[Ix,lenV];exact hl,by simpa using rv⟩) (λb u z=>?_) (λb z=>?_) λz=>?_
  .obtain⟨cr,e1,e2⟩:=map_eq_some_iff.mp z;subst e2;exact okT _ b cr e1
  .replace z:(tabs.lookup b).map HO.tbl≠none:=z
   cases e:tabs.lookup b with
   |none=>rw[e]at z;exact absurd rfl z
   |some cr=>exact .inr ⟨_,Vi e,rfl⟩
  .replace z:(tabs.lookup a).map HO.tbl≠none:=z
   cases e:tabs.lookup a with
   |none=>rw[e]at z;exact absurd rfl z
   |some cr=>exact absurd rfl (hpa _ (Vi e))
 |none=>
  refine core (λb=>if b=a then some (.frz {cls:=.type "list",data:=.seq vs.toArray} (.lst (ns.map V.int)))else(tabs.lookup b).map HO.tbl) (λp hp=>?_) (.inl (.inr ⟨{cls:=.type "list",data:=.seq vs.toArray},Iq rfl⟩)) (λb u z=>?_) (λb z=>?_) λ_=>hk
  .show(if p.1=a then _ else(tabs.lookup p.1).map HO.tbl)=_;rw[Im (hpa p hp),tl p hp];rfl
  .by_cases hb:b=a
   .have z':=(Iq hb).symm.trans z;cases z';subst hb;exact⟨ha,by rw[Ie];exact hl,vs,_,rv,ha⟩
   .have z':=(Im hb).symm.trans z;obtain⟨cr,e1,e2⟩:=map_eq_some_iff.mp z';subst e2;exact okT _ b cr e1
  .by_cases hb:b=a
   .exact .inl ⟨hb,_,_,Iq hb⟩
   .replace z:(if b=a then _ else(tabs.lookup b).map HO.tbl)≠none:=z
    rw[Im hb]at z;cases e:tabs.lookup b with
    |none=>rw[e]at z;exact absurd rfl z
    |some cr=>exact .inr ⟨_,Vi e,rfl⟩
def zhk{l:PySem.W.OpenLaw}{n:Nat}{q:Program}{loose:LB}{XP:(Str->LG)->Heap->Prop}{YP:World->Heap->Prop}{d:DefRec}{K:Params->FG}{sp:World->Sp}(tabs:World->ziV)(hn:l.most=some n)(hn2:n<=sizeLine)(hdf:d.params.defaults=[])(hr:Wz k callerA)(hY:∀(w:World)(h:Heap),YP w h->(K w.params).In h/\∀ p∈tabs w,h.get? p.1=some {cls:=.none,data:=.fields #[]})(F:∀(w:World)(mg:Str->LG)(fa:AD)(h:Heap),(K w.params).In h->h.Ns mainGlobals mg->mg d.name=some (.ref fa)->
   ∃ fd:FuncData,(∀(s:SH)(u:Value),BindsTo s fd ⟨[u],[]⟩ [(x,u)])/\((∀ p∈tabs w,(K w.params).lookup p.1=none)/\(∀ p∈tabs w,isCodeTable h p.1)/\((tabs w).map (·.1)).Nodup)/\
    ∀ base:Heap,(K w.params).In base->base.Ns mainGlobals mg->Bs (K w.params) mg base->VH l.prog w (K w.params) mg base CX0 k fa fd [x] (sp w))(hsp:∀(w:World)(H:Hp)(a:AD)(ns:LX),ns.length<=n->zcM H (tabs w)->SqL (K w.params) H a (ns.map V.int)->sp w [.ref a] H (λv _=>v = .bl true) λ_ _ _=>False):
  PySem.W.WalkO q loose XP YP l.row.toRowW d [] (λf vs=>PySem.call f vs):=by
 refine Att.zdc hn hdf λw s₀ s₁ mg mb fa o pm cd doc a vs ns G Y ho hd hcd hmg hobj hints hlen hg=>?_;obtain⟨KX,hT⟩:=hY w _ Y;obtain⟨fd,hb,⟨h1,h2,h3⟩,hF⟩:=F w mg fa _ KX G.T.g hmg;exact zfK (tabs w) KX G.T.g G.T.b G.T.builtins G.T.nolimit hg hobj hints (ND hlen hn2) hr G.T.bmain hT h2 h1 h3 hF hb (λH hO hS=>hsp w H a ns hlen hO hS)
def zaR(K:FG)(tabs:ziV):Sp:=λvs H Q _=>∃(a:AD)(ns:LX),vs=[.ref a]/\SqL K H a (ns.map V.int)/\ns.length<=63/\zcM H tabs/\∀ H',Q (.bl true) H'
def zbE{K:FG}{c P:AD}(X:K.In h)(e:codeHdIn K c P=true):isCodeTable h P:=by obtain⟨o,vs,file,tf,flags,tg,inF,text,tt,e1,e2,e3,e4,_⟩:=codeHd_of_K X e;exact⟨c,o,vs,e1,e2,e3,e4⟩
section
variable {K:FG}{B:Hp}{E:AD->Prop}{G0 H0 G H G' H' : Hp}{σ:St}{ρ:LD}{F:Nat->LH}{ta tb te:TE}{a b d:PD}{ds es:LA}
def zkj{r:LC->Hp->VK->Prop}{t:TA}(h:Ea K B t ρ ds)(hr:∀ G1 H xs (Q:VK),ZF G1 H->YB K G1 xs ds->(∀ v G' H',YH G1 H G' H' -> Dat K G' v d->Q v H')->r xs H Q):Er K B (tCB r t) ρ d:=λG σ r' => zfz (h G σ r') λG1 H xs Q _ s2 hx k=>hr G1 H xs Q s2 hx k
def za7{i:Int}(h:Er K B te ρ (.int i)):Er K B (tUn (rU λi=>.int (-i)) te) ρ (.int (-i)):=λG σ r G1 H s1 s2 Q k=>h G σ r G1 H s1 s2 _ λv G2 H2 g hv=>⟨i,hv.int,k _ G2 H2 g (Zv _)⟩
def Eo(K:FG)(B:Hp)(t:TO)(ρ:LD)(o:LI):Prop:=∀ G σ,Rx K B G σ ρ->∀ H (Q:LI->Hp->Prop),Q o H->t σ H Q
def V3:Eo K B Ql ρ none:=λ_ _ _ _ _ q=>q
def zdP{i:Int}:Eo K B (UJ (tC (.int i))) ρ (some i):=λ_ _ _ _ _ q=>⟨i,rfl,q⟩
def zdS(h:ρ[i]?=some (.dat (.int j))):Eo K B (UJ (Wj i)) ρ (some j):=λG σ r H Q q=>by obtain⟨x,hx,hd⟩:=r.2.1 i _ h;exact⟨x,hx,j,hd.int,q⟩
def zmf{g:Int->Int->Int}{c:Int}(h:ρ[i]?=some (.dat (.int j))):Eo K B (UJ (tOp (rI0 λa b=>.int (g a b)) (Wj i) (tC (.int c)))) ρ (some (g j c)):=λG σ r H Q q=>by obtain⟨x,hx,hd⟩:=r.2.1 i _ h;exact⟨x,hx,j,c,hd.int,rfl,g j c,rfl,q⟩
abbrev slD(ds:LA)(lo hi:LI):LA:=(ds.drop (HT.sIx ds.length 0 lo)).take (HT.sIx ds.length ds.length hi-HT.sIx ds.length 0 lo)
def zbj{tl th:TO}(h:Er K B te ρ (.tuple ds))(hl:Eo K B tl ρ lo)(hh:Eo K B th ρ hi):Er K B (tSl (zcj K) te tl th) ρ (.tuple (slD ds lo hi)):=λG σ r=>zf4 (h G σ r) (hl G σ r) (hh G σ r)
def W4(ha:Er K B ta ρ (.tuple ds))(hb:Er K B tb ρ (.tuple es))(hz:ds.length+es.length<=sizeLine):Er K B (tOp (zhw K) ta tb) ρ (.tuple (ds++es)):=λG σ r=>zkZ (ha G σ r) (hb G σ r) hz
def Uk{ta tb:TE}(ha:Ev K ta σ G (.list ds))(hb:Ev K tb σ G (.list es))(hz:ds.length+es.length<=sizeLine):Ev K (tOp znZ ta tb) σ G (.list (ds++es)):=QR ha hb λG1 H x y Q s1 s2 hx hy k=>by obtain⟨p,xs,rfl,hp,hxs⟩:=hx.lst;obtain⟨q,ys,rfl,hq,hys⟩:=hy.lst;refine⟨p,q,xs,ys,rfl,rfl,s2 _ _ hp,s2 _ _ hq,by rw[hxs.length,hys.length];exact hz,λl hl=>?_⟩;have g:=YF (o:=.lst (xs++ys)) s2 hl;exact k _ _ _ g (Xd Zo ((W5 hxs hys).same g.gg))
def Wi(ha:Er K B ta ρ (.list ds))(hb:Er K B tb ρ (.list es))(hz:ds.length+es.length<=sizeLine):Er K B (tOp znZ ta tb) ρ (.list (ds++es)):=λG σ r=>Uk (ha G σ r) (hb G σ r) hz
def zfB{t:TA}{bs:List Bool}(h:Ea K B t ρ [.list (bs.map .bool)]):Er K B (tCB (λxs H Q=>∃(p:AD)(bs:List Bool),xs=[.ref p]/\SqL K H p (bs.map V.bl)/\Q (.bl (bs.all id)) H) t) ρ (.bool (bs.all id)):=zkj h λG1 H xs Q s2 hx k=>by
 obtain⟨y,ys,rfl,hy,hn⟩:=hx.cons;cases hn.nil;obtain⟨p,zs,rfl,hp,hz⟩:=hy.lst;have e:zs=bs.map V.bl:=by
  clear h hy hp k hx hn
  induction bs generalizing zs with
  |nil=>exact hz.nil
  |cons q l ih=>obtain⟨u,us,rfl,hu,hus⟩:=hz.cons;rw[hu.bl,ih us hus];rfl
 subst e;exact⟨p,bs,rfl,SqL.of (s2 _ _ hp),k _ G1 H (YH.refl s2) (Yc _)⟩
def zfi(h:Er K B ta ρ (.bool c))(h' : c=false->Er K B tb ρ (.bool e)):Er K B (zn2 ta tb) ρ (.bool (c||e)):=λG σ r G1 H s1 s2 Q k=>h G σ r G1 H s1 s2 _ λv G2 H2 g hv=>⟨c,hv.bl,by
 cases c with
 |true=>rw[Iq rfl];exact k _ G2 H2 g (Yc _)
 |false=>
  rw[Im Ii];exact h' rfl G σ r G2 H2 (s1.trans g.gg) g.gh _ λv G3 H3 g3 hv=>k v G3 H3 (g.trans g3) hv⟩
def EgT(K:FG)(B:Hp)(t:TT)(ρ:LD)(R:Bool->LD->Prop):Prop:=∀ E G0 H0 G H σ F,Rl K B E G0 H0 G H σ ρ F->∀ Q:Bool->Hp->Prop,
 (∀ b ρ' G' H' F',R b ρ' -> ZF G G' -> Rl K B E G0 H0 G' H' σ ρ' F' -> Q b H')->t σ H Q
def U6{R:Bool->LD->Prop}(h:Eg K B te ρ λr ρ' => ∃ c,r = .dat (.bool c)/\R c ρ'):EgT K B (zcv te) ρ R:=λE G0 H0 G H σ F r Q q=>
 h E G0 H0 G H σ F r _ λv w ρ1 G1 H1 F1 L hw s1 r1 sl n=>by obtain⟨c,rfl,hR⟩:=hw;obtain⟨_,y,hy,hd⟩:=sl;cases hy;exact⟨c,hd.bl,q c ρ1 G1 H1 F1 hR s1 r1⟩
def zd6{c:TT}{t:TS}{R:Pn}(h:EgT K B c ρ λb ρ' => if b=true then Sv K B t ρ' R else Sv K B u ρ' R):Sv K B (zhG c t u) ρ R:=λE G0 H0 G H σ F D r d=>
 h E G0 H0 G H σ F r _ λc ρ1 G1 H1 F1 hR s1 r1=>by
  cases c with
  |true=>rw[Iq rfl]at hR ⊢;exact hR E G0 H0 _ _ σ F1 D r1 (d.mono s1)
  |false=>rw[Im Ii]at hR ⊢;exact hR E G0 H0 _ _ σ F1 D r1 (d.mono s1)
def Qj{t:TS}{R:Pn}(i:Nat)(hi:ρ[i]?=some (.own ds))(h:Sv K B t (ρ.set i (.dat (.list ds))) R):Sv K B t ρ R:=λE G0 H0 G H σ F D r dn=>by
 obtain⟨p,xs,e,hx,hp,hd⟩:=r.sl i _ hi;have hpi:p∈F i:=by rw[e];simp
 obtain⟨gp,_,_⟩:=r.fr i p hpi;have h0:=r.ow i ds p hi hpi;have hlt:i<ρ.length:=(Il.mp hi).1;have s1:ZF G (upd G p (.lst xs)):=YK gp;refine h E G0 H0 (upd G p (.lst xs)) H σ (λk=>if k=i then[]else F k) D ⟨⟨r.g.gg.trans s1,λb o eb=>?_,r.g.kp,r.g.al,λb o eb=>?_⟩,r.bb.trans s1,by rw[Og];exact r.ls,λj v hj=>?_,λj a ha=>?_,λj k a ha hb=>?_,λj ds' a hj ha=>?_⟩ (dn.mono s1)
 .by_cases z:b=p
  .subst z;rw[Zo]at eb;rw[hp,eb]
  .rw[Zr z]at eb;exact r.g.gh b o eb
 .by_cases z:b=p
  .subst z;exact .inr h0
  .rw[Zr z]at eb;exact r.g.fr b o eb
 .by_cases z:j=i
  .subst z;rw[IY hlt]at hj;cases hj;rw[Iq rfl];exact⟨rfl,_,hx,Xd Zo (hd.same s1)⟩
  .rw[I9 (Ne.symm z)]at hj;rw[Im z];exact(r.sl j v hj).grow s1 λ_ _=>rfl
 .by_cases z:j=i
  .rw[Iq z]at ha;cases ha
  .rw[Im z]at ha;obtain⟨h1,h2,h3⟩:=r.fr j a ha;refine⟨?_,h2,h3⟩;rw[Zr λq=>by subst q;exact z (r.dj j i a ha hpi)];exact h1
 .by_cases z:j=i
  .rw[Iq z]at ha;cases ha
  .by_cases z' : k=i
   .rw[Iq z']at hb;cases hb
   .rw[Im z]at ha;rw[Im z']at hb;exact r.dj j k a ha hb
 .by_cases z:j=i
  .rw[Iq z]at ha;cases ha
  .rw[Im z]at ha;rw[I9 (Ne.symm z)]at hj;exact r.ow j ds' a hj ha
variable {P:Program}{w:World}
def zhH(h:YB K G xs ds):YB K G (zgO xs lo hi) (slD ds lo hi):=by unfold zgO slD;rw[h.length];exact Qn _ (Qc _ h)
def zhQ{tl th:TO}(h:ρ[i]?=some (.scr ns))(hl:Eo K B tl ρ lo)(hh:Eo K B th ρ hi):Er K B (tSl (znS K) (Wj i) tl th) ρ (.list (slD (ns.map .int) lo hi)):=λG σ r G1 H s1 s2 Q k=>by obtain⟨a,hx,hq⟩:=r.2.2.2.2.1 i ns h;refine⟨_,hx,hl G σ r _ _ (hh G σ r _ _ ⟨a,_,rfl,(s1.trans s2).seq hq,λp hp=>?_⟩)⟩;have g:=YF (o:=.lst (zgO (ns.map V.int) lo hi)) s2 hp;exact k _ _ _ g (Xd Zo (zhH (zcp ns)))
def zja(f:α->PD)(l:List α)(lo hi:LI):∃ m:List α,slD (l.map f) lo hi=m.map f/\m.length<=l.length/\∀ x∈m,x∈l:=⟨(l.drop (HT.sIx (l.map f).length 0 lo)).take (HT.sIx (l.map f).length (l.map f).length hi-HT.sIx (l.map f).length 0 lo),by unfold slD;rw[OR,map_drop],by rw[Nj,Nk];omega,λx hx=>List.mem_of_mem_drop (List.mem_of_mem_take hx)⟩
def zdT(k:Nat)(ds:LA):slD ds (some (k:Int)) none=ds.drop k:=by
 unfold slD;rw[HT.zbD,HT.zdM];by_cases h:k<=ds.length
 .rw[min_eq_left h,NQ (by rw[Nk];omega)]
 .rw[Nat.min_eq_right (by omega),Os (Ik _),Os (by omega),take_nil]
def Vo(k:Nat)(ds:LA):slD ds none (some (k:Int))=ds.take k:=by
 unfold slD;rw[HT.zbD,HT.zdM,drop_zero,sub_zero];by_cases h:k<=ds.length
 .rw[min_eq_left h]
 .rw[Nat.min_eq_right (by omega),NQ (Ik _),NQ (by omega)]
def zg0(j k:Nat)(ds:LA):slD ds (some (j:Int)) (some (k:Int))=(ds.take k).drop j:=by
 unfold slD;rw[HT.zbD,HT.zbD,List.drop_take];by_cases h:j<=ds.length
 .rw[min_eq_left h];by_cases h2:k<=ds.length
  .rw[min_eq_left h2]
  .rw[Nat.min_eq_right (by omega),NQ (by rw[Nk];omega),NQ (by rw[Nk];omega)]
 .rw[Os (show ds.length<=min j ds.length by omega),Os (show ds.length<=j by omega),take_nil,take_nil]
variable {P:Program}{w:World}{mg:Str->LG}{base:Heap}
def zlu(sb:ZF B H)(hq:SqL K H p (ns.map V.int)):Rl K B (λ_=>False) H H H H (start N [.ref p]) (W9 N [.scr ns]) (λ_=>[]):=by
 refine⟨Gw.refl (ZF.refl _),sb,?_,λi v h=>?_,λ_ _ h=>(by cases h),λ_ _ _ h _=>(by cases h),λ_ _ _ _ h=>(by cases h)⟩
 .unfold start W9;rw[Ig,Ig,Ie,NN,NN];rfl
 .unfold W9 at h;unfold start;cases i with
  |zero=>have h:some (PV.scr ns)=some v:=h;cases h;exact⟨rfl,p,rfl,hq⟩
  |succ i=>rw[IU (by show 1<=i+1;omega)]at h;have:=Iz h;rw[(mem_replicate.mp this).2];rfl
noncomputable def zgW(tabs:ziV):Hp:=λb=>(tabs.find? λp=>decide (p.1=b)).map λp=>HO.tbl p.2
def zkC{tabs:ziV}(h:zcM H tabs):ZF (zgW tabs) H:=λb o e=>by
 unfold zgW at e;cases q:tabs.find? λp=>decide (p.1=b)with
 |none=>rw[q]at e;cases e
 |some p=>rw[q]at e;have e:HO.tbl p.2=o:=Iu e;have:=List.find?_some q;have z:p.1=b:=IB this;subst z;rw[← e];exact h p (List.mem_of_find?_eq_some q)
def Fun.znf{st:Stmt}{tabs:ziV}(Fn:Fun K x qual st f fd)(S:ZK N ["script"] (Zh st))(hb:∀(cdv:Value)(A:Around)(outer:LJ)(s:SH)(H:Hp)(E:XK),Wz k (A.deeper (envOfC qual (Zh st) s.heap.objs.size f cdv))->∀ ns:LX,ns.length<=63->
   ∃ t,PSs (zbJ CX0 P w K mg base N qual (Zh st) f cdv A outer s H E).nox (Yj st) t/\Sv K (zgW tabs) t (W9 N [.scr ns]) {nx:=λ_=>False,rt:=λr _=>r = .dat (.bool true)}):VH P w K mg base CX0 (k+1) f fd ["script"] (zaR K tabs):=by
 refine Fn.ok S (λvs H Q E h=>?_) λcdv A outer s H vs Q E hr h=>?_
 .obtain⟨a,ns,rfl,_⟩:=h;rfl
 .obtain⟨a,ns,rfl,hq,hl,hT,kk⟩:=h;obtain⟨t,ht,hs⟩:=hb cdv A outer s H E hr ns hl;refine⟨t,ht,hs _ _ _ _ _ _ _ _ (zlu (zkC hT) hq) ⟨λe _ r=>e.elim,λe _ r sl n=>?_,λe=>e.elim,λe=>e.elim⟩⟩;subst e;obtain⟨_,y,hy,hd⟩:=sl;cases hy;rw[hd.bl];exact kk _
def zaL{X:Cx}(e:X.K=K)(hc:X.calm=true):V2 X (.builtin "all") (λxs H Q=>∃(p:AD)(bs:List Bool),xs=[.ref p]/\SqL K H p (bs.map V.bl)/\Q (.bl (bs.all id)) H):=by subst e;exact zh5 hc
end
end L2
namespace StbG
open PySem PyProof.Rows
variable {xs:Array Keyed}{x nrem:Nat}
noncomputable def R(f:Keyed->Int)(xs:Array Keyed)(i:Nat):Int:=match xs[i]? with
 |some p=>f p
 |none=>0
def zgY{f:Keyed->Int}{ys:Array Keyed}{i j:Nat}(h:xs[i]?=ys[j]?):R f xs i=R f ys j:=by unfold R;rw[h]
structure SB(κ:SortKind)(a₀:Array Keyed)(st:SortSt):Prop where
 perm:(arrOf st).Perm a₀
 kind:kindOf st=κ
 failed:failedOf st=none
 pend:pendingOf st = #[]
theorem SB.size{κ:SortKind}{a₀:Array Keyed}{st:SortSt}(h:SB κ a₀ st):(arrOf st).size=a₀.size:=h.perm.size_eq
theorem SB.setArr{κ:SortKind}{a₀:Array Keyed}{st:SortSt}(h:SB κ a₀ st)(hp:xs.Perm (arrOf st)):SB κ a₀ (PyProof.Rows.setArr st xs):=⟨hp.trans h.perm,h.kind,h.failed,h.pend⟩
def Srt(ρ:Keyed->Int)(xs:Array Keyed)(n:Nat):Prop:=∀ i j,i<=j->j<n->R ρ xs i<=R ρ xs j
def Up(ρ τ:Keyed->Int)(xs:Array Keyed)(n:Nat):Prop:=∀ i j,i<j->j<n->R ρ xs i<R ρ xs j\/(R ρ xs i=R ρ xs j/\R τ xs i<=R τ xs j)
def Dn(ρ τ:Keyed->Int)(xs:Array Keyed)(n:Nat):Prop:=∀ i j,i<j->j<n->R ρ xs j<R ρ xs i\/(R ρ xs i=R ρ xs j/\R τ xs j<=R τ xs i)
def Rs(τ:Keyed->Int)(N:Nat)(xs:Array Keyed)(n:Nat):Prop:=∀ i j,i<j->n<=j->j<N->R τ xs i<=R τ xs j
variable {ρ τ:Keyed->Int}{κ:SortKind}
def Rs.mono{N n m:Nat}(h:Rs τ N xs n)(k:n<=m):Rs τ N xs m:=λi j a b c=>h i j a (by omega) c
def Up.le{n:Nat}(h:Up ρ τ xs n):Srt ρ xs n:=λi j hij hj=>by
 rcases Nat.lt_or_eq_of_le hij with q | rfl
 .rcases h i j q hj with z | z <;> omega
 .exact Int.le_refl _
def zmt{a n N:Nat}(hu:Up ρ τ xs a)(hr:Rs τ N xs a)(hs:Srt ρ xs n)(hn:n<=N):Up ρ τ xs n:=λi j hij hj=>by
 have le:=hs i j (Oz hij) hj;by_cases h:j<a
 .exact hu i j hij h
 .have:=hr i j hij (by omega) (by omega);omega
def ziF{i j:Nat}(hj:j<=xs.size)(k:Nat):(i<=k/\k<j->R ρ (mirror xs i j ((j-i) / 2)) k=R ρ xs (i+j-1-k)/\R τ (mirror xs i j ((j-i) / 2)) k=R τ xs (i+j-1-k))/\
  (¬ (i<=k/\k<j)->R ρ (mirror xs i j ((j-i) / 2)) k=R ρ xs k/\R τ (mirror xs i j ((j-i) / 2)) k=R τ xs k):=by
 have e:=getElem?_mirror_all (i:=i) hj k;refine⟨λh=>?_,λh=>?_⟩
 .rw[Iq h]at e;exact⟨zgY e,zgY e⟩
 .rw[Im h]at e;exact⟨zgY e,zgY e⟩
def zns{src d:Nat}(hs:src<xs.size)(hd:d<=src)(k:Nat):(k=src-d->R ρ (bubble xs src d) k=R ρ xs src/\R τ (bubble xs src d) k=R τ xs src)/\
  (src-d<k/\k<=src->R ρ (bubble xs src d) k=R ρ xs (k-1)/\R τ (bubble xs src d) k=R τ xs (k-1))/\(k<src-d\/src<k->R ρ (bubble xs src d) k=R ρ xs k/\R τ (bubble xs src d) k=R τ xs k):=by
 have e:=getElem?_bubble hs d hd k;refine⟨λh=>?_,λh=>?_,λh=>?_⟩
 .rw[Iq h]at e;exact⟨zgY e,zgY e⟩
 .rw[Im (by omega),Iq h]at e;exact⟨zgY e,zgY e⟩
 .rw[Im (by omega),Im (by omega)]at e;exact⟨zgY e,zgY e⟩
def zfC{g:Nat}(hx:x<=xs.size)(hg:g<=x)(h1:Dn ρ τ xs g)(h2:∀ i,i<g->g<x->R ρ xs g<R ρ xs i)(h3:∀ i,g<=i->i<x->R ρ xs i=R ρ xs g)(h4:∀ i j,i<j->g<=i->j<x->R τ xs i<=R τ xs j):
  Dn ρ τ (mirror xs g x ((x-g) / 2)) x:=λi j hij hj=>by
 have mi:=ziF (ρ:=ρ) (τ:=τ) (i:=g) hx i;have mj:=ziF (ρ:=ρ) (τ:=τ) (i:=g) hx j;by_cases c1:g<=i
 .obtain⟨a1,a2⟩:=mi.1 ⟨c1,(by omega)⟩;obtain⟨b1,b2⟩:=mj.1 ⟨(by omega),hj⟩;rw[a1,a2,b1,b2];have q1:=h3 (g+x-1-i) (by omega) (by omega);have q2:=h3 (g+x-1-j) (by omega) (by omega);exact .inr ⟨(by omega),h4 _ _ (by omega) (by omega) (by omega)⟩
 .obtain⟨a1,a2⟩:=mi.2 (by omega);rw[a1,a2];by_cases c2:g<=j
  .obtain⟨b1,b2⟩:=mj.1 ⟨c2,hj⟩;rw[b1,b2];have q2:=h3 (g+x-1-j) (by omega) (by omega);have:=h2 i (by omega) (by omega);exact .inl (by omega)
  .obtain⟨b1,b2⟩:=mj.2 (by omega);rw[b1,b2];exact h1 i j hij (by omega)
def zb9{N g:Nat}(hx:x<=xs.size)(h:Rs τ N xs x):Rs τ N (mirror xs g x ((x-g) / 2)) x:=λi j hij h1 h2=>by
 have mi:=ziF (ρ:=τ) (τ:=τ) (i:=g) hx i;obtain⟨_,b2⟩:=(ziF (ρ:=τ) (τ:=τ) (i:=g) hx j).2 (by omega);rw[b2];by_cases c1:g<=i/\i<x
 .rw[(mi.1 c1).2];exact h _ _ (by omega) (by omega) h2
 .rw[(mi.2 c1).2];exact h _ _ hij (by omega) h2
section
variable {prog:Program}{w:World}{A:Around}{E:Value->SH->Prop}{s:SH}{a₀:Array Keyed}
def Cmp(prog:Program)(w:World)(A:Around)(E:Value->SH->Prop)(s:SH)(ρ:Keyed->Int)(κ:SortKind)(a₀:Array Keyed):Prop:=∀{st:SortSt}{i j:Nat}{Q:Option Bool->SortSt->Prop},SB κ a₀ st->i<a₀.size->j<a₀.size->Q (some (decide (R ρ (arrOf st) i<R ρ (arrOf st) j))) st->wpS (model prog w) A E s (ltAt' i j) Q st
def zk5{st:SortSt}{a:Nat}{Q:AscSt->SortSt->Prop}(ik:Cmp prog w A E s ρ κ a₀)(hn:nrem<=a₀.size)(a1:1<=a)(an:a<=nrem)(hB:SB κ a₀ st)(hs:Srt ρ (arrOf st) a)(k:∀ n,a<=n->n<=nrem->Srt ρ (arrOf st) n->(n=nrem\/R ρ (arrOf st) n<R ρ (arrOf st) (n-1))->Q (none,n) st):wpS (model prog w) A E s (ascLoop a nrem) Q st:=by
 unfold ascLoop;refine wpS_forRange (I:=λx c s2=>s2=st/\c=(none,x)/\Srt ρ (arrOf st) x) ?turn ?over ⟨rfl,rfl,hs⟩
 case over=>rintro c s2 ⟨rfl,rfl,h⟩;rw[Nat.max_eq_right an]at h ⊢;exact k nrem an (Ik _) h (.inl rfl)
 case turn=>
  rintro x c s2 x1 x2 ⟨rfl,rfl,h⟩;dsimp only;refine wpS_bind (ik hB (by omega) (by omega) ?_);by_cases less:R ρ (arrOf s2) x<R ρ (arrOf s2) (x-1)
  .rw[Ip less];simp only[Oj];exact wpS_pure (k x x1 (by omega) h (.inr less))
  .rw[Iw less];simp only[IN,Nf];refine wpS_pure ⟨rfl,rfl,λi j hij hj=>?_⟩;by_cases c:j<x
   .exact h i j hij c
   .have e:j=x:=by omega
    subst e;by_cases e2:i=j
    .rw[e2];exact Int.le_refl _
    .have:=h i (j-1) (by omega) (by omega);omega
abbrev Good(ρ τ:Keyed->Int)(κ:SortKind)(a₀:Array Keyed)(st:SortSt)(n:Nat):Prop:=SB κ a₀ st/\Up ρ τ (arrOf st) n/\Rs τ a₀.size (arrOf st) n
def ziv{st:SortSt}{n:Nat}{Q:Option Nat->SortSt->Prop}(ik:Cmp prog w A E s ρ κ a₀)(hn:nrem<=a₀.size)(n1:1<=n)(nn:n<=nrem)(hB:SB κ a₀ st)(hd:Dn ρ τ (arrOf st) n)(hr:Rs τ a₀.size (arrOf st) n)(k:∀ m st',Good ρ τ κ a₀ st' m->1<=m->m<=nrem->Q (some m) st'):wpS (model prog w) A E s (tail3 n nrem) Q st:=by
 have hsz:n<=(arrOf st).size:=by rw[hB.size];omega
 have u:Up ρ τ (mirror (arrOf st) 0 n ((n-0) / 2)) n:=λi j hij hj=>by obtain⟨a1,a2⟩:=(ziF (ρ:=ρ) (τ:=τ) (i:=0) hsz i).1 ⟨Nr _,(by omega)⟩;obtain⟨b1,b2⟩:=(ziF (ρ:=ρ) (τ:=τ) (i:=0) hsz j).1 ⟨Nr _,hj⟩;rw[a1,a2,b1,b2];have:=hd (0+n-1-j) (0+n-1-i) (by omega) (by omega);omega
 have r:Rs τ a₀.size (mirror (arrOf st) 0 n ((n-0) / 2)) n:=zb9 hsz hr;unfold tail3;refine wpS_bind (wpS_reverse (wpS_bind (zk5 ik hn n1 nn (hB.setArr (mirror_perm _ _ _ _)) (Up.le u) λm m1 m2 sm _=>?_)));exact wpS_pure (k m _ ⟨hB.setArr (mirror_perm _ _ _ _),zmt u r sm (by omega),Rs.mono r m1⟩ (by omega) m2)
structure zeN(ρ τ:Keyed->Int)(κ:SortKind)(a₀:Array Keyed)(st:SortSt)(x g:Nat):Prop where
 b:SB κ a₀ st
 lt:g<x
 d:Dn ρ τ (arrOf st) g
 hi:∀ i,i<g->R ρ (arrOf st) g<R ρ (arrOf st) i
 eq:∀ i,g<=i->i<x->R ρ (arrOf st) i=R ρ (arrOf st) g
 r:Rs τ a₀.size (arrOf st) g
def zeN.close{st:SortSt}{g:Nat}(f:zeN ρ τ κ a₀ st x g)(hx:x<=a₀.size):SB κ a₀ (setArr st (mirror (arrOf st) g x ((x-g) / 2)))/\Dn ρ τ (mirror (arrOf st) g x ((x-g) / 2)) x/\Rs τ a₀.size (mirror (arrOf st) g x ((x-g) / 2)) x/\∀ k,R ρ (mirror (arrOf st) g x ((x-g) / 2)) k=R ρ (arrOf st) k:=by
 have hs:x<=(arrOf st).size:=by rw[f.b.size];exact hx
 have lt:=f.lt;refine⟨f.b.setArr (mirror_perm _ _ _ _),zfC hs (Oz lt) f.d (λi h _=>f.hi i h) f.eq λi j a b c=>f.r i j a (by omega) (by omega),zb9 hs (f.r.mono (Oz lt)),λk=>?_⟩;by_cases c:g<=k/\k<x
 .rw[((ziF (ρ:=ρ) (τ:=τ) (i:=g) hs k).1 c).1,f.eq _ (by omega) (by omega),f.eq k c.1 c.2]
 .rw[((ziF (ρ:=ρ) (τ:=τ) (i:=g) hs k).2 c).1]
def zeN.one{st:SortSt}(f:zeN ρ τ κ a₀ st x (x-1)):Dn ρ τ (arrOf st) x:=λi j hij hj=>by
 have lt:=f.lt;by_cases c:j<x-1
 .exact f.d i j hij c
 .have e:j=x-1:=by omega
  subst e;exact .inl (f.hi i hij)
def zmW{st:SortSt}{n:Nat}{Q:DescSt->SortSt->Prop}(ik:Cmp prog w A E s ρ κ a₀)(hn:nrem<=a₀.size)(nn:n+1<=nrem)(f0:zeN ρ τ κ a₀ st (n+1) n)(k:∀ m q st',zeN ρ τ κ a₀ st' m (m-(q+1))->q+1<=m->m<=nrem->Q (none,m,q) st'):wpS (model prog w) A E s (descLoop (n+1) nrem) Q st:=by
 unfold descLoop;refine wpS_forRange (I:=λx c st' => ∃ q,c=(none,x,q)/\zeN ρ τ κ a₀ st' x (x-(q+1))/\q+1<=x) ?turn ?over ⟨0,rfl,by simpa using f0,(by omega)⟩
 case over=>rintro c st' ⟨q,rfl,f,hq⟩;rw[show max (n+1) nrem=nrem from Nat.max_eq_right nn]at f hq ⊢;exact k nrem q st' f hq (Ik _)
 case turn=>
  rintro x c st' hx1 hx2 ⟨q,rfl,f,hq⟩;dsimp only;have lx:R ρ (arrOf st') (x-1)=R ρ (arrOf st') (x-(q+1)):=f.eq _ (by omega) (by omega);refine wpS_bind (ik f.b (by omega) (by omega) ?_);by_cases less:R ρ (arrOf st') x<R ρ (arrOf st') (x-1)
  .rw[Ip less];simp only[Oj];have nextF:∀ st2,SB κ a₀ st2->Dn ρ τ (arrOf st2) x->Rs τ a₀.size (arrOf st2) x->(∀ z,R ρ (arrOf st2) z=R ρ (arrOf st') z)->zeN ρ τ κ a₀ st2 (x+1) (x+1-(0+1)):=λst2 b d r e=>by
    refine⟨b,(by omega),by simpa using d,λi hi=>?_,λi h1 h2=>?_,by simpa using r⟩
    .have hi' : i<x:=by omega
     rw[show x+1-(0+1)=x by omega,e,e];by_cases c:i<x-(q+1)
     .have:=f.hi i c;omega
     .have:=f.eq i (by omega) hi';omega
    .have:i=x+1-(0+1):=by omega
     rw[this]
   by_cases hq0:q>0
   .rw[Iq hq0];obtain⟨c1,c2,c3,c4⟩:=f.close (by omega);exact wpS_bind (wpS_reverse (wpS_pure ⟨0,rfl,nextF _ c1 c2 c3 c4,(by omega)⟩))
   .rw[Im hq0];have e0:q=0:=by omega
    subst e0;exact wpS_pure ⟨0,rfl,nextF st' f.b (zeN.one (by simpa using f)) (f.r.mono (by omega)) λ_=>rfl,(by omega)⟩
  .rw[Iw less];simp only[IN,Nf];refine wpS_bind (ik f.b (by omega) (by omega) ?_);by_cases more:R ρ (arrOf st') (x-1)<R ρ (arrOf st') x
   .rw[Ip more];simp only[Oj];exact wpS_pure (k x q st' f hq (by omega))
   .rw[Iw more];simp only[IN,Nf];have ee:x+1-(q+1+1)=x-(q+1):=by omega
    have f' : zeN ρ τ κ a₀ st' (x+1) (x-(q+1)):=⟨f.b,(by omega),f.d,f.hi,λi h1 h2=>by
     by_cases c:i<x
     .exact f.eq i h1 c
     .have:i=x:=by omega
      subst this;omega,f.r⟩
    exact wpS_pure ⟨q+1,rfl,by rw[ee];exact f',(by omega)⟩
def zbg{st:SortSt}{n:Nat}{Q:Option Nat->SortSt->Prop}(ik:Cmp prog w A E s ρ κ a₀)(hn:nrem<=a₀.size)(nn:n+1<=nrem)(f0:zeN ρ τ κ a₀ st (n+1) n)(k:∀ m st',Good ρ τ κ a₀ st' m->1<=m->m<=nrem->Q (some m) st'):
  wpS (model prog w) A E s (descPart n nrem) Q st:=by
 unfold descPart;refine wpS_bind (wpS_lift (NY ⟨rfl,wpS_bind (zmW ik hn nn f0 λm q st' f hq hm=>?_)⟩));dsimp only;by_cases hq0:q>0
 .rw[Iq hq0];obtain⟨c1,c2,c3,_⟩:=f.close (by omega);exact wpS_bind (wpS_reverse (ziv ik hn (by omega) hm c1 c2 c3 k))
 .rw[Im hq0];have e0:q=0:=by omega
  subst e0;exact ziv ik hn (by omega) hm f.b (zeN.one (by simpa using f)) (f.r.mono (by omega)) k
def zjL{st:SortSt}{Q:Option Nat->SortSt->Prop}(ik:Cmp prog w A E s ρ κ a₀)(hn:nrem<=a₀.size)(n1:1<=nrem)(hB:SB κ a₀ st)(r0:Rs τ a₀.size (arrOf st) 0)(k:∀ m st',Good ρ τ κ a₀ st' m->1<=m->m<=nrem->Q (some m) st'):
  wpS (model prog w) A E s (countRun' 0 nrem) Q st:=by
 have u1:Up ρ τ (arrOf st) 1:=λi j a b=>by omega
 rw[countRun0_eq];refine wpS_bind (zk5 ik hn (Ik 1) n1 hB u1.le λn m1 m2 sn hor=>?_);have un:Up ρ τ (arrOf st) n:=zmt u1 (r0.mono (by omega)) sn (by omega);have g:Good ρ τ κ a₀ st n:=⟨hB,un,r0.mono (by omega)⟩
 dsimp only;by_cases e:n=nrem
 .rw[Iq (by simpa using e)];exact wpS_pure (k n st g m1 m2)
 rw[Im (by simpa using e)];have lt:R ρ (arrOf st) n<R ρ (arrOf st) (n-1):=hor.resolve_left e;by_cases c:n>1
 .rw[Iq c];refine wpS_bind (ik hB (by omega) (by omega) ?_);by_cases rose:R ρ (arrOf st) 0<R ρ (arrOf st) (n-1)
  .rw[Ip rose];simp only[Oj];exact wpS_pure (k n st g m1 m2)
  .rw[Iw rose];simp only[IN,Nf];have all:∀ i,0<=i->i<n->R ρ (arrOf st) i=R ρ (arrOf st) 0:=λi _ hi=>by have a1:=sn 0 i (Nr _) hi;have a2:=sn i (n-1) (by omega) (by omega);omega
   have f:zeN ρ τ κ a₀ st n 0:=⟨hB,(by omega),λi j _ h=>by omega,λi h=>by omega,all,r0⟩
   obtain⟨c1,c2,c3,c4⟩:=f.close (by omega);refine wpS_bind (wpS_reverse (zbg ik hn (by omega) ⟨c1,(by omega),c2,λi hi=>?_,λi h1 h2=>?_,c3⟩ k))
   .show R ρ (mirror (arrOf st) 0 n ((n-0) / 2)) n<R ρ (mirror (arrOf st) 0 n ((n-0) / 2)) i;rw[c4,c4];have:=all i (Nr _) hi;have:=all (n-1) (Nr _) (by omega);omega
   .have:i=n:=by omega
    rw[this]
 .rw[Im c];have e1:n=1:=by omega
  subst e1;exact zbg ik hn (by omega) ⟨hB,(by omega),λi j _ h=>by omega,λi h=>by(have:i=0:=by omega);subst this;exact lt,λi h1 h2=>by(have:i=1:=by omega);rw[this],r0.mono (by omega)⟩ k
def zhN{st:SortSt}{n ok:Nat}{Q:Bool->SortSt->Prop}(ik:Cmp prog w A E s ρ κ a₀)(hn:n<=a₀.size)(o1:1<=ok)(o2:ok<=n)(g0:Good ρ τ κ a₀ st ok)(kk:∀ st',Good ρ τ κ a₀ st' n->Q true st'):wpS (model prog w) A E s (binarySort' 0 n ok) Q st:=by
 rw[binarySort'_eq];simp only[Nat.zero_add];refine wpS_bind (wpS_mono (wpS_forRange (I:=λk c st' => c=(none,())/\Good ρ τ κ a₀ st' k) (Q:=λc st' => c=(none,())/\Good ρ τ κ a₀ st' n) ?turn ?over ⟨rfl,by rw[Nat.max_eq_left o1];exact g0⟩) λc st' ⟨e,g⟩=>by subst e;exact wpS_pure (kk st' g))
 case over=>rintro c st' ⟨e,g⟩;rw[Nat.max_eq_left o1,Nat.max_eq_right o2]at g;exact⟨e,g⟩
 case turn=>
  rintro k c st' k1 k2 ⟨rfl,hB,u,r⟩;have ks:k<a₀.size:=by omega
  have srt:=u.le;refine wpS_bind (wpS_mono (wpS_forRange (I:=λx c s2=>s2=st' /\ ∃ lo hi,c=(none,lo,hi)/\lo<=hi/\hi<=k/\hi-lo<=k-x/\(∀ i,i<lo->R ρ (arrOf st') i<=R ρ (arrOf st') k)/\∀ i,hi<=i->i<k->R ρ (arrOf st') k<R ρ (arrOf st') i)
   (Q:=λc s2=>s2=st' /\ ∃ lo hi,c=(none,lo,hi)/\lo<=k/\(∀ i,i<lo->R ρ (arrOf st') i<=R ρ (arrOf st') k)/\∀ i,lo<=i->i<k->R ρ (arrOf st') k<R ρ (arrOf st') i) ?look ?found ⟨rfl,0,k,rfl,Nr _,Ik _,(by omega),λi h=>by omega,λi a b=>by omega⟩) ?put)
  case found=>
   rintro c s2 ⟨rfl,lo,hi,rfl,a1,a2,a3,a4,a5⟩;have:lo=hi:=by omega
   subst this;exact⟨rfl,lo,lo,rfl,a2,a4,a5⟩
  case look=>
   rintro x c s2 _ hx ⟨rfl,lo,hi,rfl,a1,a2,a3,a4,a5⟩;dsimp only;by_cases ge:lo ≥ hi
   .rw[Iq ge];have:lo=hi:=by omega
    subst this;exact wpS_pure ⟨rfl,lo,lo,rfl,a2,a4,a5⟩
   .rw[Im ge];refine wpS_bind (ik hB ks (by omega) ?_);by_cases less:R ρ (arrOf s2) k<R ρ (arrOf s2) ((lo+hi) / 2)
    .rw[Ip less];simp only[Oj];exact wpS_pure ⟨rfl,lo,(lo+hi) / 2,rfl,(by omega),(by omega),(by omega),a4,λi b1 b2=>Int.lt_of_lt_of_le less (srt _ _ b1 b2)⟩
    .rw[Iw less];simp only[IN,Nf];exact wpS_pure ⟨rfl,(lo+hi) / 2+1,hi,rfl,(by omega),(by omega),(by omega),λi b1=>Int.le_trans (srt i ((lo+hi) / 2) (by omega) (by omega)) (Int.not_lt.mp less),a5⟩
  case put=>
   rintro c s2 ⟨rfl,lo,hi,rfl,a2,a4,a5⟩;show wpS _ _ _ _ (do moveDown' k lo;pure (ForInStep.yield (none,()))) _ _;have kz:k<(arrOf s2).size:=by rw[hB.size];exact ks
   have ed:k-(k-lo)=lo:=by omega
   rw[moveDown'_eq];refine wpS_bind (wpS_modify (wpS_pure ⟨rfl,hB.setArr (bubble_perm _ _ _),λi j hij hj=>?_,λi j hij h1 h2=>?_⟩))
   .show R ρ (bubble (arrOf s2) k (k-lo)) i<R ρ (bubble (arrOf s2) k (k-lo)) j\/(R ρ (bubble (arrOf s2) k (k-lo)) i=R ρ (bubble (arrOf s2) k (k-lo)) j/\R τ (bubble (arrOf s2) k (k-lo)) i<=R τ (bubble (arrOf s2) k (k-lo)) j)
    have bi:=zns (ρ:=ρ) (τ:=τ) kz (show k-lo<=k by omega) i;have bj:=zns (ρ:=ρ) (τ:=τ) kz (show k-lo<=k by omega) j;rw[ed]at bi bj;rcases Nat.lt_trichotomy i lo with c1 | c1 | c1
    .obtain⟨p1,p2⟩:=bi.2.2 (.inl c1);rw[p1,p2];rcases Nat.lt_trichotomy j lo with c2 | c2 | c2
     .obtain⟨q1,q2⟩:=bj.2.2 (.inl c2);rw[q1,q2];exact u i j hij (by omega)
     .obtain⟨q1,q2⟩:=bj.1 c2;rw[q1,q2];have z1:=a4 i c1;have z2:=r i k (by omega) (Ik _) ks;omega
     .obtain⟨q1,q2⟩:=bj.2.1 ⟨c2,(by omega)⟩;rw[q1,q2];exact u i (j-1) (by omega) (by omega)
    .obtain⟨p1,p2⟩:=bi.1 c1;obtain⟨q1,q2⟩:=bj.2.1 ⟨(by omega),(by omega)⟩;rw[p1,p2,q1,q2];exact .inl (a5 (j-1) (by omega) (by omega))
    .obtain⟨p1,p2⟩:=bi.2.1 ⟨c1,(by omega)⟩;obtain⟨q1,q2⟩:=bj.2.1 ⟨(by omega),(by omega)⟩;rw[p1,p2,q1,q2];exact u (i-1) (j-1) (by omega) (by omega)
   .show R τ (bubble (arrOf s2) k (k-lo)) i<=R τ (bubble (arrOf s2) k (k-lo)) j;have bi:=zns (ρ:=ρ) (τ:=τ) kz (show k-lo<=k by omega) i;rw[ed]at bi;obtain⟨_,q2⟩:=(zns (ρ:=ρ) (τ:=τ) kz (show k-lo<=k by omega) j).2.2 (.inr (by omega));rw[q2];rcases Nat.lt_trichotomy i lo with c1 | c1 | c1
    .rw[(bi.2.2 (.inl c1)).2];exact r i j hij (by omega) h2
    .rw[(bi.1 c1).2];exact r k j (by omega) (by omega) h2
    .by_cases c2:i<=k
     .rw[(bi.2.1 ⟨c1,c2⟩).2];exact r (i-1) j (by omega) (by omega) h2
     .rw[(bi.2.2 (.inr (by omega))).2];exact r i j hij (by omega) h2
def zll{st:SortSt}{Q:Unit->SortSt->Prop}(ik:Cmp prog w A E s ρ κ a₀)(hB:SB κ a₀ st)(z2:2<=a₀.size)(z64:a₀.size<64)(r0:Rs τ a₀.size (arrOf st) 0)(kk:∀ st',(arrOf st').Perm a₀->failedOf st'=none->Up ρ τ (arrOf st') a₀.size->Q () st'):wpS (model prog w) A E s sortRuns' Q st:=by
 have mr:minRun' a₀.size a₀.size 0=a₀.size:=by
  obtain⟨f,hf⟩:∃ f,a₀.size=f+1:=⟨a₀.size-1,(by omega)⟩
  have q:minRun' (f+1) a₀.size 0=a₀.size:=by rw[minRun'_succ,Iq z64];rfl
  rwa [← hf]at q
 rw[sortRuns'_eq];refine wpS_bind (wpS_get (show wpS _ _ _ _ _ _ _ from ?_));dsimp only;simp only[hB.size,mr];have fin:∀ st' n,n=a₀.size->Good ρ τ κ a₀ st' n->(arrOf (setPending st' ((pendingOf st').push (0,n,0)))).Perm a₀/\failedOf (setPending st' ((pendingOf st').push (0,n,0)))=none/\pendingOf (setPending st' ((pendingOf st').push (0,n,0))) = #[(0,n,0)]/\Up ρ τ (arrOf (setPending st' ((pendingOf st').push (0,n,0)))) n:=λst' n _ g=>⟨g.1.perm,g.1.failed,by show(pendingOf st').push _=_;rw[g.1.pend];rfl,g.2.1⟩
 refine wpS_bind (wpS_mono (wpS_forRange
  (I:=λx c st' => (x=0/\c=(none,0)/\SB κ a₀ st' /\ Rs τ a₀.size (arrOf st') 0)\/(1<=x/\c=(none,a₀.size)/\(arrOf st').Perm a₀/\failedOf st'=none/\pendingOf st' = #[(0,a₀.size,0)]/\Up ρ τ (arrOf st') a₀.size))
  (Q:=λc st' => c=(none,a₀.size)/\(arrOf st').Perm a₀/\failedOf st'=none/\pendingOf st' = #[(0,a₀.size,0)]/\Up ρ τ (arrOf st') a₀.size) ?turn ?over (.inl ⟨rfl,rfl,hB,r0⟩)) ?post)
 case over=>
  rintro c st' (⟨hx,_⟩ | ⟨_,r⟩)
  .omega
  .exact r
 case turn=>
  rintro x c st' _ hx (⟨rfl,rfl,hB',r'⟩ | ⟨hx1,rfl,hD⟩)
  .dsimp only;rw[Im (show ¬ (0 ≥ a₀.size)by omega)];simp only[sub_zero,Nat.min_self,Nat.zero_add];refine wpS_bind (zjL ik (Ik _) (show 1<=a₀.size by omega) hB' r' λm st2 g2 m1 m2=>?_);dsimp only;by_cases lt:m<a₀.size
   .rw[Iq lt];refine wpS_bind (wpS_lift (NY ⟨rfl,wpS_bind (zhN ik (Ik _) m1 m2 g2 λst3 g3=>?_)⟩));simp only[N2,IN,Nf];have nb:(pendingOf st3).back?=none:=by rw[g3.1.pend];rfl
    refine wpS_bind (wpS_get (show wpS _ _ _ _ _ _ _ from ?_));rw[nb];exact wpS_bind (wpS_modify (wpS_pure (.inr ⟨(by omega),rfl,fin st3 _ rfl g3⟩)))
   .rw[Im lt];have em:m=a₀.size:=by omega
    subst em;have nb:(pendingOf st2).back?=none:=by rw[g2.1.pend];rfl
    refine wpS_bind (wpS_get (show wpS _ _ _ _ _ _ _ from ?_));rw[nb];exact wpS_bind (wpS_modify (wpS_pure (.inr ⟨(by omega),rfl,fin st2 _ rfl g2⟩)))
  .dsimp only;rw[Iq (show a₀.size ≥ a₀.size from Ik _)];exact wpS_pure ⟨rfl,hD⟩
 case post=>
  rintro c st' ⟨rfl,p,f,pd,u⟩;dsimp only;refine wpS_bind (wpS_mono (wpS_forRange (I:=λ_ c s2=>s2=st' /\ c=(none,())) (Q:=λc s2=>s2=st' /\ c=(none,())) (λx c s2 _ _ ⟨e1,e2⟩=>?_) (λ_ _ q=>q) ⟨rfl,rfl⟩) λc s2 ⟨e1,e2⟩=>?_)
  .subst e1 e2;exact wpS_pure (kk _ p f u)
  .subst e1 e2;refine wpS_bind (wpS_get (show wpS _ _ _ _ _ _ _ from ?_));rw[Iq (show(pendingOf s2).size<=1 by rw[pd];exact Ik 1)];exact wpS_pure ⟨rfl,rfl⟩
end
end StbG
namespace L2
open PySem PySem.Spec PyProof.Rows
variable {i:Nat}{us:LF}{a f:AD}{o:Obj}{H H' G B:Hp}{params:Arguments}{sc:Scope}{y:Str}{te:TE}{js:List Nat}{fd:FuncData}{fp:LH}{σ:St}{ρ:LD}{α:Type}{cl:List (Str×AD)}{vs:LC}
theorem zfM:∀{xs:LC}{us:LF},Vals xs us->∀{i:Nat}{u:Value},us[i]?=some u->∃ x,xs[i]?=some x/\RelV x u
 |_,_,.nil,_,_,e=>by simp at e
 |_,_,.cons r _,0,_,e=>by simp at e;subst e;exact⟨_,rfl,r⟩
 |_,_,.cons _ h,i+1,_,e=>by simpa using zfM h (by simpa using e)
theorem zbf:∀{xs:LC}{us:LF},xs.length=us.length->(∀(i:Nat) x u,xs[i]?=some x->us[i]?=some u->RelV x u)->Vals xs us
 |[],[],_,_=>.nil
 |x::xs,u::us,hl,h=>.cons (h 0 x u rfl rfl) (zbf (by simpa using hl) λi y v e1 e2=>h (i+1) y v (by simpa using e1) (by simpa using e2))
 |[],_::_,hl,_=>by simp at hl
 |_::_,[],hl,_=>by simp at hl
theorem Ut:∀{ns:LX}{us:LF},Vals (ns.map V.int) us->IntsAre us ns
 |[],_,h=>by cases h;exact .nil
 |n::ns,_,h=>by
  cases h with
  |cons r h' =>obtain⟨t,rfl⟩:=r;exact .cons n t (Ut h')
abbrev gV(g:Nat->Int)(n:Nat):LC:=(List.range n).map λi=>V.int (g i)
def ze8{g:Nat->Int}{n:Nat}{u:Value}(h:Vals (gV g n) us)(e:us[i]?=some u):i<n/\∃ t,u = .int (g i) t:=by
 obtain⟨x,hx,r⟩:=zfM h e;rw[Ij]at hx;have hi:i<n:=by have:=(Il.mp e).1;have hl:=h.length;rw[Ie,IG]at hl;omega
 rw[getElem?_range hi]at hx;have:V.int (g i)=x:=Iu hx;subst this;exact⟨hi,r⟩
section
variable {g:Nat->Int}{n:Nat}{af items:LF}
def zhJ(hk:Vals (gV g n) af)(ha:Vals (gV (λi=>(i:Nat)) n) items){p:Keyed}(h:p∈af.zip items):∃ m,m<n/\∃ t t',p=(.int (g m) t,.int (m:Nat) t'):=by obtain⟨i,hi⟩:=List.getElem?_of_mem h;rw[NS]at hi;obtain⟨h1,t,e1⟩:=ze8 hk hi.1;obtain⟨_,t',e2⟩:=ze8 ha hi.2;exact⟨i,h1,t,t',Prod.ext e1 e2⟩
noncomputable def nO(p:Keyed):Nat:=(numOf p.2).toNat
def zix(hk:Vals (gV g n) af)(ha:Vals (gV (λi=>(i:Nat)) n) items):(af.zip items).map nO=List.range n:=by
 have l1:=hk.length;have l2:=ha.length;rw[Ie,IG]at l1 l2;refine ext_getElem? λi=>?_;rw[Ij];by_cases h:i<n
 .have e1:af[i]?=some af[i]:=Ib (by omega);have e2:items[i]?=some items[i]:=Ib (by omega);have e3:(af.zip items)[i]?=some (af[i],items[i]):=by rw[NS];exact⟨e1,e2⟩
  obtain⟨_,t,e⟩:=ze8 ha e2;rw[e3,getElem?_range h];show some (nO (af[i],items[i]))=some i;unfold nO;rw[e];simp[numOf]
 .rw[NT (by simp;omega),NT (by simp;omega)];rfl
def zmU(hk:Vals (gV g n) af)(ha:Vals (gV (λi=>(i:Nat)) n) items){xs:Array Keyed}(hp:xs.toList.Perm (af.zip items))(hu:StbG.Up (λp=>numOf p.1) (λp=>numOf p.2) xs n):
  ∃ out:List Nat,out.Perm (List.range n)/\out.Pairwise (λi j=>g i<g j\/(g i=g j/\i<j))/\Vals (out.map λi=>V.int (i:Nat)) (xs.map (·.2)).toList:=by
 have hsz:xs.size=n:=by have:=hp.length_eq;have l1:=hk.length;have l2:=ha.length;rw[Ie,IG]at l1 l2;rw[List.length_zip,Ov]at this;omega
 have mem:∀(i:Nat)(p:Keyed),xs[i]?=some p->∃ m,m<n/\∃ t t',p=(.int (g m) t,.int (m:Nat) t'):=λi p e=>zhJ hk ha (hp.mem_iff.mp (by
  have:=Array.mem_of_getElem? e;exact mem_toList_iff.mpr this))
 have hout:∀(i:Nat)(p:Keyed),xs[i]?=some p->StbG.R (λp=>numOf p.1) xs i=g (nO p)/\StbG.R (λp=>numOf p.2) xs i=(nO p:Nat):=λi p e=>by
  obtain⟨m,_,t,t',rfl⟩:=mem i p e;constructor
  .unfold StbG.R;rw[e];simp[numOf,nO]
  .unfold StbG.R;rw[e];simp[numOf,nO]
 have hnd:(xs.toList.map nO).Nodup:=by have:=hp.map nO;rw[zix hk ha]at this;exact this.nodup_iff.mpr List.nodup_range
 refine⟨xs.toList.map nO,by rw[← zix hk ha];exact hp.map _,?_,?_⟩
 .rw[N9];intro i j hi hj hij;have hj' : j<xs.size:=by simpa using hj
  have e1:xs[i]?=some xs[i]:=Nb (by omega);have e2:xs[j]?=some xs[j]:=Nb hj';obtain⟨a1,a2⟩:=hout i _ e1;obtain⟨b1,b2⟩:=hout j _ e2;have:=hu i j hij (by omega);rw[a1,a2,b1,b2]at this;have q1:(xs.toList.map nO)[i]=nO xs[i]:=by simp
  have q2:(xs.toList.map nO)[j]=nO xs[j]:=by simp
  have ne:=N9.mp hnd i j hi hj hij;rw[q1,q2]at ne ⊢;have ne' : nO xs[i]≠nO xs[j]:=ne;omega
 .refine zbf (by simp) λi x u h1 h2=>?_;have hi:i<xs.size:=by have:=(Il.mp h2).1;simpa using this
  have e1:xs[i]?=some xs[i]:=Nb hi;obtain⟨m,_,t,t',e⟩:=mem i _ e1;have hx:x=V.int (nO xs[i]:Nat):=by
   rw[Ij,Ij]at h1;have:xs.toList[i]?=some xs[i]:=by simp[hi]
   rw[this]at h1;exact(Iu h1).symm
  have hu' : u=xs[i].2:=by
   have:(xs.map (·.2)).toList[i]?=some xs[i].2:=by simp[hi]
   rw[this]at h2;exact(Iu h2).symm
  rw[hx,hu',e];exact⟨t',by simp[nO,numOf]⟩
def zhz(hk:Vals (gV g n) af)(ha:Vals (gV (λi=>(i:Nat)) n) items):StbG.Rs (λp=>numOf p.2) (af.toArray.zip items.toArray).size (af.toArray.zip items.toArray) 0:=λi j hij _ hj=>by
 have at_:∀ i,i<(af.toArray.zip items.toArray).size->StbG.R (λp=>numOf p.2) (af.toArray.zip items.toArray) i=(i:Nat):=λi hi=>by
  have e:(af.toArray.zip items.toArray)[i]?=some (af.toArray.zip items.toArray)[i]:=Nb hi;have e' : (af.zip items)[i]?=some (af.toArray.zip items.toArray)[i]:=by
   have:(af.toArray.zip items.toArray).toList=af.zip items:=by rw[ksk_zip]
   rw[← this,getElem?_toList];exact e
  rw[NS]at e';obtain⟨_,t,e2⟩:=ze8 ha e'.2;unfold StbG.R;rw[e];show numOf (af.toArray.zip items.toArray)[i].2=_;rw[e2];rfl
 rw[at_ i (by omega),at_ j hj];omega
end
def zhc{prog:Program}{w:World}{A:Around}{E:Value->SH->Prop}{s:SH}{a₀:Array Keyed}(ik:IntKeys a₀):StbG.Cmp prog w A E s (λp=>numOf p.1) oneType' a₀:=λ{st i j Q} hB hi hj hq=>wpS_ltK ⟨hB.perm,hB.kind,hB.failed,hB.pend⟩ ik hi hj hq
section
variable {X:Cx}{aa:List (Addr×Obj)}{σ:St}{H:Hp}{s:SH}{g:Nat->Int}{n:Nat}{D kS:AD}{P:PySem.Fin->SH->Prop}{A:Around}{E:Value->SH->Prop}{items:LF}
noncomputable def exO(a:AD)(o:Obj):HO:=.ext λh=>h.get? a=some o
def ziA{Pr:Program}{w:World}{h:Heap}(e:h.get? a=some o):Xk Pr w H h a (exO a o):=⟨e,⟨o,e⟩,λ_ _ p q=>q _ p⟩
theorem Inv.exO(I:Inv X aa σ H s)(h:H a=some (L2.exO a o)):s.heap.get? a=some o:=(show Xk X.prog X.w H s.heap a (L2.exO a o)from I.ad a _ h).1
def zkl{af:LF}{e e1:Nat}(I:Inv X aa σ H s)(hD:H D=some (exO D (seqObj "list" #[] e1)))(hK:H kS=some (.lst (gV g n)))(hkD:kS≠D)(n64:n<64)(hk:Vals (gV g n) af)(ha:Vals (gV (λi=>(i:Nat)) n) items)(hoK:s.heap.get? kS=some (seqObj "list" af.toArray e))(k:∀ out:List Nat,out.Perm (List.range n)->out.Pairwise (λi j=>g i<g j\/(g i=g j/\i<j))->∀ s',Inv X aa σ (upd (upd H kS (.lst [])) D (.lst (out.map λi=>V.int (i:Nat)))) s' -> P (.done (.ret .none)) s'):
  wpAny (model X.prog X.w) A (ksk_end D false items.toArray e1 (.ref kS) af.toArray) P E s:=by
 have zl:(2000:Nat)<=sizeLine:=by decide
 have l1:=hk.length;have l2:=ha.length;rw[Ie,IG]at l1 l2;have ik:IntsAre af.toArray.toList ((List.range n).map g):=by rw[List.toList_toArray];exact Ut (by rw[N8];exact hk)
 have hzs:(af.toArray.zip items.toArray).size=n:=by rw[Array.size_zip,Ix,Ix];omega
 have ez:(af.toArray.zip items.toArray).toList=af.zip items:=by rw[ksk_zip]
 have TAIL:∀ st:SortSt,(arrOf st).Perm (af.toArray.zip items.toArray)->failedOf st=none->StbG.Up (λp=>numOf p.1) (λp=>numOf p.2) (arrOf st) n->wpAny (model X.prog X.w) A (ksk_tail D false e1 (.ref kS) st) P E s:=λst hp hf hu=>by
  obtain⟨out,o1,o2,o3⟩:=zmU hk ha (xs:=arrOf st) (by rw[← ez];exact Array.perm_iff_toList_perm.mp hp) hu;have osz:((arrOf st).map (·.2)).size=n:=by rw[Array.size_map,hp.size_eq,hzs]
  have I1:=I.zmP (l:=kS) (ys:=[]) (its':=[]) (f:=λ_=>(#[]:Array Value)) (t':=s.toks) hK hoK rfl .nil (by show 0<=_;omega);have hD1:upd H kS (.lst []) D=some (exO D (seqObj "list" #[] e1)):=by rw[Zr (Ne.symm hkD)];exact hD
  have hoD1:(s.heap.update kS (Obj.mapSeq λ_=>(#[]:Array Value))).get? D=some (seqObj "list" #[] e1):=I1.exO hD1;have upq:=PySem.IsL.update hoD1 λ_=>(arrOf st).map (·.2);have eqA:(arrOf st).map (·.2)=((arrOf st).map (·.2)).toList.toArray:=by rw[Array.toArray_toList]
  have I2:Inv X aa σ (upd (upd H kS (.lst [])) D (.lst (out.map λi=>V.int (i:Nat)))) {s with heap:=(s.heap.update kS (Obj.mapSeq λ_=>(#[]:Array Value))).update D (Obj.mapSeq λ_=>(arrOf st).map (·.2))}:=I1.write (x:=D) (e:=D) (t':=s.toks) (by rw[hD1];exact trivial) (.inl rfl) (λb' u hb hu=>(NF _ (Obj.mapSeq λ_=>(arrOf st).map (·.2)) (Ne.symm hb)).trans hu) ⟨_,upq⟩ (show Xk X.prog X.w _ _ D (.lst (out.map λi=>V.int (i:Nat)))from⟨by rw[Ie];have:=o1.length_eq;rw[IG]at this;omega,((arrOf st).map (·.2)).toList,_,o3,by rw[← eqA];exact upq⟩)
  unfold ksk_tail;refine Ia (listUpdate_at hoK rfl ?_ (by rw[Ix];omega) (Nr _));refine Ia (wpAny_letGo (Ia (seqEpoch_at hoD1 rfl (Ia (listUpdate_at hoD1 rfl ?_ (Nr _) (by show((arrOf st).map (·.2)).size<=_;omega))))));rw[hf];simp only[bne_self_eq_false,IN,Nf];exact Ic (k out o1 o2 _ I2)
 unfold ksk_end;dsimp only;simp only[IN,Nf];by_cases h2:items.toArray.size<2
 .rw[Iq h2,Iq h2];refine Ia (Ic ?_);rw[StateT.run_pure];refine Ia (Ic (TAIL (SortSt.mk' general' (af.toArray.zip items.toArray) #[] 7 none) (Array.Perm.refl _) rfl λi j a b=>?_));rw[Ix]at h2;omega
 .rw[Im h2,Im h2];rw[Ix]at h2;rw[ksk_kind ik (by rw[Ix];omega)];refine Ia (Ic (Ia (NJ (StbG.zll (ρ:=λp=>numOf p.1) (τ:=λp=>numOf p.2) (κ:=oneType') (a₀:=af.toArray.zip items.toArray) (st:=SortSt.mk' oneType' (af.toArray.zip items.toArray) #[] 7 none)
   (Q:=λ_ st' => (arrOf st').Perm (af.toArray.zip items.toArray)/\failedOf st'=none/\StbG.Up (λp=>numOf p.1) (λp=>numOf p.2) (arrOf st') (af.toArray.zip items.toArray).size)
   (zhc (ksk_intKeys ik)) ⟨Array.Perm.refl _,rfl,rfl,rfl⟩ (by rw[hzs];omega) (by rw[hzs];exact n64) (zhz hk ha) λst' a1 a2 a3=>⟨a1,a2,a3⟩) ?_ λ_ _ e=>e)))
  rintro⟨⟨⟩,st'⟩ s' ⟨rfl,hp,hf,hu⟩;exact TAIL st' hp hf (by rw[← hzs];exact hu)
def zh1{kk e1:Nat}{q:Str}{body:Expr}{cap:LB}{H0:Hp}(hr:Wz (kk+1) A)(hAf:A.frames=X.A.frames)(S:Ws X.env.scope sc [y] cap)(hjs:js.map (λj=>X.N[j]?)=cap.map some)(hbind:∀(u pm ctv:Value)(c' : AD)(cl:List (Str×AD)),bindArgs (kla_fn "<lambda>" q params body sc cl pm (.ref c') ctv) ⟨[u],[]⟩=pure [(y,u)])(hbody:∀ A outer s H f c' cl,Wz kk (A.deeper (PySem.W.envX q sc s.heap.objs.size f (.ref c') cl))->PE (zgs X.prog X.w X.K X.mg X.base ([y]++cap) q sc f c' cl A outer s H) body te)(L:zcV H0 f q params body sc (Jz X.env sc.names []))(hev:∀ i,i<n->Ev X.K te (some (.int (i:Nat))::WK σ js) H0 (.int (g i)))(I:Inv X aa σ H s)(s0:ZF H0 H)(hD:H D=some (exO D (seqObj "list" #[] e1)))(hK:H kS=some (.lst []))(hkD:kS≠D)(fD:H0 D=none)(fK:H0 kS=none)(n64:n<64)(ha:Vals (gV (λi=>(i:Nat)) n) items)(k:∀ out:List Nat,out.Perm (List.range n)->out.Pairwise (λi j=>g i<g j\/(g i=g j/\i<j))->∀ s' H',ZF H0 H' -> H' D=some (.lst (out.map λi=>V.int (i:Nat)))->Inv X aa σ H' s' -> P (.done (.ret .none)) s'):
  wpAny (model X.prog X.w) A (ksk_rest D (.ref f) false items.toArray e1 (.ref kS)) P E s:=by
 have zl:(2000:Nat)<=sizeLine:=by decide
 have l2:=ha.length;rw[Ie,IG]at l2;have lenJ:js.length=cap.length:=by have:=IT List.length hjs;simpa using this
 unfold ksk_rest;refine Ia (NY ?_);rw[List.forIn_toArray];refine Ia (ksk_fold (λi s' => ∃ H',Inv X aa σ H' s' /\ ZF H0 H' /\ H' D=some (exO D (seqObj "list" #[] e1))/\H' kS=some (.lst (gV g i))) items 0 s ⟨H,I,s0,hD,hK⟩ ?turn ?over)
 case turn=>
  rintro j x s' hx ⟨H',I',s1,hD',hK'⟩;simp only[Nat.zero_add]at hK' ⊢;obtain⟨hj,t,rfl⟩:=ze8 ha hx;have C:=I'.zhl S hjs;have e0:zdQ X.prog X.w X.K X.mg X.base A X.stack s' H':=⟨hAf.trans I'.env0.frames,I'.env0.mod,I'.env0.bs,I'.env0.bsz,I'.env0.zdr,I'.env0.frf,I'.env0.ad,I'.env0.bare⟩
  have L':=L.same λb o u e=>s1 b _ e;have run:=zkH (A:=A) (Q:=λv H2=>v = .int (g j)/\ZF H' H2) (E:=E0) (vs:=[.int (j:Nat)]) (us:=[.int (j:Nat) t]) S (λz hz=>by
   obtain⟨c',hc'⟩:=NE.mp (W7 (env:=X.env) (acc:=[]) (IJ hz));exact⟨c',hc'⟩) hr e0 L' C (λpm ctv c' => hbind _ pm ctv c' _) rfl (by unfold WK;rw[Ie,lenJ]) (.cons ⟨t,rfl⟩ .nil) (λc' hr' => hbody _ _ _ _ _ c' _ hr') ((hev j hj).use s1 λv G' H2 g2 hv=>⟨hv.int,g2.hh⟩)
  refine Ia (N1 (wpAny_call (Ob run λr s2 hq' => ?_)));cases r with
  |error e=>exact False.elim hq'
  |ok fl=>
   cases fl with
   |next=>exact False.elim hq'
   |brk=>exact False.elim hq'
   |cont=>exact False.elim hq'
   |ret u=>
    obtain⟨v,H2,I2,rv,ev,s2'⟩:=I'.after hq';subst ev;obtain⟨t2,rfl⟩:=rv;have hK2:=s2' _ _ hK';obtain⟨_,its,m,rv2,hl2,hoK⟩:=I2.zjm hK2;have hl3:=rv2.length;rw[Ie,IG]at hl3;have I3:=I2.zmP (l:=kS) (ys:=gV g (j+1)) (its':=its++[.int (g j) t2]) (f:=(·.push (.int (g j) t2))) (t':=s2.toks) hK2 hoK (by simp) (by
     rw[show gV g (j+1)=gV g j++[V.int (g j)]by rw[gV,range_succ,IX];rfl];exact rv2.append (.cons ⟨t2,rfl⟩ .nil)) (by rw[Ie,IG];omega)
    refine Ia (listUpdate_at hoK rfl (Ic ⟨rfl,_,I3,λb o e=>?_,?_,Zo⟩) (by rw[Ix];omega) (by rw[Array.size_push,Ix];omega))
    .rw[Zr (Zy e fK)];exact s2' _ _ (s1 _ _ e)
    .rw[Zr (Ne.symm hkD)];exact s2' _ _ hD'
 case over=>rintro s' ⟨H',I',s1,hD',hK'⟩;rw[Nat.zero_add,← l2]at hK';obtain⟨_,its,m,rv2,hl2,hoK⟩:=I'.zjm hK';refine Ia (listItems_at hoK rfl ?_);exact zkl I' hD' hK' hkD n64 rv2 ha hoK λout o1 o2 s2 I2=>k out o1 o2 s2 _ (λb o e=>by rw[Zr (Zy e fD),Zr (Zy e fK)];exact s1 _ _ e) Zo I2
end
section
variable {X:Cx}
variable {K:FG}{B:Hp}{ρ:LD}{ta te:TE}{ds:LA}
def ze2(h:Er K B te ρ (.tuple ds)):Er K B (zjP K te (UJ (tUn (rU λi=>.int (-i)) (tC (.int 1))))) ρ (.tuple ds.reverse):=λG σ r=>zke (h G σ r) λH Q q=>⟨1,rfl,_,rfl,q⟩
def ziL{g:Bool->Bool}{c t:Bool}(h:Er K B ta ρ (.bool c)):Er K B (tOp (zoq g) ta (tC (.bl t))) ρ (.bool (g (decide (c=t)))):=λG σ r=>zm0 (h G σ r)
def zld{t:TA}{R:PV->LD->Prop}(h:EgA K B t ρ λds ρ' => ds.length<=sizeLine/\R (.dat (.tuple ds)) ρ'):Eg K B (ziB t) ρ R:=λE G0 H0 G H σ F r Q q=>
 h E G0 H0 G H σ F r _ λvs ds ρ1 G1 H1 F1 hR s1 r1 hv=>⟨by rw[hv.length];exact hR.1,λp hp=>by
  have g:=YF (o:=.tup vs) r1.g.gh hp;exact q _ _ ρ1 _ _ F1 [] hR.2 (s1.trans g.gg) (r1.grow g) ⟨rfl,_,rfl,XX (SqT.of Zo) (hv.same g.gg)⟩ QW⟩
def zmL{g:Bool->Bool}{tb:TE}{a b:PD}(ha:Er K B ta ρ a)(hb:Er K B tb ρ b)(sh:SeqAt.shaped a=true/\SeqAt.shaped b=true/\SeqAt.noMix a b=true):Er K B (tOp (ziE K g) ta tb) ρ (.bool (g (PySem.Spec.same a b))):=λG σ r=>zkh (ha G σ r) (hb G σ r) sh
def VN{t:TA}{n:Nat}(h:Ea K B t ρ [.int (n:Nat)])(hj:n<2^60):Ei K B (zfy t) ρ ((List.range n).map λ(i:Nat)=>PyData.int (i:Nat)):=by
 have:=zmO h ⟨(by omega),(by omega)⟩;rw[NG]at this;have e:(List.range n).map (λ(i:Nat)=>PyData.int (0+i))=(List.range n).map λ(i:Nat)=>PyData.int (i:Nat):=map_congr_left λi _=>by congr 1;omega
 rwa [e]at this
end
open PySem PySem.Spec PyProof.Rows Lw
structure TF(K:FG)(S:Type) where
 pv:S->AD->LH->PV
 I:S->AD->LH->Hp->Hp->Prop
 sl:∀{s:S}{p:AD}{fp:LH}{G H:Hp}{o:Option (Option V)}{F:LH},Sl K G H o (pv s p fp) F↔(F=p::fp/\o=some (some (.ref p))/\I s p fp G H)
 no:∀ s p fp ds,pv s p fp≠.own ds
noncomputable def zpb{K:FG}{S:Type}(I:S->AD->LH->Hp->Hp->Prop)(st:∀{s:S}{p:AD}{fp:LH}{G H G' H' : Hp},I s p fp G H->ZF G G' -> (∀ a∈p::fp,H' a=H a)->I s p fp G' H')(lv:∀{s:S}{p:AD}{fp:LH}{G H:Hp},I s p fp G H->∀ a∈p::fp,∃ o,H a=some o):TF K S where
 pv:=λs p fp=>.thg {ok:=λp' fp' G H=>p'=p/\fp'=fp/\I s p fp G H,st:=λ{p' fp' G H G' H'} ⟨h1,h2,h3⟩ sg k=>⟨h1,h2,st h3 sg λa ha=>k a (by rw[h1,h2];exact ha)⟩,live:=λ{p' fp' G H} ⟨h1,h2,h3⟩ a ha=>lv h3 a (by rw[h1,h2]at ha;exact ha)}
 I:=I
 sl:=λ{s p fp G H o F}=>by
  constructor
  .rintro⟨p',fp',h1,h2,rfl,rfl,h3⟩;exact⟨h1,h2,h3⟩
  .rintro⟨h1,h2,h3⟩;exact⟨p,fp,h1,h2,rfl,rfl,h3⟩
 no:=λ_ _ _ _=>nofun
section
variable {K:FG}{B:Hp}{E:AD->Prop}{G0 H0 G H G1 H1 G2 H2:Hp}{σ:St}{ρ:LD}{F:Nat->LH}{ta tb te:TE}{a b d:PD}{ds es:LA}{S:Type}{D:TF K S}{s s' : S}{p:AD}{fp:LH}
def zmK{i0:Nat}(sb:ZF B G)(gh:ZF G H)(hl:σ.length=ρ.length)(h0:ρ[i0]?=some (D.pv s p fp))(hσ:σ[i0]?=some (some (.ref p)))(hI:D.I s p fp G H)(gn:∀ a∈p::fp,G a=none)(lv:∀ a∈p::fp,∃ o,H a=some o)(hx:∀ i v,i≠i0->ρ[i]?=some v->Sl K G H σ[i]? v []/\∀ ds,v≠.own ds):Rl K B (· ∈ p::fp) G H G H σ ρ (λk=>if k=i0 then p::fp else[]):=by
 refine⟨Gw.refl gh,sb,hl,λi v h=>?_,λi a ha=>?_,λi j a ha hb=>?_,λi ds' a h ha=>?_⟩
 .by_cases z:i=i0
  .subst z;rw[h0]at h;cases h;rw[Iq rfl];exact D.sl.mpr ⟨rfl,hσ,hI⟩
  .rw[Im z];exact(hx i v z h).1
 .split at ha
  .exact⟨gn a ha,lv a ha,.inl ha⟩
  .cases ha
 .split at ha
  .split at hb
   .omega
   .cases hb
  .cases ha
 .split at ha
  .rename_i z
   subst z;rw[h0]at h;exact absurd (Iu h) (D.no _ _ _ _)
  .cases ha
def Rl.zmV(r1:Rl K B E G0 H0 G1 H1 σ ρ F)(hi:ρ[i]?=some (D.pv s p fp))(gw:Gw (· ∈ p::fp) G1 H1 G2 H2)(gn:∀ a∈p::fp,G2 a=none)(lv:∀ a∈p::fp,∃ o,H2 a=some o)(hI:D.I s' p fp G2 H2):Rl K B E G0 H0 G2 H2 σ (ρ.set i (D.pv s' p fp)) F:=by
 obtain⟨e1,hx,_⟩:=D.sl.mp (r1.sl i _ hi);have hlt:i<ρ.length:=(Il.mp hi).1;refine⟨⟨r1.g.gg.trans gw.gg,gw.gh,λb o n h=>?_,λb h=>r1.g.al b (gw.al b h),λb o h=>?_⟩,r1.bb.trans gw.gg,by rw[Og];exact r1.ls,λj v h=>?_,λj a ha=>?_,r1.dj,λj ds' a h ha=>?_⟩
 .refine gw.kp b o (λz=>?_) (r1.g.kp b o n h);rcases(r1.fr i b (by rw[e1];exact z)).2.2 with hE | hE
  .exact n hE
  .rw[hE]at h;cases h
 .rcases gw.fr b o h with h | h
  .exact r1.g.fr b o h
  .exact .inr (r1.g.al b h)
 .by_cases z:j=i
  .subst z;rw[IY hlt]at h;cases h;exact D.sl.mpr ⟨e1,hx,hI⟩
  .rw[I9 (Ne.symm z)]at h;refine(r1.sl j v h).grow gw.gg λa ha=>?_;obtain⟨_,⟨o,ho⟩,_⟩:=r1.fr j a ha;rw[ho];exact gw.kp a o (λq=>z (r1.dj j i a ha (by rw[e1];exact q))) ho
 .obtain⟨h1,⟨o,h2⟩,h3⟩:=r1.fr j a ha;by_cases z:a∈p::fp
  .exact⟨gn a z,lv a z,h3⟩
  .refine⟨?_,⟨o,gw.kp a o z h2⟩,h3⟩;cases hg:G2 a with
   |none=>rfl
   |some o' =>
    rcases gw.fr a o' hg with h | h
    .rw[h1]at h;cases h
    .rw[h2]at h;cases h
 .by_cases z:j=i
  .subst z;rw[IY hlt]at h;exact absurd (Iu h) (D.no _ _ _ _)
  .rw[I9 (Ne.symm z)]at h;exact r1.ow j ds' a h ha
def spT(D:TF K S)(Pre:S->LA->Prop)(R:S->LA->PD->S->Prop):Sp:=λvs H Q _=>∃(p:AD)(fp:LH)(us:LC)(G:Hp)(s:S)(ds:LA),vs = .ref p::us/\ZF G H/\(∀ a∈p::fp,G a=none)/\(∀ a∈p::fp,∃ o,H a=some o)/\D.I s p fp G H/\YB K G us ds/\Pre s ds/\
 ∀ v x s' G' H',R s ds x s' -> Gw (· ∈ p::fp) G H G' H' -> (∀ a∈p::fp,G' a=none)->(∀ a∈p::fp,∃ o,H' a=some o)->D.I s' p fp G' H' -> Dat K G' v x->Q v H'
def zg1{us:LC}{N:LB}(sb:ZF B G)(gh:ZF G H)(hI:D.I s p fp G H)(gn:∀ a∈p::fp,G a=none)(lv:∀ a∈p::fp,∃ o,H a=some o)(hv:YB K G us ds):Rl K B (· ∈ p::fp) G H G H (start N (.ref p::us)) (W9 N (D.pv s p fp::ds.map .dat)) (λk=>if k=0 then p::fp else[]):=by
 refine zmK sb gh ?_ rfl rfl hI gn lv λi v hi0 h=>?_
 .unfold start W9;rw[Ig,Ig,Ie,IC,IC,Ie,NN,NN,hv.length]
 .cases i with
  |zero=>exact absurd rfl hi0
  |succ i=>
   have h:(ds.map PV.dat++List.replicate (N.length-(ds.map PV.dat).length.succ) PV.un)[i]?=some v:=h;show Sl K G H ((us.map some++List.replicate (N.length-us.length.succ) none)[i]?) v []/\_;by_cases hi:i<ds.length
   .rw[IV (by rw[Ie];exact hi),Ij,Ib hi]at h;cases h;obtain⟨x,hx,hxd⟩:=hv.get (Ib hi);exact⟨⟨rfl,x,by rw[IV (by rw[Ie,hv.length];exact hi),Ij,hx];rfl,hxd⟩,λ_=>nofun⟩
   .rw[IU (by rw[Ie];omega)]at h;have:=Iz h;rw[(mem_replicate.mp this).2];exact⟨rfl,λ_=>nofun⟩
variable {P:Program}{w:World}{mg:Str->LG}{base:Heap}
def Fun.okT{x qual:Str}{st:Stmt}{N ps:LB}{k:Nat}{Pre:S->LA->Prop}{R:S->LA->PD->S->Prop}(Fn:Fun K x qual st f fd)(S' : ZK N ps (Zh st))(len:∀ s ds,Pre s ds->ds.length+1=ps.length)(hb:∀(cdv:Value)(A:Around)(outer:LJ)(s:SH)(H:Hp)(E:XK),Wz k (A.deeper (envOfC qual (Zh st) s.heap.objs.size f cdv))->∀ p fp t0 ds,Pre t0 ds->
   ∃ t,PSs (zbJ CX0 P w K mg base N qual (Zh st) f cdv A outer s H E).nox (Yj st) t/\Sv K B0 t (W9 N (D.pv t0 p fp::ds.map .dat)) {nx:=fun ρ' => ∃ t1,R t0 ds .none t1/\ρ'[0]?=some (D.pv t1 p fp),rt:=λr ρ' => ∃ d t1,r = .dat d/\R t0 ds d t1/\ρ'[0]?=some (D.pv t1 p fp)}):VH P w K mg base CX0 (k+1) f fd ps (spT D Pre R):=by
 refine Fn.ok S' (λvs H Q E h=>?_) λcdv A outer s H vs Q E hr h=>?_
 .obtain⟨p,fp,us,G,t0,ds,rfl,_,_,_,_,hv,hP,_⟩:=h;rw[IC,hv.length];exact len t0 ds hP
 .obtain⟨p,fp,us,G,t0,ds,rfl,sg,gn,lv,hI,hv,hP,kk⟩:=h;obtain⟨t,ht,hs⟩:=hb cdv A outer s H E hr p fp t0 ds hP;refine⟨t,ht,hs _ _ _ _ _ _ _ _ (zg1 b0 sg hI gn lv hv) ⟨λe _ r=>?_,λe _ r sl n=>?_,λe=>e.elim,λe=>e.elim⟩⟩
  .obtain⟨t1,hR,h0⟩:=e;obtain⟨e1,_,hI'⟩:=D.sl.mp (r.sl 0 _ h0);exact kk _ _ t1 _ _ hR r.g (λa ha=>(r.fr 0 a (by rw[e1];exact ha)).1) (λa ha=>(r.fr 0 a (by rw[e1];exact ha)).2.1) hI' Q4
  .obtain⟨d,t1,rfl,hR,h0⟩:=e;obtain⟨e1,_,hI'⟩:=D.sl.mp (r.sl 0 _ h0);obtain⟨_,y,hy,hd⟩:=sl;cases hy;exact kk _ _ t1 _ _ hR r.g (λa ha=>(r.fr 0 a (by rw[e1];exact ha)).1) (λa ha=>(r.fr 0 a (by rw[e1];exact ha)).2.1) hI' hd
def Xh{Pre:S->LA->Prop}{Rf:S->LA->PD->S->Prop}{X:XK}{t:TA}{R:PV->LD->Prop}(hi:ρ[i]?=some (D.pv s p fp))(h:EgA K B t ρ λds ρ1=>∃ s1,ρ1[i]?=some (D.pv s1 p fp)/\Pre s1 ds/\∀ x s2,Rf s1 ds x s2->R (.dat x) (ρ1.set i (D.pv s2 p fp))):Eg K B (QM (spT D Pre Rf) [] X (YC (Wj i) t)) ρ R:=λE G0 H0 G H σ F r Q q=>by
 obtain⟨_,hx,_⟩:=D.sl.mp (r.sl i _ hi);refine⟨_,hx,h E G0 H0 G H σ F r _ λvs ds ρ1 G1 H1 F1 hh s1 r1 hv=>?_⟩;obtain⟨t1,hi1,hP,hk⟩:=hh;obtain⟨e1,_,hI⟩:=D.sl.mp (r1.sl i _ hi1);rw[NK];refine⟨p,fp,vs,G1,t1,ds,rfl,r1.g.gh,λa ha=>(r1.fr i a (by rw[e1];exact ha)).1,λa ha=>(r1.fr i a (by rw[e1];exact ha)).2.1,hI,hv,hP,λv x t2 G2 H2 hR gw gn lv hI2 hd=>?_⟩;exact q v _ _ G2 H2 F1 [] (hk x t2 hR) (s1.trans gw.gg) (r1.zmV hi1 gw gn lv hI2) ⟨rfl,v,rfl,hd⟩ QW
def Q8{t:TA}{R:PV->LD->Prop}(h:EgA K B t ρ λds ρ' => ds.length<=sizeLine/\R (.dat (.list ds)) ρ'):Eg K B (zhM t) ρ R:=λE G0 H0 G H σ F r Q q=>
 h E G0 H0 G H σ F r _ λvs ds ρ1 G1 H1 F1 hR s1 r1 hv=>⟨by rw[hv.length];exact hR.1,λp hp=>by
  have g:=YF (o:=.lst vs) r1.g.gh hp;exact q _ _ ρ1 _ _ F1 [] hR.2 (s1.trans g.gg) (r1.grow g) ⟨rfl,_,rfl,Xd Zo (hv.same g.gg)⟩ QW⟩
def ze3{r:LC->Hp->VK->Prop}{R:PV->LD->Prop}(h:Eg K B te ρ λx ρ1=>∃ a c,x = .dat a/\(∀ G σ va,Dat K G va a->Ev K (tCB r (YC (tC va) Vk)) σ G c)/\R (.dat c) ρ1):Eg K B (tCB r (YC te Vk)) ρ R:=λE G0 H0 G H σ F r Q q=>
 h E G0 H0 G H σ F r _ λv w ρ1 G1 H1 F1 L hw s1 r1 sl n=>by obtain⟨a,c,rfl,hop,hR⟩:=hw;obtain⟨_,y,hy,hd⟩:=sl;cases hy;exact hop G1 σ v hd G1 H1 (ZF.refl _) r1.g.gh Q λv3 G3 H3 g3 hv3=>q v3 _ ρ1 G3 H3 F1 [] hR (s1.trans g3.gg) (r1.grow g3) ⟨rfl,v3,rfl,hv3⟩ QW
def EgI(K:FG)(B:Hp)(wi:TI)(ρ:LD)(R:LA->LD->Prop):Prop:=∀ E G0 H0 G H σ F,Rl K B E G0 H0 G H σ ρ F->∀ Q:It->Hp->Prop,
 (∀ J ds ρ' G' H' F',R ds ρ' -> ZF G G' -> Rl K B E G0 H0 G' H' σ ρ' F' -> Wd K J G' ds->Q J H')->wi σ H Q
def zmh{wi:TI}{R:LA->LD->Prop}(h:Ei K B wi (msk ρ) ds)(k:R ds ρ):EgI K B wi ρ R:=λE G0 H0 G H σ F r Q q=>h G H σ r.rx r.g.gh Q λJ G' H' g W=>q J ds ρ G' H' F k g.gg (r.grow g) W
def zfj{t:TA}{R:LA->LD->Prop}(h:EgA K B t ρ λds ρ' => ∃ n:Nat,ds=[.int (n:Nat)]/\n<2^60/\R ((List.range n).map λ(i:Nat)=>PyData.int (i:Nat)) ρ'):EgI K B (zfy t) ρ R:=λE G0 H0 G H σ F r Q q=>
 h E G0 H0 G H σ F r _ λvs ds ρ1 G1 H1 F1 hR s1 r1 hv=>by
  obtain⟨n,rfl,hn,hR⟩:=hR;obtain⟨y,ys,rfl,hy,hr⟩:=hv.cons;rw[hr.nil,hy.int];have e:(List.range n).map (λ(i:Nat)=>PyData.int (0+i))=(List.range n).map λ(i:Nat)=>PyData.int (i:Nat):=map_congr_left λi _=>by congr 1;omega
  refine⟨n,rfl,(by omega),(by omega),q _ _ ρ1 G1 H1 F1 hR s1 r1 ?_⟩;rw[NG,← e];exact zdF
def zjU{wi:TI}{g:TG}{tb:TS}{R:Pn}(h:EgI K B wi ρ λds ρ1=>∃ Iv:Nat->LD->Prop,Iv 0 ρ1/\
   (∀(i:Nat)(hi:i<ds.length) ρ',Iv i ρ' -> Gt K B g ds[i] ρ' fun ρ2=>Sv K B tb ρ2 {nx:=Iv (i+1),ct:=Iv (i+1),bk:=R.nx,rt:=R.rt})/\∀ ρ',Iv ds.length ρ' -> R.nx ρ'):Sv K B (znt wi g tb) ρ R:=λE G0 H0 G H σ F D r dn=>by
 refine h E G0 H0 G H σ F r _ λJ ds ρ1 G1 H1 F1 hI s1 r1 W=>?_;obtain⟨Iv,h0,hs,hd⟩:=hI;refine⟨λi m σ' H' => m=ds.length-i/\i<=ds.length/\∃ ρ' G' F',Iv i ρ' /\ Rl K B E G0 H0 G' H' σ' ρ' F' /\ ZF G1 G',⟨ds.length,(by omega),(by omega),ρ1,G1,F1,h0,r1,ZF.refl _⟩,?_⟩;rintro i m σ' H' ⟨rfl,hi,ρ',G',F',hI,r',s'⟩;by_cases hin:i=ds.length
 .subst hin;exact .inl ⟨W.stop _ H' (s'.trans r'.g.gh) rfl,dn.nx (hd ρ' hI) (s1.trans s') r'⟩
 .have hi' : i<ds.length:=by omega
  refine .inr ⟨W.go i H' (s'.trans r'.g.gh) hi',fun σ2 H2=>∃ ρ2 G2 F2,Iv (i+1) ρ2/\Rl K B E G0 H0 G2 H2 σ2 ρ2 F2/\ZF G1 G2,fun σ2 H2 ⟨ρ2,G2,F2,q⟩=>⟨ds.length-(i+1),(by omega),rfl,(by omega),ρ2,G2,F2,q⟩,λx H'' hy=>?_⟩;obtain⟨G3,g3,hx⟩:=W.yld i H' x H'' G' ds[i] s' r'.g.gh (Ib hi') hy;have r3:=r'.grow g3;have s3:ZF G1 G3:=s'.trans g3.gg;refine hs i hi' ρ' hI E G0 H0 G3 H'' σ' F' x _ r3 hx fun σ4 ρ4 G4 H4 F4 hP s4 r4=>?_
  have s14:=s3.trans s4;refine hP E G0 H0 G4 H4 σ4 F4 _ r4 ⟨λhI2 s5 r5=>⟨_,_,_,hI2,r5,s14.trans s5⟩,λhR s5 r5 sl n=>dn.rt hR (s1.trans (s14.trans s5)) r5 sl n,λhR s5 r5=>dn.nx hR (s1.trans (s14.trans s5)) r5,λhI2 s5 r5=>⟨_,_,_,hI2,r5,s14.trans s5⟩⟩
def zk8{wi:TI}{R:PV->LD->Prop}{kp:Nat}(hj:js[kp]?=some i)(h:EgI K B wi ρ λas ρ1=>∃(s0:S)(Iv:Nat->LA->S->Prop),ρ1[i]?=some (D.pv s0 p fp)/\as.length<sizeLine/\Iv 0 [] s0/\
   (∀(n:Nat)(hn:n<as.length) out s,Iv n out s->out.length=n->Eg K B te (.dat as[n]::(za0 (msk ρ1) js).set kp (D.pv s p fp)) λr ρ' => ∃ d s',r = .dat d/\ρ'[kp+1]?=some (D.pv s' p fp)/\Iv (n+1) (out++[d]) s')/\
   ∀ out s,Iv as.length out s->out.length=as.length->R (.own out) (ρ1.set i (D.pv s p fp))):Eg K B (tLC wi js zgj te) ρ R:=λE G0 H0 G H σ F r Q q=>by
 refine h E G0 H0 G H σ F r _ λJ as ρ1 G1 H1 F1 hI s1 r1 W=>?_;obtain⟨s0,Iv,hi0,hn,h0,hs,hd⟩:=hI;have hlt:i<ρ1.length:=(Il.mp hi0).1;have hs0:ρ1.set i (D.pv s0 p fp)=ρ1:=by
  refine ext_getElem? λj=>?_;by_cases z:i=j
  .subst z;rw[IY hlt,hi0]
  .rw[I9 z]
 refine⟨λk m ys H' => m=as.length-k/\k<=as.length/\ys.length=k/\∃ G' out s,Iv k out s/\Rl K B E G0 H0 G' H' σ (ρ1.set i (D.pv s p fp)) F1/\ZF G1 G' /\ YB K G' ys out,⟨as.length,(by omega),(by omega),rfl,G1,[],s0,h0,by rw[hs0];exact r1,ZF.refl _,Z9⟩,?_⟩;rintro k m ys H' ⟨rfl,hk,hl,G',out,s,hIv,r',s',hys⟩;have hol:out.length=k:=by rw[← hys.length];exact hl
 refine⟨(by omega),?_⟩;by_cases hin:k=as.length
 .subst hin;refine .inl ⟨W.stop _ H' (s'.trans r'.g.gh) rfl,λl hpl=>?_⟩;obtain⟨a,b,c⟩:=r'.zmN hpl hys;exact q _ _ _ G' _ F1 [l] (hd out s hIv hol) (s1.trans s') a b c
 .have hk' : k<as.length:=by omega
  refine .inr ⟨W.go k H' (s'.trans r'.g.gh) hk',λx H'' hy=>?_⟩;obtain⟨G3,g3,hx⟩:=W.yld k H' x H'' G' as[k] s' r'.g.gh (Ib hk') hy;have r3:=r'.grow g3;have hi3:(ρ1.set i (D.pv s p fp))[i]?=some (D.pv s p fp):=IY hlt;obtain⟨e1,hσ,hI3⟩:=D.sl.mp (r3.sl i _ hi3);have hkl:kp<js.length:=(Il.mp hj).1;have inn:Rl K B (· ∈ p::fp) G3 H'' G3 H'' (some x::WK σ js) (.dat as[k]::(za0 (msk ρ1) js).set kp (D.pv s p fp)) (λj=>if j=kp+1 then p::fp else[]):=by
   refine zmK r3.bb r3.g.gh ?_ ?_ ?_ hI3 (λa ha=>(r3.fr i a (by rw[e1];exact ha)).1) (λa ha=>(r3.fr i a (by rw[e1];exact ha)).2.1) λj v hjn hv=>?_
   .unfold WK za0;rw[IC,IC,Og,Ie,Ie]
   .rw[NM];exact IY (by unfold za0;rw[Ie];exact hkl)
   .rw[NM];unfold WK;rw[Ij,hj];show some (σ[i]?).join=_;rw[hσ];rfl
   .cases j with
    |zero=>cases hv;exact⟨⟨rfl,x,rfl,hx⟩,λ_=>nofun⟩
    |succ j=>
     rw[NM]at hv ⊢;rw[I9 (by omega)]at hv;unfold za0 at hv;unfold WK;rw[Ij]at hv ⊢;obtain⟨l,hl',rfl⟩:=map_eq_some_iff.mp hv;rw[hl'];show Sl K G3 H'' (some (σ[l]?).join) _ []/\_;rw[Ij];cases hρ:ρ1[l]? with
     |none=>exact⟨rfl,λ_=>nofun⟩
     |some v=>
      show Sl K G3 H'' (some (σ[l]?).join) v.msk []/\_;cases v with
      |dat d=>
       have nl:i≠l:=λz=>by subst z;rw[hi0]at hρ;obtain⟨e9,_,_⟩:=D.sl.mp (r1.sl i _ hi0);have h9:=r1.sl i (.dat d) (by rw[hi0,Iu hρ]);rw[e9]at h9;exact absurd h9.1 (by simp)
       obtain⟨_,y,hy',hd'⟩:=r3.sl l (.dat d) (by rw[I9 nl];exact hρ);refine⟨⟨rfl,y,?_,hd'⟩,λ_=>nofun⟩;rw[hy'];rfl
      |scr ns=>
       have nl:i≠l:=λz=>by subst z;rw[hi0]at hρ;obtain⟨e9,_,_⟩:=D.sl.mp (r1.sl i _ hi0);have h9:=r1.sl i (.scr ns) (by rw[hi0,Iu hρ]);rw[e9]at h9;exact absurd h9.1 (by simp)
       obtain⟨_,y,hy',hd'⟩:=r3.sl l (.scr ns) (by rw[I9 nl];exact hρ);refine⟨⟨rfl,y,?_,hd'⟩,λ_=>nofun⟩;rw[hy'];rfl
      |val z0=>
       have nl:i≠l:=λz=>by subst z;rw[hi0]at hρ;obtain⟨e9,_,_⟩:=D.sl.mp (r1.sl i _ hi0);have h9:=r1.sl i (.val z0) (by rw[hi0,Iu hρ]);rw[e9]at h9;exact absurd h9.1 (by simp)
       obtain⟨_,hy'⟩:=r3.sl l (.val z0) (by rw[I9 nl];exact hρ);refine⟨⟨rfl,?_⟩,λ_=>nofun⟩;rw[hy'];rfl
      |_=>exact⟨rfl,λ_=>nofun⟩
  show te (some x::WK σ js) H'' _;refine hs k hk' out s hIv hol _ _ _ _ _ _ _ inn _ λv rr ρ' G4 H4 F4 L hr s4 r4 sl n=>?_;obtain⟨d,s'',rfl,hρ',hIv'⟩:=hr;obtain⟨e4,_,hI4⟩:=D.sl.mp (r4.sl _ _ hρ');obtain⟨_,y,hy',hd'⟩:=sl;cases hy';have back:=r3.zmV hi3 r4.g (λa ha=>(r4.fr _ a (by rw[e4];exact ha)).1) (λa ha=>(r4.fr _ a (by rw[e4];exact ha)).2.1) hI4;rw[List.set_set]at back;exact⟨as.length-(k+1),(by omega),rfl,(by omega),by rw[Ig];show _+1=_;omega,G4,out++[d],s'',hIv',back,(s'.trans g3.gg).trans s4,XF (hys.same (g3.gg.trans s4)) hd'⟩
end
def DkI(n:Nat)(p:AD)(fp:LH)(H:Hp):Prop:=∃(q:AD)(rs:LH)(c:Int),fp=q::rs/\(p::fp).Nodup/\rs≠[]/\rs.length<=63/\H p=some (.lst [.ref q,.int c])/\H q=some (.lst (rs.map V.ref))/\0<=c/\c<=n/\∀ r∈rs,∃ a s f:Int,H r=some (.lst [.int a,.int s,.int f])/\0<=s/\s<2000000000
def DkI.st{n:Nat}{p:AD}(h:DkI n p fp H)(k:∀ a∈p::fp,H' a=H a):DkI n p fp H':=by obtain⟨q,rs,c,rfl,nd,ne,hl,hp,hq,c0,c1,hr⟩:=h;refine⟨q,rs,c,rfl,nd,ne,hl,by rw[k p (by simp)];exact hp,by rw[k q (by simp)];exact hq,c0,c1,λr m=>?_⟩;rw[k r (by simp[m])];exact hr r m
def DkI.lv{n:Nat}{p:AD}(h:DkI n p fp H):∀ a∈p::fp,∃ o,H a=some o:=λa ha=>by
 obtain⟨q,rs,c,rfl,nd,ne,hl,hp,hq,c0,c1,hr⟩:=h;rcases IE.mp ha with rfl | ha
 .exact⟨_,hp⟩
 rcases IE.mp ha with rfl | ha
 .exact⟨_,hq⟩
 .obtain⟨a',s,f,e,_⟩:=hr a ha;exact⟨_,e⟩
noncomputable def dkT(K:FG):TF K Nat:=zpb (λn p fp _ H=>DkI n p fp H) (λh _ k=>h.st k) (λh=>h.lv)
def znk{L:LH}(sg:ZF G H)(gn:∀ a∈L,G a=none)(k:∀ b o,H b=some o->b∉L->H' b=some o)(lv:∀ a∈L,∃ o,H' a=some o):Gw (· ∈ L) G H G H':=by
 refine⟨ZF.refl _,λb o e=>k b o (sg b o e) λz=>?_,λb o n h=>k b o h n,λb h=>?_,λb o h=>.inl h⟩
 .rw[gn b z]at e;cases e
 .cases e:H b with
  |none=>rfl
  |some o=>
   by_cases z:b∈L
   .obtain⟨o',h'⟩:=lv b z;rw[h']at h;cases h
   .rw[k b o e z]at h;cases h
def zdf(n:Nat)(ds:LA):Prop:=∃ m:Int,ds=[.int m]/\n<=10^6/\1<=m/\m<=10^18
def RDw(n:Nat)(ds:LA)(x:PD)(n' : Nat):Prop:=∃ m r:Int,ds=[.int m]/\x = .int r/\0<=r/\r<m/\n'=n+1
def zdi{K:FG}(h:∀(i:Nat)(v:PV),ρ[i]?=some v->match v with | .dat d=>∃ x,σ[i]?=some (some x)/\Dat K G x d | .un=>True | .scr ns=>∃ a,σ[i]?=some (some (.ref a))/\SqL K G a (ns.map V.int) | _=>False):Rx K B0 G σ ρ:=by
 refine⟨b0,λi d e=>h i _ e,λi v ds e hv=>?_,λi T e=>(h i _ e).elim,λi ns e=>h i _ e,λi x e=>(h i _ e).elim⟩;have:=h i v e;cases v with
 |own _=>exact this.elim
 |lnt _ _=>exact this.elim
 |_=>cases hv
def zj9{t u:TS}{D:Ends}(N:St->Hp->Prop)(h:∀ W:St->Hp->Prop,(∀ σ' H',N σ' H' -> W σ' H')->t {D with nx:=W} σ H)(k:∀ σ' H',N σ' H' -> u D σ' H'):ziQ t u D σ H:=h _ k
def zj1{K:FG}{t:TA}{g:TG}{tb:TS}{D:Ends}{n:Nat}(h:EvA K t σ G [.int (n:Nat)])(s:ZF G H)(hn:n<2^60)(k:∀ G' H',YH G H G' H' -> ∃ W:Nat->Nat->St->Hp->Prop,(∃ m,W 0 m σ H')/\∀ i m σ H,W i m σ H->
  (n<=i/\D.nx σ H)\/(i<n/\∃ N:St->Hp->Prop,(∀ σ' H',N σ' H' -> ∃ m',m'<m/\W (i+1) m' σ' H')/\g (.int (i:Nat)) σ H fun σ2 H2=>tb {D with nx:=N,ct:=N,bk:=D.nx} σ2 H2)):znt (zfy t) g tb D σ H:=by
 refine h G H (ZF.refl _) s _ λvs G' H' g' hv=>?_;obtain⟨y,ys,rfl,hy,hr⟩:=hv.cons;rw[hr.nil,hy.int];refine⟨n,rfl,(by omega),(by omega),?_⟩;obtain⟨W,w0,hW⟩:=k G' H' g';refine⟨W,w0,λi m σ H hw=>?_⟩;rw[NG];rcases hW i m σ H hw with h | ⟨h1,N,h2,h3⟩
 .exact .inl h
 .refine .inr ⟨h1,N,h2,λx H' hy=>?_⟩;obtain⟨rfl,rfl⟩:=hy;have:(0:Int)+(i:Nat)=(i:Nat):=by omega
  rw[this];exact h3
def zly{K:FG}{j:Nat}{t:TA}{a b:PD}{R:Pn}(h:Ea K B t (msk ρ) [a,b])(k:R.nx ((ρ.set i (.dat a)).set j (.dat b))):Sv K B (zoO i j t) ρ R:=λE G0 H0 G H σ F D r dn=>h G σ r.rx G H (ZF.refl _) r.g.gh _ λvs G1 H1 g hv=>by obtain⟨x,xs,rfl,hx,hv⟩:=hv.cons;obtain⟨y,ys,rfl,hy,hv⟩:=hv.cons;cases hv.nil;have r1:=r.grow g;exact⟨x,y,rfl,dn.nx k g.gg ((r1.zlg hx).zlg hy)⟩
def zal{K:FG}{i j r:Int}(h:znp i j)(e:i^j.toNat=r):Er K B (tOp (rI znp λi j=>.int (i^j.toNat)) (tC (.int i)) (tC (.int j))) ρ (.int r):=UL Zw Zw h λ_=>e ▸ Zv _
def Xq{K:FG}{t:TA}{b:Bool}(h:Ea K B t ρ [.bool b]):Er K B (tCB (λxs H Q=>(∃ i,xs=[.int i]/\Q (.int i) H)\/∃ k,xs=[.bl k]/\Q (.int (if k then 1 else 0)) H) t) ρ (.int (if b then 1 else 0)):=λG σ r=>zjF (h G σ r)
def zka(K:FG):Sp:=λvs H Q _=>∃(a:AD)(ns:LX),vs=[.ref a]/\SqL K H a (ns.map V.int)/\∀ p fp H',DkI 0 p fp H' -> (∀ x∈p::fp,H x=none)->ZF H H' -> Q (.ref p) H'
def zhS{K:FG}{X:XK}{ns:LX}{R:PV->LD->Prop}(hi:ρ[i]?=some (.scr ns))(k:∀ p fp,R ((dkT K).pv 0 p fp) ρ):Eg K B (QM (zka K) [] X (YC (Wj i) Vk)) ρ R:=λE G0 H0 G H σ F r Q q=>by obtain⟨_,a,hx,hq⟩:=r.sl i _ hi;refine⟨_,hx,a,ns,rfl,r.g.gh.seq hq,λp fp H' hI hn s=>?_⟩;have r2:=r.grow (Uv r.g.gh s);refine q _ _ ρ G H' F (p::fp) (k p fp) (ZF.refl _) r2 ((dkT K).sl.mpr ⟨rfl,rfl,hI⟩) ⟨λb hb=>⟨r.g.gh.free (hn b hb),hI.lv b hb,r.g.al b (hn b hb)⟩,λb hb j hj=>?_⟩;obtain⟨_,⟨o,h⟩,_⟩:=r.fr j b hj;rw[hn b hb]at h;cases h
def Yi{K:FG}{X:XK}{c:Nat}{p:AD}{m:Int}{R:PV->LD->Prop}(hi:ρ[i]?=some ((dkT K).pv c p fp))(hm:Er K B te (msk ρ) (.int m))(hc:c<=10^6)(h1:1<=m)(h2:m<=10^18)(k:∀ r:Nat,(r:Int)<m->R (.dat (.int (r:Nat))) (ρ.set i ((dkT K).pv (c+1) p fp))):Eg K B (QM (spT (dkT K) zdf RDw) [] X (YC (Wj i) (YC te Vk))) ρ R:=
 Xh hi (Xf (Zb hm Zk) ⟨c,hi,⟨m,rfl,hc,h1,h2⟩,λx s2 hx=>by
  obtain⟨m',r,e,rfl,r0,r1,rfl⟩:=hx;cases e;obtain⟨r,rfl⟩:=Int.eq_ofNat_of_zero_le r0;exact k r r1⟩)
def Q6{K:FG}{t u:TS}{R:Pn}(N:LD->Prop)(h:Sv K B t ρ {R with nx:=N})(k:∀ ρ',N ρ' -> Sv K B u ρ' R):Sv K B (ziQ t u) ρ R:=Zt (znd h (fun ρ hn=>k ρ hn) (λ_ _ h=>h) (λ_ h=>h) (λ_ h=>h))
def zit{K:FG}{R:PV->LD->Prop}(h:Eg K B te ρ λr ρ' => ∃ ds,r = .own ds/\R (.dat (.list ds)) ρ'):Eg K B te ρ R:=λE G0 H0 G H σ F r Q q=>
 h E G0 H0 G H σ F r Q λv x ρ1 G1 H1 F1 L hx s1 r1 sl n=>by
  obtain⟨ds,rfl,hR⟩:=hx;obtain⟨p,xs,rfl,hv,hp,hd⟩:=sl;have hv:v = .ref p:=by injection hv with hv;injection hv
  subst hv;obtain⟨gp,_,h0⟩:=n.fr p (by simp);have nj:∀ j,p∉F1 j:=n.dj p (by simp);have sm:ZF G1 (upd G1 p (.lst xs)):=YK gp;have gh:ZF (upd G1 p (.lst xs)) H1:=λb o e=>by
   by_cases z:b=p
   .subst z;rw[Zo]at e;rw[hp,e]
   .rw[Zr z]at e;exact r1.g.gh b o e
  refine q _ _ ρ1 (upd G1 p (.lst xs)) H1 F1 [] hR (s1.trans sm) ⟨⟨r1.g.gg.trans sm,gh,r1.g.kp,r1.g.al,λb o e=>?_⟩,r1.bb.trans sm,r1.ls,λi v e=>(r1.sl i v e).grow sm λa ha=>rfl,λi a ha=>?_,r1.dj,r1.ow⟩ ⟨rfl,_,rfl,Xd Zo (hd.same sm)⟩ QW
  .by_cases z:b=p
   .subst z;exact .inr h0
   .rw[Zr z]at e;exact r1.g.fr b o e
  .obtain⟨e1,e2⟩:=r1.fr i a ha;refine⟨?_,e2⟩;rw[Zr λz=>nj i (by rw[← z];exact ha)];exact e1
def zmY{K:FG}{wi:TI}{R:PV->LD->Prop}(h:EgI K B wi ρ λas ρ1=>as.length<sizeLine/\∃ f:PD->PD,(∀ a∈as,Er K B te (.dat a::za0 (msk ρ1) js) (f a))/\R (.own (as.map f)) ρ1):Eg K B (tLC wi js zgj te) ρ R:=λE G0 H0 G H σ F r Q q=>
 h E G0 H0 G H σ F r _ λJ as ρ1 G1 H1 F1 hI s1 r1 W=>by
  obtain⟨hn,f,hc,hk⟩:=hI;refine⟨λi m ys H' => m=as.length-i/\i<=as.length/\ys.length<=i/\∃ G',YH G1 H1 G' H' /\ YB K G' ys ((as.take i).map f),⟨as.length,(by omega),(by omega),(by simp),G1,YH.refl r1.g.gh,by simpa using Z9⟩,?_⟩;rintro i m ys H' ⟨rfl,hi,hl,G',g',hys⟩;refine⟨(by omega),?_⟩;have sgh:ZF G1 H':=g'.gg.trans g'.gh;by_cases hin:i=as.length
  .subst hin;refine .inl ⟨W.stop _ H' sgh rfl,λp hp=>?_⟩;rw[OE]at hys;obtain⟨a,b,c⟩:=(r1.grow g').zmN hp hys;exact q _ _ ρ1 G' _ F1 [p] hk (s1.trans g'.gg) a b c
  .have hi' : i<as.length:=by omega
   refine .inr ⟨W.go i H' sgh hi',λx H'' hy=>?_⟩;obtain⟨G3,g3,hx⟩:=W.yld i H' x H'' G' as[i] g'.gg g'.gh (Ib hi') hy;have rx:=zf6 (js:=js) ((r1.rx.mono g'.gg).mono g3.gg) hx;show te _ H'' _;refine hc as[i] (IQ hi') _ _ rx G3 H'' (ZF.refl _) g3.gh _ λv G5 H5 g5 hv=>⟨as.length-(i+1),(by omega),rfl,(by omega),by rw[Ig];show ys.length+1<=i+1;omega,G5,(g'.trans g3).trans g5,?_⟩
   rw[take_succ,IX,Ib hi'];exact XF (hys.same (g3.gg.trans g5.gg)) hv
section
variable {X:Cx}{pos:Pos}
def zos(K:FG)(n:Nat)(t:TGs):TG:=λv σ H Q=>∃ a xs,v = .ref a/\SqL K H a xs/\xs.length=n/\t xs σ H Q
def zbm{es:List Expr}{k:Nat}{t:TGs}{n:Nat}(hc:X.calm=true)(h:PGs X es t)(hn:(assignEach es X.env).length=n:=by rfl)(hst:(assignEach es X.env).findIdx? (·.1)=none:=by rfl):PG X (.Tuple es k pos) (zos X.K n t):=by
 intro aa s σ H v u Q I r hw;obtain⟨a,xs,e1,hq,hl,hw⟩:=hw;subst e1;cases r;obtain⟨its,rv,ht,hz⟩:=I.list hq;rw[assign_Tuple];refine Ia (OK ?_);unfold unpack;rw[show(assignEach es X.env).length=its.toArray.size by simp[hn,← hl,rv.length],hst];refine Ia (Np (PySem.W.kun_itemsOf (I.ok.hd hc) ht.isList λh' hx=>?_));have I1:Inv X aa σ H {s with heap:=h'}:=I.kept (t':=s.toks) λb o e=>hx b o (IS (IF e)) e;exact h aa _ σ H xs _ Q I1 (by simpa using rv) hw
end
section
variable {K:FG}{B:Hp}{ρ:LD}{a b c:PD}
def Jq{j:Nat}{P:LD->Prop}(h:P ((ρ.set i (.dat a)).set j (.dat b))):Gt K B (zos K 2 (zcY (VF i) (zcY (VF j) znv))) (.list [a,b]) ρ P:=λE G0 H0 G H σ F x Q r hd k=>by obtain⟨p,xs,rfl,hp,hx⟩:=hd.lst;obtain⟨y,ys,rfl,hy,hx⟩:=hx.cons;obtain⟨z,zs,rfl,hz,hx⟩:=hx.cons;cases hx.nil;exact⟨p,_,rfl,SqL.of (r.g.gh _ _ hp),rfl,y,_,rfl,z,_,rfl,rfl,k _ _ G H _ h (ZF.refl _) ((r.zlg hy).zlg hz)⟩
end
noncomputable def Uo(K:FG):Bool:=K.all λp=>p.2.dict.isNone || !(p.2.cls == .type "tuple")
theorem zah{β:Type}[BEq α][LawfulBEq α]{a:α}{b:β}:∀{l:List (α×β)},l.lookup a=some b->(a,b)∈l
 |[],h=>by cases h
 |(x,y)::l,h=>by
  rw[Oc]at h;cases e:a==x with
  |true=>rw[e]at h;rw[eq_of_beq e];cases h;exact ID
  |false=>rw[e]at h;exact Iy _ (zah h)
def zj5{K:FG}(h:Uo K=true)(hk:K.lookup a=some o)(hc:o.cls = .type "tuple"):o.dict=none:=by
 have:=NB.mp h (a,o) (zah hk);dsimp only at this;rw[hc]at this;have e:((Value.type "tuple" : Value) == .type "tuple")=true:=by rfl
 rw[e]at this;simpa using this
section
variable {X:Cx}{o e:Expr}{es:List Expr}{to:TE}{t:TA}{name:Str}{apos cpos:Pos}{id:String}{r:V->LC->Hp->VK->Prop}
def zn3(K:FG)(r:V->LC->Hp->VK->Prop)(to:TE)(t:TA):TE:=fun σ H Q=>to σ H λx H1=>(∃ p xs,x = .ref p/\SqT K H1 p xs)/\t σ H1 λvs H2=>r x vs H2 Q
def zcI{K:FG}(eK:X.K=K)(hnd:Uo K=true)(slot:Slot "tuple" name id)(hty:typeOf (.builtin id)=pure (.type "method_descriptor"))(hm:MtR X id r)(ho:PE X o to)(ha:PA X (e::es) t)(hbase:attributeBase o name X.env (eval o X.env)=eval o X.env:=by rfl)(hfew:((backTo cpos (starEach (e::es) X.env)).all (λx=>!x.1)&&(backToKw cpos (keywordEach [] X.env)).all (λx=>x.1.isSome)
   && decide ((e::es).length+([]:List Keyword).length+(if([]:List Keyword).isEmpty then 0 else 1)<30))=true:=by rfl)(hline:(apos.endLine==cpos.line)=true:=by rfl)(hs:starEach (e::es) X.env=(false,eval e X.env)::starEach es X.env:=by rfl)(hplain:(backTo cpos (starEach es X.env)).any (·.1)=false:=by rfl):
  PE X (.Call (.Attribute o name apos) (e::es) [] cpos) (zn3 K r to t):=by
 subst eK;intro aa s σ H Q I h;refine wpAny_Call_method_late hbase hfew hline rfl (thn (ho aa s σ H _ I h) λv s1 ⟨x,H1,I1,r1,⟨p,xs,ex,hp⟩,q1⟩=>?_);subst ex;cases(show v=Value.ref p from r1);obtain⟨its,_,pt,_⟩:=I1.tuple hp;have nd:ziu s1.heap p:=by
  rcases hp with h | ⟨o,its,n,hk,hc,_⟩
  .obtain⟨_,_,_,_,nd⟩:=h.ok I1.ad;exact nd
  .exact⟨o,I1.kIn p o hk,zj5 hnd hk hc⟩
 refine⟨"tuple",id,PySem.F.plainAttrs_tuple,slot,hty,pt.typeIs,λa ea=>?_,?_⟩
 .cases ea;exact nd
 have hA:=ha cpos aa s1 σ H1 _ I1 q1;rw[hs]at hA ⊢;refine Calls.callWith_builtin (by show(false||(backTo cpos (starEach es X.env)).any (·.1))=false;rw[hplain] <;> rfl) (Calls.evalArgs_plain ?_);exact thn hA λus s2 ⟨vs,H2,I2,r2,q2⟩=>hm aa s2 σ H2 (.ref p) vs (.ref p) us Q I2 (show RelV (.ref p) (.ref p)from rfl) r2 q2
end
section
variable {K:FG}{B:Hp}{ρ:LD}{σ:St}{G:Hp}{ta tb te:TE}
theorem za8 :∀{ws:LB}{xs:LC},YB K G xs (ws.map PyData.str)->xs=ws.map V.str
 |[],xs,h=>h.nil
 |w::ws,xs,h=>by obtain⟨y,ys,rfl,hy,hr⟩:=h.cons;rw[hy.str,za8 hr];rfl
def zdg{ws:LB}{z:Str}(ha:Ev K ta σ G (.tuple (ws.map .str)))(hb:Ev K tb σ G (.str z))(hz:z∈ws):Ev K (zn3 K (zdn K) ta (YC tb Vk)) σ G (.int (ws.idxOf z:Nat)):=λG1 H s1 s2 Q k=>
 ha G1 H s1 s2 _ λv G2 H2 g2 hv=>by obtain⟨p,xs,rfl,hp,hx⟩:=hv.tup;have e:=za8 hx;subst e;refine⟨⟨p,_,rfl,g2.gh.tup hp⟩,hb G2 H2 (s1.trans g2.gg) g2.gh _ λu G3 H3 g3 hu=>?_⟩;rw[hu.str];exact⟨p,ws,z,rfl,rfl,g3.gh.tup (g3.gg.tup hp),hz,k _ G3 H3 (g2.trans g3) (Zv _)⟩
def zgl{ws:LB}{z:Str}(ha:Er K B ta ρ (.tuple (ws.map .str)))(hb:Er K B tb ρ (.str z))(hz:z∈ws):Er K B (zn3 K (zdn K) ta (YC tb Vk)) ρ (.int (ws.idxOf z:Nat)):=λG σ r=>zdg (ha G σ r) (hb G σ r) hz
def zjS{c:Bool}(h:Er K B ta ρ (.bool c)):Er K B (zkq ta) ρ (.bool (!c)):=λG σ r G1 H s1 s2 Q k=>h G σ r G1 H s1 s2 _ λv G2 H2 g2 hv=>by rw[hv.bl];exact⟨c,rfl,k _ G2 H2 g2 (Yc _)⟩
end
section
variable {prog:Program}{w:World}{A:Around}{E:Value->SH->Prop}{s:SH}
def zkR{stored:LF}{Q:Bool->SH->Prop}(hq:∀ Q:Bool->SH->Prop,Q true s->wpAny (model prog w) A (eqIsQuiet 8 (.ref a)) Q E s)(hst:∀ v∈stored,∃ x t,v = .str x t)(h:Q false s):wpAny (model prog w) A (tableMayTell (.ref a) stored) Q E s:=by
 unfold tableMayTell;split
 .exact Ic h
 .refine Ia (hq _ ?_);simp only[N2,IN,Nf];refine Ia ?_;refine N4 _ (λrest r s' => s'=s/\r=(none,())/\∀ v∈rest,∃ x t,v = .str x t) _ ?_ ?_ _ _ ⟨rfl,rfl,hst⟩
  .rintro x rest r s' ⟨rfl,rfl,hr⟩;obtain⟨z,t,rfl⟩:=hr x ID;refine Ia ?_;unfold eqIsQuiet;refine Ic ?_;simp only[N2,IN,Nf];exact Ic ⟨rfl,rfl,λv hv=>hr v (Iy _ hv)⟩
  .rintro r s' ⟨rfl,rfl,_⟩;exact Ic h
def zkv{d:AD}{es:Array DictEntry}{ep:Nat}{hh:Int}{Q:Option Nat->SH->Prop}(ho:s.heap.get? d=some o)(hd:o.data = .dict es ep)(hk:∀ e∈es,∃ x t,e.key = .str x t)(hq:∀ Q:Bool->SH->Prop,Q true s->wpAny (model prog w) A (eqIsQuiet 8 (.ref a)) Q E s)(heq:∀(x:Str)(t:Tok)(Q:Bool->SH->Prop),Q false s->wpAny (model prog w) A (eqBool (.str x t) (.ref a)) Q E s)(h:Q none s):
  wpAny (model prog w) A (dictFind d (.ref a) hh) Q E s:=by
 have hany:¬ (es.any λe=>e.key==Value.ref a&&e.hash != hh)=true:=by rw[← Array.any_toList,any_eq_true];rintro⟨e,hin,hc⟩;obtain⟨x,t,ek⟩:=hk e (mem_toList_iff.mp hin);rw[ek]at hc;simp at hc
 have hst:∀ v∈(placesWithHash es.size (λi=>es[i]?.map (·.hash)) hh).filterMap (λi=>es[i]?.map (·.key)),∃ x t,v = .str x t:=by
  intro v hv;obtain⟨i,_,hi⟩:=mem_filterMap.mp hv;cases hei:es[i]? with
  |none=>rw[hei]at hi;cases hi
  |some e=>
   rw[hei]at hi;obtain rfl:e.key=v:=by simpa using hi
   exact hk e (Array.mem_of_getElem? hei)
 unfold dictFind
 try with_reducible refine Np ?_
 refine Ia (wpAny_dictEntries ho hd ?_);dsimp only;rw[Im (show ¬ ((Value.ref a::(placesWithHash es.size (λi=>es[i]?.map (·.hash)) hh).filterMap (λi=>es[i]?.map (·.key))).all carriedByValue)=true by simp[carriedByValue])];rw[Im hany];by_cases hone:(((placesWithHash es.size (λi=>es[i]?.map (·.hash)) hh).filterMap (λi=>es[i]?.map (·.key)))==[Value.ref a])=true <;>
 (first | rw[Iq hone] | rw[Im hone]) <;> (first | refine Ia (Ic ?_) | refine Ia (zkR hq hst ?_)) <;> (
  rw[Im (by simp)];refine Ia ?_;refine N4 _ (λrest b s' => s'=s/\b=(none,none)) _ ?_ ?_ _ _ ⟨rfl,rfl⟩
  .rintro x rest b s' ⟨rfl,rfl⟩;cases hex:es[x]? with
   |none=>exact Ic ⟨rfl,rfl⟩
   |some e=>
    obtain⟨z,t,ek⟩:=hk e (Array.mem_of_getElem? hex);dsimp only;by_cases hh' : (e.hash==hh)=true
    .rw[Iq hh'];rw[ek];refine Ia (wpAny_dictEpoch ho hd (Ia (heq z t _ (Ia (wpAny_dictEpoch ho hd ?_)))));show wpAny _ _ (if(ep != ep)=true then _ else _) _ E _;rw[Im (by simp)];simp only[IN,Nf];refine Ia (NY ?_)
     first | rw[Im (by simp)] | skip
     first
      |exact Ic ⟨rfl,rfl⟩
      |exact Ia (Ic (Ic ⟨rfl,rfl⟩))
    .rw[Im hh'];exact Ic ⟨rfl,rfl⟩
  .rintro b s' ⟨rfl,rfl⟩;exact Ic h)
def zof{d:AD}{es:Array DictEntry}{ep:Nat}{ks:List Key}{Q:Value->SH->Prop}(hu:A.units+1<cLine)(hkey:IsTupleKey (Xy prog w) s.heap ks a)(ho:s.heap.get? d=some o)(hc:o.cls = .type "dict")(hd:o.data = .dict es ep)(hs:(d==sysModules)=false)(hk:∀ e∈es,∃ x t,e.key = .str x t)(heq:∀(x:Str)(t:Tok)(s' : SH),s'.heap=s.heap->SeqAt.EqAt A.in1 s' (.str x t) (.ref a) false)(h:Q (.bool false) {s with toks:=s.toks+(ks.length+1)}):wpAny (model prog w) A (compareOp .In (.ref a) (.ref d)) Q E s:=by
 have hty:s.TypeIs (.ref d) "dict" := ⟨o,ho,hc⟩
 show wpAny _ _ (do return .bool (← contains (.ref d) (.ref a))) Q E s;refine Ia ?_;unfold contains
 try with_reducible refine Np ?_
 refine Ia (NI hty slot_dict_contains.lookup ?_);show wpAny _ _ (if(some (Value.builtin "dict.__contains__")==some Value.none)=true then _ else _) _ E s;rw[Im (by rw[beq_builtin_none];exact Ii)];refine Ia (wpAny_callSpecialUnlessNone?_slot (name:=Str.ofString "__contains__") hty slot_dict_contains
  (IP slot_dict_contains hty entry_dict_contains ?_ (args_dict_contains _ _)))
 show wpAny _ _ (dictGet d (.ref a) >>= _) _ _ s;refine Ia ?_;unfold dictGet
 try with_reducible refine Np ?_
 refine Ia (wpAny_pyHash_tuple (knd:=Xy prog w) (A:=A.in1) (show A.units+1<cLine from hu) hkey (Ia (zkv (s:={s with toks:=s.toks+(ks.length+1)}) ho hd hk (λQ h=>wpAny_eqIsQuiet_tuple (knd:=Xy prog w) hkey h) (λx t Q h=>heq x t {s with toks:=s.toks+(ks.length+1)} rfl prog w _ Q h) ?_)));refine Ic ?_;show wpAny _ _ (Builtin.Dict.pendingKey? d (.ref a) >>= _) _ _ _;exact Ia (wpAny_pendingKey_other hs (Ic ⟨_,rfl,Nn (Ic h)⟩))
end
section
variable {X:Cx}
def znE(K:FG)(P:Params):R2:=λx y H Q=>∃ a g,y = .ref a/\zb0 K P a g/\((∃ z,x = .str z/\Q (.bl (g z).isSome) H)\/∃(p:AD)(b c:Int),x = .ref p/\SqT K H p [.int b,.int c]/\Q (.bl false) H)
def zi9(hu:X.A.units+64<cLine):OpR X (compareOp .In) (znE X.K X.w.params):=by
 intro aa s σ H x y v u Q I rx ry h;obtain⟨a,g,rfl,D,h⟩:=h;rcases h with⟨z,rfl,q⟩ | ⟨p,b,c,rfl,hp,q⟩
 .exact zma aa s σ H _ _ v u Q I rx ry ⟨z,a,g,rfl,rfl,D,q⟩
 .cases rx;cases ry;obtain⟨es,n,hl,hk⟩:=D.ex;obtain⟨its,rv,pt,hz⟩:=I.tuple hp;obtain⟨o,ho,hc,nn,hdt⟩:=id pt;have hia:ItemsAre (Xy X.prog X.w) [.inl b,.inl c] its:=by
   cases rv with
   |cons r1 r2=>cases r2 with
    |cons r2 r3=>cases r3;exact .cons (zjq (k:=.inl b) r1) (.cons (zjq (k:=.inl c) r2) .nil)
  refine zof (by omega) (ks:=[.inl b,.inl c]) ⟨o,its.toArray,nn,ho,hc,hdt,by simpa using hia⟩ (I.mod.kin.keeps I.bk _ _ hl) rfl rfl D.lo (λe he=>?_) (λx t s' hs' => ?_) ⟨.bl false,H,I.tok _,rfl,q⟩
  .obtain⟨x,t,e1,_⟩:=hk.all e (mem_toList_iff.mpr he);exact⟨x,t,e1⟩
  .refine SeqAt.EqAt.str_tuple (items:=its.toArray) x t (hs'.symm ▸ pt) ?_;show X.A.units+1<cLine;omega
end
theorem JR:∀(names:List (Str×NameKind))(n:Nat)(a b:List (Str×AD)),cellsFrom n names (a++b)=cellsFrom n names a++b
 |[],_,_,_=>rfl
 |(x,k)::r,n,a,b=>by
  unfold cellsFrom;split
  .rw[← NA];exact JR r (n+1) _ b
  .exact JR r n a b
def JD{l m:List (Str×α)}:(l++m).lookup y=(l.lookup y).or (m.lookup y):=by
 induction l with
 |nil=>simp
 |cons p r ih=>
  obtain⟨z,v⟩:=p;rw[NA,Oc,Oc];split
  .simp
  .exact ih
theorem zba{f g:α->PUnit->Sem (ForInStep PUnit)}:∀(l:List α),(∀ x∈l,f x ⟨⟩=g x ⟨⟩)->forIn l PUnit.unit f=forIn l PUnit.unit g
 |[],_=>rfl
 |x::l,h=>by
  rw[forIn_cons,forIn_cons,h x ID];congr 1;funext r;cases r with
  |done b=>rfl
  |yield b=>exact zba l λy hy=>h y (Iy _ hy)
def zet{e e' : Env}{n:Str}{v:Value}(h1:e.scope=e'.scope)(h2:e.locals=e'.locals)(h3:e.globals=e'.globals)(h4:e.cells.lookup n=e'.cells.lookup n):storeName e n v=storeName e' n v:=by
 unfold storeName;have k1:e.kindOf n=e'.kindOf n:=by unfold Env.kindOf;rw[h1]
 have k2:e.blockKind=e'.blockKind:=by unfold Env.blockKind;rw[h1]
 have k3:cellOf e n=cellOf e' n:=by unfold cellOf;rw[h4]
 have k4:localSet e n v=localSet e' n v:=by unfold localSet;rw[h2]
 rw[k1,k2,k3,k4,h1,h2,h3]
section
variable {M:Model}{A:Around}{E:Value->SH->Prop}{s:SH}
def zc5{scope:Scope}{globals:AD}{binds:List (Str×Value)}{qual:Str}{func:Option AD}{code:Value}{builtins:AD}{Q:Env->SH->Prop}(hk:scope.kind = .function)(hkind:∀ x∈binds,scope.names.lookup x.1=some .local\/(scope.names.lookup x.1=some .cell/\((cellsFrom (s.heap.objs.size+1) scope.names []).lookup x.1).isSome=true))(hcl:∀ x∈binds,scope.names.lookup x.1=some .local->cl.lookup x.1=none)(hQ:∀ env',env'=newEnv scope s.heap.objs.size globals (cellsFrom (s.heap.objs.size+1) scope.names []) qual func code none builtins->∀ s',InCallC s env'.locals (bindL env'.kindOf binds λ_=>none) env'.cells (bindC env'.kindOf binds λ_=>none) s' ->
   Q (newEnv scope s.heap.objs.size globals (cellsFrom (s.heap.objs.size+1) scope.names []++cl) qual func code none builtins) s'):
  wpAny M A (newFunctionEnv scope globals cl binds qual func code none builtins) Q E s:=by
 simp only[newFunctionEnv,Option.isSome_none,IN,Nf];refine Ia (wpAny_alloc ?_);refine Ia (wpAny_layCells _ (λname kind cells=>by cases hkc:kind==NameKind.cell <;> simp[hkc]) _ _ _ _ ?_);have ok:=cellsFrom_ok scope.names (s.heap.push {cls:=.type "frame",data:=.dict #[]}) (s.heap.objs.size+1) [] ⟨λ_ _ hm=>(nomatch hm),List.Pairwise.nil⟩ (by rw[Nu];exact Ik _);rw[Nu]at ok;rw[show({s with heap:=s.heap.push {cls:=.type "frame",data:=.dict #[]}}:SH).heap.objs.size=s.heap.objs.size+1 from Nu ..];rw[show cellsFrom (s.heap.objs.size+1) scope.names cl=cellsFrom (s.heap.objs.size+1) scope.names []++cl from JR _ _ [] cl];refine Ia ?_;rw[zba (g:=λ(x:Str×Value) _=>do storeName (newEnv scope s.heap.objs.size globals (cellsFrom (s.heap.objs.size+1) scope.names []) qual func code none builtins) x.1 x.2;pure (.yield ⟨⟩)) binds λx hx=>?_]
 .refine wpAny_bindParams (s₀:=s) (env:=newEnv scope s.heap.objs.size globals (cellsFrom (s.heap.objs.size+1) scope.names []) qual func code none builtins)
   _ (λ_ _ _=>rfl) hk binds (λ_=>none) (λ_=>none) _ _
   ⟨⟨⟨_,_,rfl⟩,(Heap.Ns.new s.heap (.type "frame")).keeps (pushCells_keeps _ _),λb o e=>pushCells_keeps _ _ b o (Ih _ e),Ik _⟩,
    λn c hc=>(ok.empty n c (mem_of_lookup hc)).1,ok.apart,λn c hm=>(ok.empty n c hm).2⟩
   hkind λs' x=>Ic (hQ _ rfl s' x)
 .have e:storeName (newEnv scope s.heap.objs.size globals (cellsFrom (s.heap.objs.size+1) scope.names []++cl) qual func code none builtins) x.1 x.2=storeName (newEnv scope s.heap.objs.size globals (cellsFrom (s.heap.objs.size+1) scope.names []) qual func code none builtins) x.1 x.2:=by
   refine zet rfl rfl rfl ?_;show(cellsFrom (s.heap.objs.size+1) scope.names []++cl).lookup x.1=(cellsFrom (s.heap.objs.size+1) scope.names []).lookup x.1;rw[JD];rcases hkind x hx with h | ⟨_,h⟩
   .rw[hcl x hx h];simp
   .obtain⟨c,hc⟩:=NE.mp h;rw[hc];rfl
  exact IT (λm:Sem Unit=>m >>= λ_=>(pure (ForInStep.yield PUnit.unit):Sem (ForInStep PUnit))) e
end
theorem V8{c:AD}:∀{names:List (Str×NameKind)}{n:Nat}{acc:List (Str×AD)},(y,c)∈cellsFrom n names acc->(y,NameKind.cell)∈names\/(y,c)∈acc
 |[],_,_,h=>.inr h
 |(x,k)::r,n,acc,h=>by
  unfold cellsFrom at h;split at h
  .rename_i hk
   have hk' : k = .cell:=by simpa using hk
   rcases V8 h with a | a
   .exact .inl (Iy _ a)
   .rcases IE.mp a with e | a
    .cases e;rw[hk'];exact .inl ID
    .exact .inr a
  .rcases V8 h with a | a
   .exact .inl (Iy _ a)
   .exact .inr a
structure Y9(fr sc:Scope)(ps loc cap:LB):Prop where
 kind:sc.kind = .function
 co:sc.isCoroutine=false
 gen:sc.isGenerator=false
 par:∀ y∈ps,sc.names.lookup y=some .local\/sc.names.lookup y=some .cell
 free:∀ p∈sc.names,p.2 = .free->fr.names.lookup p.1=some .cell
 caps:∀ y∈cap,(y,NameKind.free)∈sc.names
 capl:∀ y∈cap,sc.names.lookup y=some .free
 nd:(ps++loc++cap).Nodup
 ndn:(sc.names.map (·.1)).Nodup
def Qa(H:Hp)(f:AD)(name q:Str)(params:Arguments)(body:List Stmt)(sc:Scope)(cl:List (Str×AD)):Prop:=∃(doc pm ctv:Value)(c' : AD)(oc:Obj),H f=some (.frz (fnMade name q params body sc cl doc pm c' ctv) (.own f))/\H c'=some (.frz oc (.own c'))/\zdA oc q
def Qa.same{name q:Str}{body:List Stmt}(L:Qa H f name q params body sc cl)(k:∀ b o u,H b=some (.frz o u)->H' b=some (.frz o u)):Qa H' f name q params body sc cl:=let ⟨doc,pm,ctv,c',oc,h1,h2,h3⟩:=L;⟨doc,pm,ctv,c',oc,k _ _ _ h1,k _ _ _ h2,h3⟩
def Qa.fnAt{P:Program}{w:World}{h:Heap}{name q:Str}{body:List Stmt}(ok:HOk P w H h)(L:Qa H f name q params body sc cl):PySem.W.FnAt f h:=by obtain⟨doc,pm,ctv,c',oc,h1,_⟩:=L;obtain⟨ho,_⟩:=ok f _ h1;exact⟨_,_,_,_,ho⟩
noncomputable def zhB(q:Str)(sc:Scope)(L f:AD)(cd:Value)(cl:List (Str×AD)):Env:=PySem.W.envX q sc L f cd (cellsFrom (L+1) sc.names []++cl)
noncomputable def Uz(P:Program)(w:World)(K:FG)(mg:Str->LG)(base:Heap)(N:LB)(q:Str)(sc:Scope)(f c' : AD)(cl:List (Str×AD))(A:Around)(outer:LJ)(s:SH)(H:Hp):Cx where
 prog:=P
 w:=w
 K:=K
 mg:=mg
 base:=base
 A:=A.deeper (zhB q sc s.heap.objs.size f (.ref c') cl)
 N:=N
 s₀:=s
 H₀:=H
 env:=zhB q sc s.heap.objs.size f (.ref c') cl
 outer:=outer
 stack:=zhB q sc s.heap.objs.size f (.ref c') cl::outer
 ex:=[]
 calm:=true
 fn:=λy=>match sc.names.lookup y with | some .free=>false | _=>true
 pn:=[]
 xe:=λ_ _=>False
section
variable {P:Program}{w:World}{K:FG}{mg:Str->LG}{base:Heap}{A:Around}{outer:LJ}{s:SH}{H:Hp}{f:AD}{name q:Str}{params:Arguments}{body:List Stmt}{fr sc:Scope}{cl:List (Str×AD)}{ps loc cap:LB}
def zkk{c' : AD}{vals:St}{s1:SH}(S:Y9 fr sc ps loc cap)(hcap:∀ y,sc.names.lookup y=some .free->∃ c,cl.lookup y=some c)(hclp:∀ y c,cl.lookup y=some c->sc.names.lookup y=some .free)(hd:A.handled=none)(e0:zdQ P w K mg base A outer s H)(hl:vs.length=ps.length)(hv:vals.length=cap.length)(r:Vals vs us)(C:CellsAre s H cl cap vals)(x:InCallC s s.heap.objs.size (bindL (envOfC q sc s.heap.objs.size f (.ref c')).kindOf (ps.zip us) λ_=>none) (cellsFrom (s.heap.objs.size+1) sc.names []) (bindC (envOfC q sc s.heap.objs.size f (.ref c')).kindOf (ps.zip us) λ_=>none) s1):
  Inv (Uz P w K mg base (ps++loc++cap) q sc f c' cl A outer s H) [] (vs.map some++List.replicate loc.length none++vals) H s1:=by
 obtain⟨h1,tk,rfl,hk⟩:=x.done;have noA:∀ b:AD,b∉(Uz P w K mg base (ps++loc++cap) q sc f c' cl A outer s H).ex:=λb z=>absurd (show b∈([]:LH)from z) (by simp);have ndp:ps.Nodup:=(nodup_append.mp (nodup_append.mp S.nd).1).1;have clt:∀ y c,cl.lookup y=some c->c<s.heap.objs.size:=λy c h=>by obtain⟨⟨v,o,ho,_⟩,_⟩:=C.isc y c h;exact IF ho
 have cgt:∀ y c,(cellsFrom (s.heap.objs.size+1) sc.names []).lookup y=some c->s.heap.objs.size<c:=λy c h=>x.above y c (IJ h);have two:∀ y c,(Uz P w K mg base (ps++loc++cap) q sc f c' cl A outer s H).env.cells.lookup y=some c->(cellsFrom (s.heap.objs.size+1) sc.names []).lookup y=some c\/((cellsFrom (s.heap.objs.size+1) sc.names []).lookup y=none/\cl.lookup y=some c):=λy c h=>by
  have h:(cellsFrom (s.heap.objs.size+1) sc.names []++cl).lookup y=some c:=h;rw[JD]at h;cases e:(cellsFrom (s.heap.objs.size+1) sc.names []).lookup y with
  |some c2=>rw[e]at h;exact .inl h
  |none=>rw[e]at h;exact .inr ⟨rfl,by simpa using h⟩
 refine⟨⟨e0.mod,S.kind,rfl,rfl,Ik _,λy z c h1 h2=>?_,λy hy=>?_,λy c hf h=>?_,λ_=>hd,frames_deeper e0.frames,.inr ⟨rfl,rfl⟩,λb z=>absurd z (noA b),e0.bs,e0.bsz,λb _ _=>noA b,λb z=>absurd z (noA b),e0.zdr,e0.frf⟩,
  rfl,e0.bare,Un.kept hk,⟨_,x.toInCall.ns,λi y v h1 h2 h3=>?_⟩,λy c h=>?_,e0.ad.fresh (Ik _),λy c h=>?_,λp hp=>absurd (show p∈([]:List (Addr×Obj))from hp) (by simp),e0.ad.kept hk,?_⟩
 .rcases two y c h1 with a | ⟨_,a⟩ <;> rcases two z c h2 with b | ⟨_,b⟩
  .exact name_of_addr x.apart (IJ a) (IJ b)
  .exact absurd (lt_trans (cgt y c a) (clt z c b)) (OH _)
  .exact absurd (lt_trans (cgt z c b) (clt y c a)) (OH _)
  .exact C.inj y z c a b
 .have hy:sc.names.lookup y=some .cell\/sc.names.lookup y=some .free:=hy;show ∃ c,(cellsFrom (s.heap.objs.size+1) sc.names []++cl).lookup y=some c;rw[JD];rcases hy with hy | hy
  .obtain⟨c,e⟩:=U5 (n:=s.heap.objs.size+1) hy;exact⟨c,by rw[e];rfl⟩
  .obtain⟨c,e⟩:=hcap y hy;cases e2:(cellsFrom (s.heap.objs.size+1) sc.names []).lookup y with
   |some c2=>exact⟨c2,rfl⟩
   |none=>exact⟨c,by rw[e];rfl⟩
 .have hf:(match sc.names.lookup y with | some .free=>false | _=>true)=true:=hf;rcases two y c h with a | ⟨_,a⟩
  .exact Oz (cgt y c a)
  .rw[hclp y c a]at hf;cases hf
 .have h1:(ps++loc++cap)[i]?=some y:=h1;have lr:(List.replicate loc.length (none:Option V)).length=loc.length:=NN;by_cases hi:i<ps.length
  .have hp:ps[i]?=some y:=by rw[IZ,IV hi]at h1;exact h1
   have ha:vs[i]?=some v:=by
    rw[IZ,IV (by rw[Ie];omega),Ij]at h2;cases e:vs[i]? with
    |none=>rw[e]at h2;cases h2
    |some a=>rw[e]at h2;cases h2;rfl
   obtain⟨u,hu,rv⟩:=r.get ha;refine⟨u,rv,?_⟩;rcases S.par y (Iz hp)with k | k
   .exact .inl ⟨k,zaD ndp hp hu k⟩
   .obtain⟨c,e⟩:=U5 (n:=s.heap.objs.size+1) k;refine .inr ⟨.inl k,c,?_,?_⟩
    .show(cellsFrom (s.heap.objs.size+1) sc.names []++cl).lookup y=some c;rw[JD,e];rfl
    .have q':=x.cell y c e;rw[zat ndp hp hu (by show sc.names.lookup y≠_;rw[k];decide)]at q';exact q'
  .by_cases hi2:i<ps.length+loc.length
   .rw[IV (by rw[Ig,Ie,lr];omega),IU (by rw[Ie];omega),List.getElem?_replicate]at h2;split at h2 <;> cases h2
   .have hc:cap[i-(ps++loc).length]?=some y:=by rw[IU (by rw[Ig];omega)]at h1;exact h1
    have ha:vals[i-(ps++loc).length]?=some (some v):=by rw[IU (by rw[Ig,Ie,lr];omega)]at h2;rw[Ig,Ie,lr,hl]at h2;rw[Ig];exact h2
    obtain⟨c,u,e1,e2,rv⟩:=C.val _ y v hc ha;obtain⟨o,ho,hd'⟩:=e2;refine⟨u,rv,.inr ⟨.inr (S.capl y (Iz hc)),c,?_,o,hk _ _ ho,hd'⟩⟩;show(cellsFrom (s.heap.objs.size+1) sc.names []++cl).lookup y=some c;have hn:(cellsFrom (s.heap.objs.size+1) sc.names []).lookup y=none:=by
     cases e3:(cellsFrom (s.heap.objs.size+1) sc.names []).lookup y with
     |none=>rfl
     |some c3=>have:=(V8 (IJ e3)).resolve_right (by simp);have k:=S.capl y (Iz hc);have k2:=lookup_mem S.ndn this;rw[k]at k2;cases k2
    rw[JD,hn,e1];rfl
 .rcases two y c h with a | ⟨_,a⟩
  .exact⟨_,x.cell y c a⟩
  .obtain⟨⟨v,o,ho,hd'⟩,_⟩:=C.isc y c a;exact⟨v,o,hk _ _ ho,hd'⟩
 .rcases two y c h with a | ⟨_,a⟩
  .exact e0.ad.fresh (Oz (cgt y c a))
  .exact(C.isc y c a).2
 .show(vs.map some++List.replicate loc.length none++vals).length=(ps++loc++cap).length;rw[Ig,Ig,Ig,Ig,Ie,NN,hl,hv]
def zgp{k:Nat}{vals:St}{Q:VK}(S:Y9 fr sc ps loc cap)(hcap:∀ y,sc.names.lookup y=some .free->∃ c,cl.lookup y=some c)(hclp:∀ y c,cl.lookup y=some c->sc.names.lookup y=some .free)(hr:Wz (k+1) A)(e0:zdQ P w K mg base A outer s H)(L:Qa H f name q params body sc cl)(C:CellsAre s H cl cap vals)(hbind:∀(doc pm ctv:Value)(c' : AD),bindArgs (PySem.W.fnX name q params body sc cl .none .none doc pm none (.ref c') ctv) ⟨us,[]⟩=pure (ps.zip us))(hl:vs.length=ps.length)(hv:vals.length=cap.length)(r:Vals vs us)(hbody:∀ c',Wz k (A.deeper (zhB q sc s.heap.objs.size f (.ref c') cl))->∃ t,PSs (Uz P w K mg base (ps++loc++cap) q sc f c' cl A outer s H) body t/\t {nx:=λ_ H' => Q .non H',rt:=Q} (vs.map some++List.replicate loc.length none++vals) H):
  codeAny (model P w) A (.call (.ref f) ⟨us,[]⟩) (CR CX0 outer P w H s Q E0) s:=by
 obtain⟨doc,pm,ctv,c',oc,h1,h2,h3⟩:=L;obtain⟨ho,_⟩:=e0.ad f _ h1;have lim:s.heap.NoLimit:=e0.mod.nolimit.keeps λb o e=>(e0.bs b o e).1;refine codeAny_call_function hr.depth ho rfl S.co S.gen rfl (zad e0.ad h2 h3) ?_;rw[hbind doc pm ctv c'];have hkind:∀ y∈ps.zip us,sc.names.lookup y.1=some .local\/(sc.names.lookup y.1=some .cell/\((cellsFrom (s.heap.objs.size+1) sc.names []).lookup y.1).isSome=true):=λ⟨n,v⟩ hy=>by
  rcases S.par n (ON hy).1 with q | q
  .exact .inl q
  .exact .inr ⟨q,cellsFrom_some _ _ _ (.inl q)⟩
 refine Ic (zc5 S.kind hkind (λy hy hloc=>?_) λenv he s1 x=>?_)
 .cases e:cl.lookup y.1 with
  |none=>rfl
  |some c=>rw[hclp _ _ e]at hloc;cases hloc
 subst he;refine⟨lim.keeps x.toInCall.keep,codeAny_func ?_⟩;obtain⟨t,ht,hq⟩:=hbody c' (hr.deeper _);have I:=zkk (f:=f) (q:=q) (c':=c') S hcap hclp hr.hd e0 hl hv r C x;refine NJ (ht [] s1 _ H _ I hq) (λfl s' hs=>?_) λe s' z=>z.elim;have fin:∀{σ' : St}{H' : Hp}{v:V}{u:Value},Inv (Uz P w K mg base (ps++loc++cap) q sc f c' cl A outer s H) [] σ' H' s' -> RelV v u->Q v H' -> CE outer P w H s Q u s' :=λ{σ' H' v u} J rv q=>⟨v,H',J.os,J.bare,J.base,J.ad,rv,q⟩
 cases fl with
 |ret u=>obtain⟨v,σ',H',J,rv,q⟩:=hs;exact fin J rv q
 |next=>obtain⟨σ',H',J,q⟩:=hs;exact fin (v:=V.non) (u:=Value.none) J rfl q
 |brk=>obtain⟨_,_,_,q⟩:=hs;exact False.elim q
 |cont=>obtain⟨_,_,_,q⟩:=hs;exact False.elim q
end
section
variable {X:Cx}{aa:List (Addr×Obj)}{σ:St}{H:Hp}{s:SH}{sc:Scope}{ps loc cap:LB}{P c:AD}{cr:Nat->Nat->Option Str}{name q:Str}{params:Arguments}{body:List Stmt}{pos:Pos}
theorem Y9.cells{fr:Scope}(S:Y9 X.env.scope sc ps loc cap)(ok:X.Ok):∀ p∈sc.names,p.2 = .free->∃ c,X.env.cells.lookup p.1=some c:=λp hp e=>ok.has p.1 (.inl (S.free p hp e))
def Y9.sub(S:Y9 X.env.scope sc ps loc cap)(ok:X.Ok){c:AD}(h:(Jz X.env sc.names []).lookup y=some c):X.env.cells.lookup y=some c:=U8 (S.cells (fr:=sc) ok) (λ_ _ z=>by simp at z) h
theorem zaW{env:Env}{c:AD}:∀{names:List (Str×NameKind)}{acc:List (Str×AD)},(Jz env names acc).lookup y=some c->(y,NameKind.free)∈names\/acc.lookup y=some c
 |[],_,h=>.inr h
 |(x,k)::r,acc,h=>by
  unfold Jz at h;rcases zaW h with a | a
  .exact .inl (Iy _ a)
  .by_cases hk:(k==NameKind.free)=true
   .rw[Iq hk,Oc]at a;by_cases e:(y==x)=true
    .have e' : y=x:=by simpa using e
     have k' : k = .free:=by simpa using hk
     subst e' k';exact .inl ID
    .have e' : (y==x)=false:=by simpa using e
     rw[e']at a;exact .inr a
   .rw[Im hk]at a;exact .inr a
def Inv.cellsOf(I:Inv X aa σ H s)(S:Y9 X.env.scope sc ps loc cap)(hjs:js.map (λj=>X.N[j]?)=cap.map some):CellsAre s H (Jz X.env sc.names []) cap (WK σ js):=by
 have ok:=I.ok;refine⟨λx y c h1 h2=>ok.inj x y c (S.sub ok h1) (S.sub ok h2),λx c h=>⟨I.cell x c (S.sub ok h),I.freeC x c (S.sub ok h)⟩,λi y v e1 e2=>?_⟩;have hy:y∈cap:=Iz e1;unfold WK at e2;rw[Ij]at e2;cases ej:js[i]? with
 |none=>rw[ej]at e2;cases e2
 |some j=>
  rw[ej]at e2;have e2'' : (σ[j]?).join=some v:=Iu e2;have eN:X.N[j]?=some y:=by have:=IT (λl=>l[i]?) hjs;simp only[Ij,ej,e1,map_some]at this;exact Iu this
  have eσ:σ[j]?=some (some v):=by
   cases z:σ[j]? with
   |none=>rw[z]at e2'';cases e2''
   |some w' =>
    rw[z]at e2'';have:w'=some v:=by simpa using e2''
    rw[this]
  have kc:X.env.scope.names.lookup y=some .cell:=S.free (y,.free) (S.caps y hy) rfl;obtain⟨m0,hn0,hl0⟩:=I.loc;obtain⟨u,ru,lk⟩:=hl0 j y v eN eσ (.inr (.inl kc));rcases lk with⟨k,_⟩ | ⟨_,c,ec,hc⟩
  .have k' : X.env.scope.names.lookup y=some .local:=k;rw[kc]at k';cases k'
  .obtain⟨c',hc'⟩:=NE.mp (W7 (env:=X.env) (acc:=[]) (S.caps y hy));have hcc:c'=c:=Iu ((S.sub ok hc').symm.trans ec);subst hcc;exact⟨c',u,hc',hc,ru⟩
def zi2(S:Y9 X.env.scope sc ps loc cap)(hcode:X.env.code = .ref c)(C:CodeHd X.base c P)(hbm:BM X.mg X.base)(hcr:cr pos.line pos.col=some q)(I:Inv X aa σ H s)(hP:H P=some (.tbl cr)){E:Value->SH->Prop}:
  wpAny (model X.prog X.w) X.A (makeFunction name q params (.stmts body) sc X.env [] [] [] pos pos.line) (λv s' => ∃ f H',Inv X aa σ H' s' /\ v=Value.ref f/\H f=none/\ZF H H' /\ Qa H' f name q params body sc (Jz X.env sc.names [])) E s:=by
 obtain⟨tb,hget,ht3,hcodes⟩:=I.ad P _ hP;have hg:s.heap.Ns mainGlobals X.mg:=I.mod.glob.keeps I.bk;have hgP:mainGlobals≠P:=λz=>by obtain⟨o,es,ep,e,hd,_⟩:=hg;rw[z,hget]at e;cases e;cases hd
 have hb:s.heap.BuiltinsAt X.mg P:=by
  obtain⟨bm,ob,b1,b2,b3,b4,b5,b6⟩:=hbm;have e:=I.bk _ _ b3;refine⟨bm,ob,b1,b2,λz=>?_,λz=>?_,e,b4,b5,b6⟩
  .obtain⟨o,es,ep,e',hd,_⟩:=hg;rw[← z,e]at e';cases e';rw[b6]at hd;cases hd
  .rw[z,hget]at e;cases e;cases b4
 have hcl:closureFor sc X.env=pure (Jz X.env sc.names []):=Xr (S.cells (fr:=sc) I.ok);cases hf:codeAmong pos tb.toList with
 |some cv=>obtain⟨c',oc,q',rfl,e2,e3,e4⟩:=hcodes pos cv hf;rw[hcr]at e2;cases e2;refine PySem.W.makeFunction_hit hcl I.ok.glob hg hcode (C.keeps I.bk) hget ht3 hf hb λctv doc h' tk hk hsz=>?_;have hfr:H h'.objs.size=none:=I.ad.fresh hsz;refine⟨h'.objs.size,upd H h'.objs.size (.frz (fnMade name q params body sc (Jz X.env sc.names []) doc ((X.mg "__name__").getD .none) c' ctv) (.own h'.objs.size)),I.laid (t':=tk) (λb u e=>Ih _ (hk b u e)) hsz ⟨Io _ rfl,_,Io _ rfl⟩,rfl,hfr,(λb u e=>by rw[Zr (Zy e hfr)];exact e),⟨_,_,_,c',oc,Zo,?_,e4⟩⟩;rw[Zr (Zy e3 hfr)];exact e3
 |none=>
  refine PySem.W.makeFunction_K hcl I.ok.glob hg hcode (C.keeps I.bk) hget ht3 hf hgP hb λc' ctv doc h' tk hx hge hlt hrec htb=>?_;obtain⟨c2,oc,vs,tt,e2,hoc,hd,hv⟩:=hrec;cases e2;have hcn:H c'=none:=I.ad.fresh hge;have hsz:s.heap.objs.size<=h'.objs.size:=Oz (Nat.lt_of_le_of_lt hge hlt);have hfr:H h'.objs.size=none:=I.ad.fresh hsz;have hcf:c' ≠ h'.objs.size:=IS hlt;have hPc:P≠c':=Zy hP hcn;have hPf:P≠h'.objs.size:=Zy hP hfr;have sm:∀ b u,H b=some u->upd (upd H c' (.frz oc (.own c'))) h'.objs.size (.frz (fnMade name q params body sc (Jz X.env sc.names []) doc ((X.mg "__name__").getD .none) c' ctv) (.own h'.objs.size)) b=some u:=λb u e=>by rw[Zr (Zy e hfr),Zr (Zy e hcn)];exact e
  have cc:upd (upd H c' (.frz oc (.own c'))) h'.objs.size (.frz (fnMade name q params body sc (Jz X.env sc.names []) doc ((X.mg "__name__").getD .none) c' ctv) (.own h'.objs.size)) c'=some (.frz oc (.own c')):=by rw[Zr hcf,Zo]
  have hk:∀ b o,b≠P->s.heap.get? b=some o->(h'.push (fnMade name q params body sc (Jz X.env sc.names []) doc ((X.mg "__name__").getD .none) c' ctv)).get? b=some o:=λb o hb e=>Ih _ (hx b o hb e);refine⟨h'.objs.size,_,I.un (t':=tk) ⟨λb o e n _ _=>hk b o (λz=>by rw[z,hP]at n;cases n) e,λb o e n _ _=>⟨o.slots,hk b o (λz=>by rw[z,hP]at n;cases n) e⟩,λb o e n _=>?_,λb o e _=>?_,λb xs e=>sm b _ e,λb o u e=>sm b _ e,λb r e=>sm b _ e⟩ ?_,rfl,hfr,sm,⟨_,_,_,c',oc,Zo,cc,vs,tt,hd,hv⟩⟩
  .have h1:b≠c':=IS (IA (IF e) hge);have h2:b≠h'.objs.size:=IS (IA (IF e) hsz);rw[Zr h2,Zr h1];exact n
  .by_cases hb:b=P
   .subst hb;exact⟨_,Ih _ htb⟩
   .exact⟨o,hk b o hb e⟩
  .intro b u e;by_cases h1:b=h'.objs.size
   .subst h1;rw[Zo]at e;cases e;exact⟨Io _ rfl,_,Io _ rfl⟩
   .by_cases h2:b=c'
    .subst h2;rw[cc]at e;cases e;exact⟨Ih _ hoc,_,Ih _ hoc⟩
    .rw[Zr h1,Zr h2]at e;by_cases h3:b=P
     .subst h3;rw[hP]at e;cases e;refine⟨_,Ih _ htb,?_,λpos' v e=>?_⟩
      .rw[toList_append];exact TriplesOk_snoc _ _ _ _ ht3
      .rw[toList_append]at e;rcases zbd (pos:=pos) tb.toList ht3 e with e | ⟨e1,e2,rfl⟩
       .obtain⟨d,od,q',z1,z2,z3,z4⟩:=hcodes pos' v e;exact⟨d,od,q',z1,z2,sm _ _ z3,z4⟩
       .exact⟨c',oc,q,rfl,by rw[e1,e2];exact hcr,cc,vs,tt,hd,hv⟩
     .refine(I.ad b u e).stay (λd v hd' e' => hk d v ?_ e') (λd e' => sm d _ e') (λd xs e' => sm d _ e') λd o' u' e' => sm d _ e';rintro rfl;rcases hd' with z | z
      .exact h3 z.symm
      .rw[hP]at z;cases z
def znA(i:Nat)(P:AD)(cr:Nat->Nat->Option Str)(name q:Str)(params:Arguments)(body:List Stmt)(sc:Scope)(cl:List (Str×AD)):TS:=λD σ H=>H P=some (.tbl cr)/\∀ f H',H f=none->ZF H H' -> Qa H' f name q params body sc cl->D.nx (σ.set i (some (.ref f))) H'
def ziX(S:Y9 X.env.scope sc ps loc cap)(hcode:X.env.code = .ref c)(C:CodeHd X.base c P)(hbm:BM X.mg X.base)(hq:q=qualnameIn X.env name name)(hcr:cr pos.line pos.col=some q)(hN:X.N.Nodup)(hi:X.N[i]?=some name)(hx:X.env.scope.names.lookup name=some .local)(hd0:params.defaults=[]:=by rfl)(hk0:params.kw_defaults=[]:=by rfl)(ha:annTrees params none X.env=[]:=by rfl):
  PS X (.FunctionDef name params body [] none [] sc none name pos) (znA i P cr name q params body sc (Jz X.env sc.names [])):=by
 intro aa s σ H D I h;obtain⟨hP,h⟩:=h;refine nestDef_K hd0 hk0 ha ?_;rw[← hq];refine thn (zi2 S hcode C hbm hcr I hP) λv s' ⟨f,H',I',ev,hf,sm,L⟩=>?_;subst ev;exact JZ I' hN hi (.inl hx) (show RelV (.ref f) (.ref f)from rfl) (λs2 I2=>⟨_,H',I2,h f H' hf sm L⟩) (.inr hx)
end
def Kp(H H' : Hp):Prop:=(∀ b xs,H b=some (.tup xs)->H' b=some (.tup xs))/\(∀ b o u,H b=some (.frz o u)->H' b=some (.frz o u))/\∀ b cr,H b=some (.tbl cr)->H' b=some (.tbl cr)
def Kp.refl(H:Hp):Kp H H:=⟨λ_ _ h=>h,λ_ _ _ h=>h,λ_ _ h=>h⟩
def Kp.trans{H1 H2:Hp}(a:Kp H H1)(b:Kp H1 H2):Kp H H2:=⟨λc xs h=>b.1 c xs (a.1 c xs h),λc o u h=>b.2.1 c o u (a.2.1 c o u h),λc r h=>b.2.2 c r (a.2.2 c r h)⟩
def Kp.of{fs:LH}{h h' : Heap}(u:Un fs [] H H' h h'):Kp H H':=⟨u.tups,u.frzs,u.tbls⟩
mutual
noncomputable def noL:PD->Bool
 |.list _=>false
 |.tuple ds=>zgV ds
 |.dict _=>false
 |_=>true
noncomputable def zgV:LA->Bool
 |[]=>true
 |d::r=>noL d&&zgV r
end
def Kp.sqT{K:FG}{q:AD}{xs:LC}(k:Kp H H')(h:SqT K H q xs):SqT K H' q xs:=by
 rcases h with h | h
 .refine .inl ?_;rcases h with h | ⟨o,h⟩
  .exact .inl (k.1 _ _ h)
  .exact .inr ⟨o,k.2.1 _ _ _ h⟩
 .exact .inr h
mutual
theorem Kp.dat{K:FG}(k:Kp H H'):∀(d:PD)(v:V),noL d=true->Dat K H v d->Dat K H' v d
 |.none,v,_,h=>by rw[h.non];exact Q4
 |.bool b,v,_,h=>by rw[h.bl];exact Yc b
 |.int i,v,_,h=>by rw[h.int];exact Zv i
 |.str x,v,_,h=>by rw[h.str];exact XR x
 |.tuple ds,v,n,h=>by obtain⟨q,xs,rfl,hq,hx⟩:=h.tup;exact XX (k.sqT hq) (Kp.zow k ds xs (by unfold noL at n;exact n) hx)
 |.list _,v,n,_=>by unfold noL at n;cases n
 |.dict _,v,n,_=>by unfold noL at n;cases n
theorem Kp.zow{K:FG}(k:Kp H H'):∀(ds:LA)(xs:LC),zgV ds=true->YB K H xs ds->YB K H' xs ds
 |[],xs,_,h=>by rw[h.nil];exact Z9
 |d::r,xs,n,h=>by obtain⟨y,ys,rfl,hy,hr⟩:=h.cons;unfold zgV at n;rw[IR]at n;exact ZV (Kp.dat k d y n.1 hy) (Kp.zow k r ys n.2 hr)
end
def zgw(P:Program)(w:World)(K:FG)(mg:Str->LG)(base:Heap)(k:Nat)(f:AD)(n:Nat)(sp:Sp)(s:SH)(H:Hp):Prop:=
 ∃(name q:Str)(params:Arguments)(body:List Stmt)(sc:Scope)(cl:List (Str×AD))(cap:LB)(vals:St)(H1:Hp),Kp H1 H/\Qa H f name q params body sc cl/\CellsAre s H cl cap vals/\
  ∀(A:Around)(outer:LJ)(s' : SH)(H' : Hp)(us:LF)(vs:LC)(Q:VK),Wz k A->zdQ P w K mg base A outer s' H' -> Kp H1 H' -> Qa H' f name q params body sc cl->CellsAre s' H' cl cap vals->Vals vs us->vs.length=n->sp vs H' Q E0->
   codeAny (model P w) A (.call (.ref f) ⟨us,[]⟩) (CR CX0 outer P w H' s' Q E0) s'
section
variable {P:Program}{w:World}{K:FG}{mg:Str->LG}{base:Heap}{k n:Nat}{f:AD}{sp:Sp}{s s' : SH}{H H' : Hp}
theorem zgw.un{fs:LH}(C:zgw P w K mg base k f n sp s H)(u:Un fs [] H H' s.heap s'.heap):zgw P w K mg base k f n sp s' H' :=
 let ⟨name,q,params,body,sc,cl,cap,vals,H1,h1,h2,h3,h4⟩:=C
 ⟨name,q,params,body,sc,cl,cap,vals,H1,h1.trans (Kp.of u),h2.same u.frzs,h3.un u,h4⟩
theorem zgw.fnAt(C:zgw P w K mg base k f n sp s H)(ok:HOk P w H s.heap):PySem.W.FnAt f s.heap:=
 let ⟨_,_,_,_,_,_,_,_,_,_,h2,_,_⟩:=C
 h2.fnAt ok
def zgw.run{A:Around}{outer:LJ}{Q:VK}(C:zgw P w K mg base k f n sp s H)(hr:Wz k A)(e0:zdQ P w K mg base A outer s H)(r:Vals vs us)(hl:vs.length=n)(hs:sp vs H Q E0):
  codeAny (model P w) A (.call (.ref f) ⟨us,[]⟩) (CR CX0 outer P w H s Q E0) s:=
 let ⟨name,q,params,body,sc,cl,cap,vals,H1,h1,h2,h3,h4⟩:=C
 h4 A outer s H us vs Q hr e0 h1 h2 h3 r hl hs
end
section
variable {X:Cx}{k i n:Nat}{x:Str}{f:AD}{sp:Sp}{e:Expr}{es:List Expr}{t:TA}{p pos:Pos}
def Inv.un0{aa:List (Addr×Obj)}{s:SH}(J:Inv X aa σ H s)(hex:X.ex=[]):Un X.fs [] X.H₀ H X.s₀.heap s.heap:=by have:=J.base;rw[hex]at this;exact this
def zd2(i:Nat)(f:AD)(n:Nat)(sp:Sp)(t:TA):TE:=fun σ H Q=>σ[i]?=some (some (.ref f))/\t σ H λvs H1=>vs.length=n/\sp vs H1 Q E0
def Vn(hN:X.N[i]?=some x)(hv:Vis X.env.scope x)(hr:Wz k X.A)(hex:X.ex=[])(C:zgw X.prog X.w X.K X.mg X.base k f n sp X.s₀ X.H₀)(ha:PA X (e::es) t)(hd:(x==("__debug__" : Str))=false:=by decide)(hcd:(x==("__classdict__" : Str))=false:=by decide)(he:starEach (e::es) X.env=(false,eval e X.env)::starEach es X.env:=by rfl)(hpl:(backTo pos (starEach es X.env)).any (·.1)=false:=by rfl):
  PE X (.Call (.Name x p) (e::es) [] pos) (zd2 i f n sp t):=by
 intro aa s σ H Q I h;obtain⟨eσ,h⟩:=h;refine Nt (thn (zgD hN hv hd hcd aa s σ H (λv H' => v = .ref f/\H'=H) I ⟨_,eσ,rfl,rfl⟩) λu s1 ⟨v,H1,I1,r,ev,eH⟩=>?_);subst ev eH;obtain rfl:u=Value.ref f:=r;refine callWith_F ((C.un (I1.un0 hex)).fnAt I1.ad) (thn (ha pos aa s1 σ H1 _ I1 h) λus s2 ⟨vs,H2,I2,rv,hl,hq⟩=>⟨(C.un (I2.un0 hex)).fnAt I2.ad,?_⟩) he hpl;refine wpAny_call (Ob ((C.un (I2.un0 hex)).run hr I2.env0 rv hl hq) λr s' hq' => ?_);cases r with
 |error e=>exact False.elim hq'
 |ok fl=>
  cases fl with
  |ret u=>exact I2.after hq'
  |next=>exact False.elim hq'
  |brk=>exact False.elim hq'
  |cont=>exact False.elim hq'
def zia{ps:LB}{C:SH->Hp->Prop}(F:zc2 X.prog X.w X.K X.mg X.base k f fd ps (λs vs H Q=>C s H/\sp vs H Q E0))(hC:C X.s₀ X.H₀)(hst:∀ fs s H s' H',Un fs [] H H' s.heap s'.heap->C s H->C s' H')(hex:X.ex=[])(hr:Wz k X.A)(hg:Gl X x)(hm:X.mg x=some (.ref f))(hk:keepIn X.K (.ref f)=true)(hb:Binds X.K fd ps [])(ha:PA X (e::es) t)(hdb:(x==("__debug__" : Str))=false:=by decide)(he:starEach (e::es) X.env=(false,eval e X.env)::starEach es X.env:=by rfl)(hpl:(backTo pos (starEach es X.env)).any (·.1)=false:=by rfl):
  PE X (.Call (.Name x p) (e::es) [] pos) (QM sp [] E0 t):=by
 intro aa s σ H Q I h;refine Nt (zbq I hg hm ?_ hdb);refine callWith_K (h₀:=X.base) I.ok.mod.kin hk (thn (ha pos aa s σ H _ I h) λus s2 ⟨vs,H2,I2,rr,q⟩=>⟨I2.kIn,?_⟩) he hpl;have q:sp (vs++[]) H2 Q E0:=q;rw[NK]at q;have hC2:=hst _ _ _ _ _ (I2.un0 hex) hC;have hl:us.length=ps.length:=by rw[← rr.length];exact F.len _ _ _ _ ⟨hC2,q⟩
 have hb':=hb s2 us I2.kIn (by rw[NK];exact hl);rw[NK]at hb';refine wpAny_call (Ob (F.run X.A X.stack s2 H2 ⟨us,[]⟩ us _ Q hr I2.env0 hb' rr ⟨hC2,q⟩) λr s' hq' => ?_);cases r with
 |error e=>exact False.elim hq'
 |ok fl=>
  cases fl with
  |ret u=>exact I2.after hq'
  |next=>exact False.elim hq'
  |brk=>exact False.elim hq'
  |cont=>exact False.elim hq'
end
section
variable {K:FG}{σ:St}{G:Hp}{d:PD}{i j n:Nat}{f f1 f2:AD}{t:TA}{ta tb:TE}{ds:LA}{R:LA->PD->Prop}
def QH(hi:σ[i]?=some (some (.ref f)))(h:EvA K t σ G ds)(hn:ds.length=n)(hR:R ds d):Ev K (zd2 i f n (spP K R) t) σ G d:=λG1 H s1 s2 Q k=>⟨hi,h G1 H s1 s2 _ λvs G2 H2 g2 hv=>⟨by rw[hv.length];exact hn,G2,ds,d,g2.gh,hv,hR,λv G' H' g hd=>k v G' H' (g2.trans g) hd⟩⟩
def spC(K:FG)(f1 f2:AD)(R:LA->PD->Prop):Sp:=λvs H Q _=>∃(G:Hp)(ds:LA)(d:PD)(xs:LC),vs=xs++[.ref f1,.ref f2]/\ZF G H/\YB K G xs ds/\R ds d/\∀ v G' H',YH G H G' H' -> Dat K G' v d->Q v H'
end
section
variable {X:Cx}{aa:List (Addr×Obj)}{σ:St}{H:Hp}{s:SH}{sc:Scope}{ps loc cap:LB}{name q:Str}{params:Arguments}{body:List Stmt}{f:AD}{k:Nat}{sp:Sp}
def zmG(I:Inv X aa σ H s)(S:Y9 X.env.scope sc ps loc cap)(hjs:js.map (λj=>X.N[j]?)=cap.map some)(L:Qa H f name q params body sc (Jz X.env sc.names []))(hbind:∀(cl:List (Str×AD))(us:LF),us.length=ps.length->∀(doc pm ctv:Value)(c' : AD),bindArgs (PySem.W.fnX name q params body sc cl .none .none doc pm none (.ref c') ctv) ⟨us,[]⟩=pure (ps.zip us))(hbody:∀(A:Around)(outer:LJ)(s' : SH)(H' : Hp)(vs:LC)(Q:VK)(f c' : AD)(cl:List (Str×AD)),Wz k (A.deeper (zhB q sc s'.heap.objs.size f (.ref c') cl))->Kp H H' -> vs.length=ps.length->sp vs H' Q E0->
   ∃ t,PSs (Uz X.prog X.w X.K X.mg X.base (ps++loc++cap) q sc f c' cl A outer s' H') body t/\t {nx:=λ_ H' => Q .non H',rt:=Q} (vs.map some++List.replicate loc.length none++WK σ js) H'):
  zgw X.prog X.w X.K X.mg X.base (k+1) f ps.length sp s H:=by
 have lenJ:js.length=cap.length:=by have:=IT List.length hjs;simpa using this
 refine⟨name,q,params,body,sc,Jz X.env sc.names [],cap,WK σ js,H,Kp.refl H,L,I.cellsOf S hjs,λA outer s' H' us vs Q hr e0 kp L' C' r hl hs=>?_⟩;refine zgp S (λy hy=>?_) (λy c hc=>?_) hr e0 L' C' (hbind _ us (by rw[← r.length];exact hl)) hl (by unfold WK;rw[Ie,lenJ]) r λc' hr' => hbody A outer s' H' vs Q f c' _ hr' kp hl hs
 .exact NE.mp (W7 (env:=X.env) (acc:=[]) (IJ hy))
 .rcases zaW hc with m | m
  .exact lookup_mem S.ndn m
  .cases m
def zjH{e:Expr}{es:List Expr}{t:TA}{p pos:Pos}{x:Str}{g:AD}{C:AD->AD->SH->Hp->Prop}{sp2:AD->AD->St->Sp}{RH:AD->AD->St->Hp->Prop}(F:∀ f1 f2 σ,zc2 X.prog X.w X.K X.mg X.base k g fd ps (λs vs H Q=>C f1 f2 s H/\sp2 f1 f2 σ vs H Q E0))(hC:∀ aa σ H s f1 f2,Inv X aa σ H s->RH f1 f2 σ H->C f1 f2 s H)(hr:Wz k X.A)(hg:Gl X x)(hm:X.mg x=some (.ref g))(hk:keepIn X.K (.ref g)=true)(hb:Binds X.K fd ps [])(ha:PA X (e::es) t)(hdb:(x==("__debug__" : Str))=false:=by decide)(he:starEach (e::es) X.env=(false,eval e X.env)::starEach es X.env:=by rfl)(hpl:(backTo pos (starEach es X.env)).any (·.1)=false:=by rfl):
  PE X (.Call (.Name x p) (e::es) [] pos) (fun σ H Q=>t σ H λvs H1=>∃ f1 f2,RH f1 f2 σ H1/\sp2 f1 f2 σ vs H1 Q E0):=by
 intro aa s σ H Q I h;refine Nt (zbq I hg hm ?_ hdb);refine callWith_K (h₀:=X.base) I.ok.mod.kin hk (thn (ha pos aa s σ H _ I h) λus s2 ⟨vs,H2,I2,rr,f1,f2,q1,q⟩=>⟨I2.kIn,?_⟩) he hpl;have hC2:=hC _ _ _ _ f1 f2 I2 q1;have hl:us.length=ps.length:=by rw[← rr.length];exact(F f1 f2 σ).len _ _ _ _ ⟨hC2,q⟩
 have hb':=hb s2 us I2.kIn (by rw[NK];exact hl);rw[NK]at hb';refine wpAny_call (Ob ((F f1 f2 σ).run X.A X.stack s2 H2 ⟨us,[]⟩ us _ Q hr I2.env0 hb' rr ⟨hC2,q⟩) λr s' hq' => ?_);cases r with
 |error e=>exact False.elim hq'
 |ok fl=>
  cases fl with
  |ret u=>exact I2.after hq'
  |next=>exact False.elim hq'
  |brk=>exact False.elim hq'
  |cont=>exact False.elim hq'
end
end L2
namespace Rdo
open PySem Ord L2 Frac
variable {ae:Str->Prop}{num:Int->Int->Prop}{st1:LB}
def Run.app{st st2:LB}{a b:List Wd}(h:Run ae num st a st1)(k:Run ae num st1 b st2):Run ae num st (a++b) st2:=by
 induction h with
 |nil=>exact k
 |cons s _ ih=>exact .cons s (ih k)
def Step.frame{st:LB}{w:Wd}(r:LB)(h:Ord.Step ae num st w st1):Ord.Step ae num (st++r) w (st1++r):=by
 cases h with
 |field hx=>exact .field hx
 |number hx=>exact .number hx
 |word n1 n2 ho=>rw[IZ];exact .word n1 n2 ho
theorem Run.frame{st:LB}{a:List Wd}(r:LB)(h:Run ae num st a st1):Run ae num (st++r) a (st1++r):=by
 induction h with
 |nil=>exact .nil
 |cons s _ ih=>exact .cons (Step.frame r s) ih
section
variable {ae:Str->Prop}{num:Int->Int->Prop}{a b:List Wd}
def zlX(ha:J9 ae num a)(hb:J9 ae num b):J9 ae num (.t (S "then")::(a++b)):=.cons (st1:=[S "order",S "order"]) (Ord.Step.word (ps:=[S "order",S "order"]) (st:=[]) (by decide +kernel) (by decide +kernel) (by decide +kernel)) (Run.app (Run.frame [S "order"] ha) hb)
def zm6(hb:J9 ae num b):J9 ae num (.t (S "turn")::b):=.cons (st1:=[S "order"]) (Ord.Step.word (ps:=[S "order"]) (st:=[]) (by decide +kernel) (by decide +kernel) (by decide +kernel)) hb
end
end Rdo
namespace Look
open PySem Ord Rdo
variable {ae:Str->Prop}{num:Int->Int->Prop}{st1:LB}
inductive An where
 |ahead
 |like
 |behind
 deriving DecidableEq
noncomputable def An.turn:An->An
 |.ahead=>.behind
 |.like=>.like
 |.behind=>.ahead
noncomputable def An.t:An->Str
 |.ahead=>S "ahead"
 |.like=>S "like"
 |.behind=>S "behind"
noncomputable def An.how:An->Str
 |.ahead=>S "less"
 |.like=>S "same"
 |.behind=>S "more"
inductive Tv where
 |an (a:An)
 |tr (b:Bool)
 |mk (b c:Bool)
 |wd (w:Wd)
noncomputable def Tv.d:Tv->PD
 |.an a=>.str a.t
 |.tr b=>.bool b
 |.mk b c=>.list [.bool b,.bool c]
 |.wd w=>w.d
structure En where
 look:Str->An
 one:Str->Int->Int->An
 two:Str->Int->Int->An
noncomputable def isA(a b:An):Bool:=decide (a=b)
noncomputable def zcS(E:En):Nat->List Tv->Tv
 |0,_=>.an .like
 |1,[.wd (.t z)]=>.an (E.look z)
 |2,[.wd (.t z)]=>.an (E.look z).turn
 |3,[.an a,.an b]=>.an (if a = .like then b else a)
 |4,[.an a]=>.an a.turn
 |5,[.tr c,.an a,.an b]=>.an (if c=true then a else b)
 |6,[.wd (.t z)]=>.tr (isA (E.look z) .like)
 |7,[.mk b c]=>.tr (b&&c)
 |8,[.mk b c]=>.tr (b||c)
 |9,[.tr b]=>.tr (!b)
 |10,[.tr b,.tr c]=>.tr (b&&c)
 |11,[.tr b,.tr c]=>.tr (b||c)
 |12,[.wd (.t z),.wd (.n a b)]=>.mk (isA (E.one z a b) .ahead) (isA (E.two z a b) .ahead)
 |13,[.wd (.t z),.wd (.n a b)]=>.mk (isA (E.one z a b) .like) (isA (E.two z a b) .like)
 |_,_=>.an .like
noncomputable def wix(x:Str):Nat:=zaJ.findIdx λr=>decide (r.1=x)
noncomputable def push(E:En)(w:Wd)(st:List Tv):List Tv:=match w with
 |.n a b=>.wd (.n a b)::st
 |.t x=>match Yr x with
  |some r=>zcS E (wix x) (st.take r.2.2.length)::st.drop r.2.2.length
  |none=>.wd (.t x)::st
noncomputable def ev(E:En):List Wd->List Tv->List Tv
 |[],st=>st
 |w::ws,st=>push E w (ev E ws st)
def zcw(E:En)(a b:List Wd)(st:List Tv):ev E (a++b) st=ev E a (ev E b st):=by
 induction a with
 |nil=>rfl
 |cons w a ih=>show push E w (ev E (a++b) st)=_;rw[ih];rfl
def Ty(ae:Str->Prop)(num:Int->Int->Prop)(p:Str)(v:Tv):Prop:=(p=S "order" /\ ∃ a,v = .an a)\/(p=S "case" /\ ∃ b,v = .tr b)\/(p=S "mark" /\ ∃ b c,v = .mk b c)\/(p=S "field" /\ ∃ z,ae z/\v = .wd (.t z))\/(p=S "number" /\ ∃ a b,num a b/\v = .wd (.n a b))
def Vr:(S "order" ≠ S "case" /\ S "order" ≠ S "mark" /\ S "order" ≠ S "field" /\ S "order" ≠ S "number")/\(S "case" ≠ S "mark" /\ S "case" ≠ S "field" /\ S "case" ≠ S "number")/\(S "mark" ≠ S "field" /\ S "mark" ≠ S "number")/\S "field" ≠ S "number" := by decide +kernel
theorem Ty.order{v:Tv}(h:Ty ae num (S "order") v):∃ a,v = .an a:=by
 obtain⟨⟨n1,n2,n3,n4⟩,_⟩:=Vr;rcases h with⟨_,h⟩ | ⟨e,_⟩ | ⟨e,_⟩ | ⟨e,_⟩ | ⟨e,_⟩
 .exact h
 .exact absurd e n1
 .exact absurd e n2
 .exact absurd e n3
 .exact absurd e n4
theorem Ty.case{v:Tv}(h:Ty ae num (S "case") v):∃ b,v = .tr b:=by
 obtain⟨⟨n1,n2,n3,n4⟩,⟨m1,m2,m3⟩,_⟩:=Vr;rcases h with⟨e,_⟩ | ⟨_,h⟩ | ⟨e,_⟩ | ⟨e,_⟩ | ⟨e,_⟩
 .exact absurd e.symm n1
 .exact h
 .exact absurd e m1
 .exact absurd e m2
 .exact absurd e m3
theorem Ty.mark{v:Tv}(h:Ty ae num (S "mark") v):∃ b c,v = .mk b c:=by
 obtain⟨⟨n1,n2,n3,n4⟩,⟨m1,m2,m3⟩,⟨k1,k2⟩,_⟩:=Vr;rcases h with⟨e,_⟩ | ⟨e,_⟩ | ⟨_,h⟩ | ⟨e,_⟩ | ⟨e,_⟩
 .exact absurd e.symm n2
 .exact absurd e.symm m1
 .exact h
 .exact absurd e k1
 .exact absurd e k2
theorem Ty.field{v:Tv}(h:Ty ae num (S "field") v):∃ z,ae z/\v = .wd (.t z):=by
 obtain⟨⟨n1,n2,n3,n4⟩,⟨m1,m2,m3⟩,⟨k1,k2⟩,l1⟩:=Vr;rcases h with⟨e,_⟩ | ⟨e,_⟩ | ⟨e,_⟩ | ⟨_,h⟩ | ⟨e,_⟩
 .exact absurd e.symm n3
 .exact absurd e.symm m2
 .exact absurd e.symm k1
 .exact h
 .exact absurd e l1
theorem Ty.number{v:Tv}(h:Ty ae num (S "number") v):∃ a b,num a b/\v = .wd (.n a b):=by
 obtain⟨⟨n1,n2,n3,n4⟩,⟨m1,m2,m3⟩,⟨k1,k2⟩,l1⟩:=Vr;rcases h with⟨e,_⟩ | ⟨e,_⟩ | ⟨e,_⟩ | ⟨e,_⟩ | ⟨_,h⟩
 .exact absurd e.symm n4
 .exact absurd e.symm m3
 .exact absurd e.symm k2
 .exact absurd e.symm l1
 .exact h
inductive Tys(ae:Str->Prop)(num:Int->Int->Prop):LB->List Tv->Prop
 |nil:Tys ae num [] []
 |cons {p:Str}{v:Tv}{ps:LB}{vs:List Tv}:Ty ae num p v->Tys ae num ps vs->Tys ae num (p::ps) (v::vs)
def ziK{x:Str}{want:Str}{ps:LB}(h:Yr x=some (x,want,ps)):
  (x=S "like" /\ want=S "order" /\ ps=[])\/(x=S "up" /\ want=S "order" /\ ps=[S "field"])\/(x=S "down" /\ want=S "order" /\ ps=[S "field"])\/(x=S "then" /\ want=S "order" /\ ps=[S "order",S "order"])\/
  (x=S "turn" /\ want=S "order" /\ ps=[S "order"])\/(x=S "pick" /\ want=S "order" /\ ps=[S "case",S "order",S "order"])\/(x=S "same" /\ want=S "case" /\ ps=[S "field"])\/(x=S "both" /\ want=S "case" /\ ps=[S "mark"])\/
  (x=S "either" /\ want=S "case" /\ ps=[S "mark"])\/(x=S "not" /\ want=S "case" /\ ps=[S "case"])\/(x=S "and" /\ want=S "case" /\ ps=[S "case",S "case"])\/(x=S "or" /\ want=S "case" /\ ps=[S "case",S "case"])\/
  (x=S "under" /\ want=S "mark" /\ ps=[S "field",S "number"])\/(x=S "is" /\ want=S "mark" /\ ps=[S "field",S "number"]):=by
 have m:=(zcm h).1;unfold zaJ at m;simp only[IE,Nz,Od,Prod.mk.injEq]at m;exact m
def WN:wix (S "like")=0/\wix (S "up")=1/\wix (S "down")=2/\wix (S "then")=3/\wix (S "turn")=4/\wix (S "pick")=5/\wix (S "same")=6/\wix (S "both")=7/\wix (S "either")=8/\wix (S "not")=9/\wix (S "and")=10/\wix (S "or")=11/\wix (S "under")=12/\wix (S "is")=13:=by decide +kernel
def go1{us:List Tv}{p:Str}(h:Tys ae num [p] us):∃ v,us=[v]/\Ty ae num p v:=by cases h with | cons a b=>cases b;exact⟨_,rfl,a⟩
def go2{us:List Tv}{p q:Str}(h:Tys ae num [p,q] us):∃ v u,us=[v,u]/\Ty ae num p v/\Ty ae num q u:=by cases h with | cons a b=>obtain⟨u,rfl,c⟩:=go1 b;exact⟨_,u,rfl,a,c⟩
def go3{us:List Tv}{p q r:Str}(h:Tys ae num [p,q,r] us):∃ v u t,us=[v,u,t]/\Ty ae num p v/\Ty ae num q u/\Ty ae num r t:=by cases h with | cons a b=>obtain⟨u,t,rfl,c,d⟩:=go2 b;exact⟨_,u,t,rfl,a,c,d⟩
def zml{E:En}{x want:Str}{ps:LB}{vs:List Tv}(h:Yr x=some (x,want,ps))(hv:Tys ae num ps vs):Ty ae num want (zcS E (wix x) vs):=by
 obtain⟨w0,w1,w2,w3,w4,w5,w6,w7,w8,w9,w10,w11,w12,w13⟩:=WN;rcases ziK h with q | q | q | q | q | q | q | q | q | q | q | q | q | q
 .rw[q.2.1,q.1,w0];exact .inl ⟨rfl,_,rfl⟩
 .obtain⟨v,e,h1⟩:=go1 (q.2.2 ▸ hv);obtain⟨z,_,e1⟩:=h1.field;rw[q.2.1,q.1,w1,e,e1];exact .inl ⟨rfl,_,rfl⟩
 .obtain⟨v,e,h1⟩:=go1 (q.2.2 ▸ hv);obtain⟨z,_,e1⟩:=h1.field;rw[q.2.1,q.1,w2,e,e1];exact .inl ⟨rfl,_,rfl⟩
 .obtain⟨v,u,e,h1,h2⟩:=go2 (q.2.2 ▸ hv);obtain⟨a,e1⟩:=h1.order;obtain⟨b,e2⟩:=h2.order;rw[q.2.1,q.1,w3,e,e1,e2];exact .inl ⟨rfl,_,rfl⟩
 .obtain⟨v,e,h1⟩:=go1 (q.2.2 ▸ hv);obtain⟨a,e1⟩:=h1.order;rw[q.2.1,q.1,w4,e,e1];exact .inl ⟨rfl,_,rfl⟩
 .obtain⟨v,u,t,e,h1,h2,h3⟩:=go3 (q.2.2 ▸ hv);obtain⟨a,e1⟩:=h1.case;obtain⟨b,e2⟩:=h2.order;obtain⟨c,e3⟩:=h3.order;rw[q.2.1,q.1,w5,e,e1,e2,e3];exact .inl ⟨rfl,_,rfl⟩
 .obtain⟨v,e,h1⟩:=go1 (q.2.2 ▸ hv);obtain⟨z,_,e1⟩:=h1.field;rw[q.2.1,q.1,w6,e,e1];exact .inr (.inl ⟨rfl,_,rfl⟩)
 .obtain⟨v,e,h1⟩:=go1 (q.2.2 ▸ hv);obtain⟨a,b,e1⟩:=h1.mark;rw[q.2.1,q.1,w7,e,e1];exact .inr (.inl ⟨rfl,_,rfl⟩)
 .obtain⟨v,e,h1⟩:=go1 (q.2.2 ▸ hv);obtain⟨a,b,e1⟩:=h1.mark;rw[q.2.1,q.1,w8,e,e1];exact .inr (.inl ⟨rfl,_,rfl⟩)
 .obtain⟨v,e,h1⟩:=go1 (q.2.2 ▸ hv);obtain⟨a,e1⟩:=h1.case;rw[q.2.1,q.1,w9,e,e1];exact .inr (.inl ⟨rfl,_,rfl⟩)
 .obtain⟨v,u,e,h1,h2⟩:=go2 (q.2.2 ▸ hv);obtain⟨a,e1⟩:=h1.case;obtain⟨b,e2⟩:=h2.case;rw[q.2.1,q.1,w10,e,e1,e2];exact .inr (.inl ⟨rfl,_,rfl⟩)
 .obtain⟨v,u,e,h1,h2⟩:=go2 (q.2.2 ▸ hv);obtain⟨a,e1⟩:=h1.case;obtain⟨b,e2⟩:=h2.case;rw[q.2.1,q.1,w11,e,e1,e2];exact .inr (.inl ⟨rfl,_,rfl⟩)
 .obtain⟨v,u,e,h1,h2⟩:=go2 (q.2.2 ▸ hv);obtain⟨z,_,e1⟩:=h1.field;obtain⟨a,b,_,e2⟩:=h2.number;rw[q.2.1,q.1,w12,e,e1,e2];exact .inr (.inr (.inl ⟨rfl,_,_,rfl⟩))
 .obtain⟨v,u,e,h1,h2⟩:=go2 (q.2.2 ▸ hv);obtain⟨z,_,e1⟩:=h1.field;obtain⟨a,b,_,e2⟩:=h2.number;rw[q.2.1,q.1,w13,e,e1,e2];exact .inr (.inr (.inl ⟨rfl,_,_,rfl⟩))
theorem zaG{st:LB}:∀{ps:LB}{vs:List Tv},Tys ae num (ps++st) vs->Tys ae num ps (vs.take ps.length)/\Tys ae num st (vs.drop ps.length)
 |[],vs,h=>⟨.nil,h⟩
 |p::ps,vs,h=>by
  cases h with
  |cons a b=>obtain⟨h1,h2⟩:=zaG b;exact⟨.cons a h1,h2⟩
theorem Tys.length :∀{ps:LB}{vs:List Tv},Tys ae num ps vs->ps.length=vs.length
 |_,_,.nil=>rfl
 |_,_,.cons _ b=>IT (· + 1) (Tys.length b)
abbrev Kinds(st:LB):Prop:=∀ x∈st,x∈[S "order",S "case",S "mark",S "field",S "number"]
def zjf{E:En}(hf:∀ z,ae z->Yr z=none){st:LB}{w:Wd}{vs:List Tv}(h:Ord.Step ae num st w st1)(hs:Kinds st)(hv:Tys ae num st1 vs):
  Tys ae num st (push E w vs)/\∀ R,push E w (vs++R)=push E w vs++R:=by
 rcases zac h hs with⟨x,st0,rfl,rfl,hx,rfl⟩ | ⟨a,b,st0,rfl,rfl,hx,rfl⟩ | ⟨want,x,ps,st0,rfl,rfl,n1,n2,hw,hl,rfl⟩
 .have e:∀ us,push E (.t x) us = .wd (.t x)::us:=λus=>by unfold push;dsimp only;rw[hf x hx]
  rw[e];exact⟨.cons (.inr (.inr (.inr (.inl ⟨rfl,x,hx,rfl⟩)))) hv,λR=>by rw[e];rfl⟩
 .exact⟨.cons (.inr (.inr (.inr (.inr ⟨rfl,a,b,hx,rfl⟩)))) hv,λR=>rfl⟩
 .have e:∀ us,push E (.t x) us=zcS E (wix x) (us.take ps.length)::us.drop ps.length:=λus=>by unfold push;dsimp only;rw[hw]
  rw[e];obtain⟨h1,h2⟩:=zaG hv;have hlen:=hv.length;rw[Ig]at hlen;refine⟨.cons (zml hw h1) h2,λR=>?_⟩;rw[e,List.take_append_of_le_length (by omega),List.drop_append_of_le_length (by omega)];rfl
def VJ{st:LB}{w:Wd}(h:Ord.Step ae num st w st1)(hs:Kinds st):Kinds st1:=by
 rcases zac h hs with⟨x,st0,rfl,rfl,hx,rfl⟩ | ⟨a,b,st0,rfl,rfl,hx,rfl⟩ | ⟨want,x,ps,st0,rfl,rfl,n1,n2,hw,hl,rfl⟩
 .exact λp hp=>hs p (Iy _ hp)
 .exact λp hp=>hs p (Iy _ hp)
 .intro p hp;rcases Nq.mp hp with hp | hp
  .have key:∀ r∈zaJ,∀ p∈r.2.2,p∈[S "order",S "case",S "mark",S "field",S "number"]:=by decide +kernel
   exact key _ (zcm hw).1 p hp
  .exact hs p (Iy _ hp)
def zm7{E:En}(hf:∀ z,ae z->Yr z=none){st:LB}{ws:List Wd}(h:Run ae num st ws st1):Kinds st->∀{vs:List Tv},Tys ae num st1 vs->
  Tys ae num st (ev E ws vs)/\∀ R,ev E ws (vs++R)=ev E ws vs++R:=by
 induction h with
 |nil=>intro _ vs hv;exact⟨hv,λR=>rfl⟩
 |cons a b ih=>intro hs vs hv;obtain⟨h1,h2⟩:=ih (VJ a hs) hv;obtain⟨h3,h4⟩:=zjf (E:=E) hf a hs h1;exact⟨h3,λR=>by show push E _ (ev E _ (vs++R))=_;rw[h2,h4];rfl⟩
def zgK:Kinds [S "order"]:=λx hx=>by rw[IH.mp hx];exact ID
def zg6(E:En)(hf:∀ z,ae z->Yr z=none){ws:List Wd}(h:J9 ae num ws):∃ a,∀ R,ev E ws R = .an a::R:=by
 obtain⟨h1,h2⟩:=zm7 (E:=E) hf h zgK (vs:=[]) .nil;cases hc:ev E ws []with
 |nil=>rw[hc]at h1;cases h1
 |cons v r=>
  rw[hc]at h1;cases h1 with
  |cons x y=>cases y;obtain⟨a,rfl⟩:=x.order;refine⟨a,λR=>?_⟩;have:=h2 R;rw[nil_append]at this;rw[this,hc];rfl
def zhC(a:An):isA a.turn .like=isA a .like:=by cases a <;> rfl
noncomputable def hsA(a b:Int×Int):An:=if a.1*b.2<b.1*a.2 then .ahead else if a.1*b.2>b.1*a.2 then .behind else .like
def U0(a b:Int×Int):hsA b a=(hsA a b).turn:=by
 unfold hsA;generalize a.1*b.2=x;generalize b.1*a.2=y;by_cases h1:x<y
 .have n1:¬ y<x:=by omega
  simp only[h1,n1,gt_iff_lt,Oj,Nf];rfl
 .by_cases h2:y<x
  .simp only[h1,h2,gt_iff_lt,Oj,Nf];rfl
  .simp only[h1,h2,gt_iff_lt,Nf];rfl
noncomputable def zdm(book:LB)(f g:List (Int×Int)):En where
 look z:=hsA (f.getD (book.idxOf z) (0,1)) (g.getD (book.idxOf z) (0,1))
 one z a b:=hsA (f.getD (book.idxOf z) (0,1)) (a,b)
 two z a b:=hsA (g.getD (book.idxOf z) (0,1)) (a,b)
end Look
namespace L2
open PySem PySem.Spec PyProof.Rows
noncomputable def zco:List DictEntry->List (Str×Str)->Bool
 |[],[]=>true
 |e::es,r::rs=>(match e.key,e.val with
  |.str x _,.str v _=>x==r.1&&v==r.2
  |_,_=>false)&&zco es rs
 |_,_=>false
def ziy{e:DictEntry}{r:Str×Str}(h:(match e.key,e.val with
  |.str x _,.str v _=>x==r.1&&v==r.2
  |_,_=>false)=true):(∃ t,e.key = .str r.1 t)/\∃ t,e.val = .str r.2 t:=by
 split at h
 .rename_i x t v u h1 h2
  rw[IR,beq_iff_eq,beq_iff_eq]at h;obtain⟨rfl,rfl⟩:=h;exact⟨⟨t,h1⟩,u,h2⟩
 .cases h
theorem zbx(z:Str):∀{es:List DictEntry}{rs:List (Str×Str)},zco es rs=true->
  (es.find? (·.key.isStr z)=none/\rs.find? (λr=>decide (r.1=z))=none)\/∃ e r,es.find? (·.key.isStr z)=some e/\rs.find? (λr=>decide (r.1=z))=some r/\∃ t,e.val = .str r.2 t
 |[],[],_=>.inl ⟨rfl,rfl⟩
 |[],_::_,h=>by cases h
 |_::_,[],h=>by cases h
 |e::es,r::rs,h=>by
  unfold zco at h;rw[IR]at h;obtain⟨⟨t,hk⟩,hv⟩:=ziy h.1;have q:e.key.isStr z=decide (r.1=z):=by rw[hk];exact zca
  rw[OO,OO,q];by_cases hz:r.1=z
  .rw[Ip hz];exact .inr ⟨e,r,rfl,rfl,hv⟩
  .rw[Iw hz];exact zbx z h.2
theorem zdB:∀{es:List DictEntry}{rs:List (Str×Str)},zco es rs=true->es.any (·.refKey)=false
 |[],[],_=>rfl
 |[],_::_,h=>by cases h
 |_::_,[],h=>by cases h
 |e::es,r::rs,h=>by unfold zco at h;rw[IR]at h;obtain⟨⟨t,hk⟩,_⟩:=ziy h.1;rw[any_cons,zdB h.2,Bool.or_false];unfold DictEntry.refKey;rw[hk]
structure Txs(K:FG)(P:Params)(mg:Str->LG)(x:Str)(rs:List (Str×Str)) where
 a:AD
 g:Str->Option (V×Value)
 m:mg x=some (.ref a)
 D:zb0 K P a g
 yes:∀ z v,rs.find? (λr=>decide (r.1=z))=some (z,v)->∃ u,g z=some (.str v,u)
def ziD{K:FG}{P:Params}{mg:Str->LG}{x:Str}{a:AD}{es:Array DictEntry}{n:Nat}{rs:List (Str×Str)}(hm:mg x=some (.ref a))(hl:K.lookup a=some ⟨.type "dict",none,.dict es n,#[]⟩)(hk:KeysLit P es.toList)(lo:(a==sysModules)=false)(h:zco es.toList rs=true):Nonempty (Txs K P mg x rs):=by
 refine⟨⟨a,gOf es.toList,hm,⟨⟨es,n,hl,hk⟩,lo,λx=>?_,λx v u e=>?_⟩,λz v e=>?_⟩⟩
 .unfold PySem.W.nsIn;rw[hl];dsimp only;unfold gOf;rcases zbx x h with⟨e1,_⟩ | ⟨e,r,e1,_,_⟩
  .rw[e1,zdB h];rfl
  .rw[e1];rfl
 .unfold gOf at e;rcases zbx x h with⟨e1,_⟩ | ⟨e',r,e1,_,t,ht⟩
  .rw[e1]at e;cases e
  .rw[e1]at e;rw[map_some]at e;injection e with e;injection e with e1 e2;subst e1 e2;rw[ht];exact⟨t,rfl⟩
 .rcases zbx z h with⟨_,e2⟩ | ⟨e',r,e1,e2,t,ht⟩
  .rw[e2]at e;cases e
  .rw[e2]at e;injection e with e;subst e;refine⟨e'.val,?_⟩;unfold gOf;rw[e1,map_some,ht];rfl
end L2
namespace Look
open PySem Ord Rdo
variable {x:Str}
def Vg:Yr (S "like")=some (S "like",S "order",[])/\Yr (S "turn")=some (S "turn",S "order",[S "order"])/\Yr (S "then")=some (S "then",S "order",[S "order",S "order"])/\Yr (S "pick")=some (S "pick",S "order",[S "case",S "order",S "order"])/\Yr (S "not")=some (S "not",S "case",[S "case"])/\
  Yr (S "up")=some (S "up",S "order",[S "field"])/\Yr (S "down")=some (S "down",S "order",[S "field"]):=by decide +kernel
def Jm{E:En}{r:Str×Str×LB}(h:Yr x=some r)(st:List Tv):push E (.t x) st=zcS E (wix x) (st.take r.2.2.length)::st.drop r.2.2.length:=by unfold push;dsimp only;rw[h]
section
variable {E:En}{one other cs:List Wd}{a b:An}{c:Bool}
def zjj(R:List Tv):ev E [.t (S "like")] R = .an .like::R:=by show push E (.t (S "like")) R=_;rw[Jm Vg.1,WN.1];rfl
def zkV(h:∀ R,ev E one R = .an a::R)(R:List Tv):ev E (.t (S "turn")::one) R = .an a.turn::R:=by show push E (.t (S "turn")) (ev E one R)=_;rw[h,Jm Vg.2.1,WN.2.2.2.2.1];rfl
def zjn(h:∀ R,ev E one R = .an a::R)(h' : ∀ R,ev E other R = .an b::R)(R:List Tv):ev E (.t (S "then")::(one++other)) R = .an (if a = .like then b else a)::R:=by show push E (.t (S "then")) (ev E (one++other) R)=_;rw[zcw,h',h,Jm Vg.2.2.1,WN.2.2.2.1];rfl
def zku(hc:∀ R,ev E cs R = .tr c::R)(h:∀ R,ev E one R = .an a::R)(h' : ∀ R,ev E other R = .an b::R)(R:List Tv):ev E (.t (S "pick")::(cs++(one++other))) R = .an (if c=true then a else b)::R:=by show push E (.t (S "pick")) (ev E (cs++(one++other)) R)=_;rw[zcw,zcw,h',h,hc,Jm Vg.2.2.2.1,WN.2.2.2.2.2.1];rfl
def zk9(hc:∀ R,ev E cs R = .tr c::R)(R:List Tv):ev E (.t (S "not")::cs) R = .tr (!c)::R:=by show push E (.t (S "not")) (ev E cs R)=_;rw[hc,Jm Vg.2.2.2.2.1,WN.2.2.2.2.2.2.2.2.2.1];rfl
end
section
variable {ae:Str->Prop}{num:Int->Int->Prop}{a b cs:List Wd}
abbrev JK(ae:Str->Prop)(num:Int->Int->Prop)(ws:List Wd):Prop:=Run ae num [S "case"] ws []
abbrev zdL(ae:Str->Prop)(num:Int->Int->Prop)(ws:List Wd):Prop:=Run ae num [S "mark"] ws []
def zl2:J9 ae num [.t (S "like")]:=.cons (st1:=[]) (Ord.Step.word (ps:=[]) (st:=[]) (by decide +kernel) (by decide +kernel) (by decide +kernel)) .nil
def zo1(hx:ae x):J9 ae num [.t (S "up"),.t x]:=.cons (st1:=[S "field"]) (Ord.Step.word (ps:=[S "field"]) (st:=[]) (by decide +kernel) (by decide +kernel) (by decide +kernel)) (.cons (Ord.Step.field hx) .nil)
def zm3(hx:ae x):J9 ae num [.t (S "down"),.t x]:=.cons (st1:=[S "field"]) (Ord.Step.word (ps:=[S "field"]) (st:=[]) (by decide +kernel) (by decide +kernel) (by decide +kernel)) (.cons (Ord.Step.field hx) .nil)
def zjE(hc:JK ae num cs)(ha:J9 ae num a)(hb:J9 ae num b):J9 ae num (.t (S "pick")::(cs++(a++b))):=
 .cons (st1:=[S "case",S "order",S "order"]) (Ord.Step.word (ps:=[S "case",S "order",S "order"]) (st:=[]) (by decide +kernel) (by decide +kernel) (by decide +kernel))
  (Run.app (Run.frame [S "order",S "order"] hc) (Run.app (Run.frame [S "order"] ha) hb))
def znL(hc:JK ae num cs):JK ae num (.t (S "not")::cs):=.cons (st1:=[S "case"]) (Ord.Step.word (ps:=[S "case"]) (st:=[]) (by decide +kernel) (by decide +kernel) (by decide +kernel)) hc
def zlT(hx:ae x):JK ae num [.t (S "same"),.t x]:=.cons (st1:=[S "field"]) (Ord.Step.word (ps:=[S "field"]) (st:=[]) (by decide +kernel) (by decide +kernel) (by decide +kernel)) (.cons (Ord.Step.field hx) .nil)
def zmb(hm:zdL ae num cs):JK ae num (.t (S "both")::cs):=.cons (st1:=[S "mark"]) (Ord.Step.word (ps:=[S "mark"]) (st:=[]) (by decide +kernel) (by decide +kernel) (by decide +kernel)) hm
def zh3(hm:zdL ae num cs):JK ae num (.t (S "either")::cs):=.cons (st1:=[S "mark"]) (Ord.Step.word (ps:=[S "mark"]) (st:=[]) (by decide +kernel) (by decide +kernel) (by decide +kernel)) hm
def zoo(ha:JK ae num a)(hb:JK ae num b):JK ae num (.t (S "and")::(a++b)):=.cons (st1:=[S "case",S "case"]) (Ord.Step.word (ps:=[S "case",S "case"]) (st:=[]) (by decide +kernel) (by decide +kernel) (by decide +kernel)) (Run.app (Run.frame [S "case"] ha) hb)
def zoT(ha:JK ae num a)(hb:JK ae num b):JK ae num (.t (S "or")::(a++b)):=.cons (st1:=[S "case",S "case"]) (Ord.Step.word (ps:=[S "case",S "case"]) (st:=[]) (by decide +kernel) (by decide +kernel) (by decide +kernel)) (Run.app (Run.frame [S "case"] ha) hb)
def zn8{m:Str}{p q:Int}(hm:m=S "under" \/ m=S "is")(hx:ae x)(hn:num p q):zdL ae num [.t m,.t x,.n p q]:=.cons (st1:=[S "field",S "number"]) (Ord.Step.word (ps:=[S "field",S "number"]) (st:=[]) (by decide +kernel) (by decide +kernel) (by rcases hm with rfl | rfl <;> decide +kernel)) (.cons (Ord.Step.field hx) (.cons (Ord.Step.number hn) .nil))
end
section
variable {E:En}
def zn4(hx:Yr x=none)(R:List Tv):ev E [.t (S "up"),.t x] R = .an (E.look x)::R:=by
 show push E (.t (S "up")) (push E (.t x) R)=_;have e:push E (.t x) R = .wd (.t x)::R:=by unfold push;dsimp only;rw[hx]
 rw[e,Jm Vg.2.2.2.2.2.1,WN.2.1];rfl
def zko(hx:Yr x=none)(R:List Tv):ev E [.t (S "down"),.t x] R = .an (E.look x).turn::R:=by
 show push E (.t (S "down")) (push E (.t x) R)=_;have e:push E (.t x) R = .wd (.t x)::R:=by unfold push;dsimp only;rw[hx]
 rw[e,Jm Vg.2.2.2.2.2.2,WN.2.2.1];rfl
end
def zkE{a b:An}:a.t=b.t↔a=b:=by
 constructor
 .intro h;have k:∀ a b:An,a.t=b.t->a=b:=by intro a b;cases a <;> cases b <;> decide +kernel
  exact k a b h
 .rintro rfl;rfl
abbrev Fs:=List (Int×Int)
noncomputable def Wq(book:LB)(ws:List Wd)(f g:Fs):An:=match ev (zdm book f g) ws []with
 |.an a::_=>a
 |_=>.like
def zhZ{ae:Str->Prop}{num:Int->Int->Prop}{book:LB}{ws:List Wd}(f g:Fs)(hf:∀ z,ae z->Yr z=none)(h:J9 ae num ws):∀ R,ev (zdm book f g) ws R = .an (Wq book ws f g)::R:=by
 obtain⟨a,ha⟩:=zg6 (zdm book f g) hf h;have e:Wq book ws f g=a:=by unfold Wq;rw[ha []]
 rw[e];exact ha
def zhq{book:LB}{ws:List Wd}{f g:Fs}{a:An}(h:∀ R,ev (zdm book f g) ws R = .an a::R):Wq book ws f g=a:=by unfold Wq;rw[h []]
noncomputable def zaZ(i j:Nat):An:=if i<j then .ahead else if i>j then .behind else .like
noncomputable def rk(L:Fs->Fs->An)(gs:List Fs)(f:Fs):Nat:=gs.countP λg=>decide (L f g = .behind)
noncomputable def agree(L:Fs->Fs->An)(gs:List Fs):Bool:=gs.all λf=>gs.all λg=>decide (L f g=zaZ (rk L gs f) (rk L gs g))
structure Wk(L:Fs->Fs->An)(D:Fs->Prop):Prop where
 anti:∀ f g,D f->D g->L g f=(L f g).turn
 trans:∀ f g h,D f->D g->D h->L f g≠.behind->L g h≠.behind->L f h≠.behind
def zc7{a:An}(h:a.turn = .behind):a = .ahead:=by cases a <;> first | rfl | cases h
def Wk.self{L:Fs->Fs->An}{D:Fs->Prop}(w:Wk L D){f:Fs}(hf:D f):L f f = .like:=by
 have:=w.anti f f hf hf;cases e:L f f with
 |like=>rfl
 |ahead=>rw[e]at this;cases this
 |behind=>rw[e]at this;cases this
def Wk.sub{L:Fs->Fs->An}{D D' : Fs->Prop}(w:Wk L D)(h:∀ f,D' f->D f):Wk L D':=⟨λf g a b=>w.anti f g (h f a) (h g b),λf g k a b c=>w.trans f g k (h f a) (h g b) (h k c)⟩
def Wk.zhK{L:Fs->Fs->An}{D:Fs->Prop}(w:Wk L D){f g h:Fs}(hf:D f)(hg:D g)(hh:D h)(a:L f g = .ahead)(b:L g h≠.behind):L f h = .ahead:=by
 have n1:L f h≠.behind:=w.trans f g h hf hg hh (by rw[a];decide) b;cases e:L f h with
 |ahead=>rfl
 |behind=>exact absurd e n1
 |like=>
  have e2:L h f = .like:=by rw[w.anti f h hf hh,e];rfl
  have:=w.trans g h f hg hh hf b (by rw[e2];decide);have e3:L g f = .behind:=by rw[w.anti f g hf hg,a];rfl
  exact absurd e3 this
def Wk.zni{L:Fs->Fs->An}{D:Fs->Prop}(w:Wk L D){f g h:Fs}(hf:D f)(hg:D g)(hh:D h)(a:L f g≠.behind)(b:L g h = .ahead):L f h = .ahead:=by
 have n1:L f h≠.behind:=w.trans f g h hf hg hh a (by rw[b];decide);cases e:L f h with
 |ahead=>rfl
 |behind=>exact absurd e n1
 |like=>
  have e2:L h f = .like:=by rw[w.anti f h hf hh,e];rfl
  have:=w.trans h f g hh hf hg (by rw[e2];decide) a;have e3:L h g = .behind:=by rw[w.anti g h hg hh,b];rfl
  exact absurd e3 this
theorem V5{α:Type}{p q:α->Bool}:∀{l:List α},(∀ x∈l,p x=true->q x=true)->l.countP p<=l.countP q
 |[],_=>Ik _
 |x::r,h=>by
  have ih:=V5 (p:=p) (q:=q) (l:=r) λy hy=>h y (Iy _ hy);rw[countP_cons,countP_cons];have:=h x ID;cases e:p x with
  |false=>simp;omega
  |true=>rw[this e];simp;omega
theorem zbc{α:Type}{p q:α->Bool}:∀{l:List α},(∀ x∈l,p x=true->q x=true)->(∃ x∈l,p x=false/\q x=true)->l.countP p<l.countP q
 |[],_,⟨x,hx,_⟩=>by cases hx
 |x::r,h,⟨y,hy,e1,e2⟩=>by
  rw[countP_cons,countP_cons];have le:=V5 (p:=p) (q:=q) (l:=r) λz hz=>h z (Iy _ hz);rcases IE.mp hy with rfl | hy
  .rw[e1,e2];simp;omega
  .have ih:=zbc (p:=p) (q:=q) (l:=r) (λz hz=>h z (Iy _ hz)) ⟨y,hy,e1,e2⟩;have:=h x ID;cases e:p x with
   |false=>simp;omega
   |true=>rw[this e];simp;omega
def zmI{L:Fs->Fs->An}{gs:List Fs}(w:Wk L (· ∈ gs)){f g:Fs}(hf:f∈gs)(hg:g∈gs)(a:L f g = .ahead):rk L gs f<rk L gs g:=by
 refine zbc (λh hh e=>?_) ⟨f,hf,?_,?_⟩
 .have e' : L f h = .behind:=IB e;have e2:L h f = .ahead:=by rw[w.anti f h hf hh,e'];rfl
  have e3:=w.zhK hh hf hg e2 (by rw[a];decide);exact Ip (by rw[w.anti h g hh hg,e3];rfl)
 .rw[w.self hf];decide
 .exact Ip (by rw[w.anti f g hf hg,a];rfl)
def zlO{L:Fs->Fs->An}{gs:List Fs}(w:Wk L (· ∈ gs)){f g:Fs}(hf:f∈gs)(hg:g∈gs)(a:L f g≠.behind):rk L gs f<=rk L gs g:=by
 refine V5 λh hh e=>?_;have e' : L f h = .behind:=IB e;have e2:L h f = .ahead:=by rw[w.anti f h hf hh,e'];rfl
 have e3:=w.zhK hh hf hg e2 a;exact Ip (by rw[w.anti h g hh hg,e3];rfl)
def zcd(L:Fs->Fs->An)(gs:List Fs):agree L gs=true↔Wk L (· ∈ gs):=by
 constructor
 .intro h;have key:∀ f g,f∈gs->g∈gs->L f g=zaZ (rk L gs f) (rk L gs g):=λf g hf hg=>by unfold agree at h;exact IB (NB.mp (NB.mp h f hf) g hg)
  refine⟨λf g hf hg=>?_,λf g k hf hg hk a b=>?_⟩
  .rw[key f g hf hg,key g f hg hf];unfold zaZ;generalize rk L gs f=i;generalize rk L gs g=j;by_cases h1:i<j
   .have:¬ j<i:=by omega
    simp only[h1,this,Oj,Nf,gt_iff_lt];rfl
   .by_cases h2:j<i
    .simp only[h1,h2,Oj,Nf,gt_iff_lt];rfl
    .simp only[h1,h2,Nf,gt_iff_lt];rfl
  .rw[key f g hf hg]at a;rw[key g k hg hk]at b;rw[key f k hf hk];revert a b;unfold zaZ;generalize rk L gs f=i;generalize rk L gs g=j;generalize rk L gs k=m;intro a b;have h1:¬ i>j:=λz=>a (by rw[Im (by omega),Iq z]);have h2:¬ j>m:=λz=>b (by rw[Im (by omega),Iq z]);by_cases h3:i<m
   .rw[Iq h3];decide
   .rw[Im h3,Im (by omega)];decide
 .intro w;unfold agree;refine NB.mpr λf hf=>NB.mpr λg hg=>Ip ?_;unfold zaZ;cases e:L f g with
  |ahead=>rw[Iq (zmI w hf hg e)]
  |behind=>
   have e2:L g f = .ahead:=by rw[w.anti f g hf hg,e];rfl
   have:=zmI w hg hf e2;rw[Im (by omega),Iq this]
  |like=>
   have e2:L g f = .like:=by rw[w.anti f g hf hg,e];rfl
   have h1:=zlO w hf hg (by rw[e];decide);have h2:=zlO w hg hf (by rw[e2];decide);rw[Im (by omega),Im (by omega)]
noncomputable def WW(fs:List Fs):List Fs:=fs.foldl (λacc f=>if(acc.any λg=>decide (g=f))=true then acc else acc++[f]) []
def QK(fs:List Fs):∀ f,f∈WW fs↔f∈fs:=by
 have key:∀(l acc:List Fs)(f:Fs),f∈l.foldl (λacc f=>if(acc.any λg=>decide (g=f))=true then acc else acc++[f]) acc↔f∈acc\/f∈l:=by
  intro l
  induction l with
  |nil=>intro acc f;simp
  |cons x r ih=>
   intro acc f;rw[List.foldl_cons,ih];by_cases h:(acc.any λg=>decide (g=x))=true
   .rw[Iq h];obtain⟨y,hy,e⟩:=any_eq_true.mp h;have e' : y=x:=IB e;subst e';constructor
    .rintro(q | q)
     .exact .inl q
     .exact .inr (Iy _ q)
    .rintro(q | q)
     .exact .inl q
     .rcases IE.mp q with rfl | q
      .exact .inl hy
      .exact .inr q
   .rw[Im h];simp only[Nq,IE,Nz,Od];constructor
    .rintro((q | q) | q)
     .exact .inl q
     .exact .inr (.inl q)
     .exact .inr (.inr q)
    .rintro(q | q | q)
     .exact .inl (.inl q)
     .exact .inl (.inr q)
     .exact .inr q
 intro f;have:=key fs [] f;unfold WW;rw[this];simp
theorem Wk.turn{L:Fs->Fs->An}{D:Fs->Prop}(w:Wk L D):Wk (λf g=>(L f g).turn) D:=by refine⟨λf g hf hg=>by rw[w.anti f g hf hg],λf g h hf hg hh a b=>?_⟩;have a' : L g f≠.behind:=λz=>a (by rw[w.anti g f hg hf,z];rfl);have b' : L h g≠.behind:=λz=>b (by rw[w.anti h g hh hg,z];rfl);have:=w.trans h g f hh hg hf b' a';intro z;have z' : L f h = .ahead:=zc7 z;exact this (by rw[w.anti f h hf hh,z'];rfl)
def Wk.zmC{L M:Fs->Fs->An}{D:Fs->Prop}(w:Wk L D)(v:Wk M D):Wk (λf g=>if L f g = .like then M f g else L f g) D:=by
 refine⟨λf g hf hg=>?_,λf g h hf hg hh a b=>?_⟩
 .show(if L g f = .like then M g f else L g f)=(if L f g = .like then M f g else L f g).turn;rw[w.anti f g hf hg,v.anti f g hf hg];cases L f g <;> rfl
 .skip
  have a1:L f g≠.behind:=λz=>a (by rw[z];rfl);have b1:L g h≠.behind:=λz=>b (by rw[z];rfl);cases e1:L f g with
  |behind=>exact absurd e1 a1
  |ahead=>rw[w.zhK hf hg hh e1 b1];exact λz=>by cases z
  |like=>
   cases e2:L g h with
   |behind=>exact absurd e2 b1
   |ahead=>rw[w.zni hf hg hh a1 e2];exact λz=>by cases z
   |like=>
    have n1:L f h≠.behind:=w.trans f g h hf hg hh a1 b1;have n2:L h f≠.behind:=w.trans h g f hh hg hf (by rw[w.anti g h hg hh,e2];decide) (by rw[w.anti f g hf hg,e1];decide);have e3:L f h = .like:=by
     cases e:L f h with
     |like=>rfl
     |behind=>exact absurd e n1
     |ahead=>exact absurd (by rw[w.anti f h hf hh,e];rfl) n2
    rw[e3,Iq rfl];rw[Iq e1]at a;rw[Iq e2]at b;exact v.trans f g h hf hg hh a b
def zkQ{D:Fs->Prop}:Wk (λ_ _=>.like) D:=⟨λ_ _ _ _=>rfl,λ_ _ _ _ _ _ a _=>a⟩
def zfZ{a b c d:Int}(hb:1<=b)(h:a*d<=c*d)(hd:1<=d):a<=c:=by
 rcases lt_or_le c a with z | z
 .have:c*d<a*d:=Int.mul_lt_mul_of_pos_right z (by omega);omega
 .exact z
def zdd{a b c:Int×Int}(ha:1<=a.2)(hb:1<=b.2)(hc:1<=c.2)(h1:a.1*b.2<=b.1*a.2)(h2:b.1*c.2<=c.1*b.2):a.1*c.2<=c.1*a.2:=by
 have q1:a.1*b.2*c.2<=b.1*a.2*c.2:=Int.mul_le_mul_of_nonneg_right h1 (by omega);have q2:b.1*c.2*a.2<=c.1*b.2*a.2:=Int.mul_le_mul_of_nonneg_right h2 (by omega);have e1:a.1*b.2*c.2=(a.1*c.2)*b.2:=by rw[Om,Int.mul_comm b.2 c.2,← Om]
 have e2:b.1*a.2*c.2=b.1*c.2*a.2:=by rw[Om,Int.mul_comm a.2 c.2,← Om]
 have e3:c.1*b.2*a.2=(c.1*a.2)*b.2:=by rw[Om,Int.mul_comm b.2 a.2,← Om]
 exact zfZ hb (by omega) hb
def zk2(n:Nat)(f:Fs):Prop:=f.length=n/\∀ p∈f,1<=p.2
def zk2.get{n:Nat}{f:Fs}(h:zk2 n f)(i:Nat):1<=(f.getD i (0,1)).2:=by
 rw[Ir];cases e:f[i]? with
 |none=>decide
 |some p=>exact h.2 p (Iz e)
def zfG{a b:Int×Int}:hsA a b≠.behind↔a.1*b.2<=b.1*a.2:=by
 unfold hsA;by_cases h1:a.1*b.2<b.1*a.2
 .rw[Iq h1];exact⟨λ_=>by omega,λ_=>by decide⟩
 .rw[Im h1];by_cases h2:a.1*b.2>b.1*a.2
  .rw[Iq h2];exact⟨λz=>absurd rfl z,λz=>by omega⟩
  .rw[Im h2];exact⟨λ_=>by omega,λ_=>by decide⟩
def zdv(i n:Nat):Wk (λf g=>hsA (f.getD i (0,1)) (g.getD i (0,1))) (zk2 n):=⟨λf g _ _=>U0 _ _,λf g h hf hg hh a b=>zfG.mpr (zdd (hf.get i) (hg.get i) (hh.get i) (zfG.mp a) (zfG.mp b))⟩
end Look
namespace K61
open PySem L2 Frac Lw PySem.NumText
variable {x y:Str}{G H:Hp}{σ:St}{ta tb:TE}{book:LB}{num:Int->Int->Prop}{f:List (Int×Int)}
noncomputable def top(i:Nat):Stmt:=PySem.Challenge.pw_ordertext_k61_whole_first_looked_at.main.body.getD i (.Pass ⟨0,0,0,0⟩)
abbrev zaY:Stmt:=top 8
abbrev zdb:Stmt:=top 9
abbrev QZ:Stmt:=top 10
abbrev Ju:Stmt:=top 11
abbrev zam:Stmt:=top 12
abbrev zbW:Stmt:=top 13
abbrev Wx:Stmt:=top 14
abbrev Js:Stmt:=top 15
abbrev zbV:Stmt:=top 16
abbrev W8:Stmt:=top 17
abbrev Uc:Stmt:=top 19
abbrev Qi:Stmt:=top 20
abbrev Xi:Stmt:=top 22
abbrev Q7:Stmt:=top 23
abbrev QL:Stmt:=top 24
abbrev QD:Stmt:=top 25
abbrev JV:Stmt:=top 26
abbrev W0:Stmt:=top 27
abbrev Wa:Stmt:=top 28
abbrev Qd:Stmt:=top 29
abbrev Qy:Stmt:=top 30
abbrev zaX:Stmt:=top 31
abbrev Jb:Stmt:=top 33
abbrev Jy:Stmt:=top 35
abbrev Qz:Stmt:=top 36
abbrev V4:Stmt:=top 38
abbrev Jp:Stmt:=top 39
abbrev Z7:Stmt:=top 40
abbrev Qw:Stmt:=top 42
abbrev Q3:Stmt:=top 43
abbrev Qk:Stmt:=top 44
abbrev JP:Stmt:=top 45
abbrev JS:Stmt:=top 46
abbrev Qx:Stmt:=top 47
abbrev Q9:Stmt:=top 48
abbrev Vf:Stmt:=top 49
abbrev Qu:Stmt:=top 50
abbrev Ud:Stmt:=top 51
abbrev Wt:Stmt:=top 52
abbrev Qe:Stmt:=top 53
abbrev Q0:Stmt:=top 54
abbrev WL:Stmt:=top 55
abbrev WD:Stmt:=top 56
abbrev JM:Stmt:=top 57
abbrev zbF:Stmt:=top 58
def Ul:ZK ["order", "by_field", "by_mark", "told", "word"] ["order", "by_field", "by_mark"] (Zh zaY):=⟨rfl,rfl,rfl,by decide +kernel,rfl,by decide +kernel,by decide +kernel⟩
def zdR:ZK ["told", "many", "parts"] ["told", "many"] (Zh zdb):=⟨rfl,rfl,rfl,by decide +kernel,rfl,by decide +kernel,by decide +kernel⟩
def zcb:ZK ["word", "parts", "by_field", "by_mark"] ["word", "parts", "by_field", "by_mark"] (Zh QZ):=⟨rfl,rfl,rfl,by decide +kernel,rfl,by decide +kernel,by decide +kernel⟩
def zaS:ZK ["word", "parts"] ["word", "parts"] (Zh Ju):=⟨rfl,rfl,rfl,by decide +kernel,rfl,by decide +kernel,by decide +kernel⟩
def zer:ZK ["part"] ["part"] (Zh zam):=⟨rfl,rfl,rfl,by decide +kernel,rfl,by decide +kernel,by decide +kernel⟩
def zfR:ZK ["word", "how"] ["word", "how"] (Zh zbW):=⟨rfl,rfl,rfl,by decide +kernel,rfl,by decide +kernel,by decide +kernel⟩
def V1:ZK ["one", "other"] ["one", "other"] (Zh Wx):=⟨rfl,rfl,rfl,by decide +kernel,rfl,by decide +kernel,by decide +kernel⟩
def zaT:ZK ["part"] ["part"] (Zh Js):=⟨rfl,rfl,rfl,by decide +kernel,rfl,by decide +kernel,by decide +kernel⟩
def zgL:ZK ["case", "one", "other"] ["case", "one", "other"] (Zh zbV):=⟨rfl,rfl,rfl,by decide +kernel,rfl,by decide +kernel,by decide +kernel⟩
def VG:ZK ["truth", "word", "parts", "rest"] ["truth", "word", "parts"] (Zh W8):=⟨rfl,rfl,rfl,by decide +kernel,rfl,by decide +kernel,by decide +kernel⟩
def Q5:ZK ["one", "other", "left", "right"] ["one", "other"] (Zh Uc):=⟨rfl,rfl,rfl,by decide +kernel,rfl,by decide +kernel,by decide +kernel⟩
def Vs:ZK ["one", "other", "size"] ["one", "other"] (Zh Qi):=⟨rfl,rfl,rfl,by decide +kernel,rfl,by decide +kernel,by decide +kernel⟩
def zaK:ZK ["order", "book", "first", "second", "by_field", "by_mark"] ["order", "book", "first", "second"] (Zh Xi):=⟨rfl,rfl,rfl,by decide +kernel,rfl,by decide +kernel,by decide +kernel⟩
def Qt:ZK ["things", "kept", "thing"] ["things"] (Zh Q7):=⟨rfl,rfl,rfl,by decide +kernel,rfl,by decide +kernel,by decide +kernel⟩
def zdk:ZK ["order", "book", "things"] ["order", "book", "things"] (Zh QL):=⟨rfl,rfl,rfl,by decide +kernel,rfl,by decide +kernel,by decide +kernel⟩
def zcT:ZK ["order", "book", "one", "things"] ["order", "book", "one", "things"] (Zh QD):=⟨rfl,rfl,rfl,by decide +kernel,rfl,by decide +kernel,by decide +kernel⟩
def za4:ZK ["table"] ["table"] (Zh JV):=⟨rfl,rfl,rfl,by decide +kernel,rfl,by decide +kernel,by decide +kernel⟩
def YX:ZK ["table", "ranks", "one", "row", "other", "look"] ["table"] (Zh W0):=⟨rfl,rfl,rfl,by decide +kernel,rfl,by decide +kernel,by decide +kernel⟩
def XQ:ZK ["table", "pair", "third", "three"] ["table"] (Zh Wa):=⟨rfl,rfl,rfl,by decide +kernel,rfl,by decide +kernel,by decide +kernel⟩
def zbB:ZK ["row", "places"] ["row", "places"] (Zh Qd):=⟨rfl,rfl,rfl,by decide +kernel,rfl,by decide +kernel,by decide +kernel⟩
def zc1:ZK ["table"] ["table"] (Zh Qy):=⟨rfl,rfl,rfl,by decide +kernel,rfl,by decide +kernel,by decide +kernel⟩
def zeO:ZK ["one", "other"] ["one", "other"] (Zh zaX):=⟨rfl,rfl,rfl,by decide +kernel,rfl,by decide +kernel,by decide +kernel⟩
def zbu:ZK ["numbers", "many"] ["numbers", "many"] (Zh Jb):=⟨rfl,rfl,rfl,by decide +kernel,rfl,by decide +kernel,by decide +kernel⟩
def zbh:ZK ["order", "book", "row", "ranks"] ["order", "book", "row"] (Zh Jy):=⟨rfl,rfl,rfl,by decide +kernel,rfl,by decide +kernel,by decide +kernel⟩
def X3:ZK ["order", "book", "row", "apart", "table", "three", "ranks", "thing", "rank"] ["order", "book", "row"] (Zh Qz):=⟨rfl,rfl,rfl,by decide +kernel,rfl,by decide +kernel,by decide +kernel⟩
def zaP:ZK ["order", "book", "row", "place", "start"] ["order", "book", "row", "place"] (Zh V4):=⟨rfl,rfl,rfl,by decide +kernel,rfl,by decide +kernel,by decide +kernel⟩
def zan:ZK ["order", "book", "row", "many"] ["order", "book", "row", "many"] (Zh Jp):=⟨rfl,rfl,rfl,by decide +kernel,rfl,by decide +kernel,by decide +kernel⟩
def Jt:ZK ["order", "book", "row", "places", "goes_ahead", "others"] ["order", "book", "row", "places"] (Zh Z7):=⟨rfl,rfl,rfl,by decide +kernel,rfl,by decide +kernel,by decide +kernel⟩
def Xu:ZK ["script", "cells", "some", "k", "start"] ["script"] (Zh Qw):=⟨rfl,rfl,rfl,by decide +kernel,rfl,by decide +kernel,by decide +kernel⟩
def Jh:ZK ["decks", "limit", "deck", "found", "number"] ["decks", "limit"] (Zh Q3):=⟨rfl,rfl,rfl,by decide +kernel,rfl,by decide +kernel,by decide +kernel⟩
def WM:ZK ["above", "below", "one", "other"] ["above", "below"] (Zh Qk):=⟨rfl,rfl,rfl,by decide +kernel,rfl,by decide +kernel,by decide +kernel⟩
def YZ:ZK ["decks", "found", "k", "style", "above", "below"] ["decks"] (Zh JP):=⟨rfl,rfl,rfl,by decide +kernel,rfl,by decide +kernel,by decide +kernel⟩
def Qo:ZK ["decks", "names", "at"] ["decks"] (Zh JS):=⟨rfl,rfl,rfl,by decide +kernel,rfl,by decide +kernel,by decide +kernel⟩
def Va:ZK ["decks", "book", "values", "many", "row", "k"] ["decks", "book", "values", "many"] (Zh Qx):=⟨rfl,rfl,rfl,by decide +kernel,rfl,by decide +kernel,by decide +kernel⟩
def Wu:ZK ["decks", "field", "values", "marks", "k", "mark", "some"] ["decks", "field", "values"] (Zh Q9):=⟨rfl,rfl,rfl,by decide +kernel,rfl,by decide +kernel,by decide +kernel⟩
def Xo:ZK ["decks", "book", "values", "deep", "style", "field", "plain", "one", "other"] ["decks", "book", "values", "deep"] (Zh Vf):=⟨rfl,rfl,rfl,by decide +kernel,rfl,by decide +kernel,by decide +kernel⟩
def J4:ZK ["decks", "book", "values", "found"] ["decks", "book", "values"] (Zh Qu):=⟨rfl,rfl,rfl,by decide +kernel,rfl,by decide +kernel,by decide +kernel⟩
def zaf:ZK ["one", "other", "number"] ["one", "other"] (Zh Ud):=⟨rfl,rfl,rfl,by decide +kernel,rfl,by decide +kernel,by decide +kernel⟩
def Ye:ZK ["words", "at", "book", "things", "word", "told", "one", "other", "place", "sides", "marks"] ["words", "at", "book", "things"] (Zh Wt):=⟨rfl,rfl,rfl,by decide +kernel,rfl,by decide +kernel,by decide +kernel⟩
def Z6:ZK ["words", "at", "book", "things", "word", "place", "far", "told", "one", "other"] ["words", "at", "book", "things"] (Zh Qe):=⟨rfl,rfl,rfl,by decide +kernel,rfl,by decide +kernel,by decide +kernel⟩
def zcD:ZK ["order", "book", "one", "other"] ["order", "book", "one", "other"] (Zh Q0):=⟨rfl,rfl,rfl,by decide +kernel,rfl,by decide +kernel,by decide +kernel⟩
def Xc:ZK ["order", "book", "row", "found", "things", "place", "sides", "at"] ["order", "book", "row"] (Zh WL):=⟨rfl,rfl,rfl,by decide +kernel,rfl,by decide +kernel,by decide +kernel⟩
def Jx:ZK ["decks", "book", "order", "mark"] ["decks", "book", "order"] (Zh WD):=⟨rfl,rfl,rfl,by decide +kernel,rfl,by decide +kernel,by decide +kernel⟩
def Yt:ZK ["decks", "places", "many", "at", "some", "new", "head", "rest"] ["decks", "places", "many"] (Zh JM):=⟨rfl,rfl,rfl,by decide +kernel,rfl,by decide +kernel,by decide +kernel⟩
def Wm:ZK ["script", "decks", "book", "values", "great", "order", "row", "due", "many", "told", "k", "turn", "places", "found"] ["script"] (Zh zbF):=⟨rfl,rfl,rfl,by decide +kernel,rfl,by decide +kernel,by decide +kernel⟩
noncomputable def zl0:Stmt->Nat
 |.FunctionDef _ _ _ _ _ _ _ _ _ pos=>pos.line
 |_=>0
abbrev Y5:Stmt:=(Yj Xi).getD 0 (.Pass ⟨0,0,0,0⟩)
abbrev Wo:Str:=(Str.ofString "looked" ++ ".<locals>.") ++ "by_field"
def Vb:Y9 (Zh Xi) (Zh Y5) ["word", "field"] ["place"] ["book", "first", "second"]:=⟨rfl,rfl,rfl,(by decide +kernel),(by show ∀ p∈(_:List (Str×NameKind)),p.2=NameKind.free->List.lookup p.1 (Zh Xi).names=some NameKind.cell;decide +kernel),(by decide +kernel),(by decide +kernel),(by decide +kernel),(by decide +kernel)⟩
abbrev Xp:Stmt:=(Yj Xi).getD 1 (.Pass ⟨0,0,0,0⟩)
abbrev WQ:Str:=(Str.ofString "looked" ++ ".<locals>.") ++ "by_mark"
def Ub:Y9 (Zh Xi) (Zh Xp) ["word", "field", "number"] ["place"] ["book", "first", "second"]:=⟨rfl,rfl,rfl,(by decide +kernel),(by show ∀ p∈(_:List (Str×NameKind)),p.2=NameKind.free->List.lookup p.1 (Zh Xi).names=some NameKind.cell;decide +kernel),(by decide +kernel),(by decide +kernel),(by decide +kernel),(by decide +kernel)⟩
abbrev Z5:Nat->Nat->Option Str:=λl _=>if l=zl0 Y5 then some Wo else some WQ
abbrev Ys:Str:=(Str.ofString "turning" ++ ".<locals>.") ++ "<lambda>"
abbrev Y7:Stmt:=(Yj Z7).getD 1 (.Pass ⟨0,0,0,0⟩)
abbrev X6:Str:=(Str.ofString "first_shown" ++ ".<locals>.") ++ "goes_ahead"
def JW:Y9 (Zh Z7) (Zh Y7) ["one", "other"] ["look"] ["order", "book", "row"]:=⟨rfl,rfl,rfl,(by decide +kernel),(by show ∀ p∈(_:List (Str×NameKind)),p.2=NameKind.free->List.lookup p.1 (Zh Z7).names=some NameKind.cell;decide +kernel),(by decide +kernel),(by decide +kernel),(by decide +kernel),(by decide +kernel)⟩
abbrev Yg:Nat->Nat->Option Str:=λl _=>some X6
set_option genInjectivity false
structure Fn1(K:FG)(mg:Str->LG)(n:Str)(s:Stmt)(ps:LB) where
 f:AD
 fd:FuncData
 F:Fun K n n s f fd
 b:Binds K fd ps []
 m:mg n=some (.ref f)
abbrev Fn1.O{K:FG}{mg:Str->LG}{n:Str}{s:Stmt}{ps:LB}(T:Fn1 K mg n s ps)(P:Program)(w:World)(base:Heap)(k:Nat)(sp:Sp):Prop:=VH P w K mg base CX0 k T.f T.fd ps sp
structure Top(K:FG)(mg:Str->LG) where
 JB:Fn1 K mg "telling" zaY ["order", "by_field", "by_mark"]
 zbs:Fn1 K mg "taken" zdb ["told", "many"]
 Xl:Fn1 K mg "word_told" QZ ["word", "parts", "by_field", "by_mark"]
 Jv:Fn1 K mg "put_together" Ju ["word", "parts"]
 Ww:Fn1 K mg "is_open" zam ["part"]
 QB:Fn1 K mg "answer" zbW ["word", "how"]
 Wy:Fn1 K mg "one_then_other" Wx ["one", "other"]
 XD:Fn1 K mg "turned_about" Js ["part"]
 zbO:Fn1 K mg "picked" zbV ["case", "one", "other"]
 X5:Fn1 K mg "settled_by" W8 ["truth", "word", "parts"]
 V7:Fn1 K mg "compared" Uc ["one", "other"]
 Jl:Fn1 K mg "how_stands" Qi ["one", "other"]
 Jc:Fn1 K mg "looked" Xi ["order", "book", "first", "second"]
 JN:Fn1 K mg "each_once" Q7 ["things"]
 V0:Fn1 K mg "table_of" QL ["order", "book", "things"]
 Uh:Fn1 K mg "looks_of" QD ["order", "book", "one", "things"]
 JX:Fn1 K mg "looks_agree" JV ["table"]
 Xn:Fn1 K mg "against_ranks" W0 ["table"]
 Wg:Fn1 K mg "three_against" Wa ["table"]
 Ji:Fn1 K mg "picked_out" Qd ["row", "places"]
 JC:Fn1 K mg "ranks_in" Qy ["table"]
 zao:Fn1 K mg "by_size" zaX ["one", "other"]
 Ja:Fn1 K mg "are_places" Jb ["numbers", "many"]
 JF:Fn1 K mg "turning" Jy ["order", "book", "row"]
 VM:Fn1 K mg "ranks_of" Qz ["order", "book", "row"]
 QC:Fn1 K mg "at_place" V4 ["order", "book", "row", "place"]
 Wr:Fn1 K mg "first_places" Jp ["order", "book", "row", "many"]
 Yw:Fn1 K mg "first_shown" Z7 ["order", "book", "row", "places"]
 Jk:Fn1 K mg "_law_decks" Qw ["script"]
 Zx:Fn1 K mg "_law_draw" Q3 ["decks", "limit"]
 Qg:Fn1 K mg "_law_least" Qk ["above", "below"]
 WP:Fn1 K mg "_law_values" JP ["decks"]
 J2:Fn1 K mg "_law_book" JS ["decks"]
 QJ:Fn1 K mg "_law_row" Qx ["decks", "book", "values", "many"]
 J5:Fn1 K mg "_law_case" Q9 ["decks", "field", "values"]
 Yl:Fn1 K mg "_law_good" Vf ["decks", "book", "values", "deep"]
 Jd:Fn1 K mg "_law_order" Qu ["decks", "book", "values"]
 WR:Fn1 K mg "_law_far" Ud ["one", "other"]
 Yy:Fn1 K mg "_law_holds" Wt ["words", "at", "book", "things"]
 YM:Fn1 K mg "_law_along" Qe ["words", "at", "book", "things"]
 Vc:Fn1 K mg "_law_side" Q0 ["order", "book", "one", "other"]
 J1:Fn1 K mg "_law_places" WL ["order", "book", "row"]
 XN:Fn1 K mg "_law_for_these" WD ["decks", "book", "order"]
 Wb:Fn1 K mg "_law_spoilt" JM ["decks", "places", "many"]
 zdY:AD
 Z8:AD
 cd_looked:Jc.fd.code = .ref zdY
 ch_looked:codeHdIn K zdY Z8=true
 zb6:AD
 Yn:AD
 cd_turning:JF.fd.code = .ref zb6
 ch_turning:codeHdIn K zb6 Yn=true
 Vt:AD
 ZZ:AD
 cd_first_shown:Yw.fd.code = .ref Vt
 ch_first_shown:codeHdIn K Vt ZZ=true
 zaA:mg "len" = none
 Qv:mg "range" = none
 Ux:mg "tuple" = none
 zaH:mg "isinstance" = none
 zok:mg "list" = none
 int_:mg "int" = none
 zfT:mg "reversed" = none
 zbi:mg "enumerate" = none
 bool_:mg "bool" = none
 zoX:mg "abs" = none
 zkN:mg "sorted" = none
 zpm:mg "max" = none
 znU:mg "all" = none
 zoN:mg "zip" = none
 zoV:mg "min" = none
 tt:kitOne K (.type "tuple") (.type "tuple")=some true
 st:kitOne K (.type "str") (.type "tuple")=some false
 bt:kitOne K (.type "bool") (.type "tuple")=some false
 ii:kitOne K (.type "int") (.type "int")=some true
 ib:kitOne K (.type "int") (.type "bool")=some false
 bb:kitOne K (.type "bool") (.type "bool")=some true
def peN{X:Cx}{st:Stmt}{ps:LB}{k:Nat}{sp:Sp}{e:Expr}{es:List Expr}{t:TA}{p pos:Pos}(T:Fn1 X.K X.mg x st ps)(F:VH X.prog X.w X.K X.mg X.base CX0 k T.f T.fd ps sp)(hr:Wz k X.A)(ha:PA X (e::es) t)(hg:Gl X x:=by rfl)(hdb:(x==("__debug__" : Str))=false:=by decide)(he:starEach (e::es) X.env=(false,eval e X.env)::starEach es X.env:=by rfl)(hpl:(backTo pos (starEach es X.env)).any (·.1)=false:=by rfl):PE X (.Call (.Name x p) (e::es) [] pos) (QM sp [] E0 t):=zky F hr hg T.m T.F.kp T.b .nil zn5 ha hdb he hpl
section
open Ord Look Rdo
abbrev Wl:List (Str×Str):=[(S "less",S "ahead"),(S "same",S "like"),(S "more",S "behind")]
abbrev X7:List (Str×Str):=[(S "ahead",S "behind"),(S "like",S "like"),(S "behind",S "ahead")]
def OkL(P:Program)(w:World)(K:FG)(mg:Str->LG)(base:Heap):Prop:=∀(f:AD)(fd:FuncData)(F:Fun K "law" "law" zbF f fd) (T:Top K mg) (hne1:T.Z8≠T.Yn) (hne2:T.Z8≠T.ZZ) (hne3:T.Yn≠T.ZZ) (Nd:Uo K=true) (W:Wds K w.params mg) (W1:Txs K w.params mg "AHEAD" Wl) (W2:Txs K w.params mg "OTHER_WAY" X7) (M:Bs K mg base),VH P w K mg base CX0 16 f fd ["script"] (zaR K [(T.Z8,Z5),(T.Yn,λ_ _=>some Ys),(T.ZZ,Yg)])
structure EnC where
 P:Program
 w:World
 K:FG
 mg:Str->LG
 base:Heap
def zoc:Nonempty EnC:=⟨⟨default,⟨λ_ _=>0,by constructor <;> first | exact default | exact .refcount | exact λ_=>default | exact λ_ _=>default | exact λ_ _ _=>default⟩,default,default,default⟩⟩
noncomputable def e0:EnC:=@Classical.epsilon EnC zoc λe=>¬ OkL e.P e.w e.K e.mg e.base
noncomputable def P:Program:=e0.P
noncomputable def w:World:=e0.w
noncomputable def K:FG:=e0.K
noncomputable def mg:Str->LG:=e0.mg
noncomputable def base:Heap:=e0.base
end
open Ord
abbrev dF(p:Int×Int):PD:=.tuple [.int p.1,.int p.2]
theorem zc6{K:FG}:∀{ws:LB}{xs:LC},YB K G xs (ws.map PyData.str)->xs=ws.map V.str
 |[],_,h=>h.nil
 |w::ws,_,h=>by obtain⟨y,ys,rfl,hd,r⟩:=h.cons;rw[hd.str,zc6 r];rfl
section
def J7(ha:Ev K ta σ G (.str x))(hb:Ev K tb σ G (.str y)):Ev K (tOp rEq ta tb) σ G (.bool (decide (x=y))):=
 QR ha hb λG1 H u v Q s1 s2 hx hy k=>by
  rw[hx.str,hy.str];refine⟨rfl,?_⟩;have e:decide (V.str x=V.str y)=decide (x=y):=by
   by_cases h:x=y
   .rw[Ip h,Ip (by rw[h])]
   .rw[Iw h,Iw λz=>h (by injection z)]
  rw[e];exact k _ G1 H (YH.refl s2) (Yc _)
end
open Ord Look
def Sz(p:Int×Int):Prop:=p.1.natAbs<10^40/\p.2.natAbs<10^40
def zoz:LA->PD->Prop:=λas d=>∃ p q:Int×Int,as=[dF p,dF q]/\Sz p/\Sz q/\d = .int (cmp p q)
def zoa:LA->PD->Prop:=λas d=>∃ p q:Int×Int,as=[dF p,dF q]/\Sz p/\Sz q/\d = .str (hsA p q).how
def zdq:LA->PD->Prop:=λas d=>((∃ x,as=[.str x])\/∃ b,as=[.bool b])/\d = .bool false
def zk1:LA->PD->Prop:=λas d=>∃ a:An,(as=[.str (S "look"),.str a.how]/\d = .str a.t)\/∃ x,x≠S "look" /\ as=[.str x,.str a.how]/\d = .bool (decide (a.how=x))
def zil:LA->PD->Prop:=λas d=>∃ a:An,as=[.str a.t]/\d = .str a.turn.t
def zlE:LA->PD->Prop:=λas d=>∃ a b:An,as=[.str a.t,.str b.t]/\d = .str (if a = .like then b else a).t
def zlB:LA->PD->Prop:=λas d=>∃(c:Bool)(a b:An),as=[.bool c,.str a.t,.str b.t]/\d = .str (if c=true then a else b).t
def zk0:LA->PD->Prop:=λas d=>∃(t:Bool)(x:Str)(b c:Bool),as=[.bool t,.str x,.list [.bool b,.bool c]]/\d = .bool (if t=true then b||c else b&&c)
def zie(a:An):Wl.find? (λr=>decide (r.1=a.how))=some (a.how,a.t):=by cases a <;> decide +kernel
def zhI(a:An):X7.find? (λr=>decide (r.1=a.t))=some (a.t,a.turn.t):=by cases a <;> decide +kernel
def ziU(a:An):decide (a.t=S "like")=decide (a = .like):=by cases a <;> decide +kernel
section
def ziw{z v:Str}{rs:List (Str×Str)}(W:Txs K w.params mg x rs)(hb:Ev K tb σ G (.str z))(h:rs.find? (λr=>decide (r.1=z))=some (z,v)):
  Ev K (tOp (λx y H Q=>∃ z a g v u,x = .ref a/\y = .str z/\zb0 K w.params a g/\g z=some (v,u)/\Q v H) (tC (.ref W.a)) tb) σ G (.str v):=
 λG1 H s1 s2 Q k=>hb G1 H s1 s2 _ λu G2 H2 g2 hu=>by obtain⟨u',hu'⟩:=W.yes z v h;rw[hu.str];exact⟨z,W.a,W.g,.str v,u',rfl,rfl,W.D,hu',k _ G2 H2 g2 (XR _)⟩
def zcU(T:Top K mg):T.V7.O P w base 1 (spP K zoz):=by
 refine T.V7.F.ok Q5 (λvs H Q E h=>?_) (λcdv A outer s H vs Q E hr h=>?_)
 .obtain⟨G,as,d,sg,hv,⟨p,q,rfl,_⟩,_⟩:=h;rw[hv.length];rfl
 .obtain⟨G,as,d,sg,hv,⟨p,q,rfl,hp,hq,rfl⟩,k⟩:=h;obtain⟨v1,r1,rfl,h1,hv⟩:=hv.cons;obtain⟨v2,r2,rfl,h2,hv⟩:=hv.cons;cases hv.nil;have zz:∀{x:Int},x.natAbs<10^40->x.natAbs<10^100:=λh=>IA h (by decide);refine⟨_,(Zf (ZC (i:=2) Q5.nd rfl (Or.inl rfl) (ZL Wh (ZG (Z1 (K:=K) rfl) (pv 0) Zi (λ_ _=>rfl)) (ZG (Z1 (K:=K) rfl) (pv 1) Zi (λ_ _=>rfl))))
   (Zf (ZC (i:=3) Q5.nd rfl (Or.inl rfl) (ZL Wh (ZG (Z1 (K:=K) rfl) (pv 1) Zi (λ_ _=>rfl)) (ZG (Z1 (K:=K) rfl) (pv 0) Zi (λ_ _=>rfl))))
   (Zf (Yv (ZJ zak (pv 2) (pv 3) (ZM _)) (Zm (Zz (za2 QX Zi))) ZQ)
   (Zf (Yv (ZJ zds (pv 2) (pv 3) (ZM _)) (Zm (Zz Zi)) ZQ)
   (Zm (Zz Zi)))))) ,?_⟩
  refine JH (K:=K) (zfU (J8 (Zn rfl h1) YW rfl rfl) (J8 (Zn rfl h2) YW rfl rfl) (mw (zz hp.1) (zz hq.2)) (Zv _)) sg λv3 G1 H1 g1 h3=>?_;refine JH (K:=K) (zfU (J8 (Zn rfl (h2.same g1.gg)) YW rfl rfl) (J8 (Zn rfl (h1.same g1.gg)) YW rfl rfl) (mw (zz hq.1) (zz hp.2)) (Zv _)) g1.gh λv4 G2 H2 g2 h4=>?_;have g12:=g1.trans g2;refine UG (YL (K:=K) (QS (Zn rfl (h3.same g2.gg)) (Zn rfl h4) (Yc _))) g2.gh (λe G3 H3 g3=>?_) (λe G3 H3 g3=>?_)
  .have e':=IB e;have:cmp p q = -1:=by unfold cmp;rw[Iq e']
   exact⟨1,rfl,k (.int (-1)) G3 H3 (g12.trans g3) (by rw[this];exact Zv _)⟩
  .have e':=Ni e;refine UG (YL (K:=K) (QS (Zn rfl ((h3.same g2.gg).same g3.gg)) (Zn rfl (h4.same g3.gg)) (Yc _))) g3.gh (λf G4 H4 g4=>?_) (λf G4 H4 g4=>?_)
   .have f':=IB f;have:cmp p q=1:=by unfold cmp;rw[Im e',Iq f']
    exact k (.int 1) G4 H4 ((g12.trans g3).trans g4) (by rw[this];exact Zv _)
   .have f':=Ni f;have:cmp p q=0:=by unfold cmp;rw[Im e',Im f']
    exact k (.int 0) G4 H4 ((g12.trans g3).trans g4) (by rw[this];exact Zv _)
def zi3(T:Top K mg):T.Jl.O P w base 2 (spP K zoa):=by
 have G_compared:=@zcU T;refine T.Jl.F.ok Vs (λvs H Q E h=>?_) (λcdv A outer s H vs Q E hr h=>?_)
 .obtain⟨G,as,d,sg,hv,⟨p,q,rfl,_⟩,_⟩:=h;rw[hv.length];rfl
 .obtain⟨G,as,d,sg,hv,⟨p,q,rfl,hp,hq,rfl⟩,k⟩:=h;obtain⟨v1,r1,rfl,h1,hv⟩:=hv.cons;obtain⟨v2,r2,rfl,h2,hv⟩:=hv.cons;cases hv.nil;refine⟨_,(Zf (ZC (i:=2) Vs.nd rfl (Or.inl rfl) (peN T.V7 G_compared hr (Za (pv 0) (Za (pv 1) Ze Zd) Zd)))
   (Zf (Yv (ZJ Y6 (pv 2) Zi (ZM _)) (Zm (Zz ZD)) ZQ)
   (Zm (Zz (Jj (ZJ zak (pv 2) Zi (ZM _)) ZD ZD))))) ,?_⟩
  refine JH (K:=K) (YQ (E:=E0) (R:=zoz) (d:=.int (cmp p q)) (Zq (Zn rfl h1) (Zq (Zn rfl h2) ZW)) ⟨p,q,rfl,hp,hq,rfl⟩) sg λv3 G1 H1 g1 h3=>?_;refine UG (YL (K:=K) (zau (Zn rfl h3) YW)) g1.gh (λe G2 H2 g2=>?_) (λe G2 H2 g2=>?_)
  .refine Yz (K:=K) (G:=G2) (d:=.str (hsA p q).how) (zd1 Yk ?_) g2.gh λv G3 H3 g3 hv=>k v G3 H3 ((g1.trans g2).trans g3) hv;have e':=IB e;unfold cmp at e';unfold hsA;split at e'
   .cases e'
   .split at e'
    .cases e'
    .rename_i n1 n2;rw[Im n1,Im n2];rfl
  .refine Yz (K:=K) (G:=G2) (d:=.str (hsA p q).how) (Uq (YL (K:=K) (QS (Zn rfl (h3.same g2.gg)) YW (Yc _))) (λf=>zd1 Yk ?_) (λf=>zd1 Yk ?_)) g2.gh λv G3 H3 g3 hv=>k v G3 H3 ((g1.trans g2).trans g3) hv
   .have f':=IB f;unfold cmp at f';unfold hsA;split at f'
    .rename_i n1;rw[Iq n1];rfl
    .split at f'
     .cases f'
     .cases f'
   .have f':=Ni f;have e':=Ni e;unfold cmp at f' e';unfold hsA;split at f'
    .exact absurd (by decide) f'
    .rename_i n1
     rw[Im n1]at e' ⊢;split at f'
     .rename_i n2;rw[Iq n2];rfl
     .rename_i n2;rw[Im n2]at e';exact absurd rfl e'
def zaU(T:Top K mg):T.Ww.O P w base 1 (spP K zdq):=by
 refine T.Ww.F.ok zer (λvs H Q E h=>?_) (λcdv A outer s H vs Q E hr h=>?_)
 .obtain⟨G,as,d,sg,hv,⟨h1,_⟩,_⟩:=h;rw[hv.length];rcases h1 with⟨x,rfl⟩ | ⟨b,rfl⟩ <;> rfl
 .obtain⟨G,as,d,sg,hv,⟨h0,rfl⟩,k⟩:=h;refine⟨_,(Zm (Zz (Z2 (zd3 (K:=K) rfl) (by rfl) T.zaH zoL (Za (pv 0) (Za (zfd (v:=.ty "tuple") (by rfl) T.Ux zi0 rfl) Ze))))) ,?_⟩;rcases h0 with⟨x,rfl⟩ | ⟨b,rfl⟩
  .obtain⟨v1,r1,rfl,h1,hv⟩:=hv.cons;cases hv.nil;exact Yz (K:=K) (zfc (Zn rfl h1) T.st) sg k
  .obtain⟨v1,r1,rfl,h1,hv⟩:=hv.cons;cases hv.nil;exact Yz (K:=K) (zfc (Zn rfl h1) T.bt) sg k
def zcg(T:Top K mg)(W1:Txs K w.params mg "AHEAD" Wl):T.QB.O P w base 1 (spP K zk1):=by
 refine T.QB.F.ok zfR (λvs H Q E h=>?_) (λcdv A outer s H vs Q E hr h=>?_)
 .obtain⟨G,as,d,sg,hv,⟨a,h1⟩,_⟩:=h;rw[hv.length];rcases h1 with⟨rfl,_⟩ | ⟨x,_,rfl,_⟩ <;> rfl
 .obtain⟨G,as,d,sg,hv,⟨a,h0⟩,k⟩:=h;refine⟨_,(Zm (Zz (Jj (ZJ Y6 (pv 0) ZD (ZM _)) (ZG zbM (zbC (v:=.ref W1.a) (by rfl) W1.m rfl) (pv 1) (λ_ _=>rfl)) (Y4 Y6 (pv 1) (pv 0) (ZM _))))) ,?_⟩;rcases h0 with⟨rfl,rfl⟩ | ⟨x,hx,rfl,rfl⟩
  .obtain⟨v1,r1,rfl,h1,hv⟩:=hv.cons;obtain⟨v2,r2,rfl,h2,hv⟩:=hv.cons;cases hv.nil;exact Yz (K:=K) (Uq (YL (K:=K) (J7 (Zn rfl h1) Yk)) (λ_=>ziw W1 (Zn rfl h2) (zie a)) (λz=>absurd (Ni z) (λn=>n rfl))) sg k
  .obtain⟨v1,r1,rfl,h1,hv⟩:=hv.cons;obtain⟨v2,r2,rfl,h2,hv⟩:=hv.cons;cases hv.nil;exact Yz (K:=K) (Uq (YL (K:=K) (J7 (Zn rfl h1) Yk)) (λz=>absurd (IB z) hx) (λ_=>J7 (Zn rfl h2) (Zn rfl h1))) sg k
def zb7(T:Top K mg)(W2:Txs K w.params mg "OTHER_WAY" X7):T.XD.O P w base 2 (spP K zil):=by
 have G_is_open:=@zaU T;refine T.XD.F.ok zaT (λvs H Q E h=>?_) (λcdv A outer s H vs Q E hr h=>?_)
 .obtain⟨G,as,d,sg,hv,⟨a,rfl,_⟩,_⟩:=h;rw[hv.length];rfl
 .obtain⟨G,as,d,sg,hv,⟨a,rfl,rfl⟩,k⟩:=h;obtain⟨v1,r1,rfl,h1,hv⟩:=hv.cons;cases hv.nil;refine⟨_,(Zm (Zz (Jj (Qh (peN T.Ww G_is_open hr (Za (pv 0) Ze Zd))) (Xb (Za ZD (Za (pv 0) Ze Zd) Zg)) (ZG zbM (zbC (v:=.ref W2.a) (by rfl) W2.m rfl) (pv 0) (λ_ _=>rfl))))) ,?_⟩;exact Yz (K:=K) (Uq (zc0 (K:=K) (YQ (E:=E0) (R:=zdq) (d:=.bool false) (Zq (Zn rfl h1) ZW) ⟨.inl ⟨_,rfl⟩,rfl⟩)) (λz=>nomatch z) (λ_=>ziw W2 (Zn rfl h1) (zhI a))) sg k
def zjB(T:Top K mg):T.Wy.O P w base 2 (spP K zlE):=by
 have G_is_open:=@zaU T;refine T.Wy.F.ok V1 (λvs H Q E h=>?_) (λcdv A outer s H vs Q E hr h=>?_)
 .obtain⟨G,as,d,sg,hv,⟨a,b,rfl,_⟩,_⟩:=h;rw[hv.length];rfl
 .obtain⟨G,as,d,sg,hv,⟨a,b,rfl,rfl⟩,k⟩:=h;obtain⟨v1,r1,rfl,h1,hv⟩:=hv.cons;obtain⟨v2,r2,rfl,h2,hv⟩:=hv.cons;cases hv.nil;refine⟨_,(Zf (Yv (Qh (peN T.Ww G_is_open hr (Za (pv 0) Ze Zd))) (Zm (Zz (Xb (Za ZD (Za (pv 0) (Za (pv 1) Ze Zd) Zd) Zg)))) ZQ)
   (Zm (Zz (Jj (ZJ Y6 (pv 0) ZD (ZM _)) (pv 1) (pv 0))))) ,?_⟩
  refine QQ (zc0 (K:=K) (YQ (E:=E0) (R:=zdq) (d:=.bool false) (Zq (Zn rfl h1) ZW) ⟨.inl ⟨_,rfl⟩,rfl⟩)) sg λG1 H1 g1=>?_;refine Yz (K:=K) (G:=G1) (Uq (YL (K:=K) (J7 (Zn rfl (h1.same g1.gg)) Yk)) (λz=>?_) (λz=>?_)) g1.gh λv G' H' g hv=>k v G' H' (g1.trans g) hv
  .rw[ziU]at z;rw[Iq (IB z)];exact Zn rfl (h2.same g1.gg)
  .rw[ziU]at z;rw[Im (Ni z)];exact Zn rfl (h1.same g1.gg)
def zgq(T:Top K mg):T.zbO.O P w base 2 (spP K zlB):=by
 have G_is_open:=@zaU T;refine T.zbO.F.ok zgL (λvs H Q E h=>?_) (λcdv A outer s H vs Q E hr h=>?_)
 .obtain⟨G,as,d,sg,hv,⟨c,a,b,rfl,_⟩,_⟩:=h;rw[hv.length];rfl
 .obtain⟨G,as,d,sg,hv,⟨c,a,b,rfl,rfl⟩,k⟩:=h;obtain⟨v1,r1,rfl,h1,hv⟩:=hv.cons;obtain⟨v2,r2,rfl,h2,hv⟩:=hv.cons;obtain⟨v3,r3,rfl,h3,hv⟩:=hv.cons;cases hv.nil;refine⟨_,(Zf (Yv (Qh (peN T.Ww G_is_open hr (Za (pv 0) Ze Zd))) (Zm (Zz (Xb (Za ZD (Za (pv 0) (Za (pv 1) (Za (pv 2) Ze Zd) Zd) Zd) Zg)))) ZQ)
   (Zm (Zz (Jj (Qh (pv 0)) (pv 1) (pv 2))))) ,?_⟩
  refine QQ (zc0 (K:=K) (YQ (E:=E0) (R:=zdq) (d:=.bool false) (Zq (Zn rfl h1) ZW) ⟨.inr ⟨_,rfl⟩,rfl⟩)) sg λG1 H1 g1=>?_;refine Yz (K:=K) (G:=G1) (Uq (zc0 (K:=K) (Zn rfl (h1.same g1.gg))) (λz=>?_) (λz=>?_)) g1.gh λv G' H' g hv=>k v G' H' (g1.trans g) hv
  .subst z;exact Zn rfl (h2.same g1.gg)
  .subst z;exact Zn rfl (h3.same g1.gg)
end
section
def ze4{b:Bool}(h:Ev K ta σ G (.bool b)):Ev K (zkq ta) σ G (.bool (!b)):=λG1 H s1 s2 Q k=>h G1 H s1 s2 _ λv G2 H2 g2 hv=>⟨b,hv.bl,k _ G2 H2 g2 (Yc _)⟩
def zmk{t b c:Bool}(ha:Ev K ta σ G (.bool t))(hb:Ev K tb σ G (.list [.bool b,.bool c])):Ev K (tOp (rIn K false) ta tb) σ G (.bool (b==t||c==t)):=
 QR ha hb λG1 H u v Q s1 s2 hu hv k=>by
  obtain⟨p,xs,rfl,hp,hx⟩:=hv.lst;obtain⟨y1,r1,rfl,h1,hx⟩:=hx.cons;obtain⟨y2,r2,rfl,h2,hx⟩:=hx.cons;cases hx.nil;rw[hu.bl];rw[h1.bl,h2.bl]at hp;refine⟨p,_,rfl,.inl (SqL.of (s2 _ _ hp)),rfl,rfl,?_⟩;have e:inV (.bl t) [.bl b,.bl c]=(b==t||c==t):=by cases t <;> cases b <;> cases c <;> rfl
  show Q (.bl (inV (.bl t) [.bl b,.bl c])) H;rw[e];exact k _ G1 H (YH.refl s2) (Yc _)
def zbl(T:Top K mg):T.X5.O P w base 2 (spP K zk0):=by
 have G_is_open:=@zaU T;refine T.X5.F.ok VG (λvs H Q E h=>?_) (λcdv A outer s H vs Q E hr h=>?_)
 .obtain⟨G,as,d,sg,hv,⟨t,x,b,c,rfl,_⟩,_⟩:=h;rw[hv.length];rfl
 .obtain⟨G,as,d,sg,hv,⟨t,x,b,c,rfl,rfl⟩,k⟩:=h;have hu:=hr.units;obtain⟨v1,r1,rfl,h1,hv⟩:=hv.cons;obtain⟨v2,r2,rfl,h2,hv⟩:=hv.cons;obtain⟨v3,r3,rfl,h3,hv⟩:=hv.cons;cases hv.nil;refine⟨_,(Zf (Yv (ZJ zaB (pv 0) (pv 2) (by rfl)) (Zm (Zz (pv 0))) ZQ)
   (Zf (zfA (x:= "part") (cap:=[]) (js:=[]) (i:=3) (y:= "rest") ⟨rfl,(by decide +kernel),(by decide +kernel),rfl,(by show ∀ p∈(_:List (Str×NameKind)),p.2=NameKind.free->List.lookup p.1 (Zh W8).names=some NameKind.cell;decide +kernel),(by decide +kernel),(by decide +kernel),(by decide +kernel)⟩ rfl rfl (λ_ _ h=>h) VG.nd rfl rfl (Ui (pv 2)) (λ_ _ _ _=>⟨(zfO (Qh (peN T.Ww G_is_open hr (Za (pv 0) Ze Zd)))),(pv 0)⟩))
   (Zf (Yv (ZJ (zax (K:=K) rfl hu) (pv 3) (Z3 Ze) (ZM _)) (Zm (Zz (zfr (pv 0)))) ZQ)
   (Zm (Zz (Jj (ZJ Y6 (Z2 (Yb (K:=K) rfl) (by rfl) T.zaA II (Za (pv 3) Ze Zd)) Zi (ZM _)) (ZG (Zu (K:=K) rfl) (pv 3) Zi (λ_ _=>rfl)) (Xb (Za (pv 1) (Za (ZG (Zu (K:=K) rfl) (pv 3) Zi (λ_ _=>rfl)) (Za (ZG (Zu (K:=K) rfl) (pv 3) Zi (λ_ _=>rfl)) Ze Zj) Zj) Zd)))))))) ,?_⟩
  refine UG (YL (K:=K) (zmk (Zn rfl h1) (Zn rfl h3))) sg (λz G1 H1 g1=>?_) (λz G1 H1 g1=>?_)
  .refine Yz (K:=K) (G:=G1) (d:=.bool (if t=true then b||c else b&&c)) (zd1 (Zn rfl (h1.same g1.gg)) ?_) g1.gh λv G' H' g hv=>k v G' H' (g1.trans g) hv;revert z;cases t <;> cases b <;> cases c <;> simp
  .have h3' : Dat K G1 v3 (.list ([b,c].map PyData.bool)):=h3.same g1.gg;refine(zdH (K:=K) (G:=G1) [b,c] PyData.bool (λ_=>none) (Zn rfl h3') (by show 2<sizeLine;decide) (λG2 i a x sG ha hx=>?_)).use g1.gh λv4 G2 H2 g2 h4=>?_
   .exact .inr ⟨rfl,zc0 (K:=K) (YQ (E:=E0) (R:=zdq) (d:=.bool false) (Zq (Zn rfl hx) ZW) ⟨.inr ⟨_,rfl⟩,rfl⟩)⟩
   .have h4' : Dat K G2 v4 (.list []):=by have e:[b,c].filterMap (λ_=>(none:Option PD))=[]:=rfl;rw[e]at h4;exact h4
    have pl0:Pl 2 (.list []):=ziJ λx hx=>by cases hx
    refine UG (YL (K:=K) (zf2 (Zn rfl h4') (zdU ZW (by decide)) pl0 pl0 (by decide))) g2.gh (λy G3 H3 g3=>?_) (λy=>?_)
    .refine Yz (K:=K) (G:=G3) (d:=.bool (if t=true then b||c else b&&c)) (zd1 (ze4 (Zn rfl (((h1.same g1.gg).same g2.gg).same g3.gg))) ?_) g3.gh λv G' H' g hv=>k v G' H' (((g1.trans g2).trans g3).trans g) hv;revert z;cases t <;> cases b <;> cases c <;> simp
    .rw[same_self]at y;cases y
def zgo:Sp:=λvs H Q _=>∃(p:AD)(n:Nat)(xs:LC),vs=[.ref p,.int (n:Nat)]/\H p=some (.lst xs)/\n<=xs.length/\n<=1000/\
 ∀ l H',H l=none->l≠p->H' l=some (.lst (xs.drop (xs.length-n)).reverse)->H' p=some (.lst (xs.take (xs.length-n)))->(∀ b,b≠l->b≠p->H' b=H b)->Q (.ref l) H'
def zhp(T:Top K mg):T.zbs.O P w base 1 zgo:=by
 refine T.zbs.F.ok zdR (λvs H Q E h=>?_) (λcdv A outer s H vs Q E hr h=>?_)
 .obtain⟨p,n,xs,rfl,_⟩:=h;rfl
 .obtain⟨p,n,xs,rfl,hp,hn,hm,k⟩:=h;have zl:(2000:Nat)<=sizeLine:=by decide
  refine⟨_,(Zf (ZC (i:=2) zdR.nd rfl (Or.inl rfl) (Z3 Ze))
   (Zf (zef Nh (ZJ zak (Z2 (Yb (K:=K) rfl) (by rfl) T.zaA II (Za (pv 2) Ze Zd)) (pv 1) (ZM _)) (Zm (JQ (zap Nv Nx Ny WX (pv 2) (Za (zmH Nv PySem.F.slot_list_pop PySem.F.type_list_pop znm (pv 0)) Ze Yo)))))
   (Zm (Zz (pv 2))))) ,?_⟩
  refine⟨(by show 0<=sizeLine;decide),λl hl=>?_⟩;have nlp:l≠p:=λz=>by subst z;rw[hp]at hl;cases hl
  refine zhi (fun σ H' => ∃ j,j<=n/\σ=[some (.ref p),some (.int (n:Nat)),some (.ref l)]/\H' l=some (.lst (xs.drop (xs.length-j)).reverse)/\H' p=some (.lst (xs.take (xs.length-j)))/\∀ b,b≠l->b≠p->H' b=H b) (fun σ H' => match H' l with | some (.lst ys)=>n-ys.length | _=>0)
   ⟨0,Nr _,rfl,by rw[Zo];simp,by rw[Zr (Ne.symm nlp),hp];simp,λb h1 h2=>by rw[Zr h1]⟩ ?_ ?_
  .rintro σ H1 ⟨j,hj,rfl,h1,h2,h3⟩;have hlen:((xs.drop (xs.length-j)).reverse).length=j:=by rw[OB,Nk];omega
   have hlt:(xs.take (xs.length-j)).length=xs.length-j:=by rw[Nj];omega
   have hmu:(match H1 l with | some (.lst ys)=>n-ys.length | _=>0)=n-j:=by rw[h1];show n-_=_;rw[hlen]
   refine⟨_,rfl,l,_,rfl,.inl (SqL.of h1),_,rfl,_,_,rfl,rfl,_,rfl,?_⟩;by_cases hjn:j<n
   .have e:decide (((xs.drop (xs.length-j)).reverse.length:Int)<(n:Nat))=true:=Ip (by rw[hlen];omega);rw[e];refine zon ?_;have hy:(xs.take (xs.length-j))[(xs.take (xs.length-j)).length-1]?=some (xs[xs.length-j-1]'(by omega)):=by rw[hlt,List.getElem?_take_of_lt (by omega),Ib]
    have edl:(xs.take (xs.length-j)).dropLast=xs.take (xs.length-(j+1)):=by rw[List.dropLast_eq_take,hlt,List.take_take];congr 1;omega
    have edr:(xs.drop (xs.length-j)).reverse++[xs[xs.length-j-1]'(by omega)]=(xs.drop (xs.length-(j+1))).reverse:=by
     have:xs.drop (xs.length-(j+1))=xs[xs.length-j-1]'(by omega)::xs.drop (xs.length-j):=by rw[List.drop_eq_getElem_cons (by omega:xs.length-(j+1)<xs.length)];congr 1;congr 1;omega
     rw[this,Op]
    refine⟨_,rfl,.inl ⟨rfl,_,SqL.of h1⟩,_,rfl,.inl ⟨rfl,_,SqL.of h2⟩,p,_,_,rfl,rfl,h2,hy,l,_,_,rfl,rfl,(by rw[Zr nlp];exact h1),(by rw[hlen];omega),?_,?_⟩
    .refine⟨j+1,hjn,rfl,by rw[Zo,edr],by rw[Zr (Ne.symm nlp),Zo,edl],λb hb1 hb2=>by rw[Zr hb1,Zr hb2];exact h3 b hb1 hb2⟩
    .show(match L2.upd _ l _ l with | some (.lst ys)=>n-ys.length | _=>0)<_;rw[hmu,Zo];show n-_<_;rw[Ig,hlen];show n-(j+1)<n-j;omega
   .have e:decide (((xs.drop (xs.length-j)).reverse.length:Int)<(n:Nat))=false:=Iw (by rw[hlen];omega);rw[e];refine zny ?_;have:j=n:=by omega
    subst this;exact⟨_,rfl,k l H1 hl nlp h1 h2 h3⟩
  .rintro σ H1 Q1 Q2 hq ⟨v,e1,p',ys,e2,e3,v2,e4,i,j,e5,e6,c,e7,e8⟩;exact⟨v,e1,p',ys,e2,e3,v2,e4,i,j,e5,e6,c,e7,hq _ _ e8⟩
end
def zom:LA->PD->Prop:=λas d=>∃(x:Str)(n:Nat)(vs:List Tv),as=[.str x,.list (vs.map Tv.d)]/\d=(zcS ⟨λ_=>.like,λ_ _ _=>.like,λ_ _ _=>.like⟩ n vs).d/\
 ((x=S "then" /\ n=3/\∃ a b,vs=[.an a,.an b])\/(x=S "turn" /\ n=4/\∃ a,vs=[.an a])\/(x=S "pick" /\ n=5/\∃ c a b,vs=[.tr c,.an a,.an b])\/(x=S "not" /\ n=9/\∃ a,vs=[.tr a])\/(x=S "and" /\ n=10/\∃ a b,vs=[.tr a,.tr b])\/(x=S "or" /\ n=11/\∃ a b,vs=[.tr a,.tr b]))
def ziq:(S "turn" ≠ S "then" /\ S "pick" ≠ S "then" /\ S "pick" ≠ S "turn")/\(S "not" ≠ S "then" /\ S "not" ≠ S "turn" /\ S "not" ≠ S "pick")/\(S "and" ≠ S "then" /\ S "and" ≠ S "turn" /\ S "and" ≠ S "pick" /\ S "and" ≠ S "not")/\(S "or" ≠ S "then" /\ S "or" ≠ S "turn" /\ S "or" ≠ S "pick" /\ S "or" ≠ S "not")/\S "and" ≠ S "or" := by decide +kernel
section
def zdI{D:Ends}{tc:TT}{t u:TS}(h:EvT tc σ G true)(s:ZF G H)(k:∀ G' H',YH G H G' H' -> t D σ H'):zhG tc t u D σ H:=UG h s (λ_=>k) λz=>nomatch z
def zdV(ha:Ev K ta σ G (.str x))(hb:Ev K tb σ G (.str y))(e:x=y):EvT (zcv (tOp rEq ta tb)) σ G true:=zlH (YL (K:=K) (J7 ha hb)) (Ip e)
def Xj(ha:Ev K ta σ G (.str x))(hb:Ev K tb σ G (.str y))(e:x≠y):EvT (zcv (tOp rEq ta tb)) σ G false:=zlH (YL (K:=K) (J7 ha hb)) (Iw e)
def znh(T:Top K mg)(W2:Txs K w.params mg "OTHER_WAY" X7):T.Jv.O P w base 3 (spP K zom):=by
 have G_is_open:T.Ww.O P w base 2 (spP K zdq):=(zaU T).mono (by decide);have G_one_then_other:=@zjB T;have G_turned_about:=@zb7 T W2;have G_picked:=@zgq T;have G_settled_by:=@zbl T;obtain⟨⟨n1,n2,n3⟩,⟨m1,m2,m3⟩,⟨a1,a2,a3,a4⟩,⟨o1,o2,o3,o4⟩,ao⟩:=ziq;refine T.Jv.F.ok zaS (λvs H Q E h=>?_) (λcdv A outer s H vs Q E hr h=>?_)
 .obtain⟨G,as,d,sg,hv,⟨x,n,us,rfl,_⟩,_⟩:=h;rw[hv.length];rfl
 .obtain⟨G,as,d,sg,hv,⟨x,n,us,rfl,rfl,hx⟩,k⟩:=h;obtain⟨v1,r1,rfl,h1,hv⟩:=hv.cons;obtain⟨v2,r2,rfl,h2,hv⟩:=hv.cons;cases hv.nil;refine⟨_,(Zf (Yv (ZJ Y6 (pv 0) ZD (ZM _)) (Zm (Zz (peN T.Wy G_one_then_other hr (Za (ZG (Zu (K:=K) rfl) (pv 1) Zi (λ_ _=>rfl)) (Za (ZG (Zu (K:=K) rfl) (pv 1) Zi (λ_ _=>rfl)) Ze Zj) Zj)))) ZQ)
   (Zf (Yv (ZJ Y6 (pv 0) ZD (ZM _)) (Zm (Zz (peN T.XD G_turned_about hr (Za (ZG (Zu (K:=K) rfl) (pv 1) Zi (λ_ _=>rfl)) Ze Zj)))) ZQ)
   (Zf (Yv (ZJ Y6 (pv 0) ZD (ZM _)) (Zm (Zz (peN T.zbO G_picked hr (Za (ZG (Zu (K:=K) rfl) (pv 1) Zi (λ_ _=>rfl)) (Za (ZG (Zu (K:=K) rfl) (pv 1) Zi (λ_ _=>rfl)) (Za (ZG (Zu (K:=K) rfl) (pv 1) Zi (λ_ _=>rfl)) Ze Zj) Zj) Zj)))) ZQ)
   (Zf (Yv (ZJ Y6 (pv 0) ZD (ZM _)) (Zm (Zz (Jj (Qh (peN T.Ww G_is_open hr (Za (ZG (Zu (K:=K) rfl) (pv 1) Zi (λ_ _=>rfl)) Ze Zj))) (Xb (Za ZD (Za (ZG (Zu (K:=K) rfl) (pv 1) Zi (λ_ _=>rfl)) Ze Zj) Zg)) (zfr (ZG (Zu (K:=K) rfl) (pv 1) Zi (λ_ _=>rfl)))))) ZQ)
   (Zm (Zz (peN T.X5 G_settled_by hr (Za (Y4 Y6 (pv 0) ZD (ZM _)) (Za (pv 0) (Za (pv 1) Ze Zd) Zd) Y0)))))))) ,?_⟩
  rcases hx with⟨rfl,rfl,a,b,rfl⟩ | ⟨rfl,rfl,a,rfl⟩ | ⟨rfl,rfl,c,a,b,rfl⟩ | ⟨rfl,rfl,a,rfl⟩ | ⟨rfl,rfl,a,b,rfl⟩ | ⟨rfl,rfl,a,b,rfl⟩
  .refine zdI (zdV (Zn rfl h1) Yk rfl) sg λG1 H1 g1=>?_;have h2':=h2.same g1.gg;exact Yz (K:=K) (G:=G1) (YQ (E:=E0) (R:=zlE) (Zq (YS (Zn rfl h2') YW rfl rfl) (Zq (YS (Zn rfl h2') YW rfl rfl) ZW)) ⟨a,b,rfl,rfl⟩) g1.gh λv G' H' g hv=>k v G' H' (g1.trans g) hv
  .refine QQ (Xj (Zn rfl h1) Yk n1) sg λG1 H1 g1=>?_;refine zdI (zdV (Zn rfl (h1.same g1.gg)) Yk rfl) g1.gh λG2 H2 g2=>?_;have g12:=g1.trans g2;have h2':=h2.same g12.gg;exact Yz (K:=K) (G:=G2) (YQ (E:=E0) (R:=zil) (Zq (YS (Zn rfl h2') YW rfl rfl) ZW) ⟨a,rfl,rfl⟩) g2.gh λv G' H' g hv=>k v G' H' (g12.trans g) hv
  .refine QQ (Xj (Zn rfl h1) Yk n2) sg λG1 H1 g1=>?_;refine QQ (Xj (Zn rfl (h1.same g1.gg)) Yk n3) g1.gh λG2 H2 g2=>?_;have g12:=g1.trans g2;refine zdI (zdV (Zn rfl (h1.same g12.gg)) Yk rfl) g2.gh λG3 H3 g3=>?_;have g13:=g12.trans g3;have h2':=h2.same g13.gg;exact Yz (K:=K) (G:=G3) (YQ (E:=E0) (R:=zlB) (Zq (YS (Zn rfl h2') YW rfl rfl) (Zq (YS (Zn rfl h2') YW rfl rfl) (Zq (YS (Zn rfl h2') YW rfl rfl) ZW))) ⟨c,a,b,rfl,rfl⟩) g3.gh λv G' H' g hv=>k v G' H' (g13.trans g) hv
  .refine QQ (Xj (Zn rfl h1) Yk m1) sg λG1 H1 g1=>?_;refine QQ (Xj (Zn rfl (h1.same g1.gg)) Yk m2) g1.gh λG2 H2 g2=>?_;have g12:=g1.trans g2;refine QQ (Xj (Zn rfl (h1.same g12.gg)) Yk m3) g2.gh λG3 H3 g3=>?_;have g13:=g12.trans g3;refine zdI (zdV (Zn rfl (h1.same g13.gg)) Yk rfl) g3.gh λG4 H4 g4=>?_;have g14:=g13.trans g4;have h2':=h2.same g14.gg;exact Yz (K:=K) (G:=G4) (Uq (zc0 (K:=K) (YQ (E:=E0) (R:=zdq) (d:=.bool false) (Zq (YS (Zn rfl h2') YW rfl rfl) ZW) ⟨.inr ⟨_,rfl⟩,rfl⟩)) (λz=>nomatch z) (λ_=>ze4 (YS (Zn rfl h2') YW rfl rfl))) g4.gh λv G' H' g hv=>k v G' H' (g14.trans g) hv
  .refine QQ (Xj (Zn rfl h1) Yk a1) sg λG1 H1 g1=>?_;refine QQ (Xj (Zn rfl (h1.same g1.gg)) Yk a2) g1.gh λG2 H2 g2=>?_;have g12:=g1.trans g2;refine QQ (Xj (Zn rfl (h1.same g12.gg)) Yk a3) g2.gh λG3 H3 g3=>?_;have g13:=g12.trans g3;refine QQ (Xj (Zn rfl (h1.same g13.gg)) Yk a4) g3.gh λG4 H4 g4=>?_;have g14:=g13.trans g4;exact Yz (K:=K) (G:=G4) (YQ (E:=E0) (R:=zk0) (Zq (zd1 (J7 (Zn rfl (h1.same g14.gg)) Yk) (by rw[Iw ao])) (Zq (Zn rfl (h1.same g14.gg)) (Zq (Zn rfl (h2.same g14.gg)) ZW))) ⟨false,_,a,b,rfl,rfl⟩) g4.gh λv G' H' g hv=>k v G' H' (g14.trans g) hv
  .refine QQ (Xj (Zn rfl h1) Yk o1) sg λG1 H1 g1=>?_;refine QQ (Xj (Zn rfl (h1.same g1.gg)) Yk o2) g1.gh λG2 H2 g2=>?_;have g12:=g1.trans g2;refine QQ (Xj (Zn rfl (h1.same g12.gg)) Yk o3) g2.gh λG3 H3 g3=>?_;have g13:=g12.trans g3;refine QQ (Xj (Zn rfl (h1.same g13.gg)) Yk o4) g3.gh λG4 H4 g4=>?_;have g14:=g13.trans g4;exact Yz (K:=K) (G:=G4) (YQ (E:=E0) (R:=zk0) (Zq (zd1 (J7 (Zn rfl (h1.same g14.gg)) Yk) (by rw[Ip rfl])) (Zq (Zn rfl (h1.same g14.gg)) (Zq (Zn rfl (h2.same g14.gg)) ZW))) ⟨true,_,a,b,rfl,rfl⟩) g4.gh λv G' H' g hv=>k v G' H' (g14.trans g) hv
end
def RBF(book:LB)(E:En):LA->PD->Prop:=λas d=>∃ z,z∈book/\((as=[.str (S "look"),.str z]/\d = .str (E.look z).t)\/(as=[.str (S "same"),.str z]/\d = .bool (isA (E.look z) .like)))
def RBM(book:LB)(num:Int->Int->Prop)(E:En):LA->PD->Prop:=λas d=>∃ z,z∈book/\∃ a b,num a b/\((as=[.str (S "less"),.str z,dF (a,b)]/\d = .list [.bool (isA (E.one z a b) .ahead),.bool (isA (E.two z a b) .ahead)])\/
 (as=[.str (S "same"),.str z,dF (a,b)]/\d = .list [.bool (isA (E.one z a b) .like),.bool (isA (E.two z a b) .like)]))
def RWT(book:LB)(num:Int->Int->Prop)(E:En):LA->PD->Prop:=λas d=>∃(x want:Str)(ps:LB)(vs:List Tv),as=[.str x,.list (vs.map Tv.d)]/\Yr x=some (x,want,ps)/\Tys (· ∈ book) num ps vs/\d=(zcS E (wix x) vs).d
def cls2(P:Program)(w:World)(K:FG)(mg:Str->LG)(base:Heap)(book:LB)(num:Int->Int->Prop)(E:En)(f1 f2:AD):SH->Hp->Prop:=λs H=>zgw P w K mg base 3 f1 2 (spP K (RBF book E)) s H/\zgw P w K mg base 3 f2 3 (spP K (RBM book num E)) s H
def zkr{E:En}{f1 f2:AD}:∀(fs:LH)(s:SH)(H:Hp)(s' : SH)(H' : Hp),Un fs [] H H' s.heap s'.heap->cls2 P w K mg base book num E f1 f2 s H->cls2 P w K mg base book num E f1 f2 s' H' :=λ_ _ _ _ _ u C=>⟨C.1.un u,C.2.un u⟩
section
variable {book:LB}{num:Int->Int->Prop}(E:En){us:List Tv}
def zjG(h:Tys (· ∈ book) num [S "field"] us):∃ z,z∈book/\us.map Tv.d=[.str z]/\(zcS E (wix (S "up")) us).d = .str (E.look z).t/\(zcS E (wix (S "down")) us).d = .str (E.look z).turn.t/\(zcS E (wix (S "same")) us).d = .bool (isA (E.look z) .like):=by obtain⟨v,rfl,t1⟩:=go1 h;obtain⟨z,hz,rfl⟩:=t1.field;exact⟨z,hz,rfl,by rw[WN.2.1];rfl,by rw[WN.2.2.1];rfl,by rw[WN.2.2.2.2.2.2.1];rfl⟩
def zlk(h:Tys (· ∈ book) num [S "field",S "number"] us):∃ z a b,z∈book/\num a b/\us.map Tv.d=[.str z,dF (a,b)]/\(zcS E (wix (S "under")) us).d = .list [.bool (isA (E.one z a b) .ahead),.bool (isA (E.two z a b) .ahead)]/\(zcS E (wix (S "is")) us).d = .list [.bool (isA (E.one z a b) .like),.bool (isA (E.two z a b) .like)]:=by obtain⟨v,u,rfl,t1,t2⟩:=go2 h;obtain⟨z,hz,rfl⟩:=t1.field;obtain⟨a,b,hab,rfl⟩:=t2.number;exact⟨z,a,b,hz,hab,rfl,by rw[WN.2.2.2.2.2.2.2.2.2.2.2.2.1];rfl,by rw[WN.2.2.2.2.2.2.2.2.2.2.2.2.2];rfl⟩
def zlL(h:Tys (· ∈ book) num [S "mark"] us):∃ a b,us.map Tv.d=[.list [.bool a,.bool b]]/\(zcS E (wix (S "both")) us).d = .bool (if false=true then a||b else a&&b)/\(zcS E (wix (S "either")) us).d = .bool (if true=true then a||b else a&&b):=by obtain⟨v,rfl,t1⟩:=go1 h;obtain⟨a,b,rfl⟩:=t1.mark;exact⟨a,b,rfl,by rw[WN.2.2.2.2.2.2.2.1];rfl,by rw[WN.2.2.2.2.2.2.2.2.1];rfl⟩
def znz{want:Str}{ps:LB}(hw:Yr x=some (x,want,ps))(hty:Tys (· ∈ book) num ps us)(n1:x≠S "like")(n2:x≠S "up")(n3:x≠S "down")(n4:x≠S "same")(n5:x≠S "under")(n6:x≠S "is")(n7:x≠S "both")(n8:x≠S "either"):zom [.str x,.list (us.map Tv.d)] (zcS E (wix x) us).d:=by
 obtain⟨w0,w1,w2,w3,w4,w5,w6,w7,w8,w9,w10,w11,w12,w13⟩:=WN;rcases ziK hw with q | q | q | q | q | q | q | q | q | q | q | q | q | q
 .exact absurd q.1 n1
 .exact absurd q.1 n2
 .exact absurd q.1 n3
 .obtain⟨v,u,e,t1,t2⟩:=go2 (q.2.2 ▸ hty);obtain⟨a,e1⟩:=t1.order;obtain⟨b,e2⟩:=t2.order;rw[q.1,w3,e,e1,e2];exact⟨_,3,_,rfl,rfl,.inl ⟨rfl,rfl,a,b,rfl⟩⟩
 .obtain⟨v,e,t1⟩:=go1 (q.2.2 ▸ hty);obtain⟨a,e1⟩:=t1.order;rw[q.1,w4,e,e1];exact⟨_,4,_,rfl,rfl,.inr (.inl ⟨rfl,rfl,a,rfl⟩)⟩
 .obtain⟨v,u,t,e,t1,t2,t3⟩:=go3 (q.2.2 ▸ hty);obtain⟨c,e1⟩:=t1.case;obtain⟨a,e2⟩:=t2.order;obtain⟨b,e3⟩:=t3.order;rw[q.1,w5,e,e1,e2,e3];exact⟨_,5,_,rfl,rfl,.inr (.inr (.inl ⟨rfl,rfl,c,a,b,rfl⟩))⟩
 .exact absurd q.1 n4
 .exact absurd q.1 n7
 .exact absurd q.1 n8
 .obtain⟨v,e,t1⟩:=go1 (q.2.2 ▸ hty);obtain⟨a,e1⟩:=t1.case;rw[q.1,w9,e,e1];exact⟨_,9,_,rfl,rfl,.inr (.inr (.inr (.inl ⟨rfl,rfl,a,rfl⟩)))⟩
 .obtain⟨v,u,e,t1,t2⟩:=go2 (q.2.2 ▸ hty);obtain⟨a,e1⟩:=t1.case;obtain⟨b,e2⟩:=t2.case;rw[q.1,w10,e,e1,e2];exact⟨_,10,_,rfl,rfl,.inr (.inr (.inr (.inr (.inl ⟨rfl,rfl,a,b,rfl⟩))))⟩
 .obtain⟨v,u,e,t1,t2⟩:=go2 (q.2.2 ▸ hty);obtain⟨a,e1⟩:=t1.case;obtain⟨b,e2⟩:=t2.case;rw[q.1,w11,e,e1,e2];exact⟨_,11,_,rfl,rfl,.inr (.inr (.inr (.inr (.inr ⟨rfl,rfl,a,b,rfl⟩))))⟩
 .exact absurd q.1 n5
 .exact absurd q.1 n6
end
section
def ziS{D:Ends}{t u:TS}(ha:Ev K ta σ G (.str x))(s:ZF G H)(k1:x=y->∀ G' H',YH G H G' H' -> t D σ H')(k2:x≠y->∀ G' H',YH G H G' H' -> u D σ H'):zhG (zcv (tOp rEq ta (tC (.str y)))) t u D σ H:=UG (YL (K:=K) (J7 ha Yk)) s (λe=>k1 (IB e)) λe=>k2 (Ni e)
def znH(T:Top K mg)(W2:Txs K w.params mg "OTHER_WAY" X7)(book:LB)(num:Int->Int->Prop)(E:En)(f1 f2:AD):zc2 P w K mg base 4 T.Xl.f T.Xl.fd ["word", "parts", "by_field", "by_mark"] (λs vs H Q=>cls2 P w K mg base book num E f1 f2 s H/\spC K f1 f2 (RWT book num E) vs H Q E0):=by
 have G_turned_about:T.XD.O P w base 3 (spP K zil):=(zb7 T W2).mono (by decide);have G_settled_by:T.X5.O P w base 3 (spP K zk0):=(zbl T).mono (by decide);have G_put_together:=@znh T W2;refine T.Xl.F.okS zcb (λs vs H Q h=>?_) (λcdv A outer s H vs Q hr h=>?_)
 .obtain⟨_,G,as,d,xs,rfl,sg,hv,⟨x,want,ps,us,rfl,_⟩,_⟩:=h;rw[Ig,hv.length];rfl
 .obtain⟨⟨C_by_field,C_by_mark⟩,G,as,d,xs,rfl,sg,hv,⟨x,want,ps,us,rfl,hw,hty,rfl⟩,k⟩:=h;have hu:=hr.units;obtain⟨v1,r1,rfl,h1,hv⟩:=hv.cons;obtain⟨v2,r2,rfl,h2,hv⟩:=hv.cons;cases hv.nil;have hP:∀{c y:Str}{p:LB},Yr c=some (c,y,p)->x=c->Tys (· ∈ book) num p us:=λh e=>by rw[e,h]at hw;cases hw;exact hty
  refine⟨_,(Zf (Yv (ZJ Y6 (pv 0) ZD (ZM _)) (Zm (Zz ZD)) ZQ)
   (Zf (Yv (ZJ Y6 (pv 0) ZD (ZM _)) (Zm (Zz (Vn (i:=2) rfl (Or.inl rfl) (hr.mono (by decide)) rfl C_by_field (Za ZD (Za (ZG (Zu (K:=K) rfl) (pv 1) Zi (λ_ _=>rfl)) Ze Zj) Zg)))) ZQ)
   (Zf (Yv (ZJ Y6 (pv 0) ZD (ZM _)) (Zm (Zz (peN T.XD G_turned_about hr (Za (Vn (i:=2) rfl (Or.inl rfl) (hr.mono (by decide)) rfl C_by_field (Za ZD (Za (ZG (Zu (K:=K) rfl) (pv 1) Zi (λ_ _=>rfl)) Ze Zj) Zg)) Ze Yo)))) ZQ)
   (Zf (Yv (ZJ Y6 (pv 0) ZD (ZM _)) (Zm (Zz (Vn (i:=2) rfl (Or.inl rfl) (hr.mono (by decide)) rfl C_by_field (Za ZD (Za (ZG (Zu (K:=K) rfl) (pv 1) Zi (λ_ _=>rfl)) Ze Zj) Zg)))) ZQ)
   (Zf (Yv (ZJ Y6 (pv 0) ZD (ZM _)) (Zm (Zz (Vn (i:=3) rfl (Or.inl rfl) (hr.mono (by decide)) rfl C_by_mark (Za ZD (Za (ZG (Zu (K:=K) rfl) (pv 1) Zi (λ_ _=>rfl)) (Za (ZG (Zu (K:=K) rfl) (pv 1) Zi (λ_ _=>rfl)) Ze Zj) Zj) Zg)))) ZQ)
   (Zf (Yv (ZJ Y6 (pv 0) ZD (ZM _)) (Zm (Zz (Vn (i:=3) rfl (Or.inl rfl) (hr.mono (by decide)) rfl C_by_mark (Za ZD (Za (ZG (Zu (K:=K) rfl) (pv 1) Zi (λ_ _=>rfl)) (Za (ZG (Zu (K:=K) rfl) (pv 1) Zi (λ_ _=>rfl)) Ze Zj) Zj) Zg)))) ZQ)
   (Zf (Yv (ZJ Y6 (pv 0) ZD (ZM _)) (Zm (Zz (peN T.X5 G_settled_by hr (Za VR (Za ZD (Za (ZG (Zu (K:=K) rfl) (pv 1) Zi (λ_ _=>rfl)) Ze Zj) Zg) Zg)))) ZQ)
   (Zf (Yv (ZJ Y6 (pv 0) ZD (ZM _)) (Zm (Zz (peN T.X5 G_settled_by hr (Za VR (Za ZD (Za (ZG (Zu (K:=K) rfl) (pv 1) Zi (λ_ _=>rfl)) Ze Zj) Zg) Zg)))) ZQ)
   (Zm (Zz (peN T.Jv G_put_together hr (Za (pv 0) (Za (pv 1) Ze Zd) Zd)))))))))))) ,?_⟩
  refine ziS (Zn rfl h1) sg (λe G1 H1 q=>?_) λn1 G1 H1 q=>?_
  .rw[e,WN.1]at k;exact Yz (K:=K) Yk q.gh λv G' H' g' hv=>k v G' H' (q.trans g') hv
  have g1:=q;refine ziS (Zn rfl (h1.same g1.gg)) g1.gh (λe G1 H1 q=>?_) λn2 G2 H2 q=>?_
  .obtain⟨z,hz,e1,eu,ed,es⟩:=zjG E (hP (show Yr (S "up")=some (S "up",S "order",[S "field"])by decide +kernel) e);rw[e,eu]at k;have h2':=h2.same (g1.trans q).gg;rw[e1]at h2';exact Yz (K:=K) (QH (R:=RBF book E) rfl (Zq Yk (Zq (YS (Zn rfl h2') YW rfl rfl) ZW)) rfl ⟨z,hz,.inl ⟨rfl,rfl⟩⟩) q.gh λv G' H' g' hv=>k v G' H' ((g1.trans q).trans g') hv
  have g2:=(g1.trans q)
  refine ziS (Zn rfl (h1.same g2.gg)) g2.gh (λe G1 H1 q=>?_) λn3 G3 H3 q=>?_
  .obtain⟨z,hz,e1,eu,ed,es⟩:=zjG E (hP (show Yr (S "down")=some (S "down",S "order",[S "field"])by decide +kernel) e);rw[e,ed]at k;have h2':=h2.same (g2.trans q).gg;rw[e1]at h2';exact Yz (K:=K) (YQ (E:=E0) (R:=zil) (Zq (QH (R:=RBF book E) rfl (Zq Yk (Zq (YS (Zn rfl h2') YW rfl rfl) ZW)) rfl ⟨z,hz,.inl ⟨rfl,rfl⟩⟩) ZW) ⟨_,rfl,rfl⟩) q.gh λv G' H' g' hv=>k v G' H' ((g2.trans q).trans g') hv
  have g3:=(g2.trans q)
  refine ziS (Zn rfl (h1.same g3.gg)) g3.gh (λe G1 H1 q=>?_) λn4 G4 H4 q=>?_
  .obtain⟨z,hz,e1,eu,ed,es⟩:=zjG E (hP (show Yr (S "same")=some (S "same",S "case",[S "field"])by decide +kernel) e);rw[e,es]at k;have h2':=h2.same (g3.trans q).gg;rw[e1]at h2';exact Yz (K:=K) (QH (R:=RBF book E) rfl (Zq Yk (Zq (YS (Zn rfl h2') YW rfl rfl) ZW)) rfl ⟨z,hz,.inr ⟨rfl,rfl⟩⟩) q.gh λv G' H' g' hv=>k v G' H' ((g3.trans q).trans g') hv
  have g4:=(g3.trans q)
  refine ziS (Zn rfl (h1.same g4.gg)) g4.gh (λe G1 H1 q=>?_) λn5 G5 H5 q=>?_
  .obtain⟨z,a,b,hz,hab,e1,eu,es⟩:=zlk E (hP (show Yr (S "under")=some (S "under",S "mark",[S "field",S "number"])by decide +kernel) e);rw[e,eu]at k;have h2':=h2.same (g4.trans q).gg;rw[e1]at h2';exact Yz (K:=K) (QH (R:=RBM book num E) rfl (Zq Yk (Zq (YS (Zn rfl h2') YW rfl rfl) (Zq (YS (Zn rfl h2') YW rfl rfl) ZW))) rfl ⟨z,hz,a,b,hab,.inl ⟨rfl,rfl⟩⟩) q.gh λv G' H' g' hv=>k v G' H' ((g4.trans q).trans g') hv
  have g5:=(g4.trans q)
  refine ziS (Zn rfl (h1.same g5.gg)) g5.gh (λe G1 H1 q=>?_) λn6 G6 H6 q=>?_
  .obtain⟨z,a,b,hz,hab,e1,eu,es⟩:=zlk E (hP (show Yr (S "is")=some (S "is",S "mark",[S "field",S "number"])by decide +kernel) e);rw[e,es]at k;have h2':=h2.same (g5.trans q).gg;rw[e1]at h2';exact Yz (K:=K) (QH (R:=RBM book num E) rfl (Zq Yk (Zq (YS (Zn rfl h2') YW rfl rfl) (Zq (YS (Zn rfl h2') YW rfl rfl) ZW))) rfl ⟨z,hz,a,b,hab,.inr ⟨rfl,rfl⟩⟩) q.gh λv G' H' g' hv=>k v G' H' ((g5.trans q).trans g') hv
  have g6:=(g5.trans q)
  refine ziS (Zn rfl (h1.same g6.gg)) g6.gh (λe G1 H1 q=>?_) λn7 G7 H7 q=>?_
  .obtain⟨a,b,e1,eu,es⟩:=zlL E (hP (show Yr (S "both")=some (S "both",S "case",[S "mark"])by decide +kernel) e);rw[e,eu]at k;have h2':=h2.same (g6.trans q).gg;rw[e1]at h2';exact Yz (K:=K) (YQ (E:=E0) (R:=zk0) (Zq zg2 (Zq Yk (Zq (YS (Zn rfl h2') YW rfl rfl) ZW))) ⟨false,_,a,b,rfl,rfl⟩) q.gh λv G' H' g' hv=>k v G' H' ((g6.trans q).trans g') hv
  have g7:=(g6.trans q)
  refine ziS (Zn rfl (h1.same g7.gg)) g7.gh (λe G1 H1 q=>?_) λn8 G8 H8 q=>?_
  .obtain⟨a,b,e1,eu,es⟩:=zlL E (hP (show Yr (S "either")=some (S "either",S "case",[S "mark"])by decide +kernel) e);rw[e,es]at k;have h2':=h2.same (g7.trans q).gg;rw[e1]at h2';exact Yz (K:=K) (YQ (E:=E0) (R:=zk0) (Zq zg2 (Zq Yk (Zq (YS (Zn rfl h2') YW rfl rfl) ZW))) ⟨true,_,a,b,rfl,rfl⟩) q.gh λv G' H' g' hv=>k v G' H' ((g7.trans q).trans g') hv
  have g8:=(g7.trans q)
  exact Yz (K:=K) (YQ (E:=E0) (R:=zom) (d:=(zcS E (wix x) us).d) (Zq (Zn rfl (h1.same g8.gg)) (Zq (Zn rfl (h2.same g8.gg)) ZW)) (znz E hw hty n1 n2 n3 n4 n5 n6 n7 n8)) g8.gh λv G' H' g' hv=>k v G' H' (g8.trans g') hv
end
def zj4{K:FG}{a:AD}{xs:LC}{g:TG}{tb:TS}{D:Ends}(Pv:Nat->St->Hp->Prop)(h0:Pv 0 σ H)(hl:∀ i σ H,i<=xs.length->Pv i σ H->SqT K H a xs)(hs:∀ i x σ H,xs.reverse[i]?=some x->Pv i σ H->g x σ H fun σ2 H2=>tb {D with nx:=Pv (i+1),ct:=Pv (i+1),bk:=D.nx} σ2 H2)(hd:∀ σ H,Pv xs.length σ H->D.nx σ H):
  ∃ W:Nat->Nat->St->Hp->Prop,(∃ m,W 0 m σ H)/\∀ i m σ H,W i m σ H->
   ((Itv K a xs.length).stop i H/\D.nx σ H)\/((Itv K a xs.length).go i H/\∃ N:St->Hp->Prop,(∀ σ' H',N σ' H' -> ∃ m',m'<m/\W (i+1) m' σ' H')/\∀ x H',(Itv K a xs.length).yld i H x H' -> g x σ H' fun σ2 H2=>tb {D with nx:=N,ct:=N,bk:=D.nx} σ2 H2):=by
 refine⟨λi m σ H=>m=xs.length-i/\i<=xs.length/\Pv i σ H,⟨xs.length,(by simp),Nr _,h0⟩,?_⟩;rintro i m σ H ⟨rfl,hi,p⟩;have q:=hl i σ H hi p;by_cases hlt:i<xs.length
 .refine .inr ⟨⟨hlt,xs,q,rfl⟩,Pv (i+1),fun σ' H' p' => ⟨xs.length-(i+1),(by omega),rfl,hlt,p'⟩,λx H' y=>?_⟩;obtain⟨e,y⟩:=y;subst e;exact hs i x σ _ (y xs q) p
 .have e:i=xs.length:=by omega
  subst e;exact .inl ⟨⟨rfl,xs,q⟩,hd σ H p⟩
theorem zd4{ae:Str->Prop}:∀{ws:List Wd}{st st' : LB},Run ae num st ws st' -> Kinds st->∀ j,∃ st2,Kinds st2/\Run ae num st2 (ws.drop j) st'
 |ws,st,_,h,hk,0=>⟨st,hk,h⟩
 |[],st,_,h,hk,j+1=>⟨st,hk,h⟩
 |w::ws,st,_,h,hk,j+1=>by
  cases h with
  |cons a b=>exact zd4 b (VJ a hk) j
def zlG(book:LB)(num:Int->Int->Prop)(E:En):LA->PD->Prop:=λas d=>∃(ws:List Wd)(a:An),as=[.tuple (ws.map Wd.d)]/\J9 (· ∈ book) num ws/\(∀ R,ev E ws R = .an a::R)/\ws.length<=900/\d = .str a.t
theorem zfS{E:En}:∀(ws:List Wd),(ev E ws []).length<=ws.length
 |[]=>Ik _
 |w::ws=>by
  have ih:=zfS (E:=E) ws;show(push E w (ev E ws [])).length<=ws.length+1;unfold push;split
  .rw[IC];omega
  .split
   .rw[IC,Nk];omega
   .rw[IC];omega
section
def zmX{r:Str×Str×LB}(W:Wds K w.params mg)(hb:Ev K tb σ G (.str x))(h:Yr x=some r):
  Ev K (tOp (λx y H Q=>∃ z a g v u,x = .ref a/\y = .str z/\zb0 K w.params a g/\g z=some (v,u)/\Q v H) (tC (.ref W.a)) tb) σ G (.tuple [.str r.2.1,.tuple (r.2.2.map PyData.str)]):=
 λG1 H s1 s2 Q k=>hb G1 H s1 s2 _ λu G2 H2 g2 hu=>by obtain⟨v,u',hg,hd⟩:=W.yes x r h;rw[hu.str];exact⟨x,W.a,W.g,v,u',rfl,rfl,W.D,hg,k _ G2 H2 g2 (hd G2)⟩
def zex(T:Top K mg)(W:Wds K w.params mg)(W2:Txs K w.params mg "OTHER_WAY" X7)(book:LB)(num:Int->Int->Prop)(E:En)(hf:∀ z∈book,Yr z=none)(f1 f2:AD):
  zc2 P w K mg base 5 T.JB.f T.JB.fd ["order", "by_field", "by_mark"] (λs vs H Q=>cls2 P w K mg base book num E f1 f2 s H/\spC K f1 f2 (zlG book num E) vs H Q E0):=by
 have G_word_told:zc2 P w K mg base 4 T.Xl.f T.Xl.fd ["word", "parts", "by_field", "by_mark"] (λs vs H Q=>cls2 P w K mg base book num E f1 f2 s H/\spC K f1 f2 (RWT book num E) vs H Q E0):=znH T W2 book num E f1 f2;have G_taken:T.zbs.O P w base 4 zgo:=(zhp T).mono (by decide);have hst:=zkr (book:=book) (num:=num) (E:=E) (f1:=f1) (f2:=f2);refine T.JB.F.okS Ul (λs vs H Q h=>?_) (λcdv A outer s H vs Q hr h=>?_)
 .obtain⟨_,G,as,d,xs,rfl,sg,hv,⟨ws,a,rfl,_⟩,_⟩:=h;rw[Ig,hv.length];rfl
 .obtain⟨hC,G,as,d,xs,rfl,sg,hv,⟨ws,a,rfl,ho,hev,hlen,rfl⟩,k⟩:=h;have hu:=hr.units;have zl:(2000:Nat)<=sizeLine:=by decide
  obtain⟨v1,r1,rfl,h1,hv⟩:=hv.cons;cases hv.nil;obtain⟨po,os,rfl,hpo,hos⟩:=h1.tup;have hol:os.length=ws.length:=by rw[hos.length,Ie]
  refine⟨_,(Zf (ZC (i:=3) Ul.nd rfl (Or.inl rfl) (Z3 Ze))
   (Zf (JG Nh rfl (zlb (by rfl) T.zfT (pv 0)) (Yh (i:=4) Ul.nd rfl (Or.inl rfl)) (Zm (Yv (ZJ (zi9 hu) (pv 4) (zbC (v:=.ref W.a) (by rfl) W.m rfl) (by rfl)) (Zm (JQ (zap Nv Nx Ny WX (pv 3) (Za (zia G_word_told hC hst rfl hr (by rfl) T.Xl.m T.Xl.F.kp T.Xl.b (Za (pv 4) (Za (peN T.zbs G_taken hr (Za (pv 3) (Za (Z2 (Yb (K:=K) rfl) (by rfl) T.zaA II (Za (ZG (Z1 (K:=K) rfl) (ZG zbM (zbC (v:=.ref W.a) (by rfl) W.m rfl) (pv 4) (λ_ _=>rfl)) Zi (λ_ _=>rfl)) Ze Zj)) Ze Yo) Zd)) (Za (pv 1) (Za (pv 2) Ze Zd) Zd) Yo) Zd)) Ze Yo)))) (Zm (JQ (zap Nv Nx Ny WX (pv 3) (Za (pv 4) Ze Zd)))))))
   (Zm (Zz (ZG (Zu (K:=K) rfl) (pv 3) Zi (λ_ _=>rfl)))))) ,?_⟩
  refine⟨(by show 0<=sizeLine;decide),λpt hpt=>?_⟩;refine⟨_,rfl,po,os,rfl,(YK hpt).tup (sg.tup hpo),zj4 (λi σ H' => ∃(v:Option V)(xs:LC)(G' : Hp),σ=[some (.ref po),some (.ref f1),some (.ref f2),some (.ref pt),v]/\H' pt=some (.lst xs)/\YB K G' xs ((ev E (ws.drop (ws.length-i)) []).map Tv.d).reverse/\ZF G G' /\ ZF G' H' /\ G' pt=none/\ZF H H')
   ⟨_,[],G,rfl,Zo,by rw[sub_zero,List.drop_length];exact Z9,ZF.refl _,sg.trans (YK hpt),sg.free hpt,YK hpt⟩ ?_ ?_ ?_⟩
  .rintro i σ H' _ ⟨v,xs,G',rfl,_,_,g1,g2,_,_⟩;exact(g1.trans g2).tup hpo
  .rintro i x σ H' hx ⟨v,xs,G',rfl,hp,hxs,g1,g2,g3,g4⟩;have hi:i<ws.length:=by have:=(Il.mp hx).1;rw[OB,hol]at this;exact this
   have hdr:ws.drop (ws.length-(i+1))=ws[ws.length-(i+1)]::ws.drop (ws.length-i):=by rw[List.drop_eq_getElem_cons (by omega:ws.length-(i+1)<ws.length)];congr 2;omega
   obtain⟨st,hks,hrun⟩:=zd4 ho zgK (ws.length-(i+1));rw[hdr]at hrun;have hxd:Dat K G x (ws[ws.length-(i+1)]).d:=by
    obtain⟨d,e1,e2⟩:=(U7 hos).zgZ hx;rw[List.getElem?_reverse (by rw[Ie];exact hi),Ie,Ij,Ib (by omega)]at e1;have e1:some (ws[ws.length-1-i]).d=some d:=e1;injection e1 with e1;have e3:ws[ws.length-(i+1)]=ws[ws.length-1-i]:=by congr 1;omega
    rw[e3,e1];exact e2
   have hevs:ev E (ws.drop (ws.length-(i+1))) []=push E ws[ws.length-(i+1)] (ev E (ws.drop (ws.length-i)) []):=by rw[hdr];rfl
   have hsl:=zfS (E:=E) (ws.drop (ws.length-i));rw[Nk]at hsl;rw[hevs];generalize ws[ws.length-(i+1)]=wd at hrun hxd;generalize ws.drop (ws.length-i)=wr at hrun hxs hsl;cases hrun with
   |@cons _ st1 _ _ _ sa sb=>
    obtain⟨hty,_⟩:=zm7 (E:=E) hf sb (VJ sa hks) (vs:=[]) .nil;generalize ev E wr []=stk at hty hxs hsl;have hxl:xs.length=stk.length:=by rw[hxs.length,OB,Ie]
    have hxd':=hxd.same g1;rcases Rdo.zac sa hks with⟨z,st0,rfl,rfl,hz,rfl⟩ | ⟨b,c,st0,rfl,rfl,hbc,rfl⟩ | ⟨want,z,ps,st0,rfl,rfl,n1,n2,hw,hl3,rfl⟩
    .have e:push E (.t z) stk = .wd (.t z)::stk:=by unfold push;dsimp only;rw[hf z hz]
     rw[e];have ez:x=V.str z:=hxd'.str;subst ez;refine⟨_,rfl,W.a,W.g,rfl,W.D,.inl ⟨z,rfl,?_⟩⟩;rw[W.no z (hf z hz)];refine⟨_,rfl,zny ?_⟩;refine⟨_,rfl,.inl ⟨rfl,_,SqL.of hp⟩,_,rfl,pt,_,_,rfl,rfl,hp,(by omega),?_⟩;refine⟨_,_,G',rfl,Zo,?_,g1,QF g2 g3,g3,QF g4 hpt⟩;rw[Ng,Op];exact XF hxs (XR z)
    .obtain⟨pn,ns,rfl,hpn,hns⟩:=hxd'.tup;obtain⟨y1,s1,rfl,d1,hns⟩:=hns.cons;obtain⟨y2,s2,rfl,d2,hns⟩:=hns.cons;cases hns.nil;rw[d1.int,d2.int]at hpn;refine⟨_,rfl,W.a,W.g,rfl,W.D,.inr ⟨pn,b,c,rfl,g2.tup hpn,?_⟩⟩;refine⟨_,rfl,zny ?_⟩;refine⟨_,rfl,.inl ⟨rfl,_,SqL.of hp⟩,_,rfl,pt,_,_,rfl,rfl,hp,(by omega),?_⟩;refine⟨_,_,G',rfl,Zo,?_,g1,QF g2 g3,g3,QF g4 hpt⟩;show YB K G' _ ((Tv.wd (.n b c)::stk).map Tv.d).reverse;rw[Ng,Op];exact XF hxs hxd'
    .have e:push E (.t z) stk=zcS E (wix z) (stk.take ps.length)::stk.drop ps.length:=by unfold push;dsimp only;rw[hw]
     rw[e];have ez:x=V.str z:=hxd'.str;subst ez;obtain⟨u,v',hg,_⟩:=W.yes z _ hw;refine⟨_,rfl,W.a,W.g,rfl,W.D,.inl ⟨z,rfl,?_⟩⟩;rw[hg];refine⟨_,rfl,zon ?_⟩;have hpl:ps.length<=stk.length:=by have:=hty.length;rw[Ig]at this;omega
     have hLn:stk.length-(stk.length-ps.length)=ps.length:=by omega
     refine⟨_,rfl,.inl ⟨rfl,_,SqL.of hp⟩,_,rfl,_,rfl,?_⟩;refine(zc3 (K:=K) (G:=G') (Zq (J8 (zmX W (Zn rfl (XR z)) hw) YW rfl rfl) ZW)).use g2 λv6 G6 H6 g6 h6=>?_;rw[h6.int,Ie];have hp6:=g6.hh _ _ hp;have g6pt:G6 pt=none:=by
      cases e:G6 pt with
      |none=>rfl
      |some o=>
       rcases g6.fr pt o e with q | q
       .rw[g3]at q;cases q
       .rw[hp]at q;cases q
     refine⟨pt,ps.length,xs,rfl,hp6,by rw[hxl];exact hpl,(by omega),λl H7 hl nlp h7l h7p h7o=>?_⟩;have g6l:G6 l=none:=g6.gh.free hl;have s67:ZF (L2.upd G6 l (.lst (xs.drop (xs.length-ps.length)).reverse)) H7:=λb o q=>by
      by_cases hb:b=l
      .subst hb;rw[Zo]at q;rw[← q];exact h7l
      .rw[Zr hb]at q;have hbp:b≠pt:=λz=>by subst z;rw[g6pt]at q;cases q
       rw[h7o b hb hbp];exact g6.gh _ _ q
     have hxs6:=hxs.same g6.gg;have hys:YB K G6 (xs.drop (xs.length-ps.length)).reverse ((stk.take ps.length).map Tv.d):=by have q:=U7 (Qc (xs.length-ps.length) hxs6);rw[List.drop_reverse,List.reverse_reverse,Ie,hxl,hLn,← OR]at q;rw[hxl];exact q
     refine⟨_,rfl,_,rfl,L2.upd G6 l (.lst (xs.drop (xs.length-ps.length)).reverse),[.str z,.list ((stk.take ps.length).map Tv.d)],_,[.str z,.ref l],rfl,s67,ZV (XR z) (ZV (Xd Zo (hys.same (YK g6l))) Z9),⟨z,want,ps,_,rfl,hw,(zaG hty).1,rfl⟩,λv8 G8 H8 g8 h8=>?_⟩;have g8pt:G8 pt=none:=by
      cases e:G8 pt with
      |none=>rfl
      |some o=>
       rcases g8.fr pt o e with q | q
       .rw[Zr (Ne.symm nlp),g6pt]at q;cases q
       .rw[h7p]at q;cases q
     have s68:ZF G6 G8:=(YK g6l).trans g8.gg;refine⟨pt,_,_,rfl,rfl,g8.hh _ _ h7p,by rw[Nj];omega,?_⟩;refine⟨_,_,G8,rfl,Zo,?_,(g1.trans g6.gg).trans s68,QF g8.gh g8pt,g8pt,λb o q=>?_⟩
     .rw[Ng,Op];refine XF ?_ h8;have q:=Qn (xs.length-ps.length) (hxs6.same s68);rw[List.take_reverse,Ie,hxl,hLn,← map_drop]at q;rw[hxl];exact q
     .have hbp:b≠pt:=Zy q hpt;have q6:=g6.hh _ _ (g4 _ _ q);have hbl:b≠l:=Zy q6 hl;rw[Zr hbp];exact g8.hh _ _ (by rw[h7o b hbl hbp];exact q6)
  .rintro σ H' ⟨v,xs,G',rfl,hp,hxs,g1,g2,g3,g4⟩;rw[hol,Nat.sub_self,drop_zero,hev]at hxs;obtain⟨y,ys,rfl,hy,hr'⟩:=hxs.cons;cases hr'.nil;rw[show y=V.str a.t from hy.str]at hp;exact⟨_,rfl,pt,_,0,_,rfl,rfl,SqL.of hp,rfl,k _ G H' ⟨ZF.refl _,g1.trans g2,g4,λ_ _ h=>.inl h⟩ (XR _)⟩
end
section
def zda{n:Nat}(h:n<f.length):(f.map dF)[n]?=some (dF (f.getD n (0,1))):=by rw[Ij,Ir,Ib h];rfl
def getD_mem{n:Nat}(h:n<f.length):f.getD n (0,1)∈f:=by rw[Ir,Ib h];exact IQ h
def zbp(ws:LB):noL (.tuple (ws.map PyData.str))=true:=by
 unfold noL
 induction ws with
 |nil=>rfl
 |cons x r ih=>rw[Ng];unfold zgV;rw[ih];rfl
def zaV(ws:List (Int×Int)):noL (.tuple (ws.map dF))=true:=by
 unfold noL
 induction ws with
 |nil=>rfl
 |cons x r ih=>rw[Ng];unfold zgV;rw[ih];rfl
def zei(T:Top K mg)(W1:Txs K w.params mg "AHEAD" Wl){g:List (Int×Int)}(hfl:f.length=book.length)(hgl:g.length=book.length)(hf:∀ p∈f,Sz p)(hg:∀ p∈g,Sz p){H0:Hp}{pb:AD}{vf vg:V}(Nd:Uo K=true)(hb:Dat K H0 (.ref pb) (.tuple (book.map PyData.str)))(hvf:Dat K H0 vf (.tuple (f.map dF)))(hvg:Dat K H0 vg (.tuple (g.map dF))){A:Around}{outer:LJ}{s' : SH}{H' : Hp}{vs:LC}{Q:VK}{fa c' : AD}{cl:List (Str×AD)}(hr:Wz 2 (A.deeper (zhB Wo (Zh Y5) s'.heap.objs.size fa (.ref c') cl)))(kp:Kp H0 H')(h:spP K (RBF book (zdm book f g)) vs H' Q E0):
  ∃ t,PSs (Uz P w K mg base ((["word", "field"]:LB)++(["place"]:LB)++(["book", "first", "second"]:LB)) Wo (Zh Y5) fa c' cl A outer s' H') (Yj Y5) t/\t {nx:=λ_ H' => Q .non H',rt:=Q} (vs.map some++List.replicate (["place"]:LB).length none++[some (.ref pb),some vf,some vg]) H':=by
 have G_answer:T.QB.O P w base 2 (spP K zk1):=(zcg T W1).mono (by decide);have G_how_stands:=@zi3 T;have hu:=hr.units;obtain⟨G,as,d,sg,hv,⟨z,hz,hx⟩,k⟩:=h;have hi:book.idxOf z<book.length:=NP hz;have hb':=kp.dat _ _ (zbp _) hb;have hf':=kp.dat _ _ (zaV _) hvf;have hg':=kp.dat _ _ (zaV _) hvg;have key:∀{x:Str}{e:PD}{v1 v2:V},Dat K H' v1 (.str x)->Dat K H' v2 (.str z)->zk1 [.str x,.str (hsA (f.getD (book.idxOf z) (0,1)) (g.getD (book.idxOf z) (0,1))).how] e->(∀ v G' H'',YH H' H' G' H'' -> Dat K G' v e->Q v H'')->
   ∃ t,PSs (Uz P w K mg base ((["word", "field"]:LB)++(["place"]:LB)++(["book", "first", "second"]:LB)) Wo (Zh Y5) fa c' cl A outer s' H') (Yj Y5) t/\t {nx:=λ_ H' => Q .non H',rt:=Q} [some v1,some v2,none,some (.ref pb),some vf,some vg] H':=λ{x e v1 v2} h1 h2 hR hk=>by
  refine⟨_,(Zf (ZC (i:=2) Vb.nd rfl (Or.inl rfl) (zcI (K:=K) rfl Nd OI OJ (Qs (K:=K) rfl) (pv 3) (Za (pv 1) Ze Zd)))
   (Zm (Zz (peN T.QB G_answer hr (Za (pv 0) (Za (peN T.Jl G_how_stands hr (Za (ZG (Z1 (K:=K) rfl) (pv 4) (pv 2) (λ_ _=>rfl)) (Za (ZG (Z1 (K:=K) rfl) (pv 5) (pv 2) (λ_ _=>rfl)) Ze Zj) Zj)) Ze Yo) Zd))))) ,?_⟩
  refine JH (K:=K) (G:=H') (zdg (Zn rfl hb') (Zn rfl h2) hz) (ZF.refl _) λv3 G1 H1 g1 h3=>?_;refine Yz (K:=K) (G:=G1) (YQ (E:=E0) (R:=zk1) (Zq (Zn rfl (h1.same g1.gg)) (Zq (YQ (E:=E0) (R:=zoa) (Zq (J8 (Zn rfl (hf'.same g1.gg)) (Zn rfl h3) (YG (by rw[Ie];omega)) (zda (by omega))) (Zq (J8 (Zn rfl (hg'.same g1.gg)) (Zn rfl h3) (YG (by rw[Ie];omega)) (zda (by omega))) ZW)) ⟨_,_,rfl,hf _ (getD_mem (by omega)),hg _ (getD_mem (by omega)),rfl⟩) ZW)) hR) g1.gh λv G' H'' g hv=>hk v G' H'' (g1.trans g) hv
 rcases hx with⟨rfl,rfl⟩ | ⟨rfl,rfl⟩
 .obtain⟨v1,r1,rfl,h1,hv⟩:=hv.cons;obtain⟨v2,r2,rfl,h2,hv⟩:=hv.cons;cases hv.nil;exact key (h1.same sg) (h2.same sg) ⟨_,.inl ⟨rfl,rfl⟩⟩ λv G' H'' g hv=>by rw[hv.str];exact k _ G H'' ⟨ZF.refl _,sg.trans g.hh,g.hh,λ_ _ h=>.inl h⟩ (XR _)
 .obtain⟨v1,r1,rfl,h1,hv⟩:=hv.cons;obtain⟨v2,r2,rfl,h2,hv⟩:=hv.cons;cases hv.nil;refine key (e:=.bool (isA (hsA (f.getD (book.idxOf z) (0,1)) (g.getD (book.idxOf z) (0,1))) .like)) (h1.same sg) (h2.same sg) ⟨_,.inr ⟨_,(by decide +kernel),rfl,?_⟩⟩ λv G' H'' g hv=>by rw[hv.bl];exact k _ G H'' ⟨ZF.refl _,sg.trans g.hh,g.hh,λ_ _ h=>.inl h⟩ (Yc _)
  congr 1;generalize hsA _ _=a;cases a <;> decide +kernel
end
noncomputable def wid(G H:Hp):Hp:=λb=>match G b with
 |some o=>some o
 |none=>match H b with
  |some (.lst _)=>none
  |o=>o
def zhT :ZF G (wid G H):=λb o e=>by unfold wid;rw[e]
def zlf(s:ZF G H):ZF (wid G H) H:=λb o e=>by
 unfold wid at e;cases hg:G b with
 |some o' => rw[hg]at e;dsimp only at e;rw[← e];exact s _ _ hg
 |none=>
  rw[hg]at e;dsimp only at e;split at e
  .cases e
  .exact e
def zl5(s:ZF G H):Kp H (wid G H):=by
 refine⟨λb xs e=>?_,λb o u e=>?_,λb cr e=>?_⟩
 all_goals
  unfold wid;cases hg:G b with
  |some o' => rw[s _ _ hg]at e;exact e
  |none=>dsimp only;rw[e]
def zh9{K:FG}{G' H':Hp}{v:V}{ds:LA}(s:ZF G H)(g:YH (wid G H) H G' H')(hv:Dat K G' v (.list ds))(hf:∀{G1 G2:Hp}{xs:LC},YB K G1 xs ds->YB K G2 xs ds):∃ G'',YH G H G'' H' /\ Dat K G'' v (.list ds):=by
 obtain⟨p,xs,rfl,hp,hx⟩:=hv.lst;cases hg:G p with
 |some o=>have e:=g.gg _ _ (zhT (H:=H) _ _ hg);rw[hp]at e;injection e with e;refine⟨G,⟨ZF.refl _,s.trans g.hh,g.hh,λ_ _ h=>.inl h⟩,Xd (xs:=xs) (by rw[hg,← e]) (hf hx)⟩
 |none=>
  have hn:H p=none:=by
   rcases g.fr p _ hp with q | q
   .have hH:=zlf s _ _ q;unfold wid at q;rw[hg]at q;dsimp only at q;rw[hH]at q;cases q
   .exact q
  have sG:ZF G (L2.upd G p (.lst xs)):=YK hg;refine⟨L2.upd G p (.lst xs),⟨sG,λb o e=>?_,g.hh,λb o e=>?_⟩,Xd Zo (hf hx)⟩
  .by_cases hb:b=p
   .subst hb;rw[Zo]at e;rw[← e];exact g.gh _ _ hp
   .rw[Zr hb]at e;exact g.hh _ _ (s _ _ e)
  .by_cases hb:b=p
   .subst hb;exact .inr hn
   .rw[Zr hb]at e;exact .inl e
def zlR{a:An}{b:An}(h:b.how=x):decide (a.how=x)=isA a b:=by subst h;cases a <;> cases b <;> decide +kernel
section
def zgB(T:Top K mg)(W1:Txs K w.params mg "AHEAD" Wl){g:List (Int×Int)}(hnum:∀ a b,num a b->Sz (a,b))(hfl:f.length=book.length)(hgl:g.length=book.length)(hf:∀ p∈f,Sz p)(hg:∀ p∈g,Sz p){H0:Hp}{pb:AD}{vf vg:V}(Nd:Uo K=true)(hb:Dat K H0 (.ref pb) (.tuple (book.map PyData.str)))(hvf:Dat K H0 vf (.tuple (f.map dF)))(hvg:Dat K H0 vg (.tuple (g.map dF))){A:Around}{outer:LJ}{s' : SH}{H' : Hp}{vs:LC}{Q:VK}{fa c' : AD}{cl:List (Str×AD)}(hr:Wz 2 (A.deeper (zhB WQ (Zh Xp) s'.heap.objs.size fa (.ref c') cl)))(kp:Kp H0 H')(h:spP K (RBM book num (zdm book f g)) vs H' Q E0):
  ∃ t,PSs (Uz P w K mg base ((["word", "field", "number"]:LB)++(["place"]:LB)++(["book", "first", "second"]:LB)) WQ (Zh Xp) fa c' cl A outer s' H') (Yj Xp) t/\t {nx:=λ_ H' => Q .non H',rt:=Q} (vs.map some++List.replicate (["place"]:LB).length none++[some (.ref pb),some vf,some vg]) H':=by
 have G_answer:T.QB.O P w base 2 (spP K zk1):=(zcg T W1).mono (by decide);have G_how_stands:=@zi3 T;have hu:=hr.units;obtain⟨G,as,d,sg,hv,⟨z,hz,a,b,hab,hx⟩,k⟩:=h;have hi:book.idxOf z<book.length:=NP hz;have kw:=kp.trans (zl5 sg);have hb':=kw.dat _ _ (zbp _) hb;have hf':=kw.dat _ _ (zaV _) hvf;have hg':=kw.dat _ _ (zaV _) hvg;have key:∀{x:Str}{c:An}{v1 v2 v3:V},x≠S "look" -> c.how=x->Dat K G v1 (.str x)->Dat K G v2 (.str z)->Dat K G v3 (dF (a,b))->
   (∀ v G' H'',YH G H' G' H'' -> Dat K G' v (.list [.bool (isA (hsA (f.getD (book.idxOf z) (0,1)) (a,b)) c),.bool (isA (hsA (g.getD (book.idxOf z) (0,1)) (a,b)) c)])->Q v H'')->
   ∃ t,PSs (Uz P w K mg base ((["word", "field", "number"]:LB)++(["place"]:LB)++(["book", "first", "second"]:LB)) WQ (Zh Xp) fa c' cl A outer s' H') (Yj Xp) t/\t {nx:=λ_ H' => Q .non H',rt:=Q} [some v1,some v2,some v3,none,some (.ref pb),some vf,some vg] H':=λ{x c v1 v2 v3} hxl hc h1 h2 h3 hk=>by
  have h1':=h1.same (zhT (H:=H'));have h2':=h2.same (zhT (H:=H'));have h3':=h3.same (zhT (H:=H'));refine⟨_,(Zf (ZC (i:=3) Ub.nd rfl (Or.inr rfl) (zcI (K:=K) rfl Nd OI OJ (Qs (K:=K) rfl) (pv 4) (Za (pv 1) Ze Zd)))
   (Zm (Zz (zbv (x:= "thing") (cap:=["word", "place", "number"]) (js:=[0,3,2]) ⟨rfl,(by decide +kernel),(by decide +kernel),rfl,(by show ∀ p∈(_:List (Str×NameKind)),p.2=NameKind.free->List.lookup p.1 (Zh Xp).names=some NameKind.cell;decide +kernel),(by decide +kernel),(by decide +kernel),(by decide +kernel)⟩ rfl rfl (λ_ _ h=>h) (zav (Xb (Za (pv 5) (Za (pv 6) Ze Zd) Zd))) (λ_ _ _ _=>⟨X8,(peN T.QB G_answer hr (Za (pv 1) (Za (peN T.Jl G_how_stands hr (Za (ZG (Z1 (K:=K) rfl) (pv 0) (pv 2) (λ_ _=>rfl)) (Za (pv 3) Ze Zd) Zj)) Ze Yo) Zd))⟩))))) ,?_⟩
  refine JH (K:=K) (G:=wid G H') (zdg (Zn rfl hb') (Zn rfl h2') hz) (zlf sg) λv4 G1 H1 g1 h4=>?_;refine Yz (K:=K) (G:=G1) (d:=.list [.bool (isA (hsA (f.getD (book.idxOf z) (0,1)) (a,b)) c),.bool (isA (hsA (g.getD (book.idxOf z) (0,1)) (a,b)) c)])
   (zis (K:=K) [f,g] (λl=>.tuple (l.map dF)) (λl=>some (.bool (isA (hsA (l.getD (book.idxOf z) (0,1)) (a,b)) c))) (zi5 (Zq (Zn rfl (hf'.same g1.gg)) (Zq (Zn rfl (hg'.same g1.gg)) ZW)) (by show 2<=sizeLine;decide)) (by show 2<sizeLine;decide) (λG2 i l y sG hl hy=>?_)) g1.gh λv G' H'' g2 hv=>?_
  .have hll:l.length=book.length/\∀ p∈l,Sz p:=by
    match i,hl with
    |0,hl=>cases hl;exact⟨hfl,hf⟩
    |1,hl=>cases hl;exact⟨hgl,hg⟩
   refine .inl ⟨_,rfl,QG,YQ (E:=E0) (R:=zk1) (Zq (Zn rfl ((h1'.same g1.gg).same sG)) (Zq (YQ (E:=E0) (R:=zoa) (Zq (J8 (Zn rfl hy) (Zn rfl (h4.same sG)) (YG (by rw[Ie];omega)) (zda (by omega))) (Zq (Zn rfl ((h3'.same g1.gg).same sG)) ZW)) ⟨_,(a,b),rfl,hll.2 _ (getD_mem (by omega)),hnum a b hab,rfl⟩) ZW)) ⟨_,.inr ⟨x,hxl,rfl,?_⟩⟩⟩;rw[zlR hc]
  .obtain⟨G'',g3,hv'⟩:=zh9 sg (g1.trans g2) hv (λ{G1 G2 xs} hd=>by
    obtain⟨y1,r1,rfl,d1,hd⟩:=hd.cons;obtain⟨y2,r2,rfl,d2,hd⟩:=hd.cons;cases hd.nil;rw[d1.bl,d2.bl];exact ZV (Yc _) (ZV (Yc _) Z9))
   exact hk v G'' H'' g3 hv'
 rcases hx with⟨rfl,rfl⟩ | ⟨rfl,rfl⟩
 .obtain⟨v1,r1,rfl,h1,hv⟩:=hv.cons;obtain⟨v2,r2,rfl,h2,hv⟩:=hv.cons;obtain⟨v3,r3,rfl,h3,hv⟩:=hv.cons;cases hv.nil;exact key (c:=.ahead) (by decide +kernel) rfl h1 h2 h3 k
 .obtain⟨v1,r1,rfl,h1,hv⟩:=hv.cons;obtain⟨v2,r2,rfl,h2,hv⟩:=hv.cons;obtain⟨v3,r3,rfl,h3,hv⟩:=hv.cons;cases hv.nil;exact key (c:=.like) (by decide +kernel) rfl h1 h2 h3 k
end
def RLk:LA->PD->Prop:=λas d=>∃(ws:List Wd)(book:LB)(f g:List (Int×Int))(num:Int->Int->Prop)(a:An),as=[.tuple (ws.map Wd.d),.tuple (book.map PyData.str),.tuple (f.map dF),.tuple (g.map dF)]/\J9 (· ∈ book) num ws/\(∀ a b,num a b->Sz (a,b))/\(f.length=book.length/\g.length=book.length/\(∀ p∈f,Sz p)/\∀ p∈g,Sz p)/\(∀ z∈book,Yr z=none)/\ws.length<=900/\(∀ R,ev (zdm book f g) ws R = .an a::R)/\d = .str a.t
section
def zcB(T:Top K mg)(Nd:Uo K=true)(M:Bs K mg base)(W:Wds K w.params mg)(W1:Txs K w.params mg "AHEAD" Wl)(W2:Txs K w.params mg "OTHER_WAY" X7):T.Jc.O P w base 6 (znT K T.Z8 Z5 RLk):=by
 refine T.Jc.F.okC zaK (λvs H Q E h=>?_) (λcdv A outer s H vs Q E hcd hr h=>?_)
 .obtain⟨G,ds,d,_,_,hv,⟨ws,book,f,g,num,a,rfl,_⟩,_⟩:=h;rw[hv.length];rfl
 .obtain⟨G,ds,d,hP,sg,hv,⟨ws,book,f,g,num,a,rfl,hord,hnum,⟨hfl,hgl,hf,hg⟩,hwd,hlen,hev,rfl⟩,k0⟩:=h;obtain⟨vo,r1,rfl,ho,hv⟩:=hv.cons;obtain⟨vb,r2,rfl,hpb,hv⟩:=hv.cons;obtain⟨vf,r3,rfl,hvf,hv⟩:=hv.cons;obtain⟨vg,r4,rfl,hvg,hv⟩:=hv.cons;cases hv.nil;obtain⟨pb,_,rfl,_,_⟩:=id hpb.tup;have k:∀ G' H',YH G H G' H' -> Q (.str a.t) H':=λG' H' g' => k0 _ G' H' g' (XR _);have hu:=hr.units;have G_telling:=λf1 f2=>zex T W W2 book num (zdm book f g) hwd f1 f2
  let RH:AD->AD->St->Hp->Prop:=λf1 f2 σ H1=>(Qa H1 f1 "by_field" Wo (We Y5) (Yj Y5) (Zh Y5) (Jz (PyProof.Rows.envOfC "looked" (Zh Xi) s.heap.objs.size T.Jc.f cdv) (Zh Y5).names [])/\
   Qa H1 f2 "by_mark" WQ (We Xp) (Yj Xp) (Zh Xp) (Jz (PyProof.Rows.envOfC "looked" (Zh Xi) s.heap.objs.size T.Jc.f cdv) (Zh Xp).names []))/\
   σ=[some vo,some (.ref pb),some vf,some vg,some (.ref f1),some (.ref f2)]/\Dat K H1 (.ref pb) (.tuple (book.map PyData.str))/\Dat K H1 vf (.tuple (f.map dF))/\Dat K H1 vg (.tuple (g.map dF))
  have hC:∀(aa:List (Addr×Obj))(σ:St)(H1:Hp)(s1:SH)(f1 f2:AD),Inv (zbJ CX0 P w K mg base ["order", "book", "first", "second", "by_field", "by_mark"] "looked" (Zh Xi) T.Jc.f cdv A outer s H E).nox aa σ H1 s1->RH f1 f2 σ H1->cls2 P w K mg base book num (zdm book f g) f1 f2 s1 H1:=by
   rintro aa σ H1 s1 f1 f2 I ⟨⟨L1,L2⟩,rfl,hb1,hf1,hg1⟩;refine⟨zmG (js:=[1,2,3]) I Vb rfl L1 (λcl us hl doc pm ctv c' => ?_) (λA outer s' H' vs Q fa c' cl hr' kp hl h=>zei T W1 hfl hgl hf hg Nd hb1 hf1 hg1 hr' kp h),zmG (js:=[1,2,3]) I Ub rfl L2 (λcl us hl doc pm ctv c' => ?_) (λA outer s' H' vs Q fa c' cl hr' kp hl h=>zgB T W1 hnum hfl hgl hf hg Nd hb1 hf1 hg1 hr' kp h)⟩
   .match us,hl with
    |[_,_],_=>rfl
   .match us,hl with
    |[_,_,_],_=>rfl
  refine⟨_,(Zf (ziX (i:=4) (P:=T.Z8) (cr:=Z5) (q:=Wo) Vb (hcd.trans T.cd_looked) (codeHd_of_K M.kin T.ch_looked) M.bm rfl rfl zaK.nd rfl rfl)
   (Zf (ziX (i:=5) (P:=T.Z8) (cr:=Z5) (q:=WQ) Ub (hcd.trans T.cd_looked) (codeHd_of_K M.kin T.ch_looked) M.bm rfl rfl zaK.nd rfl rfl)
   (Zm (Zz (zjH (C:=cls2 P w K mg base book num (zdm book f g)) (sp2:=λf1 f2 _=>spC K f1 f2 (zlG book num (zdm book f g))) (RH:=RH) (λf1 f2 _=>G_telling f1 f2) hC hr (by rfl) T.JB.m T.JB.F.kp T.JB.b (Za (pv 0) (Za (pv 4) (Za (pv 5) Ze Zd) Zd) Zd)))))) ,?_⟩
  refine⟨sg _ _ hP,λf1 H1 hf1 s1 L1=>⟨s1 _ _ (sg _ _ hP),λf2 H2 hf2 s2 L2=>?_⟩⟩;have sH:=s1.trans s2;have sG:=sg.trans sH;refine⟨_,rfl,_,rfl,_,rfl,f1,f2,⟨⟨L1.same λb o u e=>s2 _ _ e,L2⟩,rfl,hpb.same sG,hvf.same sG,hvg.same sG⟩,?_⟩;refine⟨G,[.tuple (ws.map Wd.d)],.str a.t,[vo],rfl,sG,ZV ho Z9,⟨ws,a,rfl,hord,hev,hlen,rfl⟩,λv G' H' g' hv=>?_⟩;rw[hv.str];exact k G H' ⟨ZF.refl _,sG.trans g'.hh,sH.trans g'.hh,λ_ _ h=>.inl h⟩
end
abbrev dOs(ws:List Wd):PD:=.tuple (ws.map Wd.d)
section
def zlo(ha:Ev K ta σ G (.str x))(hb:Ev K tb σ G (.str y)):Ev K (tOp rNe ta tb) σ G (.bool (!decide (x=y))):=
 QR ha hb λG1 H u v Q s1 s2 hu hv k=>by rw[hu.str,hv.str];refine⟨rfl,?_⟩;have e:decide (V.str x=V.str y)=decide (x=y):=decide_eq_decide.mpr ⟨λz=>by injection z,λz=>by rw[z]⟩;rw[e];exact k _ G1 H (YH.refl s2) (Yc _)
def zjb{tf tg:TE}{i:Nat}{ws:List Wd}{g:List (Int×Int)}{a:An}{pb Pt:AD}(hT:G Pt=some (.tbl Z5))(hpb:Dat K G (.ref pb) (.tuple (book.map PyData.str)))(hz:(f.length=book.length/\g.length=book.length/\(∀ p∈f,Sz p)/\∀ p∈g,Sz p)/\(∀ a b,num a b->Sz (a,b))/\∀ z∈book,Yr z=none)(hi:σ[i]?=some (some (.ref pb)))(ha:Ev K ta σ G (dOs ws))(hf:Ev K tf σ G (.tuple (f.map dF)))(hg:Ev K tg σ G (.tuple (g.map dF)))(hord:J9 (· ∈ book) num ws)(hlen:ws.length<=900)(hev:∀ R,ev (zdm book f g) ws R = .an a::R):Ev K (QM (znT K Pt Z5 RLk) [] E0 (YC ta (YC (Wj i) (YC tf (YC tg Vk))))) σ G (.str a.t):=
 zdu hT (Zq ha (Zq (Zn hi hpb) (Zq hf (Zq hg ZW)))) ⟨ws,book,f,g,num,a,rfl,hord,hz.2.1,hz.1,hz.2.2,hlen,hev,rfl⟩
end
end K61
namespace L2
open PySem PySem.Spec PyProof.Rows
theorem countIn_strs(z:Str):∀ ss:LB,countIn (.str z) (ss.map PyData.str)=((ss.countP λs=>decide (s=z):Nat):Int)
 |[]=>rfl
 |s::r=>by
  have ih:=countIn_strs z r;rw[Ng,countIn,countP_cons,ih];by_cases h:s=z
  .subst h;simp[same];omega
  .have h' : ¬ z=s:=λe=>h e.symm;simp[same,h,h']
section
variable {X:Cx}
def zmD(K:FG):V->LC->Hp->VK->Prop:=λx vs H Q=>∃(p:AD)(ss:LB)(z:Str),x = .ref p/\vs=[.str z]/\SqL K H p (ss.map V.str)/\Q (.int ((ss.countP λs=>decide (s=z):Nat):Int)) H
def zg9{K:FG}(eK:X.K=K):MtM X "list.count" (zmD K):=by subst eK;intro aa s σ H x vs v us Q I rx rv h;obtain⟨p,ss,z,rfl,rfl,hp,q⟩:=h;cases rx;obtain⟨u,rfl,ru⟩:=vals1 rv;obtain⟨t,rfl⟩:=ru;obtain⟨its,r,pl,hl⟩:=I.list hp;exact count_list_strs pl.isList (zeq r) ⟨.int _,H,I.tok _,⟨_,by rw[countIn_strs]⟩,q⟩
def zng{K:FG}(eK:X.K=K){o e:Expr}{es:List Expr}{to:TE}{t:TA}{name:Str}{apos cpos:Pos}{T id:String}{r:V->LC->Hp->VK->Prop}(pa:PlainAttrs T)(slot:Slot T name id)(hty:typeOf (.builtin id)=pure (.type "method_descriptor"))(hm:MtR X id r)(ho:PE X o to)(ha:PA X (e::es) t)(h1:attributeBase o name X.env (eval o X.env)=eval o X.env:=by rfl)(h2:((backTo cpos (starEach (e::es) X.env)).all (λx=>!x.1)&&(backToKw cpos (keywordEach [] X.env)).all (λx=>x.1.isSome)&&decide ((e::es).length+([]:List Keyword).length+(if([]:List Keyword).isEmpty then 0 else 1)<30))=true:=by rfl)(h3:(apos.endLine==cpos.line)=true:=by rfl)(h4:starEach (e::es) X.env=(false,eval e X.env)::starEach es X.env:=by rfl)(h5:(backTo cpos (starEach es X.env)).any (·.1)=false:=by rfl):PE X (.Call (.Attribute o name apos) (e::es) [] cpos) (tBM K T r to t):=by subst eK;exact zap pa slot hty hm ho ha h1 h2 h3 h4 h5
def zcH{K:FG}{a:AD}{xs:LC}{g:TG}{tb:TS}{D:Ends}{σ:St}{H:Hp}(Pv:Nat->St->Hp->Prop)(h0:Pv 0 σ H)(hl:∀ i σ H,i<=xs.length->Pv i σ H->SqL K H a xs)(hs:∀ i x σ H p,xs[i]?=some x->Pv i σ H->H p=none->g (.ref p) σ (upd H p (.tup [.int i,x])) fun σ2 H2=>tb {D with nx:=Pv (i+1),ct:=Pv (i+1),bk:=D.nx} σ2 H2)(hd:∀ σ H,Pv xs.length σ H->D.nx σ H):
  ∃ W:Nat->Nat->St->Hp->Prop,(∃ m,W 0 m σ H)/\∀ i m σ H,W i m σ H->
   ((zmz K a).stop i H/\D.nx σ H)\/((zmz K a).go i H/\∃ N:St->Hp->Prop,(∀ σ' H',N σ' H' -> ∃ m',m'<m/\W (i+1) m' σ' H')/\∀ x H',(zmz K a).yld i H x H' -> g x σ H' fun σ2 H2=>tb {D with nx:=N,ct:=N,bk:=D.nx} σ2 H2):=by
 refine⟨λi m σ H=>m=xs.length-i/\i<=xs.length/\Pv i σ H,⟨xs.length,(by simp),Nr _,h0⟩,?_⟩;rintro i m σ H ⟨rfl,hi,p⟩;have q:=hl i σ H hi p;by_cases hlt:i<xs.length
 .refine .inr ⟨⟨xs,_,q,Ib hlt⟩,Pv (i+1),fun σ' H' p' => ⟨xs.length-(i+1),(by omega),rfl,hlt,p'⟩,λx H' y=>?_⟩;obtain⟨p',x',hp',rfl,rfl,hx⟩:=y;exact hs i x' σ H p' (hx xs q) p hp'
 .have e:i=xs.length:=by omega
  subst e;exact .inl ⟨⟨xs,q,Ik _⟩,hd σ H p⟩
end
end L2
namespace K61
open PySem L2 Frac Lw PySem.NumText
open Ord Look Rdo
abbrev dT(f:Fs):PD:=.tuple (f.map dF)
def OC(book:LB)(num:Int->Int->Prop)(ws:List Wd):Prop:=J9 (· ∈ book) num ws/\(∀ a b,num a b->Sz (a,b))/\(∀ z∈book,Yr z=none)/\ws.length<=900
def FZ(n:Nat)(f:Fs):Prop:=f.length=n/\∀ p∈f,Sz p
def spB(K:FG)(Pt:AD)(cr:Nat->Nat->Option Str)(R:LB->LA->PD->Prop):Sp:=λvs H Q _=>∃(G:Hp)(book:LB)(vo:V)(pb:AD)(us:LC)(ds:LA)(d:PD),vs=vo :: .ref pb::us/\G Pt=some (.tbl cr)/\ZF G H/\Dat K G (.ref pb) (.tuple (book.map PyData.str))/\YB K G (vo::us) ds/\R book ds d/\
 ∀ v G' H',YH G H G' H' -> Dat K G' v d->Q v H'
def zlV(book:LB):LA->PD->Prop:=λds d=>∃(ws:List Wd)(num:Int->Int->Prop)(f:Fs)(gs:List Fs),ds=[dOs ws,dT f,.list (gs.map dT)]/\OC book num ws/\FZ book.length f/\(∀ g∈gs,FZ book.length g)/\gs.length<=1000/\d = .list (gs.map λg=>.str (Wq book ws f g).t)
noncomputable def zk4(L:Fs->Fs->An)(gs:List Fs):PD:=.list (gs.map λf=>.list (gs.map λg=>.str (L f g).t))
def zoI(book:LB):LA->PD->Prop:=λds d=>∃(ws:List Wd)(num:Int->Int->Prop)(gs:List Fs),ds=[dOs ws,.list (gs.map dT)]/\OC book num ws/\(∀ g∈gs,FZ book.length g)/\gs.length<=1000/\d=zk4 (Wq book ws) gs
def zkd:LA->PD->Prop:=λds d=>∃ gs:List Fs,ds=[.tuple (gs.map dT)]/\gs.length<=1000/\d = .list ((WW gs).map dT)
def zgf:LA->PD->Prop:=λds d=>∃(L:Fs->Fs->An)(gs:List Fs),ds=[zk4 L gs]/\gs.length<=1000/\d = .list (gs.map λf=>.int (rk L gs f:Nat))
def znc:LA->PD->Prop:=λds d=>∃ i j:Nat,ds=[.int (i:Nat),.int (j:Nat)]/\d = .str (zaZ i j).t
def zlP:LA->PD->Prop:=λds d=>∃(L:Fs->Fs->An)(gs:List Fs),ds=[zk4 L gs]/\gs.length<=1000/\d = .bool (agree L gs)
def zb4(K:FG):Sp:=λvs H Q _=>∃(G:Hp)(v1:V)(L:Fs->Fs->An)(gs:List Fs),vs=[v1]/\ZF G H/\Dat K G v1 (zk4 L gs)/\gs.length<=1000/\(∀ G' H',YH G H G' H' -> agree L gs=true->Q .non H')/\∀ p G' H',YH G H G' H' -> agree L gs=false->Q (.ref p) H'
noncomputable def zbY(f:Fs):KX:=f.map λp=>[.inl p.1,.inl p.2]
def U3(f:Fs):zcG (zbY f)=dT f:=by unfold zcG zbY;rw[N8];rfl
def zd9{f g:Fs}(h:zbY f=zbY g):f=g:=by unfold zbY at h;refine(List.map_inj_right λp q z=>?_).mp h;injection z with z1 z2;injection z1 with z1;injection z2 with z2 _;injection z2 with z2;exact Prod.ext z1 z2
def zeb(gs:List Fs):(WW gs).length<=gs.length:=by
 have key:∀(l acc:List Fs),(l.foldl (λacc f=>if(acc.any λg=>decide (g=f))=true then acc else acc++[f]) acc).length<=acc.length+l.length:=by
  intro l
  induction l with
  |nil=>intro acc;simp
  |cons x r ih=>
   intro acc;rw[List.foldl_cons];refine ND (ih _) ?_;split
   .rw[IC];omega
   .simp only[Ig,IC,N7];omega
 have:=key gs [];unfold WW;simpa using this
def zfa(gs:List Fs)(f:Fs):WW (gs++[f])=if((WW gs).any λg=>decide (g=f))=true then WW gs else WW gs++[f]:=by unfold WW;rw[List.foldl_append];rfl
section
def zbN{σ:St}{G:Hp}{ta:TE}{t:TA}{i:Nat}{pb Pt:AD}{cr:Nat->Nat->Option Str}{book:LB}{d0 d:PD}{ds:LA}{R:LB->LA->PD->Prop}(hT:G Pt=some (.tbl cr))(hpb:Dat K G (.ref pb) (.tuple (book.map PyData.str)))(hi:σ[i]?=some (some (.ref pb)))(ha:Ev K ta σ G d0)(h:EvA K t σ G ds)(hR:R book (d0::ds) d):
  Ev K (QM (spB K Pt cr R) [] E0 (YC ta (YC (Wj i) t))) σ G d:=λG1 H s1 s2 Q k=>ha G1 H s1 s2 _ λv1 G2 H2 g2 h1=>⟨_,hi,h G2 H2 (s1.trans g2.gg) g2.gh _ λvs G3 H3 g3 h3=>by
  have g23:=g2.trans g3;have sG:=s1.trans g23.gg;refine⟨G3,book,v1,pb,vs,d0::ds,d,(by simp),sG _ _ hT,g3.gh,hpb.same sG,ZV (h1.same g3.gg) h3,hR,λv G' H' g' hv=>k v G' H' (g23.trans g') hv⟩⟩
def zej(T:Top K mg)(Nd:Uo K=true)(M:Bs K mg base)(W:Wds K w.params mg)(W1:Txs K w.params mg "AHEAD" Wl)(W2:Txs K w.params mg "OTHER_WAY" X7):T.Uh.O P w base 7 (spB K T.Z8 Z5 zlV):=by
 have G_looked:=@zcB T Nd M W W1 W2;refine T.Uh.F.ok zcT (λvs H Q E h=>?_) (λcdv A outer s H vs Q E hr h=>?_)
 .obtain⟨G,book,vo,pb,us,ds,d,rfl,_,_,_,hd,⟨ws,num,f,gs,rfl,_⟩,_⟩:=h;have:=hd.length;simp only[IC,N7]at this ⊢;omega
 .obtain⟨G,book,vo,pb,us,ds,d,rfl,hT,sg,hpb,hd,⟨ws,num,f,gs,rfl,⟨o1,o2,o3,o4⟩,hf,hgs,hl,rfl⟩,k⟩:=h;obtain⟨v0,r0,e0,h0,hd⟩:=hd.cons;cases e0
  rename YB K G us _=>hd
  obtain⟨v1,r1,rfl,h1,hd⟩:=hd.cons;obtain⟨v2,r2,rfl,h2,hd⟩:=hd.cons;cases hd.nil;have zl:(2000:Nat)<=sizeLine:=by decide
  refine⟨_,(Zm (Zz (zbv (x:= "other") (cap:=["order", "book", "one"]) (js:=[0,1,2]) ⟨rfl,(by decide +kernel),(by decide +kernel),rfl,(by show ∀ p∈(_:List (Str×NameKind)),p.2=NameKind.free->List.lookup p.1 (Zh QD).names=some NameKind.cell;decide +kernel),(by decide +kernel),(by decide +kernel),(by decide +kernel)⟩ rfl rfl (λ_ _ h=>h) (Ui (pv 3)) (λ_ _ _ _=>⟨X8,(peN T.Jc G_looked hr (Za (pv 1) (Za (pv 2) (Za (pv 3) (Za (pv 0) Ze Zd) Zd) Zd) Zd))⟩)))) ,?_⟩;refine Yz (K:=K) (zdH (js:=[0,1,2]) gs dT (λg=>some (.str (Wq book ws f g).t)) (Zn rfl h2) (by omega) λG2 i g x s3 hg hx=>lc1 QG (zjb (s3 _ _ hT) (hpb.same s3) ⟨⟨hf.1,(hgs g (Iz hg)).1,hf.2,(hgs g (Iz hg)).2⟩,o2,o3⟩ rfl (Zn rfl (h0.same s3)) (Zn rfl (h1.same s3)) (Zn rfl hx) o1 o4 (zhZ f g o3 o1))) sg λv G' H' g' hv=>k v G' H' g' ?_;rw[JT]at hv;exact hv
def zg4(T:Top K mg)(Nd:Uo K=true)(M:Bs K mg base)(W:Wds K w.params mg)(W1:Txs K w.params mg "AHEAD" Wl)(W2:Txs K w.params mg "OTHER_WAY" X7):T.V0.O P w base 8 (spB K T.Z8 Z5 zoI):=by
 have G_looks_of:=@zej T Nd M W W1 W2;refine T.V0.F.ok zdk (λvs H Q E h=>?_) (λcdv A outer s H vs Q E hr h=>?_)
 .obtain⟨G,book,vo,pb,us,ds,d,rfl,_,_,_,hd,⟨ws,num,gs,rfl,_⟩,_⟩:=h;have:=hd.length;simp only[IC,N7]at this ⊢;omega
 .obtain⟨G,book,vo,pb,us,ds,d,rfl,hT,sg,hpb,hd,⟨ws,num,gs,rfl,oc,hgs,hl,rfl⟩,k⟩:=h;obtain⟨v0,r0,e0,h0,hd⟩:=hd.cons;cases e0
  rename YB K G us _=>hd
  obtain⟨v2,r2,rfl,h2,hd⟩:=hd.cons;cases hd.nil;have zl:(2000:Nat)<=sizeLine:=by decide
  refine⟨_,(Zm (Zz (zbv (x:= "one") (cap:=["order", "book", "things"]) (js:=[0,1,2]) ⟨rfl,(by decide +kernel),(by decide +kernel),rfl,(by show ∀ p∈(_:List (Str×NameKind)),p.2=NameKind.free->List.lookup p.1 (Zh QL).names=some NameKind.cell;decide +kernel),(by decide +kernel),(by decide +kernel),(by decide +kernel)⟩ rfl rfl (λ_ _ h=>h) (Ui (pv 2)) (λ_ _ _ _=>⟨X8,(peN T.Uh G_looks_of hr (Za (pv 1) (Za (pv 2) (Za (pv 0) (Za (pv 3) Ze Zd) Zd) Zd) Zd))⟩)))) ,?_⟩;refine Yz (K:=K) (zdH (js:=[0,1,2]) gs dT (λf=>some (.list (gs.map λg=>.str (Wq book ws f g).t))) (Zn rfl h2) (by omega) λG2 i f x s3 hf hx=>lc1 QG (zbN (s3 _ _ hT) (hpb.same s3) rfl (Zn rfl (h0.same s3)) (Zq (Zn rfl hx) (Zq (Zn rfl (h2.same s3)) ZW)) ⟨ws,num,f,gs,rfl,oc,hgs f (Iz hf),hgs,hl,rfl⟩)) sg λv G' H' g' hv=>k v G' H' g' ?_;rw[JT]at hv;exact hv
def zjc(T:Top K mg):T.JN.O P w base 2 (spP K zkd):=by
 refine T.JN.F.ok Qt (λvs H Q E h=>?_) (λcdv A outer s H vs Q E hr h=>?_)
 .obtain⟨G,as,d,sg,hv,⟨gs,rfl,_⟩,_⟩:=h;rw[hv.length];rfl
 .obtain⟨G,as,d,sg,hv,⟨gs,rfl,hl,rfl⟩,k⟩:=h;obtain⟨v1,r1,rfl,h1,hv⟩:=hv.cons;cases hv.nil;have hu:=hr.units;have zl:(2000:Nat)<=sizeLine:=by decide
  obtain⟨pt,vs,rfl,hpt,hvs⟩:=h1.tup;have hvl:vs.length=gs.length:=by rw[hvs.length,Ie]
  refine⟨_,(Zf (ZC (i:=1) Qt.nd rfl (Or.inl rfl) (zhm rfl rfl))
   (Zf (JG Nh rfl (zav (pv 0)) (Yh (i:=2) Qt.nd rfl (Or.inl rfl)) (Zm (zif (K:=K) rfl rfl rfl hu (pv 1) (pv 2) VR (by rfl))))
   (Zm (Zz (Yq (zeD rfl rfl rfl) (by rfl) T.zok zh0 (Za (pv 1) Ze Zd)))))) ,?_⟩
  refine λpk hpk=>?_;have gpk:G pk=none:=sg.free hpk;refine⟨_,rfl,pt,rfl,⟨vs,(sg.trans (YK hpk)).tup hpt⟩,zjk (xs:=vs) (λi σ H' => ∃(v:Option V)(xs:List (KX×AD)),σ=[some (.ref pt),some (.ref pk),v]/\(∀ b o,b≠pk->H b=some o->H' b=some o)/\H' pk=some (dX P w pk xs)/\xs.map (·.1)=(WW (gs.take i)).map zbY/\(∀ z∈xs,Dat K G (.ref z.2) (zcG z.1))/\∀ b,H b=none->b≠pk->H' b=none)
   ⟨_,[],rfl,λb o n e=>by rw[Zr n];exact e,Zo,rfl,(λz hz=>(by cases hz)),λb e n=>by rw[Zr n];exact e⟩ ?_ ?_ ?_⟩
  .rintro i σ H' _ ⟨v,xs,rfl,kp,_⟩;have sG' : ZF G H':=λb o e=>kp b o (Zy e gpk) (sg b o e);exact sG'.tup hpt
  .rintro i x σ H' hx ⟨v,xs,rfl,kp,hk,hkeys,hdat,hfr⟩;have hi:i<gs.length:=by have:=(Il.mp hx).1;omega
   obtain⟨dd,hdd,hxd⟩:=hvs.zgZ hx;rw[Ij,Ib hi]at hdd;have hdd:some (dT gs[i])=some dd:=hdd;injection hdd with hdd;subst hdd;obtain⟨px,ys,rfl,hpx,hys⟩:=hxd.tup;have sG' : ZF G H':=λb o e=>kp b o (Zy e gpk) (sg b o e);have hlx:xs.length<=gs.length:=by
    have e1:xs.length=(WW (gs.take i)).length:=by have:=IT List.length hkeys;simpa using this
    have:=zeb (gs.take i);rw[Nj]at this;omega
   have hxk:Dat K G (.ref px) (zcG (zbY gs[i])):=by rw[U3];exact hxd
   refine⟨_,rfl,_,rfl,pk,px,zbY gs[i],xs,G,rfl,rfl,rfl,hk,sG',hxk,hdat,(by omega),?_⟩;refine⟨_,zhW xs (zbY gs[i]) px,rfl,λb o n e=>by rw[Zr n];exact kp b o n e,Zo,?_,λz hz=>?_,λb e n=>by rw[Zr n];exact hfr b e n⟩
   .have ht:gs.take (i+1)=gs.take i++[gs[i]]:=by rw[take_succ,Ib hi];rfl
    rw[ht,zfa];have hiff:zl3 xs (zbY gs[i])=true↔((WW (gs.take i)).any λg=>decide (g=gs[i]))=true:=by
     rw[zbS,hkeys,any_eq_true];constructor
     .intro h;obtain⟨g,hg,e⟩:=N0.mp h;exact⟨g,hg,Ip (zd9 e)⟩
     .rintro⟨g,hg,e⟩;exact N0.mpr ⟨g,hg,by rw[IB e]⟩
    unfold zhW;by_cases h:zl3 xs (zbY gs[i])=true
    .rw[Iq h,Iq (hiff.mp h)];exact hkeys
    .rw[Im h,Im (λz=>h (hiff.mpr z)),IX,IX,hkeys];rfl
   .unfold zhW at hz;split at hz
    .exact hdat z hz
    .rcases Nq.mp hz with hz | hz
     .exact hdat z hz
     .rw[IH.mp hz];exact hxk
  .rintro σ H' ⟨v,xs,rfl,kp,hk,hkeys,hdat,hfr⟩;refine⟨_,rfl,pk,xs,rfl,hk,λl hlf=>?_⟩;have sG' : ZF G H':=λb o e=>kp b o (Zy e gpk) (sg b o e);have sH' : ZF H H':=λb o e=>kp b o (Zy e hpk) e;have g1:=YF (o:=.lst (xs.map λx=>V.ref x.2)) sG' hlf;refine k _ _ _ ((Uv sg sH').trans g1) (Xd Zo ?_);have ht:gs.take vs.length=gs:=by rw[hvl];exact OE
   rw[ht]at hkeys;have key:∀(xs:List (KX×AD))(us:List Fs),xs.map (·.1)=us.map zbY->(∀ z∈xs,Dat K G (.ref z.2) (zcG z.1))->YB K G (xs.map λx=>V.ref x.2) (us.map dT):=by
    intro xs
    induction xs with
    |nil=>
     intro us e _;cases us with
     |nil=>exact Z9
     |cons u r=>cases e
    |cons x r ih=>
     intro us e hd;cases us with
     |nil=>cases e
     |cons u q=>simp only[Ng,List.cons.injEq]at e;have:=hd x ID;rw[e.1,U3]at this;exact ZV this (ih q e.2 λz hz=>hd z (Iy _ hz))
   exact(key xs _ hkeys hdat).same g1.gg
def zd7(T:Top K mg):T.JC.O P w base 1 (spP K zgf):=by
 refine T.JC.F.ok zc1 (λvs H Q E h=>?_) (λcdv A outer s H vs Q E hr h=>?_)
 .obtain⟨G,as,d,sg,hv,⟨L,gs,rfl,_⟩,_⟩:=h;rw[hv.length];rfl
 .obtain⟨G,as,d,sg,hv,⟨L,gs,rfl,hl,rfl⟩,k⟩:=h;obtain⟨v1,r1,rfl,h1,hv⟩:=hv.cons;cases hv.nil;have zl:(2000:Nat)<=sizeLine:=by decide
  refine⟨_,(Zm (Zz (zbv (x:= "row") (cap:=[]) (js:=[]) ⟨rfl,(by decide +kernel),(by decide +kernel),rfl,(by show ∀ p∈(_:List (Str×NameKind)),p.2=NameKind.free->List.lookup p.1 (Zh Qy).names=some NameKind.cell;decide +kernel),(by decide +kernel),(by decide +kernel),(by decide +kernel)⟩ rfl rfl (λ_ _ h=>h) (Ui (pv 0)) (λ_ _ _ _=>⟨X8,(zng (K:=K) rfl Nv PySem.F.slot_list_count PySem.F.type_list_count (zg9 (K:=K) rfl) (pv 0) (Za ZD Ze Zg))⟩)))) ,?_⟩;refine Yz (K:=K) (zdH (js:=[]) gs (λf=>.list (gs.map λg=>.str (L f g).t)) (λf=>some (.int (rk L gs f:Nat))) (Zn rfl h1) (by omega) λG2 i f x s3 hf hx=>lc1 QG ?_) sg λv G' H' g' hv=>k v G' H' g' (by rw[JT]at hv;exact hv);refine λG1 H1 s1 s2 Q' k' => ?_;have hx':=hx.same s1;obtain⟨p,ys,rfl,hp,hys⟩:=hx'.lst;have e:ys=(gs.map λg=>(L f g).t).map V.str:=zc6 (ws:=gs.map λg=>(L f g).t) (by rw[N8];exact hys);subst e;have hp':=s2 _ _ hp;refine⟨_,rfl,.inl ⟨rfl,_,SqL.of hp'⟩,p,gs.map λg=>(L f g).t,S "behind",rfl,rfl,SqL.of hp',k' _ G1 H1 (YH.refl s2) ?_⟩;have ec:(gs.map λg=>(L f g).t).countP (λs=>decide (s=S "behind"))=rk L gs f:=by rw[List.countP_map];unfold rk;congr 1;funext g;show decide ((L f g).t=An.behind.t)=decide (L f g = .behind);exact decide_eq_decide.mpr zkE
  rw[ec];exact Zv _
def zjp(T:Top K mg):T.zao.O P w base 1 (spP K znc):=by
 refine T.zao.F.ok zeO (λvs H Q E h=>?_) (λcdv A outer s H vs Q E hr h=>?_)
 .obtain⟨G,as,d,sg,hv,⟨i,j,rfl,_⟩,_⟩:=h;rw[hv.length];rfl
 .obtain⟨G,as,d,sg,hv,⟨i,j,rfl,rfl⟩,k⟩:=h;obtain⟨v1,r1,rfl,h1,hv⟩:=hv.cons;obtain⟨v2,r2,rfl,h2,hv⟩:=hv.cons;cases hv.nil;refine⟨_,(Zf (Yv (ZJ zak (pv 0) (pv 1) (ZM _)) (Zm (Zz ZD)) ZQ)
   (Zm (Zz (Jj (ZJ zds (pv 0) (pv 1) (ZM _)) ZD ZD)))) ,?_⟩
  refine UG (YL (K:=K) (QS (Zn rfl h1) (Zn rfl h2) (Yc _))) sg (λe G1 H1 g1=>?_) (λe G1 H1 g1=>?_)
  .have e' : (i:Int)<j:=IB e;have:zaZ i j = .ahead:=by unfold zaZ;rw[Iq (by omega)]
   exact k _ G1 H1 g1 (by rw[this];exact XR _)
  .have e' : ¬ (i:Int)<j:=Ni e;refine Yz (K:=K) (d:=.str (zaZ i j).t) (Uq (YL (K:=K) (QS (Zn rfl (h1.same g1.gg)) (Zn rfl (h2.same g1.gg)) (Yc _))) (λz=>?_) (λz=>?_)) g1.gh λv G2 H2 g2 hv=>k v G2 H2 (g1.trans g2) hv
   .have z' : (i:Int)>j:=IB z;have:zaZ i j = .behind:=by unfold zaZ;rw[Im (by omega),Iq (by omega)]
    rw[this];exact Yk
   .have z' : ¬ (i:Int)>j:=Ni z;have:zaZ i j = .like:=by unfold zaZ;rw[Im (by omega),Im (by omega)]
    rw[this];exact Yk
end
section
def zcP{α:Type}{l:List α}{i:Nat}{x:α}(h:l[i]?=some x){p:α->Prop}(h1:∀ y∈l.take i,p y)(h2:p x):∀ y∈l.take (i+1),p y:=λy hy=>by
 rw[take_succ,h]at hy;rcases Nq.mp hy with hy | hy
 .exact h1 y hy
 .have:y=x:=by simpa using hy
  rw[this];exact h2
def zbk(T:Top K mg):T.Xn.O P w base 2 (zb4 K):=by
 have G_ranks_in:=@zd7 T;have G_by_size:=@zjp T;refine T.Xn.F.ok YX (λvs H Q E h=>?_) (λcdv A outer s H vs Q E hr h=>?_)
 .obtain⟨G,v1,L,gs,rfl,_⟩:=h;rfl
 .obtain⟨G,v1,L,gs,rfl,sg,h1,hl,k1,k2⟩:=h;have zl:(2000:Nat)<=sizeLine:=by decide
  refine⟨_,(Zf (ZC (i:=1) YX.nd rfl (Or.inl rfl) (peN T.JC G_ranks_in hr (Za (pv 0) Ze Zd)))
   (Zf (JG Nh rfl (zdW (by rfl) T.zbi (Za (pv 0) Ze Zd)) (zdK (n:=2) rfl (YD (Yh (i:=2) YX.nd rfl (Or.inl rfl)) (YD (Yh (i:=3) YX.nd rfl (Or.inl rfl)) Jo)) (by rfl)) (Zm (JG Nh rfl (zdW (by rfl) T.zbi (Za (pv 3) Ze Zd)) (zdK (n:=2) rfl (YD (Yh (i:=4) YX.nd rfl (Or.inl rfl)) (YD (Yh (i:=5) YX.nd rfl (Or.inl rfl)) Jo)) (by rfl)) (Zm (Yv (ZJ zjV (pv 5) (peN T.zao G_by_size hr (Za (ZG (Zu (K:=K) rfl) (pv 1) (pv 2) (λ_ _=>rfl)) (Za (ZG (Zu (K:=K) rfl) (pv 1) (pv 4) (λ_ _=>rfl)) Ze Zj) Zj)) (ZM _)) (Zm (Zz (Xb (Za (pv 2) (Za (pv 4) Ze Zd) Zd)))) ZQ)))))
   (Zm (Zz zaj)))) ,?_⟩
  refine JH (K:=K) (YQ (E:=E0) (R:=zgf) (Zq (Zn rfl h1) ZW) ⟨L,gs,rfl,hl,rfl⟩) sg λv2 G1 H1 g1 h2=>?_;have h11:=h1.same g1.gg;obtain⟨pt,ac,rfl,hpt,hrows⟩:=h11.lst;have hrl:ac.length=gs.length:=by rw[hrows.length,Ie]
  have RKx:∀{σ' : St}{G' : Hp}{j i:Nat},ZF G1 G' -> σ'[1]?=some (some v2)->σ'[j]?=some (some (.int (i:Nat)))->∀ f,gs[i]?=some f->Ev K (tOp (zeF K) (Wj 1) (Wj j)) σ' G' (.int (rk L gs f:Nat)):=λ{σ' G' j i} s e1 e2 f hf=>by have hi:i<gs.length:=(Il.mp hf).1;exact YS (n:=i) (Zn e1 (h2.same s)) (Zn e2 (Zv _)) (by rw[Ie];exact YG hi) (by rw[Ij,hf];rfl)
  refine⟨_,rfl,pt,rfl,⟨ac,SqL.of (g1.gh _ _ hpt)⟩,zcH (xs:=ac) (λi σ H' => ∃(v2' v3 v4 v5:Option V)(G' : Hp),σ=[some (.ref pt),some v2,v2',v3,v4,v5]/\YH G1 H1 G' H' /\ ∀ f∈gs.take i,∀ g∈gs,L f g=zaZ (rk L gs f) (rk L gs g)) ⟨_,_,_,_,G1,rfl,YH.refl g1.gh,λf hf=>by simp at hf⟩ ?_ ?_ ?_⟩
  .rintro i σ H' _ ⟨v2',v3,v4,v5,G',rfl,g,_⟩;exact SqL.of (g.hh _ _ (g1.gh _ _ hpt))
  .rintro i x σ H' p hx ⟨v2',v3,v4,v5,G',rfl,g,ad⟩ hp;have hi:i<gs.length:=by have:=(Il.mp hx).1;omega
   have hgi:gs[i]?=some gs[i]:=Ib hi;obtain⟨dd,hdd,hxd⟩:=hrows.zgZ hx;rw[Ij,hgi]at hdd;have hdd:some (PyData.list (gs.map λg=>.str (L gs[i] g).t))=some dd:=hdd;injection hdd with hdd;subst hdd;generalize gs[i]=f at hgi hxd;have gp:=YF (o:=.tup [.int (i:Nat),x]) g.gh hp;have gA:=g.trans gp;refine⟨p,_,rfl,SqT.of Zo,rfl,_,_,rfl,_,_,rfl,rfl,?_⟩;obtain⟨px,ys,rfl,hpx,hys⟩:=hxd.lst;have hyl:ys.length=gs.length:=by rw[hys.length,Ie]
   have hpx':=gA.hh _ _ (g1.gh _ _ hpx);refine⟨_,rfl,px,rfl,⟨ys,SqL.of hpx'⟩,zcH (xs:=ys) (λj σ H' => ∃(v4 v5:Option V)(G' : Hp),σ=[some (.ref pt),some v2,some (.int (i:Nat)),some (.ref px),v4,v5]/\YH G1 H1 G' H' /\ ∀ g∈gs.take j,L f g=zaZ (rk L gs f) (rk L gs g)) ⟨_,_,_,rfl,gA,λg hg=>by simp at hg⟩ ?_ ?_ ?_⟩
   .rintro j σ H' _ ⟨v4,v5,G',rfl,g,_⟩;exact SqL.of (g.hh _ _ (g1.gh _ _ hpx))
   .rintro j y σ H2 q hy ⟨v4,v5,G2,rfl,gB,hok2⟩ hq;have hj:j<gs.length:=by have:=(Il.mp hy).1;omega
    have hgj:gs[j]?=some gs[j]:=Ib hj;obtain⟨dd,hdd,hyd⟩:=hys.zgZ hy;rw[Ij,hgj]at hdd;have hdd:some (PyData.str (L f gs[j]).t)=some dd:=hdd;injection hdd with hdd;subst hdd;generalize gs[j]=g' at hgj hyd;have gq:=YF (o:=.tup [.int (j:Nat),y]) gB.gh hq;have gC:=gB.trans gq;refine⟨q,_,rfl,SqT.of Zo,rfl,_,_,rfl,_,_,rfl,rfl,?_⟩;refine UG (YL (K:=K) (zlo (Zn rfl (hyd.same gC.gg)) (YQ (E:=E0) (R:=znc) (Zq (RKx gC.gg rfl rfl f hgi) (Zq (RKx gC.gg rfl rfl g' hgj) ZW)) ⟨_,_,rfl,rfl⟩))) gC.gh (λe G3 H3 g3=>?_) (λe G3 H3 g3=>?_)
    .refine⟨_,rfl,_,rfl,(by show 2<=sizeLine;decide),λt ht=>?_⟩;have gD:=gC.trans g3;have gt:=YF (o:=.tup [V.int (i:Nat),V.int (j:Nat)]) gD.gh ht;refine k2 t _ _ (g1.trans (gD.trans gt)) ?_;cases ea:agree L gs with
     |false=>rfl
     |true=>unfold agree at ea;have:=IB (NB.mp (NB.mp ea f (Iz hgi)) g' (Iz hgj));rw[this,Ip rfl]at e;cases e
    .have e' : L f g'=zaZ (rk L gs f) (rk L gs g'):=by
      by_cases z:(L f g').t=(zaZ (rk L gs f) (rk L gs g')).t
      .exact zkE.mp z
      .rw[Iw z]at e;cases e
     exact⟨_,_,G3,rfl,gC.trans g3,zcP hgj hok2 e'⟩
   .rintro σ H2 ⟨v4,v5,G2,rfl,gB,hok2⟩;have ht:gs.take ys.length=gs:=by rw[hyl];exact OE
    rw[ht]at hok2;exact⟨_,_,_,_,G2,rfl,gB,zcP hgi ad hok2⟩
  .rintro σ H' ⟨v2',v3,v4,v5,G',rfl,g,ad⟩;have ht:gs.take ac.length=gs:=by rw[hrl];exact OE
   rw[ht]at ad;refine k1 G' H' (g1.trans g) ?_;unfold agree;exact NB.mpr λf hf=>NB.mpr λg hg=>Ip (ad f hf g hg)
def zht(T:Top K mg):T.JX.O P w base 3 (spP K zlP):=by
 have G_against_ranks:=@zbk T;refine T.JX.F.ok za4 (λvs H Q E h=>?_) (λcdv A outer s H vs Q E hr h=>?_)
 .obtain⟨G,as,d,sg,hv,⟨L,gs,rfl,_⟩,_⟩:=h;rw[hv.length];rfl
 .obtain⟨G,as,d,sg,hv,⟨L,gs,rfl,hl,rfl⟩,k⟩:=h;obtain⟨v1,r1,rfl,h1,hv⟩:=hv.cons;cases hv.nil;refine⟨_,(Zm (Zz (Y4 ziT (peN T.Xn G_against_ranks hr (Za (pv 0) Ze Zd)) zaj (ZM _)))) ,?_⟩;refine⟨_,rfl,G,v1,L,gs,rfl,sg,h1,hl,λG' H' g ha=>?_,λp G' H' g ha=>?_⟩
  .refine⟨rfl,?_⟩;rw[ha]at k;exact k _ G' H' g (Yc _)
  .refine⟨rfl,?_⟩;rw[ha]at k;exact k _ G' H' g (Yc _)
end
end K61
namespace L2
open PySem PySem.Spec PyProof.Rows
abbrev YE:=KX×AD×Int
def zmF(x:YE)(z:KX×AD×Value):Prop:=z.1=x.1/\z.2.1=x.2.1/\∃ t,z.2.2 = .int x.2.2 t
def zoG(P:Program)(w:World)(a:AD)(xs:List YE)(h:Heap):Prop:=(a==sysModules)=false/\xs.length<=sizeLine/\∃(zs:List (KX×AD×Value))(o:Obj)(es:Array DictEntry)(ep:Nat),h.get? a=some o/\o.ExactDict/\o.data = .dict es ep/\es.toList=zs.map (entryOfKey (zhF (Xy P w)))/\Paired zmF xs zs/\(xs.map (·.1)).Nodup
noncomputable def dY(P:Program)(w:World)(a:AD)(xs:List YE):HO:=.ext (zoG P w a xs)
def zi7{P:Program}{w:World}{H:Hp}{h:Heap}{a:AD}{xs:List YE}(x:zoG P w a xs h):Xk P w H h a (dY P w a xs):=by
 refine⟨x,?_,λh1 h2 y k=>?_⟩
 .obtain⟨_,_,_,o,_,_,e,_⟩:=x;exact⟨o,e⟩
 .obtain⟨z1,z2,zs,o,es,ep,e,r⟩:=y;exact⟨z1,z2,zs,o,es,ep,k o e,r⟩
theorem yk:∀{xs:List YE}{zs:List (KX×AD×Value)},Paired zmF xs zs->zs.map (·.1)=xs.map (·.1)/\∀ z∈zs,∃ x∈xs,zmF x z
 |_,_,.nil=>⟨rfl,λ_ h=>by cases h⟩
 |_,_,.cons r t=>by
  obtain⟨h1,h2⟩:=yk t;refine⟨by rw[Ng,Ng,h1,r.1],λz hz=>?_⟩;rcases IE.mp hz with rfl | hz
  .exact⟨_,ID,r⟩
  .obtain⟨x,hx,e⟩:=h2 z hz;exact⟨x,Iy _ hx,e⟩
def zeM{zs:List (KX×AD×Value)}{k:KX}(h:k∉zs.map (·.1)):atKey zs k=none:=by unfold atKey;rw[Option.map_eq_none_iff,List.find?_eq_none];intro z hz e;exact h (N0.mpr ⟨z,hz,IB e⟩)
theorem ze6:∀{xs:List YE}{zs:List (KX×AD×Value)},Paired zmF xs zs->∀{k:KX}{b:AD}{n:Int},(xs.map (·.1)).Nodup->(k,b,n)∈xs->∃ t,atKey zs k=some (b,.int n t)
 |_,_,.nil,k,b,n,_,h=>by cases h
 |_,_,.cons (a:=x) (b:=z) r t,k,b,n,hn,h=>by
  unfold atKey;rcases IE.mp h with e | h
  .obtain⟨r1,r2,u,r3⟩:=r;subst e;refine⟨u,?_⟩;rw[OO,Ip r1];show some z.2=some (b,.int n u);congr 1;exact Prod.ext r2 r3
  .have hn' : x.1∉_/\_:=OM.mp hn;have ne:¬ z.1=k:=λe=>hn'.1 (N0.mpr ⟨_,h,by rw[← e,r.1]⟩);rw[OO,Iw ne];exact ze6 t hn'.2 h
section
variable {X:Cx}{aa:List (Addr×Obj)}{σ:St}{H G:Hp}{s:SH}
def zmg(P:Program)(w:World):TE:=λ_ H Q=>∀ p,H p=none->Q (.ref p) (upd H p (dY P w p []))
def zg3{P:Program}{w:World}(eP:X.prog=P)(ew:X.w=w){pos:Pos}:PE X (.Dict [] [] pos) (zmg P w):=by
 subst eP ew;exact λaa s σ H Q I h=>
 wpAny_Dict_empty ⟨.ref s.heap.objs.size,_,I.laid (a:=s.heap.objs.size) (o:=dY X.prog X.w s.heap.objs.size []) (t':=s.toks) (λ_ _ q=>Ih _ q) (Ik _)
  (zi7 ⟨beq_eq_false_iff_ne.mpr (Ne.symm (IS I.big)),Nr _,[],_,#[],0,Io _ rfl,⟨rfl,rfl,rfl⟩,rfl,rfl,.nil,nodup_nil⟩),rfl,h _ (I.ad.fresh (Ik _))⟩
def zlS(I:Inv X aa σ H s)(sg:ZF G H){a:AD}{xs:List YE}(ha:H a=some (dY X.prog X.w a xs))(hxs:∀ z∈xs,Dat X.K G (.ref z.2.1) (zcG z.1)):(a==sysModules)=false/\∃ zs,Paired zmF xs zs/\s.heap.DictOfH (zhF (Xy X.prog X.w)) a zs/\(xs.map (·.1)).Nodup:=by
 obtain⟨⟨hsm,_,zs,o',es,ep,h1,h2,h3,h4,h5,h6⟩,_⟩:=(show Xk X.prog X.w H s.heap a (dY X.prog X.w a xs)from I.ad a _ ha)
 obtain⟨q1,q2⟩:=yk h5;refine⟨hsm,zs,h5,⟨o',es,ep,h1,h2,h3,h4,λz hz=>?_,by rw[q1];exact h6⟩,h6⟩;obtain⟨x,hx,r⟩:=q2 z hz;have:=zcl I sg (hxs x hx);rw[← r.1,← r.2.1]at this;exact this
def zmo(P:Program)(w:World)(K:FG)(td ty tv:TE):TS:=λD σ H=>tv σ H λv H1=>td σ H1 λx H2=>ty σ H2 λy H3=>∃(n:Int)(a b:AD)(k:KX)(xs:List YE)(G:Hp),v = .int n/\x = .ref a/\y = .ref b/\H3 a=some (dY P w a xs)/\ZF G H3/\Dat K G (.ref b) (zcG k)/\(∀ z∈xs,Dat K G (.ref z.2.1) (zcG z.1))/\k∉xs.map (·.1)/\xs.length<sizeLine/\D.nx σ (upd H3 a (dY P w a (xs++[(k,b,n)])))
def zhv{P:Program}{w:World}{K:FG}(eP:X.prog=P)(ew:X.w=w)(eK:X.K=K){o i value:Expr}{pos pos' : Pos}{td ty tv:TE}(hu:X.A.units+64<cLine)(ho:PE X o td)(hi:PE X i ty)(hv:PE X value tv)(hs:swapsWith value (some (.Subscript o i pos')) pos.line X.env=pure false):
  PS X (.Assign [.Subscript o i pos'] value pos) (zmo P w K td ty tv):=by
 subst eP ew eK;intro aa s σ H D I h;refine wpAny_Assign_Subscript (thn (hv aa s σ H _ I h) λr s1 ⟨v,H1,I1,rv,q1⟩=>thn (ho aa s1 σ H1 _ I1 q1) λu s2 ⟨x,H2,I2,rx,q2⟩=>thn (hi aa s2 σ H2 _ I2 q2) λiv s3 ⟨y,H3,I3,ry,n,a,b,k,xs,G,ev,ex,ey,ha,sg,hb,hxs,hk,hl,q3⟩=>?_) hs;subst ev ex ey;obtain⟨tk,rfl⟩:∃ t,r=Value.int n t:=rv;obtain rfl:u=Value.ref a:=rx;obtain rfl:iv=Value.ref b:=ry;obtain⟨hsm,zs,pr,dd,hnd⟩:=zlS I3 sg ha hxs;obtain⟨q1,_⟩:=yk pr;have hlz:zs.length=xs.length:=by have:=IT List.length q1;simpa using this
 refine wpAny_setItem_heap (hsz:=by omega) (show X.A.units+1+1<cLine by omega) (zcl I3 sg hb) dd λh' dd' hs=>?_;rw[storedH_new (zeM (by rw[q1];exact hk))]at dd';obtain⟨q,es',ep',hq,g2,g3,g4,_,g5⟩:=dd';refine⟨σ,_,zfY I3 (by rw[ha];exact True.intro) hs ⟨q,hq⟩ (zi7 ⟨hsm,?_,zs++[(k,b,.int n tk)],q,es',ep',hq,g2,g3,g4,pr.snoc ⟨rfl,rfl,tk,rfl⟩,?_⟩),q3⟩
 .rw[Ig];show xs.length+1<=sizeLine;omega
 .rw[IX]at g5 ⊢;rw[← q1];exact g5
def zoF(P:Program)(w:World)(K:FG):R2:=λx y H Q=>∃(n:Int)(a b b' : AD)(k:KX)(xs:List YE)(G:Hp),x = .ref a/\y = .ref b/\H a=some (dY P w a xs)/\ZF G H/\Dat K G (.ref b) (zcG k)/\(∀ z∈xs,Dat K G (.ref z.2.1) (zcG z.1))/\(k,b',n)∈xs/\Q (.int n) H
def zn9{P:Program}{w:World}{K:FG}(eP:X.prog=P)(ew:X.w=w)(eK:X.K=K)(hu:X.A.units+64<cLine):IxR X (zoF P w K):=by
 subst eP ew eK;intro value slice aa s σ H x y v u Q I rx ry h hs;obtain⟨n,a,b,b',k,xs,G,rfl,rfl,ha,sg,hb,hxs,hm,q⟩:=h;cases rx;cases ry;obtain⟨hsm,zs,pr,dd,hnd⟩:=zlS I sg ha hxs;obtain⟨t,ht⟩:=ze6 pr hnd hm;have hT:s.TypeIs (.ref a) "dict" := dd.typeIs;have h2:wpAny (model X.prog X.w) X.A (getItem (.ref a) (.ref b)) (EP X aa σ Q) X.xe s:=wpAny_getItem_heap (show X.A.units+1+1<cLine by omega) (zcl I sg hb) dd ht ⟨.int n,H,I.tok _,⟨t,rfl⟩,q⟩;unfold subscriptTail;refine Ia ?_;rw[getitemInPython_of_ne hT.not_modules];refine Ia (NI hT slot_dict_getitem.lookup ?_);have fin:wpAny (model X.prog X.w) X.A (subscripted slice false (.ref a) (.ref b)) (λr s₃=>wpAny (model X.prog X.w) X.A (letTemporaryGo value (.ref a) r >>= λ_=>pure r) (EP X aa σ Q) X.xe s₃) X.xe s:=by rw[hs];exact wpAny_operating (NJ h2 (λr s₃ h₃=>Ia (wpAny_letTemporaryGo (Ic h₃))) λ_ _ x=>x)
 first
  |exact Ic (Ia fin)
  |exact Ia (Ic (Ia fin))
  |exact Ia fin
end
end L2
namespace K61
open PySem L2 Frac Lw PySem.NumText
open Ord Look Rdo
def zoH:Sp:=λ_ _ _ _=>False
def zgh(K:FG):Sp:=λvs H Q _=>∃(G:Hp)(v1:V)(L:Fs->Fs->An)(gs:List Fs),vs=[v1]/\ZF G H/\Dat K G v1 (zk4 L gs)/\gs.length<=1000/\agree L gs=true/\∀ G' H',YH G H G' H' -> Q .non H'
def zoR(book:LB):LA->PD->Prop:=λds d=>∃(ws:List Wd)(num:Int->Int->Prop)(gs:List Fs),ds=[dOs ws,.tuple (gs.map dT)]/\OC book num ws/\(∀ g∈gs,FZ book.length g)/\gs.length<=1000/\Wk (Wq book ws) (· ∈ gs)/\d = .list (gs.map λg=>.int (rk (Wq book ws) (WW gs) g:Nat))
section
def zbU(T:Top K mg):T.Ji.O P w base 1 zoH:=by refine T.Ji.F.ok zbB (λvs H Q E h=>h.elim) (λcdv A outer s H vs Q E hr h=>h.elim)
def zg5(T:Top K mg):T.Wg.O P w base 4 (zgh K):=by
 have G_against_ranks:T.Xn.O P w base 3 (zb4 K):=(zbk T).mono (by decide);have G_looks_agree:=@zht T;have G_picked_out:T.Ji.O P w base 3 zoH:=(zbU T).mono (by decide);refine T.Wg.F.ok XQ (λvs H Q E h=>?_) (λcdv A outer s H vs Q E hr h=>?_)
 .obtain⟨G,v1,L,gs,rfl,_⟩:=h;rfl
 .obtain⟨G,v1,L,gs,rfl,sg,h1,hl,ha,k⟩:=h;refine⟨_,(Zf (ZC (i:=1) XQ.nd rfl (Or.inl rfl) (peN T.Xn G_against_ranks hr (Za (pv 0) Ze Zd)))
   (Zf (Yv (ZJ ziT (pv 1) zaj (ZM _)) (Zm (Zz zaj)) ZQ)
   (Zf (JG Nh rfl (XC (by rfl) T.Qv (Za (Z2 (Yb (K:=K) rfl) (by rfl) T.zaA II (Za (pv 0) Ze Zd)) Ze Yo)) (Yh (i:=2) XQ.nd rfl (Or.inl rfl)) (Zf (ZC (i:=3) XQ.nd rfl (Or.inr rfl) (Xb (Za (ZG (Z1 (K:=K) rfl) (pv 1) Zi (λ_ _=>rfl)) (Za (ZG (Z1 (K:=K) rfl) (pv 1) Zi (λ_ _=>rfl)) (Za (pv 2) Ze Zd) Zj) Zj)))
   (Zm (Yv (zbn (Qh (peN T.JX G_looks_agree hr (Za (zbv (x:= "place") (cap:=["table", "three"]) (js:=[0,3]) ⟨rfl,(by decide +kernel),(by decide +kernel),rfl,(by show ∀ p∈(_:List (Str×NameKind)),p.2=NameKind.free->List.lookup p.1 (Zh Wa).names=some NameKind.cell;decide +kernel),(by decide +kernel),(by decide +kernel),(by decide +kernel)⟩ rfl rfl (λ_ _ h=>h) (zav (pv 3)) (λ_ _ _ _=>⟨X8,(peN T.Ji G_picked_out hr (Za (ZG (Zu (K:=K) rfl) (pv 1) (pv 0) (λ_ _=>rfl)) (Za (pv 2) Ze Zd) Zj))⟩)) Ze Wn)))) (Zm (Zz (pv 3))) ZQ))))
   (Zm (Zz zaj))))) ,?_⟩
  refine⟨_,rfl,G,v1,L,gs,rfl,sg,h1,hl,λG' H' g _=>?_,λp G' H' g ha' => by rw[ha]at ha';cases ha'⟩;exact⟨_,rfl,rfl,_,rfl,zon (k _ _ g)⟩
def zmS{σ:St}{G:Hp}{tb:TE}{i:Nat}{pd b' : AD}{xs:List YE}{k:KX}{n:Int}(hG:G pd=some (dY P w pd xs))(hx:∀ z∈xs,Dat K G (.ref z.2.1) (zcG z.1))(ha:σ[i]?=some (some (.ref pd)))(hb:Ev K tb σ G (zcG k))(hm:(k,b',n)∈xs):Ev K (tOp (zoF P w K) (Wj i) tb) σ G (.int n):=
 λG1 H s1 s2 Q kk=>⟨_,ha,hb G1 H s1 s2 _ λv G2 H2 g2 hv=>by
  obtain⟨p,us,rfl,_,_⟩:=Dat.tup hv;exact⟨n,pd,p,b',k,xs,G2,rfl,rfl,g2.gh _ _ (g2.gg _ _ (s1 _ _ hG)),g2.gh,hv,λz hz=>(hx z hz).same (s1.trans g2.gg),hm,kk _ G2 H2 g2 (Zv _)⟩⟩
def zen(gs:List Fs):(WW gs).Nodup:=by
 have key:∀(l acc:List Fs),acc.Nodup->(l.foldl (λacc f=>if(acc.any λg=>decide (g=f))=true then acc else acc++[f]) acc).Nodup:=by
  intro l
  induction l with
  |nil=>intro acc h;exact h
  |cons x r ih=>
   intro acc h;rw[List.foldl_cons];refine ih _ ?_;by_cases z:(acc.any λg=>decide (g=x))=true
   .rw[Iq z];exact h
   .rw[Im z];refine nodup_append.mpr ⟨h,(by simp),λa ha b hb e=>?_⟩;have hb' : b=x:=by simpa using hb
    exact z (any_eq_true.mpr ⟨a,ha,Ip (e.trans hb')⟩)
 exact key gs [] nodup_nil
def zeh(T:Top K mg)(Nd:Uo K=true)(M:Bs K mg base)(W:Wds K w.params mg)(W1:Txs K w.params mg "AHEAD" Wl)(W2:Txs K w.params mg "OTHER_WAY" X7):T.VM.O P w base 9 (spB K T.Z8 Z5 zoR):=by
 have G_table_of:=@zg4 T Nd M W W1 W2;have G_each_once:T.JN.O P w base 8 (spP K zkd):=(zjc T).mono (by decide);have G_three_against:T.Wg.O P w base 8 (zgh K):=(zg5 T).mono (by decide);have G_ranks_in:T.JC.O P w base 8 (spP K zgf):=(zd7 T).mono (by decide);refine T.VM.F.ok X3 (λvs H Q E h=>?_) (λcdv A outer s H vs Q E hr h=>?_)
 .obtain⟨G,book,vo,pb,us,ds,d,rfl,_,_,_,hd,⟨ws,num,gs,rfl,_⟩,_⟩:=h;have:=hd.length;simp only[IC,N7]at this ⊢;omega
 .obtain⟨G,book,vo,pb,us,ds,d,rfl,hT,sg,hpb,hd,⟨ws,num,gs,rfl,oc,hgs,hl,wk,rfl⟩,k⟩:=h;obtain⟨v0,r0,e0,h0,hd⟩:=hd.cons;cases e0
  rename YB K G us _=>hd
  obtain⟨v2,r2,rfl,h2,hd⟩:=hd.cons;cases hd.nil;have hu:=hr.units;have hul:=zeb gs;have zl:(2000:Nat)<=sizeLine:=by decide
  refine⟨_,(Zf (ZC (i:=3) X3.nd rfl (Or.inr rfl) (peN T.JN G_each_once hr (Za (pv 2) Ze Zd)))
   (Zf (ZC (i:=4) X3.nd rfl (Or.inl rfl) (peN T.V0 G_table_of hr (Za (pv 0) (Za (pv 1) (Za (pv 3) Ze Zd) Zd) Zd)))
   (Zf (ZC (i:=5) X3.nd rfl (Or.inl rfl) (peN T.Wg G_three_against hr (Za (pv 4) Ze Zd)))
   (Zf (Yv (ZJ zje (pv 5) zaj (ZM _)) zas ZQ)
   (Zf (ZC (i:=6) X3.nd rfl (Or.inr rfl) (zg3 rfl rfl))
   (Zf (JG Nh rfl (zjX (K:=K) rfl (by rfl) T.zoN (Za (pv 3) (Za (peN T.JC G_ranks_in hr (Za (pv 4) Ze Zd)) Ze Yo) Zd)) (zdK (n:=2) rfl (YD (Yh (i:=7) X3.nd rfl (Or.inl rfl)) (YD (Yh (i:=8) X3.nd rfl (Or.inl rfl)) Jo)) (by rfl)) (Zm (zhv (K:=K) rfl rfl rfl hu (pv 6) (pv 7) (pv 8) (by rfl))))
   (Zm (Zz (zbv (x:= "thing") (cap:=["ranks"]) (js:=[6]) ⟨rfl,(by decide +kernel),(by decide +kernel),rfl,(by show ∀ p∈(_:List (Str×NameKind)),p.2=NameKind.free->List.lookup p.1 (Zh Qz).names=some NameKind.cell;decide +kernel),(by decide +kernel),(by decide +kernel),(by decide +kernel)⟩ rfl rfl (λ_ _ h=>h) (zav (pv 2)) (λ_ _ _ _=>⟨X8,(ZG (zn9 (K:=K) rfl rfl rfl hu) (pv 1) (pv 0) (λ_ _=>rfl))⟩)))))))))) ,?_⟩
  refine JH (K:=K) (YQ (E:=E0) (R:=zkd) (Zq (Zn rfl h2) ZW) ⟨gs,rfl,hl,rfl⟩) sg λv3 G1 H1 g1 h3=>?_;refine JH (K:=K) (zbN (R:=zoI) (d:=zk4 (Wq book ws) (WW gs)) (g1.gg _ _ hT) (hpb.same g1.gg) rfl (Zn rfl (h0.same g1.gg)) (Zq (Zn rfl h3) ZW) ⟨ws,num,WW gs,rfl,oc,λg hg=>hgs g ((QK gs g).mp hg),(by omega),rfl⟩) g1.gh λv4 G2 H2 g2 h4=>?_;have ag:agree (Wq book ws) (WW gs)=true:=(zcd _ _).mpr (wk.sub λf hf=>(QK gs f).mp hf);refine⟨_,rfl,G2,v4,Wq book ws,WW gs,rfl,g2.gh,h4,(by omega),ag,λG3 H3 g3=>?_⟩;refine⟨_,rfl,rfl,_,rfl,zny ?_⟩;refine λpd hpd=>?_;have g03:=(g1.trans g2).trans g3;have gpd:G3 pd=none:=g3.gh.free hpd;have s3:ZF G3 (upd H3 pd (dY P w pd [])):=g3.gh.trans (YK hpd);have h3':=h3.same (g2.gg.trans g3.gg);obtain⟨p3,ys,rfl,hp3,hys⟩:=h3'.lst;have hyl:ys.length=(WW gs).length:=by rw[hys.length,Ie]
  refine⟨_,rfl,_,rfl,G3,_,_,s3,ZV (h4.same g3.gg) Z9,⟨Wq book ws,WW gs,rfl,(by omega),rfl⟩,λv5 G4 H4 g4 h5=>?_⟩;obtain⟨p5,zs,rfl,hp5,hzs⟩:=h5.lst;have hzl:zs.length=(WW gs).length:=by rw[hzs.length,Ie]
  have gpd4:G4 pd=none:=by
   cases e:G4 pd with
   |none=>rfl
   |some o=>
    rcases g4.fr pd o e with h | h
    .rw[gpd]at h;cases h
    .rw[Zo]at h;cases h
  have np3:p3≠pd:=Zy hp3 gpd;have np5:p5≠pd:=Zy hp5 gpd4;refine⟨p3,p5,rfl,⟨ys,SqL.of (g4.gh _ _ (g4.gg _ _ hp3))⟩,⟨zs,SqL.of (g4.gh _ _ hp5)⟩,zir (xs:=ys) (ys:=zs) (λi σ H' => ∃(vt vr:Option V)(xs:List YE),σ=[some vo,some (.ref pb),some v2,some (.ref p3),some v4,some .non,some (.ref pd),vt,vr]/\(∀ b o,b≠pd->H4 b=some o->H' b=some o)/\H' pd=some (dY P w pd xs)/\xs.map (λx=>(x.1,x.2.2))=((WW gs).take i).map (λf=>(zbY f,((rk (Wq book ws) (WW gs) f:Nat):Int)))/\∀ z∈xs,Dat K G4 (.ref z.2.1) (zcG z.1))
   ⟨_,_,[],rfl,λb o n e=>e,g4.hh _ _ Zo,rfl,λz hz=>by cases hz⟩ (by omega) ?_ ?_ ?_⟩
  .rintro i σ H' _ ⟨vt,vr,xs,rfl,kp,_⟩;exact⟨SqL.of (kp _ _ np3 (g4.gh _ _ (g4.gg _ _ hp3))),SqL.of (kp _ _ np5 (g4.gh _ _ hp5))⟩
  .rintro i x y σ H' p hx hy ⟨vt,vr,xs,rfl,kp,hk,hxs,hdat⟩ hp;have hi:i<(WW gs).length:=by have:=(Il.mp hx).1;omega
   have hgi:(WW gs)[i]?=some (WW gs)[i]:=Ib hi;obtain⟨dd,hdd,hxd⟩:=hys.zgZ hx;rw[Ij,hgi]at hdd;have hdd:some (dT (WW gs)[i])=some dd:=hdd;injection hdd with hdd;subst hdd;obtain⟨de,hde,hyd⟩:=hzs.zgZ hy;rw[Ij,hgi]at hde;have hde:some (PyData.int (rk (Wq book ws) (WW gs) (WW gs)[i]:Nat))=some de:=hde;injection hde with hde;subst hde;have nd:=zen gs;have hnew:(WW gs)[i]∉(WW gs).take i:=λh=>by obtain⟨j,hj,e⟩:=List.mem_take_iff_getElem.mp h;exact N9.mp nd j i (by omega) hi (by omega) e
   generalize (WW gs)[i]=f at hgi hxd hyd hnew;obtain⟨px,us,rfl,hpx,hus⟩:=Dat.tup hxd;have ey:=hyd.int;subst ey;refine⟨p,_,rfl,SqT.of Zo,rfl,_,_,rfl,_,_,rfl,rfl,?_⟩;have npp:pd≠p:=λe=>by rw[← e,hk]at hp;cases hp
   have sG4:ZF G4 (upd H' p (.tup [.ref px,.int (rk (Wq book ws) (WW gs) f:Nat)])):=λb o e=>YK hp b o (kp b o (Zy e gpd4) (g4.gh b o e));have hkeys:xs.map (·.1)=((WW gs).take i).map zbY:=by have:=IT (List.map Prod.fst) hxs;rw[N8,N8]at this;exact this
   have hxl:xs.length<=(WW gs).length:=by have:=IT List.length hkeys;rw[Ie,Ie,Nj]at this;omega
   have hpx4:Dat K G4 (.ref px) (zcG (zbY f)):=by rw[U3];exact hxd.same g4.gg
   refine⟨_,rfl,_,rfl,_,rfl,_,pd,px,zbY f,xs,G4,rfl,rfl,rfl,by rw[Zr npp];exact hk,sG4,hpx4,hdat,?_,(by omega),?_⟩
   .rw[hkeys];intro h;obtain⟨g,hg,e⟩:=N0.mp h;rw[zd9 e]at hg;exact hnew hg
   .refine⟨_,_,xs++[(zbY f,px,((rk (Wq book ws) (WW gs) f:Nat):Int))],rfl,λb o n e=>?_,Zo,?_,λz hz=>?_⟩
    .rw[Zr n];exact YK hp b o (kp b o n e)
    .rw[IX,hxs,take_succ,hgi,IX];rfl
    .rcases Nq.mp hz with hz | hz
     .exact hdat z hz
     .rw[IH.mp hz];exact hpx4
  .rintro σ H5 ⟨vt,vr,xs,rfl,kp,hk,hxs,hdat⟩;have ht:(WW gs).take ys.length=WW gs:=by rw[hyl];exact OE
   rw[ht]at hxs;have g35:YH G3 H3 (upd G4 pd (dY P w pd xs)) H5:=by
    refine⟨λb o e=>?_,λb o e=>?_,λb o e=>?_,λb o e=>?_⟩
    .rw[Zr (Zy e gpd)];exact g4.gg b o e
    .by_cases hb:b=pd
     .subst hb;rw[Zo]at e;rw[hk];exact e
     .rw[Zr hb]at e;exact kp b o hb (g4.gh b o e)
    .have hb:b≠pd:=Zy e hpd;exact kp b o hb (g4.hh b o (by rw[Zr hb];exact e))
    .by_cases hb:b=pd
     .subst hb;exact .inr hpd
     .rw[Zr hb]at e;rcases g4.fr b o e with h | h
      .exact .inl h
      .rw[Zr hb]at h;exact .inr h
   have s45:ZF G4 (upd G4 pd (dY P w pd xs)):=λb o e=>by rw[Zr (Zy e gpd4)];exact e
   have g05:=g03.trans g35;refine Yz (K:=K) (zis (js:=[6]) gs dT (λg=>some (.int (rk (Wq book ws) (WW gs) g:Nat))) (Zn rfl (h2.same g05.gg)) (by omega) λG6 i g x s6 hg hx=>lc1 QG ?_) g35.gh λv G' H' g' hv=>k v G' H' (g05.trans g') (by rw[JT]at hv;exact hv);have hm:(zbY g,((rk (Wq book ws) (WW gs) g:Nat):Int))∈xs.map (λx=>(x.1,x.2.2)):=by rw[hxs];exact N0.mpr ⟨g,(QK gs g).mpr (Iz hg),rfl⟩
   obtain⟨⟨k1,b',n'⟩,hm1,hm2⟩:=N0.mp hm;injection hm2 with hm2 hm3;have hm2:k1=zbY g:=hm2;have hm3:n'=((rk (Wq book ws) (WW gs) g:Nat):Int):=hm3;subst hm2 hm3;exact zmS (s6 _ _ Zo) (λz hz=>(hdat z hz).same (s45.trans s6)) rfl (Zn rfl (by rw[U3];exact hx)) hm1
end
end K61
namespace Look
open PySem Ord Rdo
variable {L:Fs->Fs->An}{gs:List Fs}
abbrev vl(book:LB)(z:Str)(f:Fs):Int×Int:=f.getD (book.idxOf z) (0,1)
def zig{M:Fs->Fs->An}{D:Fs->Prop}(w:Wk L D)(e:∀ f g,D f->D g->M f g=L f g):Wk M D:=by refine⟨λf g hf hg=>by rw[e f g hf hg,e g f hg hf];exact w.anti f g hf hg,λf g h hf hg hh a b=>?_⟩;rw[e f g hf hg]at a;rw[e g h hg hh]at b;rw[e f h hf hh];exact w.trans f g h hf hg hh a b
def Wk.zop{M N:Fs->Fs->An}{D:Fs->Prop}(w:Wk L D)(m:Wk M D)(n:Wk N D)(c:Fs->Bool)(hc:∀ f g,D f->D g->L f g = .like->c f=c g):
  Wk (λf g=>if L f g = .like then(if c f=true then M f g else N f g)else L f g) D:=by
 refine⟨λf g hf hg=>?_,λf g h hf hg hh a b=>?_⟩
 .show(if L g f = .like then(if c g=true then M g f else N g f)else L g f)=(if L f g = .like then(if c f=true then M f g else N f g)else L f g).turn;cases e:L f g with
  |like=>
   have e2:L g f = .like:=by rw[w.anti f g hf hg,e];rfl
   rw[e2,Iq rfl,Iq rfl,hc f g hf hg e,m.anti f g hf hg,n.anti f g hf hg];cases c g <;> rfl
  |ahead=>rw[w.anti f g hf hg,e];rfl
  |behind=>rw[w.anti f g hf hg,e];rfl
 .have a1:L f g≠.behind:=λz=>a (by rw[z];rfl);have b1:L g h≠.behind:=λz=>b (by rw[z];rfl);cases e1:L f g with
  |behind=>exact absurd e1 a1
  |ahead=>rw[w.zhK hf hg hh e1 b1];exact λz=>by cases z
  |like=>
   cases e2:L g h with
   |behind=>exact absurd e2 b1
   |ahead=>rw[w.zni hf hg hh a1 e2];exact λz=>by cases z
   |like=>
    have n1:L f h≠.behind:=w.trans f g h hf hg hh a1 b1;have n2:L h f≠.behind:=w.trans h g f hh hg hf (by rw[w.anti g h hg hh,e2];decide) (by rw[w.anti f g hf hg,e1];decide);have e3:L f h = .like:=by
     cases e:L f h with
     |like=>rfl
     |behind=>exact absurd e n1
     |ahead=>exact absurd (by rw[w.anti f h hf hh,e];rfl) n2
    rw[e3,Iq rfl];rw[Iq e1]at a;rw[Iq e2]at b;have cg:=hc f g hf hg e1;rw[← cg]at b;cases ec:c f with
    |true=>rw[ec,Iq rfl]at a b;rw[Iq rfl];exact m.trans f g h hf hg hh a b
    |false=>rw[ec,Im Ii]at a b;rw[Im Ii];exact n.trans f g h hf hg hh a b
def zbP{a b:Int×Int}:hsA a b = .like↔a.1*b.2=b.1*a.2:=by
 unfold hsA;by_cases h1:a.1*b.2<b.1*a.2
 .rw[Iq h1];exact⟨λz=>(by cases z),λz=>(by omega)⟩
 .rw[Im h1];by_cases h2:a.1*b.2>b.1*a.2
  .rw[Iq h2];exact⟨λz=>(by cases z),λz=>(by omega)⟩
  .rw[Im h2];exact⟨λ_=>by omega,λ_=>rfl⟩
def zhO{a b:Int×Int}:hsA a b = .ahead↔a.1*b.2<b.1*a.2:=by
 unfold hsA;by_cases h1:a.1*b.2<b.1*a.2
 .rw[Iq h1];exact⟨λ_=>h1,λ_=>rfl⟩
 .rw[Im h1];by_cases h2:a.1*b.2>b.1*a.2
  .rw[Iq h2];exact⟨λz=>(by cases z),λz=>absurd z h1⟩
  .rw[Im h2];exact⟨λz=>(by cases z),λz=>absurd z h1⟩
def zjY{a b p:Int×Int}(ha:1<=a.2)(hb:1<=b.2)(h:a.1*b.2=b.1*a.2):hsA a p=hsA b p:=by
 have key:(a.1*p.2-p.1*a.2)*b.2=(b.1*p.2-p.1*b.2)*a.2:=by
  rw[Int.sub_mul,Int.sub_mul];have e1:a.1*p.2*b.2=a.1*b.2*p.2:=by rw[Om,Int.mul_comm p.2,← Om]
  have e2:b.1*p.2*a.2=b.1*a.2*p.2:=by rw[Om,Int.mul_comm p.2,← Om]
  have e3:p.1*a.2*b.2=p.1*b.2*a.2:=by rw[Om,Int.mul_comm a.2,← Om]
  rw[e1,e2,e3,h]
 have s:∀{x y m n:Int},1<=m->1<=n->x*m=y*n->(x<0↔y<0)/\(0<x↔0<y):=λ{x y m n} hm hn e=>by
  refine⟨⟨λhx=>?_,λhy=>?_⟩,⟨λhx=>?_,λhy=>?_⟩⟩
  .have:=Int.mul_neg_of_neg_of_pos hx (show 0<m by omega);rcases lt_or_le y 0 with z | z
   .exact z
   .have:=mul_nonneg z (show 0<=n by omega);omega
  .have:=Int.mul_neg_of_neg_of_pos hy (show 0<n by omega);rcases lt_or_le x 0 with z | z
   .exact z
   .have:=mul_nonneg z (show 0<=m by omega);omega
  .have:=Int.mul_pos hx (show 0<m by omega);rcases lt_or_le 0 y with z | z
   .exact z
   .have:=mul_nonneg (show 0<=-y by omega) (show 0<=n by omega);rw[Int.neg_mul]at this;omega
  .have:=Int.mul_pos hy (show 0<n by omega);rcases lt_or_le 0 x with z | z
   .exact z
   .have:=mul_nonneg (show 0<=-x by omega) (show 0<=m by omega);rw[Int.neg_mul]at this;omega
 obtain⟨s1,s2⟩:=s hb ha key;unfold hsA;have q1:(a.1*p.2<p.1*a.2)↔(b.1*p.2<p.1*b.2):=by omega
 have q2:(a.1*p.2>p.1*a.2)↔(b.1*p.2>p.1*b.2):=by omega
 simp only[q1,q2]
def zay:Yr (S "same")=some (S "same",S "case",[S "field"])/\Yr (S "both")=some (S "both",S "case",[S "mark"])/\Yr (S "either")=some (S "either",S "case",[S "mark"])/\Yr (S "and")=some (S "and",S "case",[S "case",S "case"])/\Yr (S "or")=some (S "or",S "case",[S "case",S "case"])/\
  Yr (S "under")=some (S "under",S "mark",[S "field",S "number"])/\Yr (S "is")=some (S "is",S "mark",[S "field",S "number"]):=by decide +kernel
section
variable {E:En}{cs ds:List Wd}{b c:Bool}
def zii{x:Str}(hx:Yr x=none)(R:List Tv):ev E [.t (S "same"),.t x] R = .tr (isA (E.look x) .like)::R:=by
 show push E (.t (S "same")) (push E (.t x) R)=_;have e:push E (.t x) R = .wd (.t x)::R:=by unfold push;dsimp only;rw[hx]
 rw[e,Jm zay.1,WN.2.2.2.2.2.2.1];rfl
def zhf{x:Str}(hx:Yr x=none)(p q:Int)(R:List Tv):ev E [.t (S "under"),.t x,.n p q] R = .mk (isA (E.one x p q) .ahead) (isA (E.two x p q) .ahead)::R:=by
 show push E (.t (S "under")) (push E (.t x) (push E (.n p q) R))=_;have e:∀ R,push E (.t x) R = .wd (.t x)::R:=λR=>by unfold push;dsimp only;rw[hx]
 have e2:push E (.n p q) R = .wd (.n p q)::R:=rfl;rw[e2,e,Jm zay.2.2.2.2.2.1,WN.2.2.2.2.2.2.2.2.2.2.2.2.1];rfl
def znC{x:Str}(hx:Yr x=none)(p q:Int)(R:List Tv):ev E [.t (S "is"),.t x,.n p q] R = .mk (isA (E.one x p q) .like) (isA (E.two x p q) .like)::R:=by
 show push E (.t (S "is")) (push E (.t x) (push E (.n p q) R))=_;have e:∀ R,push E (.t x) R = .wd (.t x)::R:=λR=>by unfold push;dsimp only;rw[hx]
 have e2:push E (.n p q) R = .wd (.n p q)::R:=rfl;rw[e2,e,Jm zay.2.2.2.2.2.2,WN.2.2.2.2.2.2.2.2.2.2.2.2.2];rfl
def zkX(h:∀ R,ev E cs R = .mk b c::R)(R:List Tv):ev E (.t (S "both")::cs) R = .tr (b&&c)::R:=by show push E (.t (S "both")) (ev E cs R)=_;rw[h,Jm zay.2.1,WN.2.2.2.2.2.2.2.1];rfl
def zfb(h:∀ R,ev E cs R = .mk b c::R)(R:List Tv):ev E (.t (S "either")::cs) R = .tr (b||c)::R:=by show push E (.t (S "either")) (ev E cs R)=_;rw[h,Jm zay.2.2.1,WN.2.2.2.2.2.2.2.2.1];rfl
def zjD(h:∀ R,ev E cs R = .tr b::R)(h' : ∀ R,ev E ds R = .tr c::R)(R:List Tv):ev E (.t (S "and")::(cs++ds)) R = .tr (b&&c)::R:=by show push E (.t (S "and")) (ev E (cs++ds) R)=_;rw[zcw,h',h,Jm zay.2.2.2.1,WN.2.2.2.2.2.2.2.2.2.2.1];rfl
def zmZ(h:∀ R,ev E cs R = .tr b::R)(h' : ∀ R,ev E ds R = .tr c::R)(R:List Tv):ev E (.t (S "or")::(cs++ds)) R = .tr (b||c)::R:=by show push E (.t (S "or")) (ev E (cs++ds) R)=_;rw[zcw,h',h,Jm zay.2.2.2.2.1,WN.2.2.2.2.2.2.2.2.2.2.2.1];rfl
end
theorem zcK{α:Type}{r:α->α->Prop}(as:∀ x y,r x y->¬ r y x):∀{a b:List α},a.Perm b->a.Pairwise r->b.Pairwise r->a=b
 |[],b,p,_,_=>by rw[List.nil_perm.mp p]
 |x::a,[],p,_,_=>by have:=p.length_eq;simp at this
 |x::a,y::b,p,h1,h2=>by
  obtain⟨p1,p2⟩:=N3.mp h1;obtain⟨q1,q2⟩:=N3.mp h2;have hx:x∈y::b:=p.mem_iff.mp ID;have hy:y∈x::a:=p.mem_iff.mpr ID;have e:x=y:=by
   rcases IE.mp hx with e | hx
   .exact e
   .rcases IE.mp hy with e | hy
    .exact e.symm
    .exact absurd (p1 y hy) (as _ _ (q1 x hx))
  subst e;rw[zcK as (List.perm_cons x |>.mp p) p2 q2]
def ltN(g:Nat->Int)(i j:Nat):Prop:=g i<g j\/(g i=g j/\i<j)
def ziZ(g:Nat->Int)(i j:Nat)(h:ltN g i j):¬ ltN g j i:=by unfold ltN at *;omega
noncomputable def zhV(g:Nat->Int)(n:Nat):List Nat:=(List.range n).mergeSort λi j=>decide (g i<g j\/(g i=g j/\i<=j))
def zae(g:Nat->Int)(n:Nat):(zhV g n).Perm (List.range n):=List.mergeSort_perm _ _
def zeC(g:Nat->Int)(n:Nat):(zhV g n).Nodup:=(zae g n).nodup_iff.mpr List.nodup_range
def zdw(g:Nat->Int)(n:Nat):(zhV g n).Pairwise (ltN g):=by
 have h:(zhV g n).Pairwise λi j=>(decide (g i<g j\/(g i=g j/\i<=j)))=true:=List.pairwise_mergeSort (λa b c h1 h2=>by
  have:=IB h1;have:=IB h2;exact Ip (by omega)) (λa b=>by
  rw[Bool.or_eq_true,Na,Na];omega) _
 have nd:=zeC g n;refine(h.and nd).imp λ{i j} ⟨a,b⟩=>?_;have:=IB a;unfold ltN;have:i≠j:=b;omega
def zjA{g:Nat->Int}{n:Nat}{out:List Nat}(h:out.Perm (List.range n))(s:out.Pairwise (ltN g)):out=zhV g n:=zcK (ziZ g) (h.trans (zae g n).symm) s (zdw g n)
abbrev th(gs:List Fs)(i:Nat):Fs:=gs.getD i []
def ltL(L:Fs->Fs->An)(gs:List Fs)(i j:Nat):Prop:=L (th gs i) (th gs j) = .ahead\/(L (th gs i) (th gs j) = .like/\i<j)
noncomputable def rkZ(L:Fs->Fs->An)(gs:List Fs)(i:Nat):Int:=(rk L (WW gs) (th gs i):Nat)
noncomputable def tn(L:Fs->Fs->An)(gs:List Fs):List Nat:=zhV (rkZ L gs) gs.length
def za9{i:Nat}(h:i<gs.length):th gs i∈gs:=by unfold th;rw[Ir,Ib h];exact IQ h
def zd8(wk:Wk L (· ∈ gs)){f g:Fs}(hf:f∈gs)(hg:g∈gs):L f g=zaZ (rk L (WW gs) f) (rk L (WW gs) g):=by have w:Wk L (· ∈ WW gs):=wk.sub λf h=>(QK gs f).mp h;have a:=(zcd L (WW gs)).mpr w;unfold agree at a;exact IB (NB.mp (NB.mp a f ((QK gs f).mpr hf)) g ((QK gs g).mpr hg))
def Ua(i j:Nat):(zaZ i j = .ahead↔i<j)/\(zaZ i j = .like↔i=j)/\(zaZ i j = .behind↔j<i):=by
 unfold zaZ;by_cases h:i<j
 .rw[Iq h];refine⟨⟨λ_=>h,λ_=>rfl⟩,⟨λz=>(by cases z),λz=>(by omega)⟩,⟨λz=>(by cases z),λz=>(by omega)⟩⟩
 .rw[Im h];by_cases h2:i>j
  .rw[Iq h2];refine⟨⟨λz=>(by cases z),λz=>(by omega)⟩,⟨λz=>(by cases z),λz=>(by omega)⟩,⟨λ_=>h2,λ_=>rfl⟩⟩
  .rw[Im h2];refine⟨⟨λz=>(by cases z),λz=>(by omega)⟩,⟨λ_=>(by omega),λ_=>rfl⟩,⟨λz=>(by cases z),λz=>(by omega)⟩⟩
def zjs(wk:Wk L (· ∈ gs)){i j:Nat}(hi:i<gs.length)(hj:j<gs.length):ltL L gs i j↔ltN (rkZ L gs) i j:=by unfold ltL ltN rkZ;rw[zd8 wk (za9 hi) (za9 hj),(Ua _ _).1,(Ua _ _).2.1];omega
def zc4(L:Fs->Fs->An)(gs:List Fs):(tn L gs).Perm (List.range gs.length):=zae _ _
def znY{i:Nat}(h:i∈tn L gs):i<gs.length:=OP.mp ((zc4 L gs).mem_iff.mp h)
def zfI(L:Fs->Fs->An)(gs:List Fs):(tn L gs).length=gs.length:=by rw[(zc4 L gs).length_eq,IG]
end Look
namespace L2
open PySem PySem.Spec PyProof.Rows Lw
def zlx(K:FG)(P:AD)(cr:Nat->Nat->Option Str)(js:List Nat)(t0 te:TE):TE:=fun σ H Q=>t0 σ H λv H1=>H1 P=some (.tbl cr)/\∃(n:Nat)(g:Nat->Int),v = .int (n:Nat)/\n<64/\
 (∀ i,i<n->Ev K te (some (.int (i:Nat))::WK σ js) H1 (.int (g i)))/\∀ l H' (out:List Nat),ZF H1 H' -> H1 l=none->H' l=some (.lst (out.map λi=>V.int (i:Nat)))->out.Perm (List.range n)->out.Pairwise (λi j=>g i<g j\/(g i=g j/\i<j))->Q (.ref l) H'
def zh8:bootBuiltins "sorted" = some (.builtin "sorted"):=by decide +kernel
section
variable {X:Cx}{kk:Nat}{y:Str}{c P:AD}{cr:Nat->Nat->Option Str}{q:Str}{params:Arguments}{body a:Expr}{sc:Scope}{cap:LB}{t0 te:TE}{p1 p2 pos q2 lpos kpos:Pos}
def zj7(hr:Wz (kk+3) X.A)(hc:X.calm=true)(hg1:Gl X "sorted")(hm1:X.mg "sorted" = none)(hg2:Gl X "range")(hm2:X.mg "range" = none){js:List Nat}(S:Ws X.env.scope sc [y] cap)(hjs:js.map (λj=>X.N[j]?)=cap.map some)(hcode:X.env.code = .ref c)(C:CodeHd X.base c P)(hbm:BM X.mg X.base)(hq:q=X.env.qual ++ "<lambda>")(hcr:cr lpos.line lpos.col=some q)(hbind:∀(u pm ctv:Value)(c' : AD)(cl:List (Str×AD)),bindArgs (kla_fn "<lambda>" q params body sc cl pm (.ref c') ctv) ⟨[u],[]⟩=pure [(y,u)])(ha:PE X a t0)(hbody:∀ A outer s H f c' cl,Wz kk (A.deeper (PySem.W.envX q sc s.heap.objs.size f (.ref c') cl))->PE (zgs X.prog X.w X.K X.mg X.base ([y]++cap) q sc f c' cl A outer s H) body te)(hdef:defaultsOf params X.env=([],[]):=by rfl)(hs1:starEach [.Call (.Name "range" p2) [a] [] q2] X.env=[(false,eval (.Call (.Name "range" p2) [a] [] q2) X.env)]:=by rfl)(hs2:starEach [a] X.env=[(false,eval a X.env)]:=by rfl)(hks:(backToKw pos (keywordEach [⟨some "key",.Lambda params body sc lpos,kpos⟩] X.env)).filterMap (·.1)=[Str.ofString "key"]:=by rfl)(hall:(backToKw pos (keywordEach [⟨some "key",.Lambda params body sc lpos,kpos⟩] X.env)).all (·.1.isSome)=true:=by rfl)(hkw:(backToKw pos (keywordEach [⟨some "key",.Lambda params body sc lpos,kpos⟩] X.env)).any (·.1.isNone)=false:=by rfl):
  PE X (.Call (.Name "sorted" p1) [.Call (.Name "range" p2) [a] [] q2] [⟨some "key",.Lambda params body sc lpos,kpos⟩] pos) (zlx X.K P cr js t0 te):=by
 intro aa s σ H Q I h;refine Nt (QT I hg1 hm1 zh8 ?_);have z:sizeLine<2^62:=by decide
 refine callWith_kw (id:= "sorted") ?_ (by rw[hs1];rfl) (by rw[hs1];rfl) hall hkw;rw[hs1];show wpAny _ _ (spliced [(false,eval (.Call (.Name "range" p2) [a] [] q2) X.env)]) _ _ s;refine spliced_cons (Nt (QT I hg2 hm2 boot_range (Nl (thn (Za ha Ze (by rw[hs2];rfl) q2 aa s σ H (λvs H1=>match vs with
  |[v]=>H1 P=some (.tbl cr)/\∃(n:Nat)(g:Nat->Int),v = .int (n:Nat)/\n<64/\(∀ i,i<n->Ev X.K te (some (.int (i:Nat))::WK σ js) H1 (.int (g i)))/\∀ l H' (out:List Nat),ZF H1 H' -> H1 l=none->H' l=some (.lst (out.map λi=>V.int (i:Nat)))->out.Perm (List.range n)->out.Pairwise (λi j=>g i<g j\/(g i=g j/\i<j))->Q (.ref l) H'
  |_=>False) I h) λus s1 ⟨vs,H1,I1,r1,q1⟩=>?_) hs2 rfl)))
 match vs,r1,q1 with
 |[v],r1,⟨hP,n,g,ev,n64,hev,hQ⟩=>
 subst ev;obtain⟨u,rfl,r⟩:=Vals.one r1;obtain⟨t,rfl⟩:=r;refine call_range_1 (spliced_nil ?_);refine thn (zjC (zm1 (c:=c) (cr:=cr) S hcode C hbm hq hcr hdef) zm2 pos aa _ σ _ (λvs H2=>∃ f,vs=[.ref f]/\ZF (upd H1 s1.heap.objs.size (exO s1.heap.objs.size _)) H2/\zcV H2 f q params body sc (Jz X.env sc.names [])) (I1.laid (a:=s1.heap.objs.size) (o:=exO s1.heap.objs.size _) (λb o e=>Ih _ e) (Ik _) (ziA (Io _ rfl))) ⟨by rw[Zr (Zy hP (I1.ad.fresh (Ik _)))];exact hP,λf H' hf sm L=>⟨f,rfl,sm,L⟩⟩) λws s2 ⟨vs2,H2,I2,r2,f,e2,sm,L⟩=>?_;subst e2;obtain⟨u2,rfl,r2'⟩:=Vals.one r2;obtain rfl:u2=Value.ref f:=r2';rw[hks];have fr1:H1 s1.heap.objs.size=none:=I1.ad.fresh (Ik _);have sm1:=(YK fr1).trans sm;have hR:=I2.exO (sm _ _ Zo);have zl:(2000:Nat)<=sizeLine:=by decide
 have z24:(64:Nat)<=2^24:=by decide
 generalize s1.heap.objs.size=rr at hR sm fr1;show wpAny _ _ (call (.builtin "sorted") [.ref rr] [(Str.ofString "key",.ref f)]) _ _ s2;refine call_function_entry_kw kind_sorted plain_sorted entry_sorted (ksk_s1 _ _) ?_;unfold Builtin.«sorted»;refine Ia (m:=checkCount "sorted" 1 1 _) (Ic ?_);refine Ia (zc8 (A:=X.A.in1) (n:=n) (show X.A.in1.handled=none from hr.hd) (r:=rr) (a:=0) (b:=(n:Int)) (c:=1) hR (small_one (by omega) (by omega) (by omega) (by omega)) (by rw[rangeSize_one];split <;> omega) (by omega) λh' tk acc hk hacc=>?_);have ha' : Vals (gV (λi=>(i:Nat)) n) acc.toList:=by
  have:=zho hacc;have e:((List.range n).map λ(i:Nat)=>V.int (0+i))=gV (λi=>(i:Nat)) n:=map_congr_left λi _=>by rw[Int.zero_add]
  rw[e]at this;exact this
 have al:=ha'.length;rw[Ie,IG]at al;have I3:=I2.kept (t':=tk) hk;refine Ia (wpAny_newList ?_ (by omega));have hoL:(h'.push (seqObj "list" acc.toList.toArray 0)).get? h'.objs.size=some (seqObj "list" acc.toList.toArray 0):=Io _ rfl;obtain⟨e1,ho1⟩:∃ e1,((h'.push (seqObj "list" acc.toList.toArray 0)).update h'.objs.size (Obj.mapSeq λ_=>(#[]:Array Value))).get? h'.objs.size=some (seqObj "list" #[] e1):=⟨_,get?_update_seq hoL λ_=>#[]⟩
 have fD:H2 h'.objs.size=none:=I3.ad.fresh (Ik _);refine Ia (Np (wpAny_call_entry_kw PyProof.Rows.slot_list_sort ⟨_,hoL,rfl⟩ PyProof.Rows.entry_list_sort ?body (ksk_l1 _ _)))
 case body=>
  show wpAny (model X.prog X.w) X.A.in1.in1 (Builtin.«list.sort» ⟨[.ref h'.objs.size],[(Str.ofString "key",.ref f)]⟩) _ _ _;rw[ksk_t1];unfold ksk_tree;refine Ia (listItems_at hoL rfl ?_);refine Ia (listUpdate_at hoL rfl ?_ (by rw[Ix];omega) (Nr _));refine Ia (seqEpoch_at ho1 rfl ?_);refine Ia (wpAny_newTuple ?_ (by show acc.toList.toArray.toList.length<=_;rw[List.toList_toArray];omega));refine Ia (wpAny_newList (Np ?_) (Nr _));have I4:Inv X aa σ (upd H2 h'.objs.size (exO h'.objs.size (seqObj "list" #[] e1))) {s2 with heap:=(h'.push (seqObj "list" acc.toList.toArray 0)).update h'.objs.size (Obj.mapSeq λ_=>(#[]:Array Value)),toks:=tk}:=I3.laid (t':=tk) (λb o e=>(NF _ _ (ne_of_gt (IF e))).trans (Ih _ e)) (Ik _) (ziA ho1)
  have I5:=I4.kept (t':=tk) (h':=((h'.push (seqObj "list" acc.toList.toArray 0)).update h'.objs.size (Obj.mapSeq λ_=>(#[]:Array Value))).push (seqObj "tuple" acc.toList.toArray.toList.toArray 0)) λb o e=>Ih _ e;have I6:=I5.zoP (ys:=[]) (its:=[]) (t':=tk) .nil (Nr _);have fK:=I5.ad.fresh (Ik _);have nKD:(((h'.push (seqObj "list" acc.toList.toArray 0)).update h'.objs.size (Obj.mapSeq λ_=>(#[]:Array Value))).push (seqObj "tuple" acc.toList.toArray.toList.toArray 0)).objs.size≠h'.objs.size:=λzz=>by have zz2:upd H2 h'.objs.size (exO h'.objs.size (seqObj "list" #[] e1)) _=none:=fK;rw[zz,Zo]at zz2;cases zz2
  refine zh1 (kk:=kk) (H0:=H2) (n:=n) (g:=g) hr.in1.in1 rfl S hjs hbind hbody L (λi hi=>(hev i hi).mono sm1) I6 ?_ ?_ Zo nKD fD ?_ n64 ha' λout o1 o2 s' H' sH hD I' => ⟨_,rfl,Ic ⟨_,rfl,.ref h'.objs.size,H',I',rfl,hQ _ H' out (sm1.trans sH) (sm1.free fD) hD o1 o2⟩⟩
  .exact(YK fD).trans (YK fK)
  .rw[Zr (Ne.symm nKD)];exact Zo
  .have:=fK;rw[Zr nKD]at this;exact this
end
open PySem PySem.Spec PyProof.Rows Look
def zkn{K:FG}{P:AD}{cr:Nat->Nat->Option Str}{js:List Nat}{t0 te:TE}{σ:St}{G:Hp}{n:Nat}{g:Nat->Int}(hP:G P=some (.tbl cr))(h0:Ev K t0 σ G (.int (n:Nat)))(hn:n<64)(he:∀ i,i<n->Ev K te (some (.int (i:Nat))::WK σ js) G (.int (g i))):
  Ev K (zlx K P cr js t0 te) σ G (.list ((zhV g n).map λi=>PyData.int (i:Nat))):=λG1 H s1 s2 Q k=>h0 G1 H s1 s2 _ λv G2 H2 g2 hv=>by
 refine⟨g2.gh _ _ (g2.gg _ _ (s1 _ _ hP)),n,g,hv.int,hn,λi hi=>(he i hi).mono ((s1.trans g2.gg).trans g2.gh),λl H' out sm fl hl o1 o2=>?_⟩;have e:out=zhV g n:=zjA o1 o2;subst e;have gl:G2 l=none:=g2.gh.free fl;have g3:YH G2 H2 (upd G2 l (.lst ((zhV g n).map λi=>V.int (i:Nat)))) H':=by
  refine⟨λb o e=>by rw[Zr (Zy e gl)];exact e,λb o e=>?_,sm,λb o e=>?_⟩
  .by_cases h:b=l
   .subst h;rw[Zo]at e;rw[hl,e]
   .rw[Zr h]at e;exact sm _ _ (g2.gh _ _ e)
  .by_cases h:b=l
   .subst h;exact .inr fl
   .rw[Zr h]at e;exact .inl e
 exact k _ _ _ (g2.trans g3) (Xd Zo (zcn _))
open PySem PySem.Spec PyProof.Rows Lw Frac
section
variable {K:FG}{d c:AD}{G H:Hp}{n:Nat}{σ:St}{te:TE}{x:PD}{D:Ends}{rest:TS}{i:Nat}
def zj0(h:Ev K te σ G x)(s:ZF G H)(k:∀ v G' H',YH G H G' H' -> Dat K G' v x->rest D (σ.set i (some v)) H'):ziQ (zk3 te (VF i)) rest D σ H:=JH h s k
end
end L2
namespace K61
open PySem L2 Frac Lw PySem.NumText
open Ord Look Rdo
def zo7(K:FG)(Pt Pn:AD)(R:LB->LA->PD->Prop):Sp:=λvs H Q _=>∃(G:Hp)(book:LB)(vo:V)(pb:AD)(us:LC)(ds:LA)(d:PD),vs=vo :: .ref pb::us/\(G Pt=some (.tbl Z5)/\G Pn=some (.tbl λ_ _=>some Ys))/\ZF G H/\Dat K G (.ref pb) (.tuple (book.map PyData.str))/\YB K G (vo::us) ds/\R book ds d/\
 ∀ v G' H',YH G H G' H' -> Dat K G' v d->Q v H'
def zpd(book:LB):LA->PD->Prop:=λds d=>∃(ws:List Wd)(num:Int->Int->Prop)(gs:List Fs),ds=[dOs ws,.tuple (gs.map dT)]/\OC book num ws/\(∀ g∈gs,FZ book.length g)/\gs.length<64/\Wk (Wq book ws) (· ∈ gs)/\d=dN (tn (Wq book ws) gs)
section
def zeH(T:Top K mg)(Nd:Uo K=true)(M:Bs K mg base)(W:Wds K w.params mg)(W1:Txs K w.params mg "AHEAD" Wl)(W2:Txs K w.params mg "OTHER_WAY" X7):T.JF.O P w base 10 (zo7 K T.Z8 T.Yn zpd):=by
 have G_ranks_of:=@zeh T Nd M W W1 W2;refine T.JF.F.okC zbh (λvs H Q E h=>?_) (λcdv A outer s H vs Q E hcd hr h=>?_)
 .obtain⟨G,book,vo,pb,us,ds,d,rfl,_,_,_,hd,⟨ws,num,gs,rfl,_⟩,_⟩:=h;have:=hd.length;simp only[IC,N7]at this ⊢;omega
 .obtain⟨G,book,vo,pb,us,ds,d,rfl,⟨hT,hC⟩,sg,hpb,hd,⟨ws,num,gs,rfl,oc,hgs,hl,wk,rfl⟩,k⟩:=h;obtain⟨v0,r0,e0,h0,hd⟩:=hd.cons;cases e0
  rename YB K G us _=>hd
  obtain⟨v2,r2,rfl,h2,hd⟩:=hd.cons;cases hd.nil;have hu:=hr.units;refine⟨_,(Zf (ZC (i:=3) zbh.nd rfl (Or.inr rfl) (peN T.VM G_ranks_of hr (Za (pv 0) (Za (pv 1) (Za (pv 2) Ze Zd) Zd) Zd)))
   (Zm (Zz (Yq (X4 (K:=K) rfl) (by rfl) T.Ux zi0 (Za (zj7 (kk:=1) (y:= "place") (cap:=["ranks"]) (js:=[3]) (q:=Ys) (cr:=λ_ _=>some Ys) (hr.mono (by decide)) rfl (by rfl) T.zkN (by rfl) T.Qv ⟨rfl,rfl,rfl,(by decide +kernel),(by decide +kernel),(by show ∀ p∈(_:List (Str×NameKind)),p.2=NameKind.free->List.lookup p.1 (Zh Jy).names=some NameKind.cell;decide +kernel),(by decide +kernel),(by decide +kernel),(by decide +kernel)⟩ rfl (hcd.trans T.cd_turning) (codeHd_of_K M.kin T.ch_turning) M.bm rfl rfl (λ_ _ _ _ _=>rfl) (Z2 (Yb (K:=K) rfl) (by rfl) T.zaA II (Za (pv 2) Ze Zd)) (λ_ _ _ _ _ _ _ hr2=>(ZG (Zu (K:=K) rfl) (pv 1) (pv 0) (λ_ _=>rfl)))) Ze Yo))))) ,?_⟩
  refine zj0 (K:=K) (zbN (R:=zoR) hT hpb rfl (Zn rfl h0) (Zq (Zn rfl h2) ZW) ⟨ws,num,gs,rfl,oc,hgs,(by omega),wk,rfl⟩) sg λv3 G1 H1 g1 h3=>?_;refine Yz (K:=K) (Qp (Zq (zkn (n:=gs.length) (g:=rkZ (Wq book ws) gs) (g1.gg _ _ hC) (zd1 (zc3 (Zq (Zn rfl (h2.same g1.gg)) ZW)) (by rw[Ie])) hl λi hi=>?_) ZW)) g1.gh λv G' H' g' hv=>k v G' H' (g1.trans g') hv;refine YS (n:=i) (Zn rfl h3) (Zn rfl (Zv _)) (by rw[Ie];exact YG hi) ?_;rw[Ij,Ib hi];unfold rkZ th;rw[Ir,Ib hi];rfl
end
section
def Jf(T:Top K mg):T.Zx.O P w base 1 (spT (dkT K) zdf RDw):=by
 refine T.Zx.F.ok Jh (λvs H Q E h=>?_) (λcdv A outer s H vs Q E hr h=>?_)
 .obtain⟨p,fp,us,G,n,ds,rfl,_,_,_,_,hv,⟨m,rfl,_⟩,_⟩:=h;rw[IC,hv.length];rfl
 .obtain⟨p,fp,us,G,n,ds,rfl,sg,gn,lv,hI,hv,⟨m,rfl,hn,hm1,hm2⟩,kk⟩:=h;obtain⟨y,ys,rfl,hy,hnil⟩:=hv.cons;cases hnil.nil;rw[hy.int];have hI:DkI n p fp H:=hI;obtain⟨q,rs,c,rfl,nd,ne,hl,hp,hq,c0,c1,hrs⟩:=id hI;have hu:=hr.units;have npq:p≠q:=λz=>by subst z;exact absurd nd (by simp)
  have npr:∀ r∈rs,r≠p:=λr m z=>by subst z;exact absurd nd (by simp[m])
  have nqr:∀ r∈rs,r≠q:=λr m z=>by subst z;exact absurd nd (by simp[m])
  have hlp:0<rs.length:=length_pos_iff.mpr ne;obtain⟨j,hj⟩:=Int.eq_ofNat_of_zero_le (OQ c (show(rs.length:Int)≠0 by omega));have hjl:j<rs.length:=by have:=Oo c (show(0:Int)<rs.length by omega);omega
  have hrm:rs[j]∈rs:=IQ hjl;have hat:atI (rs.map V.ref) (c % ((rs.map V.ref).length:Nat))=some (.ref rs[j]):=by rw[Ie,hj];exact zjZ (by rw[Ij,Ib hjl];rfl)
  obtain⟨a,sd,f,hra,hs0,hs1⟩:=hrs _ hrm;have nprj:=npr _ hrm;have nqrj:=nqr _ hrm;generalize rs[j]=r at hat hra hrm nprj nqrj;have step:∀(H' : Hp)(a' s' f' : Int),0<=s' -> s'<2000000000->(∀ b o,H b=some o->b≠p->b≠r->H' b=some o)->H' p=some (.lst [.ref q,.int (c+1)])->H' r=some (.lst [.int a',.int s',.int f'])->∀ x:Int,0<=x->x<m->Q (.int x) H':=λH' a' s' f' z0 z1 hk hp' hr' x x0 x1=>by
   have hI' : DkI (n+1) p (q::rs) H':=⟨q,rs,c+1,rfl,nd,ne,hl,hp',hk _ _ hq (Ne.symm npq) (Ne.symm nqrj),(by omega),(by omega),λr' m' => by
    by_cases z:r'=r
    .subst z;exact⟨a',s',f',hr',z0,z1⟩
    .obtain⟨a2,s2,f2,e2,b2⟩:=hrs r' m';exact⟨a2,s2,f2,hk _ _ e2 (npr r' m') z,b2⟩⟩
   exact kk _ _ (n+1) G H' ⟨m,x,rfl,rfl,x0,x1,rfl⟩ (znk sg gn (λb o e nb=>hk b o e (λz=>nb (by rw[z];simp)) λz=>nb (by rw[z];simp[hrm])) hI'.lv) gn hI'.lv hI' (Zv _)
  refine⟨_,(Zf (ZC (i:=2) Jh.nd rfl (Or.inl rfl) (ZG (Zu (K:=K) rfl) (ZG (Zu (K:=K) rfl) (pv 0) Zi (λ_ _=>rfl)) (ZL Vu (ZG (Zu (K:=K) rfl) (pv 0) Zi (λ_ _=>rfl)) (Z2 (Yb (K:=K) rfl) (by rfl) T.zaA II (Za (ZG (Zu (K:=K) rfl) (pv 0) Zi (λ_ _=>rfl)) Ze Zj))) (λ_ _=>rfl)))
   (Zf (Vl (ZL YJ (ZG (Zu (K:=K) rfl) (pv 0) Zi (λ_ _=>rfl)) Zi) (zgM (pv 0) Zi set_list))
   (Zf (Yv ((pw_and (ZJ Y6 (ZG (Zu (K:=K) rfl) (pv 2) Zi (λ_ _=>rfl)) Zi (ZM _)) (pw_and1 (ZJ zds (ZG (Zu (K:=K) rfl) (pv 2) Zi (λ_ _=>rfl)) Zi (ZM _))))).pt (Zf (ZC (i:=3) Jh.nd rfl (Or.inl rfl) (ZL Vu (ZG (Zu (K:=K) rfl) (pv 2) Zi (λ_ _=>rfl)) (pv 1)))
   (Zf (Vl (ZL U4 (ZG (Zu (K:=K) rfl) (pv 2) Zi (λ_ _=>rfl)) (pv 1)) (zgM (pv 2) Zi set_list))
   (Zm (Zz (pv 3))))) ZQ)
   (Zf (Vl (ZL Vu (ZL YJ (ZL YJ (ZL Wh (ZG (Zu (K:=K) rfl) (pv 2) Zi (λ_ _=>rfl)) Zi) (ZL Wh Zi (ZG (Zu (K:=K) rfl) (pv 0) Zi (λ_ _=>rfl)))) Zi) Zi) (zgM (pv 2) Zi set_list))
   (Zf (ZC (i:=4) Jh.nd rfl (Or.inl rfl) (ZL Vu (ZL Wh (ZG (Zu (K:=K) rfl) (pv 2) Zi (λ_ _=>rfl)) (ZG (Zu (K:=K) rfl) (pv 2) Zi (λ_ _=>rfl))) Zi))
   (Zm (Zz (ZL Vu (ZL U4 (ZL Vu (ZL Wh (pv 4) (pv 4)) Zi) Zi) (pv 1))))))))) ,?_⟩
  refine⟨_,rfl,p,_,0,_,rfl,rfl,SqL.of hp,rfl,_,rfl,p,_,1,_,rfl,rfl,SqL.of hp,rfl,_,rfl,p,_,0,_,rfl,rfl,SqL.of hp,rfl,q,_,rfl,.inl (SqL.of hq),_,_,rfl,rfl,(by rw[Ie];omega),q,_,_,_,rfl,rfl,SqL.of hq,hat,?_⟩;refine⟨_,rfl,p,_,1,_,rfl,rfl,SqL.of hp,rfl,_,_,rfl,rfl,_,rfl,p,_,1,1,rfl,rfl,hp,rfl,?_⟩;have h1:upd H p (.lst [V.ref q,V.int (c+1)]) p=some (.lst [V.ref q,V.int (c+1)]):=Zo;have h2:upd H p (.lst [V.ref q,V.int (c+1)]) r=some (.lst [.int a,.int sd,.int f]):=by rw[Zr nprj];exact hra
  have B1:∀ b o,H b=some o->b≠p->upd H p (.lst [V.ref q,V.int (c+1)]) b=some o:=λb o e z=>by rw[Zr z];exact e
  show ziQ _ _ _ _ (upd H p (.lst [V.ref q,V.int (c+1)]));generalize upd H p (.lst [V.ref q,V.int (c+1)])=H1 at h1 h2 B1;have hs:Dat K H1 (.ref r) (.list [.int a,.int sd,.int f]):=Xd h2 (ZV (Zv _) (ZV (Zv _) (ZV (Zv _) Z9)));refine UG (G:=H1) (zi8 (YL (zau (YS (K:=K) (i:=2) (n:=2) (Zn rfl hs) YW rfl rfl) YW)) λ_=>YL (QS (YS (K:=K) (i:=0) (n:=0) (Zn rfl hs) YW rfl rfl) YW (Yc _))) (ZF.refl _) (λ_ G2 H2 g2=>?_) (λ_ G2 H2 g2=>?_)
  .have h3:=g2.hh _ _ h2;have h4:=g2.hh _ _ h1;refine⟨_,rfl,r,_,0,_,rfl,rfl,SqL.of h3,rfl,_,rfl,_,_,rfl,rfl,(by show 0<m;omega),?_⟩;refine⟨_,rfl,r,_,0,_,rfl,rfl,SqL.of h3,rfl,_,rfl,_,_,rfl,rfl,⟨(by omega),w0 (by omega)⟩,_,rfl,r,_,0,0,rfl,rfl,h3,rfl,?_⟩;exact⟨_,rfl,step _ _ _ _ hs0 hs1 (λb o e z1 z2=>by rw[Zr z2];exact g2.hh _ _ (B1 b o e z1)) (by rw[Zr (Ne.symm nprj)];exact h4) Zo _ (OQ _ (by omega)) (Oo _ (by omega))⟩
  .have h3:=g2.hh _ _ h2;have h4:=g2.hh _ _ h1;refine⟨_,rfl,r,_,1,_,rfl,rfl,SqL.of h3,rfl,_,_,rfl,rfl,mw (by omega) (by decide),_,rfl,p,_,1,_,rfl,rfl,SqL.of h4,rfl,_,_,rfl,rfl,mw (by decide) (by omega),_,_,rfl,rfl,_,_,rfl,rfl,_,_,rfl,rfl,(by show(0:Int)<1999999943;decide),_,rfl,r,_,1,1,rfl,rfl,h3,rfl,?_⟩
   (try dsimp only)
   generalize hM:(sd*69621+101*(c+1)+11) % 1999999943=x;have hx:0<=x/\x<1999999943:=by rw[← hM];exact⟨OQ _ (by decide),Oo _ (by decide)⟩
   have h5:upd H2 r (.lst [V.int a,V.int x,V.int f]) r=some (.lst [V.int a,V.int x,V.int f]):=Zo;have h6:upd H2 r (.lst [V.int a,V.int x,V.int f]) p=some (.lst [V.ref q,V.int (c+1)]):=by rw[Zr (Ne.symm nprj)];exact h4
   have B3:∀ b o,H b=some o->b≠p->b≠r->upd H2 r (.lst [V.int a,V.int x,V.int f]) b=some o:=λb o e z1 z2=>by rw[Zr z2];exact g2.hh _ _ (B1 b o e z1)
   show ziQ _ _ _ _ (upd H2 r (.lst [V.int a,V.int x,V.int f]));generalize upd H2 r (.lst [V.int a,V.int x,V.int f])=H3 at h5 h6 B3;have hxx:=OQ (x*x) (show(1999999927:Int)≠0 by decide);have hxy:=Oo (x*x) (show(0:Int)<1999999927 by decide);refine⟨_,rfl,r,_,1,_,rfl,rfl,SqL.of h5,rfl,_,rfl,r,_,1,_,rfl,rfl,SqL.of h5,rfl,_,_,rfl,rfl,mw (by omega) (by omega),_,_,rfl,rfl,(by show(0:Int)<1999999927;decide),?_⟩;refine⟨_,rfl,_,rfl,_,_,rfl,rfl,mw (by omega) (by omega),_,_,rfl,rfl,(by show(0:Int)<1999999913;decide),_,_,rfl,rfl,⟨(by decide),(by decide)⟩,_,rfl,_,_,rfl,rfl,(by show 0<m;omega),?_⟩;exact step H3 _ _ _ hx.1 (by omega) B3 h6 h5 _ (OQ _ (by omega)) (Oo _ (by omega))
def zhA(T:Top K mg):T.Jk.O P w base 1 (zka K):=by
 refine T.Jk.F.ok Xu (λvs H Q E h=>?_) (λcdv A outer s H vs Q E hr h=>?_)
 .obtain⟨a,ns,rfl,_⟩:=h;rfl
 .obtain⟨a,ns,rfl,hsq,fin⟩:=h;have hu:=hr.units;have zl:(2000:Nat)<sizeLine:=by decide
  refine⟨_,(Zf (ZC (i:=1) Xu.nd rfl (Or.inl rfl) (XM (zhy (K:=K) rfl) (pv 0) W6 (XS Zi)))
   (Zf (Yv (ZJ (zax (K:=K) rfl hu) (pv 1) (Z3 Ze) (ZM _)) (Zm (ZC (i:=1) Xu.nd rfl (Or.inl rfl) (Z3 (Za Zi Ze Zg)))) ZQ)
   (Zf (ZC (i:=2) Xu.nd rfl (Or.inl rfl) (Z3 Ze))
   (Zf (JG Nh rfl (XC (by rfl) T.Qv (Za (Z2 (Yb (K:=K) rfl) (by rfl) T.zaA II (Za (pv 1) Ze Zd)) Ze Yo)) (Yh (i:=3) Xu.nd rfl (Or.inl rfl)) (Zf (ZC (i:=4) Xu.nd rfl (Or.inl rfl) (ZL Vu (ZL Wh (ZL YJ (ZL YJ (ZL YJ (ZL Vu (ZG (Zu (K:=K) rfl) (pv 1) (pv 3) (λ_ _=>rfl)) Zi) (ZL Wh (ZL Wh Zi (pv 3)) (pv 3))) (ZL Wh Zi (pv 3))) Zi) Zi) Zi))
   (Zm (JQ (zap Nv Nx Ny WX (pv 2) (Za (Z3 (Za (ZG (Zu (K:=K) rfl) (pv 1) (pv 3) (λ_ _=>rfl)) (Za (pv 4) (Za (Yq XH (by rfl) T.int_ zgX (Za (Y4 znD (ZG (Zu (K:=K) rfl) (pv 1) (pv 3) (λ_ _=>rfl)) (ZL Uy Zi Zi) (ZM _)) Ze Y0)) Ze Yo) Zd) Zj)) Ze zgI))))))
   (Zm (Zz (Z3 (Za (pv 2) (Za Zi Ze Zg) Zd)))))))) ,?_⟩
  obtain⟨ms0,hms,hml,_⟩:=zja PyData.int ns none (some 63);have hm63:ms0.length<=63:=by have:=IT List.length hms;rw[Ie,show(some (63:Int))=some ((63:Nat):Int)from rfl,Vo,Nj]at this;omega
  have rx0:Rx K B0 H [some (.ref a),none,none,none,none] [.scr ns]:=zdi λi v h=>by
   rcases i with _ | i
   .cases h;exact⟨a,rfl,hsq⟩
   .cases h
  refine JH (K:=K) (G:=H) (zhQ (ρ:=[.scr ns]) (B:=B0) rfl V3 zdP H _ rx0) (ZF.refl _) λv1 G1 H1 g1 h1=>?_;rw[hms]at h1;have hp1:∀ l:LX,Pl 4 (.list (l.map PyData.int)):=λl=>ziJ λx hx=>by obtain⟨i,_,rfl⟩:=N0.mp hx;exact zd0 _
  dsimp only;refine zj9 (fun σ' H' => ∃(v1:V)(ms:LX)(G1:Hp),σ'=[some (.ref a),some v1,none,none,none]/\ms≠[]/\ms.length<=63/\ZF G1 H' /\ ZF H H' /\ Dat K G1 v1 (.list (ms.map .int))) (λW hW=>?_) ?_
  .refine UG (G:=G1) (YL (zf2 (n:=4) (Zn rfl h1) (zdU ZW (Nr _)) (hp1 ms0) (hp1 []) (by decide))) g1.gh (λhc G2 H2 g2=>?_) (λhc G2 H2 g2=>?_)
   .exact JH (K:=K) (G:=G2) (zdU (Zq YW ZW) (by show 1<=sizeLine;decide)) g2.gh λv2 G3 H3 g3 h3=>hW _ _ ⟨v2,[0],G3,rfl,(by simp),by show 1<=63;decide,g3.gh,(g1.hh.trans g2.hh).trans g3.hh,h3⟩
   .refine hW _ _ ⟨v1,ms0,G2,rfl,λz=>?_,hm63,g2.gh,g1.hh.trans g2.hh,h1.same g2.gg⟩;subst z;cases hc
  rintro _ H2 ⟨v1,ms,G2,rfl,hne,hm,sg2,sh2,hd⟩;refine⟨Nr _,λq hq=>?_⟩;have hqH:H q=none:=sh2.free hq;have hqG:G2 q=none:=sg2.free hq;have hmp:0<ms.length:=length_pos_iff.mpr hne;have hlen:EvA K (YC (tCB (λxs H Q=>∃ p ys,xs=[.ref p]/\(SqL K H p ys\/SqT K H p ys)/\Q (.int ys.length) H) (YC (Wj 1) Vk)) Vk) [some (.ref a),some v1,some (.ref q),none,none] G2 [.int (ms.length:Nat)]:=Zq (zd1 (zf5 (Zq (Zn rfl hd) ZW)) (by rw[Ie])) ZW;refine zj1 (σ:=[some (.ref a),some v1,some (.ref q),none,none]) hlen (sg2.trans (YK hq)) (by omega) λG3 H3 g3=>?_;refine⟨λi m σ' H' => m=ms.length-i/\i<=ms.length/\∃(rs:LH)(G' : Hp)(o3 o4:Option V),σ'=[some (.ref a),some v1,some (.ref q),o3,o4]/\rs.length=i/\(q::rs).Nodup/\H' q=some (.lst (rs.map V.ref))/\G' q=none/\(∀ r∈rs,H r=none/\G' r=none/\∃ a s f:Int,H' r=some (.lst [.int a,.int s,.int f])/\0<=s/\s<2000000000)/\ZF G2 G' /\ ZF G' H' /\ ZF H H',⟨ms.length,(by omega),(by omega),[],G3,none,none,rfl,rfl,(by simp),g3.hh _ _ Zo,?_,λ_ h=>(by cases h),g3.gg,g3.gh,(sh2.trans (YK hq)).trans g3.hh⟩,?_⟩
  .rcases hG:G3 q with _ | o
   .rfl
   .rcases g3.fr q o hG with h | h
    .rw[hqG]at h;cases h
    .rw[Zo]at h;cases h
  rintro i m σ' H' ⟨rfl,hi,rs,G',o3,o4,rfl,hrl,nd,hq',gq',hrs,s1,s2,s3⟩;by_cases hin:i=ms.length
  .refine .inl ⟨(by omega),?_⟩;refine⟨_,rfl,by show 2<=sizeLine;decide,λp hp=>?_⟩;have hpq:q≠p:=λz=>by subst z;rw[hp]at hq';cases hq'
   have hpr:∀ r∈rs,r≠p:=λr mr z=>by subst z;obtain⟨_,_,_,_,_,e,_⟩:=hrs r mr;rw[hp]at e;cases e
   refine fin p (q::rs) _ ⟨q,rs,0,rfl,OM.mpr ⟨λz=>?_,nd⟩,λz=>?_,(by omega),Zo,by rw[Zr hpq];exact hq',(by omega),(by omega),λr mr=>?_⟩ (λx hx=>?_) (s3.trans (YK hp))
   .rcases IE.mp z with z | z
    .exact hpq z.symm
    .exact hpr p z rfl
   .subst z;simp only[N7]at hrl;omega
   .obtain⟨_,_,a',s',f',e,b⟩:=hrs r mr;exact⟨a',s',f',by rw[Zr (hpr r mr)];exact e,b⟩
   .rcases IE.mp hx with rfl | hx
    .exact s3.free hp
    rcases IE.mp hx with rfl | hx
    .exact hqH
    .exact(hrs x hx).1
  .have hi' : i<ms.length:=by omega
   refine .inr ⟨hi',fun σ2 H2=>∃(rs:LH)(G' : Hp)(o3 o4:Option V),σ2=[some (.ref a),some v1,some (.ref q),o3,o4]/\rs.length=i+1/\(q::rs).Nodup/\H2 q=some (.lst (rs.map V.ref))/\G' q=none/\(∀ r∈rs,H r=none/\G' r=none/\∃ a s f:Int,H2 r=some (.lst [.int a,.int s,.int f])/\0<=s/\s<2000000000)/\ZF G2 G' /\ ZF G' H2/\ZF H H2,fun σ2 H2 h=>⟨ms.length-(i+1),(by omega),rfl,(by omega),h⟩,?_⟩;have hcell:(ms.map PyData.int)[i]?=some (.int ms[i]):=by rw[Ij,Ib hi'];rfl
   have rxk:∀{G4:Hp}{o4:Option V},ZF G2 G4->Rx K B0 G4 [some (.ref a),some v1,some (.ref q),some (.int (i:Nat)),o4] [.un,.dat (.list (ms.map .int)),.un,.dat (.int (i:Nat))]:=λs=>zdi λj v h=>by
    rcases j with _ | _ | _ | _ | j
    .cases h;trivial
    .cases h;exact⟨v1,rfl,hd.same s⟩
    .cases h;trivial
    .cases h;exact⟨_,rfl,Zv _⟩
    .cases h
   have hixk:Er K B0 (tOp (zeF K) (Wj 1) (Wj 3)) [.un,.dat (.list (ms.map .int)),.un,.dat (.int (i:Nat))] (.int ms[i]):=XJ (Zc rfl) (Zc rfl) (by rw[Ie];exact YG hi') hcell;have m0:=OQ ms[i] (show(1999999973:Int)≠0 by decide);have m1:=Oo ms[i] (show(0:Int)<1999999973 by decide);have mm:(9770*(i:Int)*(i:Int)).natAbs<=9770*63*63:=by
    have:(9770*(i:Int)*(i:Int)).natAbs=9770*i*i:=by rw[natAbs_mul,natAbs_mul];rfl
    rw[this];exact Nat.mul_le_mul (Nat.mul_le_mul (Ik _) (by omega)) (by omega)
   refine JH (K:=K) (G:=G') (σ:=[some (.ref a),some v1,some (.ref q),some (.int (i:Nat)),o4]) ((UL (UL (Xa (Xa (Xa (UL hixk Zw (by show(0:Int)<1999999973;decide) λ_=>Zv _) (UL (UL Zw (Zc rfl) (mw (by decide) (by omega)) λ_=>Zv _) (Zc rfl) (mw (by omega) (by omega)) λ_=>Zv _) λ_=>Zv _) (UL Zw (Zc rfl) (mw (by decide) (by omega)) λ_=>Zv _) λ_=>Zv _) Zw λ_=>Zv _) Zw (mw (by omega) (by decide)) λ_=>Zv _) Zw (by show(0:Int)<1999999973;decide) λ_=>Zv _) G' _ (rxk s1)) s2 λv4 G4 H4 g4 h4=>?_;rw[h4.int];generalize hM:(ms[i] % 1999999973+9770*(i:Int)*(i:Int)+130*(i:Int)+1)*48271 % 1999999973=st at h4;have hst:0<=st/\st<1999999973:=by rw[← hM];exact⟨OQ _ (by decide),Oo _ (by decide)⟩
   have s4:ZF G2 G4:=s1.trans g4.gg;have hq4:H4 q=some (.lst (rs.map V.ref)):=g4.hh _ _ hq';have gq4:G4 q=none:=by
    rcases hG:G4 q with _ | o
    .rfl
    .rcases g4.fr q o hG with h | h
     .rw[gq']at h;cases h
     .rw[hq']at h;cases h
   have rx4:Rx K B0 G4 [some (.ref a),some v1,some (.ref q),some (.int (i:Nat)),some (.int st)] [.un,.dat (.list (ms.map .int)),.un,.dat (.int (i:Nat)),.dat (.int st)]:=zdi λj v h=>by
    rcases j with _ | _ | _ | _ | _ | j
    .cases h;trivial
    .cases h;exact⟨v1,rfl,hd.same s4⟩
    .cases h;trivial
    .cases h;exact⟨_,rfl,Zv _⟩
    .cases h;exact⟨_,rfl,Zv _⟩
    .cases h
   have hix4:Er K B0 (tOp (zeF K) (Wj 1) (Wj 3)) [.un,.dat (.list (ms.map .int)),.un,.dat (.int (i:Nat)),.dat (.int st)] (.int ms[i]):=XJ (Zc rfl) (Zc rfl) (by rw[Ie];exact YG hi') hcell;refine⟨_,rfl,.inl ⟨rfl,_,SqL.of hq4⟩,?_⟩;show zhM _ _ H4 _;show YC _ _ _ H4 _;refine(Zb hix4 (Zb (Zc (d:=.int st) rfl) (Zb (Xq (Zb (Xa (g:=λi j=>.bl (decide (j<=i))) hix4 (zal (i:=10) (j:=18) ⟨(by decide),(by decide),(by decide)⟩ rfl) λ_=>Yc _) Zk)) Zk))) G4 _ rx4 G4 H4 (ZF.refl _) g4.gh _ λvs G5 H5 g5 h5=>?_;obtain⟨y1,ys,rfl,hy1,h5⟩:=h5.cons;obtain⟨y2,ys,rfl,hy2,h5⟩:=h5.cons;obtain⟨y3,ys,rfl,hy3,h5⟩:=h5.cons;cases h5.nil;rw[hy1.int,hy2.int,hy3.int];refine⟨by show 3<=sizeLine;decide,λr hr5=>?_⟩;have hq5:=g5.hh _ _ hq4;have gq5:G5 q=none:=by
    rcases hG:G5 q with _ | o
    .rfl
    .rcases g5.fr q o hG with h | h
     .rw[gq4]at h;cases h
     .rw[hq4]at h;cases h
   have hqr:q≠r:=λz=>by subst z;rw[hr5]at hq5;cases hq5
   have hrr:∀ r' ∈ rs,r' ≠ r:=λr' mr z=>by subst z;obtain⟨_,_,_,_,_,e,_⟩:=hrs r' mr;rw[g5.hh _ _ (g4.hh _ _ e)]at hr5;cases hr5
   have ss:ZF H H5:=(s3.trans g4.hh).trans g5.hh;refine⟨q,_,_,rfl,rfl,by rw[Zr hqr];exact hq5,by rw[Ie];omega,rs++[r],G5,_,_,rfl,by rw[Ig,hrl];rfl,?_,?_,gq5,λr' mr=>?_,s4.trans g5.gg,λb o e=>?_,λb o e=>?_⟩
   .rw[← NA];refine nodup_append.mpr ⟨nd,(by simp),λx hx y hy z=>?_⟩;rw[IH.mp hy]at z;rcases IE.mp hx with e | e
    .exact hqr (e.symm.trans z)
    .exact hrr x e z
   .rw[Zo,IX];rfl
   .rcases Nq.mp mr with mr | mr
    .obtain⟨e1,e2,a',s',f',e3,b⟩:=hrs r' mr;have nq:r' ≠ q:=λz=>by subst z;exact absurd nd (by simp[mr])
     refine⟨e1,?_,a',s',f',?_,b⟩
     .rcases hG:G5 r' with _ | o
      .rfl
      .rcases g5.fr r' o hG with h | h
       .rcases g4.fr r' o h with h | h
        .rw[e2]at h;cases h
        .rw[e3]at h;cases h
       .rw[g4.hh _ _ e3]at h;cases h
     .rw[Zr nq,Zr (hrr r' mr)];exact g5.hh _ _ (g4.hh _ _ e3)
    .rw[IH.mp mr];refine⟨ss.free hr5,g5.gh.free hr5,_,_,_,by rw[Zr (Ne.symm hqr)];exact Zo,hst.1,(by omega)⟩
   .have nq:b≠q:=λz=>by subst z;rw[gq5]at e;cases e
    have nr:b≠r:=λz=>by subst z;rw[g5.gh.free hr5]at e;cases e
    rw[Zr nq,Zr nr];exact g5.gh _ _ e
   .have nq:b≠q:=λz=>by subst z;rw[hqH]at e;cases e
    have nr:b≠r:=λz=>by subst z;rw[ss.free hr5]at e;cases e
    rw[Zr nq,Zr nr];exact ss _ _ e
end
noncomputable def lst(a:Int)(b:Nat):Int×Int:=(a / (Nat.gcd a.natAbs b:Nat),(b:Int) / (Nat.gcd a.natAbs b:Nat))
def zaw(p:Int×Int):Prop:=Sz p/\1<=p.2/\Nat.gcd p.1.natAbs p.2.natAbs=1
def zmd{a:Int}{b:Nat}(hb:1<=b)(ha:a.natAbs<10^40)(hb2:b<10^40):zaw (lst a b):=by
 have hg:0<Nat.gcd a.natAbs b:=Nat.gcd_pos_of_pos_right _ hb;have hd:Nat.gcd a.natAbs b ∣ b:=Nat.gcd_dvd_right _ _;have hda:Nat.gcd a.natAbs b ∣ a.natAbs:=Nat.gcd_dvd_left _ _;unfold lst zaw Sz;generalize eg:Nat.gcd a.natAbs b=g at hg hd hda;obtain⟨k,rfl⟩:=hd;obtain⟨j,hj⟩:(g:Int) ∣ a:=Int.ofNat_dvd_left.mpr hda;subst hj;have hk:1<=k:=Nat.one_le_iff_ne_zero.mpr λz=>by subst z;simp at hb
 have e1:(g:Int)*j / (g:Nat)=j:=Int.mul_ediv_cancel_left _ (by omega);have e2:((g*k:Nat):Int) / (g:Nat)=k:=by rw[Int.natCast_mul];exact Int.mul_ediv_cancel_left _ (by omega)
 dsimp only;rw[e1,e2];rw[natAbs_mul,Int.natAbs_natCast]at ha;have h1:j.natAbs<=g*j.natAbs:=Nat.le_mul_of_pos_left _ hg;have h2:k<=g*k:=Nat.le_mul_of_pos_left _ hg;refine⟨⟨(by omega),by rw[Int.natAbs_natCast];omega⟩,(by omega),?_⟩;rw[natAbs_mul,Int.natAbs_natCast,Nat.gcd_mul_left]at eg;rw[Int.natAbs_natCast];exact Nat.eq_of_mul_eq_mul_left hg (by rw[Nat.mul_one];exact eg)
def zlI{a:Int}{b:Nat}(ha:a<1000000000000000000):(lst a b).1<1000000000000000000:=by
 unfold lst;dsimp only;generalize Nat.gcd a.natAbs b=g;have h0:(0:Int)<=(g:Nat):=by omega
 by_cases hp:0<=a
 .exact Int.lt_of_le_of_lt (Int.ediv_le_self _ hp) ha
 .rcases Nat.eq_zero_or_pos g with e | e
  .rw[e];show a / 0<_;rw[Int.ediv_zero];decide
  .have:=Int.ediv_le_ediv (c:=(g:Int)) (by omega) (show a<=0 by omega);rw[Int.zero_ediv]at this;omega
def zn1{a b:Int×Int}(ha:zaw a)(hb:zaw b)(h:a.1*b.2=b.1*a.2):a=b:=by
 obtain⟨_,a1,ag⟩:=ha;obtain⟨_,b1,bg⟩:=hb;have hN:a.1.natAbs*b.2.natAbs=b.1.natAbs*a.2.natAbs:=by rw[← natAbs_mul,← natAbs_mul,h]
 have d1:a.2.natAbs ∣ b.2.natAbs:=by
  have:a.2.natAbs ∣ a.1.natAbs*b.2.natAbs:=⟨b.1.natAbs,by rw[hN,Nat.mul_comm]⟩
  exact(Nat.Coprime.symm ag).dvd_of_dvd_mul_left this
 have d2:b.2.natAbs ∣ a.2.natAbs:=by
  have:b.2.natAbs ∣ b.1.natAbs*a.2.natAbs:=⟨a.1.natAbs,by rw[← hN,Nat.mul_comm]⟩
  exact(Nat.Coprime.symm bg).dvd_of_dvd_mul_left this
 have e2:=Nat.dvd_antisymm d1 d2;have e2' : a.2=b.2:=by omega
 rw[e2']at h;have:a.1=b.1:=Int.eq_of_mul_eq_mul_right (by omega) h;exact Prod.ext this e2'
def RLs:LA->PD->Prop:=λas d=>∃(a:Int)(b:Nat),as=[.int a,.int (b:Nat)]/\1<=b/\a.natAbs<10^40/\b<10^40/\d=dF (lst a b)
def znu(n:Nat)(ds:LA):Prop:=ds=[]/\n<=10^5
inductive RVs(n:Nat)(ds:LA)(x:PD)(n' : Nat):Prop
 |mk (vs:List (Int×Int)) (_:x = .list (vs.map dF)) (_:3<=vs.length) (_:vs.length<=7) (_:(∀ p∈vs,zaw p)) (_:(∀ p∈vs,p.1<1000000000000000000)) (_:n' <= n+100):RVs n ds x n'
section
def zmn{B:Hp}{ρ:LD}{t:TA}{i:Int}(h:Ea K B t ρ [.int i]):Er K B (tCB (λxs H Q=>∃ i,xs=[.int i]/\Q (.int (if i<0 then -i else i)) H) t) ρ (.int i.natAbs):=zkj h λG1 H xs Q s hx k=>by obtain⟨y,ys,rfl,hy,hn⟩:=hx.cons;cases hn.nil;rw[hy.int];refine⟨i,rfl,k _ G1 H (YH.refl s) ?_⟩;rw[show(if i<0 then -i else i)=(i.natAbs:Int)by split <;> omega];exact Zv _
def zfQ(T:Top K mg):T.Qg.O P w base 1 (spP K RLs):=by
 refine T.Qg.F.okP WM (by rintro _ _ ⟨a,b,rfl,_⟩;rfl) λcdv A outer s H E hr ds d hR=>?_;obtain⟨a,b,rfl,hb,ha,hb2,rfl⟩:=hR;refine⟨_,(Zf (ZC (i:=2) WM.nd rfl (Or.inl rfl) (Z2 zhP (by rfl) T.zoX zo5 (Za (pv 0) Ze Zd)))
   (Zf (ZC (i:=3) WM.nd rfl (Or.inl rfl) (pv 1))
   (Zf (zef Nh (ZJ zds (pv 3) Zi (ZM _)) (Zm (zmQ (i:=2) (j:=3) rfl WM.nd rfl rfl (by decide) rfl rfl (Za (pv 3) (Za (ZL Vu (pv 2) (pv 3)) Ze ZS) Zd) (by rfl))))
   (Zm (Zz (Xb (Za (ZL U4 (pv 0) (pv 2)) (Za (ZL U4 (pv 1) (pv 2)) Ze ZS) ZS))))))) ,?_⟩
 refine Zt (ZP (ZR (zmn (Zb (Zc rfl) Zk)) ?_));refine Zt (ZP (ZR (Zc rfl) ?_));refine Zt (zg8 (λm ρ=>∃ x:Nat,0<Nat.gcd x m/\Nat.gcd x m=Nat.gcd a.natAbs b/\ρ=[.dat (.int a),.dat (.int (b:Nat)),.dat (.int (x:Nat)),.dat (.int (m:Nat))]) b ⟨a.natAbs,Nat.gcd_pos_of_pos_right _ hb,rfl,rfl⟩ ?_);rintro m _ ⟨x,hx0,hx,rfl⟩;refine⟨decide ((0:Int)<(m:Nat)),Z0 (Xa (Zc rfl) Zw λ_=>Yc _),λh=>?_,λh=>?_⟩
 .have hm:=IB h;have hm' : 0<m:=by omega
  refine zly (Zb (Zc rfl) (Zb (UL (Zc rfl) (Zc rfl) hm λ_=>Zv _) Zk)) ⟨x % m,Nat.mod_lt _ hm',m,?_,?_,?_⟩
  .rw[gcd_comm,← Nat.gcd_rec,gcd_comm];exact hx0
  .rw[gcd_comm,← Nat.gcd_rec,gcd_comm];exact hx
  .rfl
 .have hm:=Ni h;have hm' : m=0:=by omega
  subst hm';rw[Nat.gcd_zero_right]at hx0 hx;have hb1:b≠0:=by omega
  have hg:x<10^40:=by have:=Nat.le_of_dvd hb (Nat.gcd_dvd_right a.natAbs b);omega
  refine Ym (ZR (Xw (Wv (Zb (UL (Zc rfl) (Zc rfl) ⟨(by omega),w0 (by omega)⟩ λ_=>Zv _) (Zb (UL (Zc rfl) (Zc rfl) ⟨(by omega),w0 (by omega)⟩ λ_=>Zv _) Zk)) (by show 2<=sizeLine;decide)) ?_) rfl);unfold dF lst;rw[hx]
end
section
def zo0(a b c d e:Int)(i:Nat)(h:i<5):([.int a,.int b,.int c,.int d,.int e]:LA)[i]?=some (.int ([a,b,c,d,e].getD i 0)):=by
 rcases i with _ | _ | _ | _ | _ | i
 all_goals first | rfl | omega
def zpg(a b:Int)(i:Nat)(h:(i:Int)<2):([.int a,.int b]:LA)[i]?=some (.int ([a,b].getD i 0)):=by
 rcases i with _ | _ | i
 all_goals first | rfl | omega
def zfo(T:Top K mg):T.WP.O P w base 2 (spT (dkT K) znu RVs):=by
 have G__law_draw:=@Jf T;have G__law_least:=@zfQ T;refine T.WP.F.okT YZ (by rintro _ _ ⟨rfl,_⟩;rfl) λcdv A outer s H E hr p fp n ds hP=>?_;obtain⟨rfl,hn⟩:=hP;have zl:(2000:Nat)<sizeLine:=by decide
 have p40:(10:Nat)^19<10^40:=OF (by decide) (by decide);refine⟨_,(Zf (ZC (i:=1) YZ.nd rfl (Or.inl rfl) (Z3 Ze))
   (Zf (JG Nh rfl (XC (by rfl) T.Qv (Za (ZL YJ Zi (peN T.Zx G__law_draw hr (Za (pv 0) (Za Zi Ze Zg) Zd))) Ze ZS)) (Yh (i:=2) YZ.nd rfl (Or.inl rfl)) (Zf (ZC (i:=3) YZ.nd rfl (Or.inl rfl) (peN T.Zx G__law_draw hr (Za (pv 0) (Za Zi Ze Zg) Zd)))
   (Zf (ZC (i:=4) YZ.nd rfl (Or.inl rfl) (ZL Us (peN T.Zx G__law_draw hr (Za (pv 0) (Za Zi Ze Zg) Zd)) Zi))
   (Zf (ZC (i:=5) YZ.nd rfl (Or.inl rfl) (ZG (Zu (K:=K) rfl) (Z3 (Za Zi (Za Zi (Za Zi (Za Zi (Za (ZL YJ Zi (peN T.Zx G__law_draw hr (Za (pv 0) (Za (ZL Uy Zi Zi) Ze ZS) Zd))) Ze ZS) Zg) Zg) Zg) Zg)) (pv 3) (λ_ _=>rfl)))
   (Zf (Yv (ZJ Y6 (pv 3) Zi (ZM _)) (Zm (ZC (i:=4) YZ.nd rfl (Or.inl rfl) (ZL Wh (ZL YJ (ZL Wh (peN T.Zx G__law_draw hr (Za (pv 0) (Za (ZL Uy Zi Zi) Ze ZS) Zd)) (ZL Uy Zi Zi)) (peN T.Zx G__law_draw hr (Za (pv 0) (Za (ZL Uy Zi Zi) Ze ZS) Zd))) (ZG (Zu (K:=K) rfl) (Z3 (Za Zi (Za (za2 QX Zi) Ze JL) Zg)) (peN T.Zx G__law_draw hr (Za (pv 0) (Za Zi Ze Zg) Zd)) (λ_ _=>rfl))))) ZQ)
   (Zm (JQ (zap Nv Nx Ny WX (pv 1) (Za (peN T.Qg G__law_least hr (Za (pv 4) (Za (pv 5) Ze Zd) Zd)) Ze Yo)))))))))
   (Zm (Zz (pv 1))))) ,?_⟩
 refine Zt (ZP (zce Zk (Nr _) ?_));refine Zt (zjU (zfj (Yu (Wf (ZR Zw ⟨_,rfl,Yi rfl Zw (by omega) (by decide) (by decide) λr hr=>⟨_,.int ((3+r:Nat):Int),rfl,λG σ va vb ha hb=>zd1 (QS (Xz ha) (Xz hb) (Zv _)) (by congr 1),_,rfl,Xf Zk ⟨3+r,rfl,(by omega),?_⟩⟩⟩)))));refine⟨λi ρ=>∃(c:Nat)(vs:List (Int×Int))(v2 v3 v4 v5:PV),c<=n+1+6*i/\vs.length=i/\(∀ p∈vs,zaw p)/\(∀ p∈vs,p.1<1000000000000000000)/\ρ=[(dkT K).pv c p fp,.own (vs.map dF),v2,v3,v4,v5],⟨n+1,[],_,_,_,_,(by omega),rfl,λ_ h=>(by cases h),λ_ h=>(by cases h),rfl⟩,?_,?_⟩
 .rintro i hi _ ⟨c,vs,v2,v3,v4,v5,hc,hvl,hvs,hlo,rfl⟩;rw[Ie,IG]at hi;have ei:((List.range (3+r)).map λ(i:Nat)=>PyData.int (i:Nat))[i]'(by rw[Ie,IG];exact hi)=PyData.int (i:Nat):=by simp
  rw[ei];refine Um (Zt (ZP (Yi rfl Zw (by omega) (by decide) (by decide) λst hst=>?_)));refine Zt (ZP (Wf (Yi rfl Zw (by omega) (by decide) (by decide) λab hab=>⟨_,rfl,ZR Zw ⟨_,.int ((ab:Int)-3),rfl,λG σ va vb ha hb=>QS (Xz ha) (Xz hb) (Zv _),?_⟩⟩)));show Sv K B0 _ [(dkT K).pv (c+2) p fp,.own (vs.map dF),.dat (.int (i:Nat)),.dat (.int (st:Nat)),.dat (.int ((ab:Int)-3)),v5] _;refine Zt (ZP (Wf (Q8 (Yu (ZR Zw ⟨_,rfl,Yu (ZR Zw ⟨_,rfl,Yu (ZR Zw ⟨_,rfl,Yu (ZR Zw ⟨_,rfl,Yu (Wf (ZR Zw ⟨_,rfl,Yi rfl (zal (i:=10) (j:=9) (r:=1000000000) ⟨(by decide),(by decide),(by decide)⟩ rfl) (by omega) (by decide) (by decide) λbl hbl=>⟨_,.int (1+(bl:Int)),rfl,λG σ va vb ha hb=>QS (Xz ha) (Xz hb) (Zv _),_,rfl,Xf Zk ⟨by show 5<=sizeLine;decide,_,rfl,ZR (Zc rfl) ⟨_,.int ([1,1,2,3,1+(bl:Int)].getD st 0),rfl,λG σ va vb ha hb=>YS (Xz ha) (Xz hb) (YG (by show st<5;omega)) (zo0 _ _ _ _ _ st (by omega)),?_⟩⟩⟩⟩))⟩)⟩)⟩)⟩)))));have hb:∃ b:Nat,[1,1,2,3,1+(bl:Int)].getD st 0=(b:Nat)/\1<=b/\b<=10^9+1:=by
   rcases st with _ | _ | _ | _ | _ | st
   .exact⟨1,rfl,(by decide),(by decide)⟩
   .exact⟨1,rfl,(by decide),(by decide)⟩
   .exact⟨2,rfl,(by decide),(by decide)⟩
   .exact⟨3,rfl,(by decide),(by decide)⟩
   .exact⟨1+bl,rfl,(by omega),(by omega)⟩
   .omega
  obtain⟨b,eb,hb1,hb2⟩:=hb;rw[eb];show Sv K B0 _ [(dkT K).pv (c+3) p fp,.own (vs.map dF),.dat (.int (i:Nat)),.dat (.int (st:Nat)),.dat (.int ((ab:Int)-3)),.dat (.int (b:Nat))] _;refine Q6 (fun ρ' => ∃(a:Int)(c' : Nat),c' <= c+6/\a.natAbs<10^40/\a<1000000000000000000/\ρ'=[(dkT K).pv c' p fp,.own (vs.map dF),.dat (.int (i:Nat)),.dat (.int (st:Nat)),.dat (.int a),.dat (.int (b:Nat))]) (UV (Z0 (zbo (Zc rfl) Zw)) (λ_=>?_) λ_=>Z4 ⟨_,c+3,(by omega),lt_trans (show((ab:Int)-3).natAbs<10^19 by omega) p40,(by omega),rfl⟩) ?_
  .refine ZP (Wf (Wf (Wf (Yi rfl (zal (i:=10) (j:=9) (r:=1000000000) ⟨(by decide),(by decide),(by decide)⟩ rfl) (by omega) (by decide) (by decide) λx hx=>⟨_,rfl,ZR (zal (i:=10) (j:=9) (r:=1000000000) ⟨(by decide),(by decide),(by decide)⟩ rfl) ⟨_,.int ((x:Int)*1000000000),rfl,λG σ va vb ha hb=>zfU (Xz ha) (Xz hb) (mw (by omega) (by decide)) (Zv _),_,rfl,Yi rfl (zal (i:=10) (j:=9) (r:=1000000000) ⟨(by decide),(by decide),(by decide)⟩ rfl) (by omega) (by decide) (by decide) λy hy=>⟨_,.int ((x:Int)*1000000000+(y:Int)),rfl,λG σ va vb ha hb=>QS (Xz ha) (Xz hb) (Zv _),_,rfl,Wf (ZR (Yp (Zb Zw (Zb (za7 Zw) Zk)) (by show 2<=sizeLine;decide)) ⟨_,rfl,Yi rfl Zw (by omega) (by decide) (by decide) λz hz=>⟨_,.int ([1,-1].getD z 0),rfl,λG σ va vb ha hb=>YS (Xz ha) (Xz hb) (YG (by show z<2;omega)) (zpg _ _ z hz),_,_,rfl,λG σ va vb ha hb=>zfU (Xz ha) (Xz hb) (mw (by omega) ?_) (Zv _),⟨_,c+6,(by omega),?_,?_,rfl⟩⟩⟩)⟩⟩⟩))))
   .rcases z with _ | _ | z
    .decide
    .decide
    .omega
   .have:([1,-1].getD z 0:Int)=1\/([1,-1].getD z 0:Int) = -1:=by
     rcases z with _ | _ | z
     .exact .inl rfl
     .exact .inr rfl
     .omega
    have hq:((x:Int)*1000000000+(y:Int)).natAbs<10^19:=by omega
    refine lt_trans ?_ p40;rw[natAbs_mul];rcases this with e | e <;> rw[e]
    .rw[show(1:Int).natAbs=1 from rfl,Nat.mul_one];exact hq
    .rw[show(-1:Int).natAbs=1 from rfl,Nat.mul_one];exact hq
   .have:([1,-1].getD z 0:Int)=1\/([1,-1].getD z 0:Int) = -1:=by
     rcases z with _ | _ | z
     .exact .inl rfl
     .exact .inr rfl
     .omega
    rcases this with e | e <;> rw[e] <;> omega
  .rintro _ ⟨a,c',hc',ha,ha2,rfl⟩;refine zeV (i:=1) (ZR (Xe (Zb (Zc rfl) (Zb (Zc rfl) Zk)) ⟨a,b,rfl,hb1,ha,lt_trans (by omega) p40,rfl⟩) ⟨_,_,vs.map dF,rfl,rfl,rfl,by rw[Ie];omega,c',vs++[lst a b],_,_,_,_,(by omega),by rw[Ig,hvl];rfl,λq hq=>?_,λq hq=>?_,by rw[IX];rfl⟩) rfl rfl;rcases Nq.mp hq with h | h
   .exact hvs q h
   .rw[IH.mp h];exact zmd hb1 ha (lt_trans (by omega) p40)
   rcases Nq.mp hq with h | h
   .exact hlo q h
   .rw[IH.mp h];exact zlI ha2
 .rintro _ ⟨c,vs,v2,v3,v4,v5,hc,hvl,hvs,hlo,rfl⟩;rw[Ie,IG]at hc hvl;refine Qj 1 rfl (Ym (ZR (Zc rfl) ⟨_,c,rfl,⟨vs,rfl,(by omega),(by omega),hvs,hlo,(by omega)⟩,rfl⟩))
end
abbrev nm6:LB:=[S "a",S "s",S "size",S "si",S "longname",S "sizes"]
abbrev dBk(bk:LB):PD:=.tuple (bk.map .str)
abbrev dTh(f:List (Int×Int)):PD:=.tuple (f.map dF)
def zgT(bk:LB):Prop:=1<=bk.length/\bk.length<=4/\∀ z∈bk,z∈nm6
inductive RBk(n:Nat)(ds:LA)(x:PD)(n' : Nat):Prop
 |mk (bk:LB) (_:x=dBk bk) (_:zgT bk) (_:n' <= n+2):RBk n ds x n'
inductive znI(n:Nat)(ds:LA):Prop
 |mk (bk:LB) (vs:List (Int×Int)) (m:Nat) (_:ds=[dBk bk,.list (vs.map dF),.int (m:Nat)]) (_:zgT bk) (_:1<=vs.length) (_:vs.length<=100) (_:m<=100) (_:n<=10^5):znI n ds
inductive RRw(n:Nat)(ds:LA)(x:PD)(n' : Nat):Prop
 |mk (bk:LB) (vs:List (Int×Int)) (m:Nat) (ac:List (List (Int×Int))) (_:ds=[dBk bk,.list (vs.map dF),.int (m:Nat)]) (_:x = .tuple (ac.map dTh)) (_:ac.length=m) (_:(∀ f∈ac,f.length=bk.length/\∀ p∈f,p∈vs)) (_:n' <= n+4*m):RRw n ds x n'
section
def zne{B:Hp}{ρ:LD}{d:PD}:Er K B (zlr K d) ρ d:=λ_ _ _=>zmT
def zkF(T:Top K mg):T.J2.O P w base 2 (spT (dkT K) znu RBk):=by
 have G__law_draw:=@Jf T;refine T.J2.F.okT Qo (by rintro _ _ ⟨rfl,_⟩;rfl) λcdv A outer s H E hr p fp n ds hP=>?_;obtain⟨rfl,hn⟩:=hP;have zl:(2000:Nat)<sizeLine:=by decide
 refine⟨_,(Zf (ZC (i:=1) Qo.nd rfl (Or.inr rfl) (zlU (d:=(.list [(.str (Str.ofString "a")),(.str (Str.ofString "s")),(.str (Str.ofString "size")),(.str (Str.ofString "si")),(.str (Str.ofString "longname")),(.str (Str.ofString "sizes"))])) (by kernel_rfl)))
   (Zf (ZC (i:=2) Qo.nd rfl (Or.inr rfl) (peN T.Zx G__law_draw hr (Za (pv 0) (Za Zi Ze Zg) Zd)))
   (Zm (Zz (Yq (X4 (K:=K) rfl) (by rfl) T.Ux zi0 (Za (zbv (x:= "k") (cap:=["names", "at"]) (js:=[1,2]) ⟨rfl,(by decide +kernel),(by decide +kernel),rfl,(by show ∀ p∈(_:List (Str×NameKind)),p.2=NameKind.free->List.lookup p.1 (Zh JS).names=some NameKind.cell;decide +kernel),(by decide +kernel),(by decide +kernel),(by decide +kernel)⟩ rfl rfl (λ_ _ h=>h) (XC (by rfl) T.Qv (Za (ZL YJ Zi (peN T.Zx G__law_draw hr (Za (pv 0) (Za Zi Ze Zg) Zd))) Ze ZS)) (λ_ _ _ _=>⟨X8,(ZG (Zu (K:=K) rfl) (ZL Wc (pv 1) (pv 1)) (ZL YJ (pv 2) (pv 0)) (λ_ _=>rfl))⟩)) Ze Wn)))))) ,?_⟩
 refine Zt (ZP (ZR zne ?_));refine Zt (ZP (Yi rfl Zw (by omega) (by decide) (by decide) λa ha=>?_));show Sv K B0 _ [(dkT K).pv (n+1) p fp,.dat (.list (nm6.map .str)),.dat (.int (a:Nat))] _;refine Ym (ze3 (zit (zmY (zfj (Yu (Wf (ZR Zw ⟨_,rfl,Yi rfl Zw (by omega) (by decide) (by decide) λr hr=>⟨_,.int ((1+r:Nat):Int),rfl,λG σ va vb ha hb=>zd1 (QS (Xz ha) (Xz hb) (Zv _)) (by congr 1),_,rfl,Xf Zk ⟨1+r,rfl,(by omega),by rw[Ie,IG];omega,λd=>match d with | .int k=>.str ((nm6++nm6).getD (a+k.toNat) (S "a")) | _=>.none,λd hd=>?_,?_⟩⟩⟩)))))))
 .obtain⟨k,hk,rfl⟩:=N0.mp hd;have hk:=OP.mp hk;have hak:a+k<(nm6++nm6).length:=by show a+k<12;omega
  refine XJ (n:=a+k) (Wi (Zc rfl) (Zc rfl) (by show 12<=sizeLine;decide)) (Xw (Xa (Zc rfl) (Zc rfl) λ_=>Zv _) (show _=PyData.int ((a+k:Nat):Int)by rfl)) (by rw[← IX,Ie];exact YG hak) ?_;rw[← IX,Ij,Ib hak];show _=some (PyData.str ((nm6++nm6).getD (a+k) (S "a")));rw[Ir,Ib hak];rfl
 .refine⟨_,rfl,_,_,rfl,λG σ va ha=>Qp (Zq (Xz ha) ZW),_,n+1+1,rfl,⟨(List.range (1+r)).map λk=>(nm6++nm6).getD (a+k) (S "a"),?_,⟨by rw[Ie,IG];omega,by rw[Ie,IG];omega,λz hz=>?_⟩,(by omega)⟩,rfl⟩
  .show PyData.tuple _=PyData.tuple _;rw[N8,N8];rfl
  .obtain⟨k,hk,rfl⟩:=N0.mp hz;have hk:=OP.mp hk;have hak:a+k<(nm6++nm6).length:=by show a+k<12;omega
   rw[Ir,Ib hak];rcases Nq.mp (IQ hak)with h | h <;> exact h
def zj6(T:Top K mg):T.QJ.O P w base 2 (spT (dkT K) znI RRw):=by
 have G__law_draw:=@Jf T;refine T.QJ.F.okT Va (by rintro _ _ ⟨_,_,_,rfl,_⟩;rfl) λcdv A outer s H E hr p fp n ds hP=>?_;obtain⟨bk,vs,m,rfl,hbk,hv1,hv2,hm,hn⟩:=hP;have zl:(2000:Nat)<sizeLine:=by decide
 refine⟨_,(Zf (ZC (i:=4) Va.nd rfl (Or.inl rfl) (Z3 Ze))
   (Zf (JG Nh rfl (XC (by rfl) T.Qv (Za (pv 3) Ze Zd)) (Yh (i:=5) Va.nd rfl (Or.inl rfl)) (Zm (JQ (zap Nv Nx Ny WX (pv 4) (Za (Yq (X4 (K:=K) rfl) (by rfl) T.Ux zi0 (Za (zbv (x:= "field") (cap:=["values", "decks"]) (js:=[2,0]) ⟨rfl,(by decide +kernel),(by decide +kernel),rfl,(by show ∀ p∈(_:List (Str×NameKind)),p.2=NameKind.free->List.lookup p.1 (Zh Qx).names=some NameKind.cell;decide +kernel),(by decide +kernel),(by decide +kernel),(by decide +kernel)⟩ rfl rfl (λ_ _ h=>h) (zav (pv 1)) (λ_ _ _ _=>⟨X8,(ZG (Zu (K:=K) rfl) (pv 1) (peN T.Zx G__law_draw hr (Za (pv 2) (Za (Z2 (Yb (K:=K) rfl) (by rfl) T.zaA II (Za (pv 1) Ze Zd)) Ze Yo) Zd)) (λ_ _=>rfl))⟩)) Ze Wn)) Ze Yo)))))
   (Zm (Zz (Yq (X4 (K:=K) rfl) (by rfl) T.Ux zi0 (Za (pv 4) Ze Zd)))))) ,?_⟩
 refine Zt (ZP (zce Zk (Nr _) ?_));refine Zt (zcC (List.range m) (λ(i:Nat)=>PyData.int (i:Nat)) (VN (Zb (Zc rfl) Zk) (by omega)) (λi ρ=>∃(c:Nat)(ac:List (List (Int×Int)))(v5:PV),c<=n+4*i/\ac.length=i/\(∀ f∈ac,f.length=bk.length/\∀ p∈f,p∈vs)/\ρ=[(dkT K).pv c p fp,.dat (dBk bk),.dat (.list (vs.map dF)),.dat (.int (m:Nat)),.own (ac.map dTh),v5]) ⟨n,[],_,(by omega),rfl,λ_ h=>(by cases h),rfl⟩ ?_ ?_)
 .rintro i hi _ ⟨c,ac,v5,hc,hrl,hrs,rfl⟩;rw[IG]at hi;generalize (List.range m)[i]=i';refine Um (zeV (i:=4) (ze3 (zit (zk8 (D:=dkT K) (p:=p) (fp:=fp) (i:=0) (kp:=1) rfl (zmh (zfw (Zc rfl)) ⟨c,λk out c' => c'=c+k/\∃ f:List (Int×Int),out=f.map dF/\∀ p∈f,p∈vs,rfl,by rw[Ie];have:=hbk.2.1;omega,⟨rfl,[],rfl,λ_ h=>(by cases h)⟩,?_,?_⟩)))) rfl rfl)
  .rintro k hk out _ ⟨rfl,f,rfl,hf⟩ hol;rw[Ie]at hk;have:=hbk.2.1;refine Wf (ZR (Zc rfl) ⟨_,rfl,Yi (i:=2) rfl (Xw (zdl (Zb (Zc rfl) Zk)) (show _=PyData.int ((vs.length:Nat):Int)by rw[Ie])) (by omega) (by omega) (by omega) λr hr=>⟨_,dF (vs.getD r (0,1)),rfl,λG σ va vb ha hb=>YS (Xz ha) (Xz hb) (by rw[Ie];exact YG (by omega)) ?_,_,c+k+1,rfl,rfl,(by omega),f++[vs.getD r (0,1)],by rw[IX];rfl,?_⟩⟩)
   .rw[Ij,Ir,Ib (show r<vs.length by omega)];rfl
   .intro q hq;rcases Nq.mp hq with h | h
    .exact hf q h
    .rw[IH.mp h,Ir,Ib (show r<vs.length by omega)];exact IQ _
  .rintro out _ ⟨rfl,f,rfl,hf⟩ hol;rw[Ie,Ie]at hol;have:=hbk.2.1;refine⟨_,rfl,_,dTh f,rfl,λG σ va ha=>Qp (Zq (Xz ha) ZW),_,_,ac.map dTh,rfl,rfl,rfl,by rw[Ie];omega,c+(bk.map PyData.str).length,ac++[f],_,by rw[Ie];omega,by rw[Ig,hrl];rfl,λg hg=>?_,by rw[IX];rfl⟩;rcases Nq.mp hg with h | h
   .exact hrs g h
   .rw[IH.mp h];exact⟨hol,hf⟩
 .rintro _ ⟨c,ac,v5,hc,hrl,hrs,rfl⟩;rw[IG]at hc hrl;exact Qj 4 rfl (Ym (ZR (zai (Zb (Zc rfl) Zk)) ⟨_,c,rfl,⟨bk,vs,m,ac,rfl,rfl,hrl,hrs,hc⟩,rfl⟩))
end
end K61
namespace Look
open PySem Ord Rdo
variable {ae:Str->Prop}{num:Int->Int->Prop}{f:Fs}{dn:Bool}
inductive Ce where
 |same (z:Str)
 |mk (ei:Bool) (is:Bool) (z:Str) (p:Int×Int)
 |no (c:Ce)
 |an (c e:Ce)
 |or (c e:Ce)
inductive Oe where
 |like
 |lf (dn:Bool) (z:Str)
 |turn (a:Oe)
 |thn (a b:Oe)
 |pick (c:Ce) (a b:Oe)
noncomputable def wB(ei:Bool):Str:=if ei then S "either" else S "both"
noncomputable def wI(is:Bool):Str:=if is then S "is" else S "under"
noncomputable def wL(dn:Bool):Str:=if dn then S "down" else S "up"
noncomputable def Ce.w:Ce->List Wd
 |.same z=>[.t (S "same"),.t z]
 |.mk ei is z p=>[.t (wB ei),.t (wI is),.t z,.n p.1 p.2]
 |.no c=>.t (S "not")::c.w
 |.an c e=>.t (S "and")::(c.w++e.w)
 |.or c e=>.t (S "or")::(c.w++e.w)
noncomputable def Oe.w:Oe->List Wd
 |.like=>[.t (S "like")]
 |.lf dn z=>[.t (wL dn),.t z]
 |.turn a=>.t (S "turn")::a.w
 |.thn a b=>.t (S "then")::(a.w++b.w)
 |.pick c a b=>.t (S "pick")::(c.w++(a.w++b.w))
def Ce.ok(ae:Str->Prop)(num:Int->Int->Prop):Ce->Prop
 |.same z=>ae z
 |.mk _ _ z p=>ae z/\num p.1 p.2
 |.no c=>c.ok ae num
 |.an c e=>c.ok ae num/\e.ok ae num
 |.or c e=>c.ok ae num/\e.ok ae num
def Oe.ok(ae:Str->Prop)(num:Int->Int->Prop):Oe->Prop
 |.like=>True
 |.lf _ z=>ae z
 |.turn a=>a.ok ae num
 |.thn a b=>a.ok ae num/\b.ok ae num
 |.pick c a b=>c.ok ae num/\a.ok ae num/\b.ok ae num
theorem Ce.ok.imp{fld':Str->Prop}{num':Int->Int->Prop}(hf:∀ z,ae z->fld' z)(hn:∀ a b,num a b->num' a b):∀{c:Ce},c.ok ae num->c.ok fld' num'
 |.same _,h=>hf _ h
 |.mk _ _ _ _,h=>⟨hf _ h.1,hn _ _ h.2⟩
 |.no c,h=>Ce.ok.imp (c:=c) hf hn h
 |.an c e,h=>⟨Ce.ok.imp (c:=c) hf hn h.1,Ce.ok.imp (c:=e) hf hn h.2⟩
 |.or c e,h=>⟨Ce.ok.imp (c:=c) hf hn h.1,Ce.ok.imp (c:=e) hf hn h.2⟩
theorem Oe.ok.imp{fld':Str->Prop}{num':Int->Int->Prop}(hf:∀ z,ae z->fld' z)(hn:∀ a b,num a b->num' a b):∀{o:Oe},o.ok ae num->o.ok fld' num'
 |.like,h=>trivial
 |.lf _ _,h=>hf _ h
 |.turn a,h=>Oe.ok.imp (o:=a) hf hn h
 |.thn a b,h=>⟨Oe.ok.imp (o:=a) hf hn h.1,Oe.ok.imp (o:=b) hf hn h.2⟩
 |.pick c a b,h=>⟨Ce.ok.imp (c:=c) hf hn h.1,Oe.ok.imp (o:=a) hf hn h.2.1,Oe.ok.imp (o:=b) hf hn h.2.2⟩
theorem Ce.zbb :∀{c:Ce},c.ok ae num->JK ae num c.w
 |.same _,h=>zlT h
 |.mk ei is z p,h=>by
  have hm:zdL ae num [.t (wI is),.t z,.n p.1 p.2]:=zn8 (by cases is <;> simp[wI]) h.1 h.2;cases ei
  .exact zmb hm
  .exact zh3 hm
 |.no c,h=>znL (Ce.zbb (c:=c) h)
 |.an c e,h=>zoo (Ce.zbb h.1) (Ce.zbb h.2)
 |.or c e,h=>zoT (Ce.zbb h.1) (Ce.zbb h.2)
theorem Oe.zcW :∀{o:Oe},o.ok ae num->J9 ae num o.w
 |.like,_=>zl2
 |.lf dn z,h=>by
  cases dn
  .exact zo1 h
  .exact zm3 h
 |.turn a,h=>zm6 (Oe.zcW (o:=a) h)
 |.thn a b,h=>zlX (Oe.zcW h.1) (Oe.zcW h.2)
 |.pick c a b,h=>zjE (Ce.zbb h.1) (Oe.zcW h.2.1) (Oe.zcW h.2.2)
noncomputable def mkB(is:Bool)(a p:Int×Int):Bool:=isA (hsA a p) (if is then .like else .ahead)
noncomputable def Ce.tr(book:LB)(f g:Fs):Ce->Bool
 |.same z=>isA (hsA (vl book z f) (vl book z g)) .like
 |.mk ei is z p=>if ei then mkB is (vl book z f) p||mkB is (vl book z g) p else mkB is (vl book z f) p&&mkB is (vl book z g) p
 |.no c=>!c.tr book f g
 |.an c e=>c.tr book f g&&e.tr book f g
 |.or c e=>c.tr book f g||e.tr book f g
noncomputable def Oe.an(book:LB)(f g:Fs):Oe->An
 |.like=>.like
 |.lf dn z=>if dn then(hsA (vl book z f) (vl book z g)).turn else hsA (vl book z f) (vl book z g)
 |.turn a=>(a.an book f g).turn
 |.thn a b=>if a.an book f g = .like then b.an book f g else a.an book f g
 |.pick c a b=>if c.tr book f g=true then a.an book f g else b.an book f g
theorem Ce.ev{book:LB}(hb:∀ z∈book,Yr z=none)(f g:Fs):∀{c:Ce},c.ok (· ∈ book) num->∀ R,Look.ev (zdm book f g) c.w R = .tr (c.tr book f g)::R
 |.same z,h=>λR=>zii (hb z h) R
 |.mk ei is z p,h=>by
  have hm:∀ R,Look.ev (zdm book f g) [.t (wI is),.t z,.n p.1 p.2] R = .mk (mkB is (vl book z f) p) (mkB is (vl book z g) p)::R:=λR=>by
   cases is
   .exact zhf (hb z h.1) p.1 p.2 R
   .exact znC (hb z h.1) p.1 p.2 R
  cases ei
  .exact zkX hm
  .exact zfb hm
 |.no c,h=>zk9 (Ce.ev hb f g (c:=c) h)
 |.an c e,h=>zjD (Ce.ev hb f g h.1) (Ce.ev hb f g h.2)
 |.or c e,h=>zmZ (Ce.ev hb f g h.1) (Ce.ev hb f g h.2)
theorem Oe.ev{book:LB}(hb:∀ z∈book,Yr z=none)(f g:Fs):∀{o:Oe},o.ok (· ∈ book) num->∀ R,Look.ev (zdm book f g) o.w R = .an (o.an book f g)::R
 |.like,_=>zjj
 |.lf dn z,h=>by
  cases dn
  .exact zn4 (hb z h)
  .exact zko (hb z h)
 |.turn a,h=>zkV (Oe.ev hb f g (o:=a) h)
 |.thn a b,h=>zjn (Oe.ev hb f g h.1) (Oe.ev hb f g h.2)
 |.pick c a b,h=>zku (Ce.ev hb f g h.1) (Oe.ev hb f g h.2.1) (Oe.ev hb f g h.2.2)
theorem Ce.sym(book:LB)(f g:Fs):∀ c:Ce,c.tr book g f=c.tr book f g
 |.same z=>by show isA (hsA (vl book z g) (vl book z f)) .like=_;rw[U0 (vl book z f) (vl book z g),zhC];rfl
 |.mk ei is z p=>by
  cases ei
  .exact Bool.and_comm ..
  .exact Bool.or_comm ..
 |.no c=>IT (!·) (Ce.sym book f g c)
 |.an c e=>by show(_&&_)=(_&&_);rw[Ce.sym book f g c,Ce.sym book f g e]
 |.or c e=>by show(_||_)=(_||_);rw[Ce.sym book f g c,Ce.sym book f g e]
def zaq{a:An}:a.turn = .like↔a = .like:=by cases a <;> simp[An.turn]
theorem Oe.sym(book:LB)(f g:Fs):∀ o:Oe,o.an book g f=(o.an book f g).turn
 |.like=>rfl
 |.lf dn z=>by
  cases dn
  .exact U0 (vl book z f) (vl book z g)
  .show(hsA (vl book z g) (vl book z f)).turn=_;rw[U0 (vl book z f) (vl book z g)];rfl
 |.turn a=>by show(a.an book g f).turn=_;rw[Oe.sym book f g a];rfl
 |.thn a b=>by
  show(if a.an book g f = .like then b.an book g f else a.an book g f)=(if a.an book f g = .like then b.an book f g else a.an book f g).turn;rw[Oe.sym book f g a,Oe.sym book f g b];by_cases h:a.an book f g = .like
  .rw[Iq h,Iq (zaq.mpr h)]
  .rw[Im h,Im λz=>h (zaq.mp z)]
 |.pick c a b=>by show(if c.tr book g f=true then a.an book g f else b.an book g f)=(if c.tr book f g=true then a.an book f g else b.an book f g).turn;rw[Oe.sym book f g a,Oe.sym book f g b,Ce.sym book f g c];split <;> rfl
noncomputable def An.z:An->Int
 |.ahead=>-1
 |.like=>0
 |.behind=>1
def zmw(a:An):a.turn.z = - a.z:=by cases a <;> rfl
def zmr{a:An}:a.z=0↔a = .like:=by cases a <;> simp[An.z]
noncomputable def Ce.dp:Ce->Nat
 |.same _=>0
 |.mk _ _ _ _=>0
 |.no c=>c.dp+1
 |.an c e=>max c.dp e.dp+1
 |.or c e=>max c.dp e.dp+1
noncomputable def Oe.dp:Oe->Nat
 |.like=>0
 |.lf _ _=>0
 |.turn a=>a.dp+1
 |.thn a b=>max a.dp b.dp+1
 |.pick c a b=>max c.dp (max a.dp b.dp)+1
def Wko(bk:LB)(o:Oe):Prop:=Wk (λf g=>o.an bk f g) (zk2 bk.length)
def Dm(bk:LB)(f:Fs):Prop:=zk2 bk.length f/\∀ p∈f,p.1<1000000000000000000
def Wkd(bk:LB)(o:Oe):Prop:=Wk (λf g=>o.an bk f g) (Dm bk)
def ziG{bk:LB}{z:Str}:vl bk z f∈f\/vl bk z f=(0,1):=by
 show f.getD (bk.idxOf z) (0,1)∈f\/f.getD (bk.idxOf z) (0,1)=(0,1)
 rw[Ir];cases h:f[bk.idxOf z]? with
 |none=>exact .inr rfl
 |some a=>exact .inl (Iz h)
def zcq{bk:LB}{z:Str}{n:Nat}(h:zk2 n f):1<=(vl bk z f).2:=by
 rcases ziG (bk:=bk) (z:=z) (f:=f)with e | e
 .exact h.2 _ e
 .rw[e];decide
theorem Ce.on{bk:LB}{z:Str}{g:Fs}(hf:1<=(vl bk z f).2)(hg:1<=(vl bk z g).2)(h:hsA (vl bk z f) (vl bk z g) = .like):∀{c:Ce},c.ok (· = z) num->c.tr bk f g=c.tr bk f f/\c.tr bk g g=c.tr bk f f
 |.same y,e=>by obtain rfl:y=z:=e;have self:∀ a:Int×Int,isA (hsA a a) .like=true:=λa=>Ip (zbP.mpr rfl);show isA (hsA (vl bk y f) (vl bk y g)) .like=isA (hsA (vl bk y f) (vl bk y f)) .like/\isA (hsA (vl bk y g) (vl bk y g)) .like=isA (hsA (vl bk y f) (vl bk y f)) .like;rw[self,self,h];exact⟨rfl,rfl⟩
 |.mk ei is y p,e=>by
  obtain rfl:y=z:=e.1;have q:mkB is (vl bk y f) p=mkB is (vl bk y g) p:=by unfold mkB;rw[zjY hf hg (zbP.mp h)]
  cases ei
  .show(_&&_)=(_&&_)/\(_&&_)=(_&&_)
   rw[q];exact⟨rfl,rfl⟩
  .show(_||_)=(_||_)/\(_||_)=(_||_)
   rw[q];exact⟨rfl,rfl⟩
 |.no c,e=>by obtain⟨a,b⟩:=Ce.on hf hg h (c:=c) e;exact⟨IT (!·) a,IT (!·) b⟩
 |.an c d,e=>by
  obtain⟨a,b⟩:=Ce.on hf hg h (c:=c) e.1;obtain⟨a',b'⟩:=Ce.on hf hg h (c:=d) e.2;constructor
  .show(_&&_)=(_&&_);rw[a,a']
  .show(_&&_)=(_&&_);rw[b,b']
 |.or c d,e=>by
  obtain⟨a,b⟩:=Ce.on hf hg h (c:=c) e.1;obtain⟨a',b'⟩:=Ce.on hf hg h (c:=d) e.2;constructor
  .show(_||_)=(_||_);rw[a,a']
  .show(_||_)=(_||_);rw[b,b']
def zhs{bk:LB}:Wko bk .like:=zkQ
def zfH{bk:LB}{z:Str}:Wko bk (.lf dn z):=by
 cases dn
 .exact zdv (bk.idxOf z) bk.length
 .exact(zdv (bk.idxOf z) bk.length).turn
def zio{bk:LB}{a:Oe}(h:Wko bk a):Wko bk (.turn a):=Wk.turn h
def zjx{bk:LB}{a b:Oe}(h:Wko bk a)(h' : Wko bk b):Wko bk (.thn a b):=Wk.zmC h h'
def zbL{bk:LB}{z:Str}{g:Fs}:(Oe.lf dn z).an bk f g = .like↔hsA (vl bk z f) (vl bk z g) = .like:=by
 cases dn
 .exact Iff.rfl
 .exact zaq
def zhY{bk:LB}{a:Oe}{z:Str}(h:Wko bk a):Wko bk (.pick (.same z) a (.lf dn z)):=
 zig (Wk.zmC (zfH (bk:=bk) (dn:=dn) (z:=z)) h) λf g _ _=>by
  show(if isA (hsA (vl bk z f) (vl bk z g)) .like=true then a.an bk f g else(Oe.lf dn z).an bk f g)=_;by_cases e:hsA (vl bk z f) (vl bk z g) = .like
  .rw[Iq (show isA (hsA (vl bk z f) (vl bk z g)) .like=true from Ip e),Iq (zbL.mpr e)]
  .rw[Im (show ¬ isA (hsA (vl bk z f) (vl bk z g)) .like=true from λq=>e (IB q)),Im (λq=>e (zbL.mp q))]
def zh4{bk:LB}{a b:Oe}{z:Str}{c:Ce}(hc:c.ok (· = z) num)(h:Wko bk a)(h' : Wko bk b):Wko bk (.thn (.lf dn z) (.pick c a b)):=
 zig (Wk.zop (zfH (bk:=bk) (dn:=dn) (z:=z)) h h' (λf=>c.tr bk f f) λf g hf hg e=>((Ce.on (zcq hf) (zcq hg) (zbL.mp e) hc).2).symm) λf g hf hg=>by
  show(if(Oe.lf dn z).an bk f g = .like then(if c.tr bk f g=true then a.an bk f g else b.an bk f g)else(Oe.lf dn z).an bk f g)=_;by_cases e:(Oe.lf dn z).an bk f g = .like
  .rw[Iq e,Iq e,(Ce.on (zcq hf) (zcq hg) (zbL.mp e) hc).1]
  .rw[Im e,Im e]
def Wko.d{bk:LB}{o:Oe}(h:Wko bk o):Wkd bk o:=Wk.sub h λ_ z=>z.1
def zdG{bk:LB}{z:Str}(h:Dm bk f):hsA (vl bk z f) (1000000000000000000,1) = .ahead:=by
 rw[zhO];have h1:=zcq (bk:=bk) (z:=z) h.1;have h2:(vl bk z f).1<1000000000000000000:=by
  rcases ziG (bk:=bk) (z:=z) (f:=f)with e | e
  .exact h.2 _ e
  .rw[e];decide
 dsimp only;omega
def zlt{bk:LB}{z:Str}(h:Dm bk f):mkB true (vl bk z f) (1000000000000000000,1)=false:=by unfold mkB;rw[zdG h];rfl
def zm4{bk:LB}{z:Str}(h:Dm bk f):mkB false (vl bk z f) (1000000000000000000,1)=true:=by unfold mkB;rw[zdG h];rfl
def zjN{bk:LB}{z:Str}{o:Oe}(h:Wkd bk o):Wkd bk (.pick (.an (.mk true true z (1000000000000000000,1)) (.mk false false z (1000000000000000000,1))) .like o):=
 zig h λf g hf hg=>by show(if((mkB true (vl bk z f) _||mkB true (vl bk z g) _)&&_)=true then An.like else o.an bk f g)=o.an bk f g;rw[zlt hf,zlt hg];rfl
def zm5{bk:LB}{z:Str}{o:Oe}(h:Wkd bk o):Wkd bk (.pick (.or (.mk false false z (1000000000000000000,1)) (.mk false true z (1000000000000000000,1))) o .like):=
 zig h λf g hf hg=>by show(if((mkB false (vl bk z f) _&&mkB false (vl bk z g) _)||_)=true then o.an bk f g else An.like)=o.an bk f g;rw[zm4 hf,zm4 hg];rfl
end Look
namespace K61
open PySem L2 Frac Lw PySem.NumText
open Ord Look Rdo
variable {i:Nat}{B:Hp}{ρ:LD}{fp:LH}{ta tb:TE}
abbrev dWs(ws:List Wd):PD:=.list (ws.map Wd.d)
inductive zj8(n:Nat)(ds:LA):Prop
 |mk (z:Str) (vs:List (Int×Int)) (_:ds=[.str z,.list (vs.map dF)]) (_:3<=vs.length) (_:vs.length<=100) (_:n<=10^5):zj8 n ds
inductive RCe(n:Nat)(ds:LA)(x:PD)(n' : Nat):Prop
 |mk (z:Str) (vs:List (Int×Int)) (c:Ce) (_:ds=[.str z,.list (vs.map dF)]) (_:x=dWs c.w) (_:c.ok (· = z) (λa b=>(a,b)∈vs)) (_:c.w.length<=9) (_:c.dp<=1) (_:n' <= n+7):RCe n ds x n'
section
def zpc{a b:Str}(h:(i:Int)<2):([.str a,.str b]:LA)[i]?=some (.str (if decide (i=1)=true then b else a)):=by
 rcases i with _ | _ | i
 .rfl
 .rfl
 .omega
def zdo{X:XK}{c:Nat}{p:AD}{a b:Str}{R:PV->LD->Prop}(hi:ρ[i]?=some ((dkT K).pv c p fp))(hc:c<=10^6)(k:∀ t:Bool,R (.dat (.str (if t=true then b else a))) (ρ.set i ((dkT K).pv (c+1) p fp))):
  Eg K B (tOp (zeF K) (zhM (YC (tC (.str a)) (YC (tC (.str b)) Vk))) (QM (spT (dkT K) zdf RDw) [] X (YC (Wj i) (YC (tC (.int 2)) Vk)))) ρ R:=
 Wf (ZR (Yp (Zb ZX (Zb ZX Zk)) (by show 2<=sizeLine;decide)) ⟨_,rfl,Yi hi Zw hc (by decide) (by decide) λr hr=>⟨_,_,rfl,λG σ va vb ha hb=>YS (Xz ha) (Xz hb) (YG (by show r<2;omega)) (zpc hr),k (decide (r=1))⟩⟩)
def zlJ{X:XK}{j c:Nat}{p:AD}{te:TE}{vs:List (Int×Int)}{m:Int}{R:PV->LD->Prop}(hj:(msk ρ)[j]?=some (.dat (.list (vs.map dF))))(hi:ρ[i]?=some ((dkT K).pv c p fp))(hm:Er K B te (msk ρ) (.int m))(hc:c<=10^6)(h1:1<=m)(h2:m<=vs.length)(h3:vs.length<=10^6)(k:∀ q∈vs,R (.dat (dF q)) (ρ.set i ((dkT K).pv (c+1) p fp))):
  Eg K B (tOp (zeF K) (Wj j) (QM (spT (dkT K) zdf RDw) [] X (YC (Wj i) (YC te Vk)))) ρ R:=
 Wf (ZR (Zc hj) ⟨_,rfl,Yi hi hm hc h1 (by omega) λr hr=>by
  have hl:r<vs.length:=by omega
  exact⟨_,dF vs[r],rfl,λG σ va vb ha hb=>YS (Xz ha) (Xz hb) (by rw[Ie];exact YG hl) (by rw[Ij,Ib hl];rfl),k _ (IQ hl)⟩⟩)
def zik(T:Top K mg):T.J5.O P w base 2 (spT (dkT K) zj8 RCe):=by
 have G__law_draw:=@Jf T;refine T.J5.F.okT Wu (by rintro _ _ ⟨_,_,rfl,_⟩;rfl) λcdv A outer s H E hr p fp n ds hP=>?_;obtain⟨z,vs,rfl,hv,hv2,hn⟩:=hP;have zl:(2000:Nat)<sizeLine:=by decide
 refine⟨_,(Zf (ZC (i:=3) Wu.nd rfl (Or.inl rfl) (Z3 Ze))
   (Zf (JG Nh rfl (XC (by rfl) T.Qv (Za Zi Ze Zg)) (Yh (i:=4) Wu.nd rfl (Or.inl rfl)) (Zf (ZC (i:=5) Wu.nd rfl (Or.inl rfl) (Z3 (Za (ZG (Zu (K:=K) rfl) (Z3 (Za ZD (Za ZD Ze Zg) Zg)) (peN T.Zx G__law_draw hr (Za (pv 0) (Za Zi Ze Zg) Zd)) (λ_ _=>rfl)) (Za (ZG (Zu (K:=K) rfl) (Z3 (Za ZD (Za ZD Ze Zg) Zg)) (peN T.Zx G__law_draw hr (Za (pv 0) (Za Zi Ze Zg) Zd)) (λ_ _=>rfl)) Ze Zj) Zj)))
   (Zm (JQ (zap Nv Nx Ny WX (pv 3) (Za (ZL Wc (pv 5) (Z3 (Za (pv 1) (Za (ZG (Zu (K:=K) rfl) (pv 2) (peN T.Zx G__law_draw hr (Za (pv 0) (Za Zi Ze Zg) Zd)) (λ_ _=>rfl)) Ze Zj) Zd))) Ze ZS))))))
   (Zf (ZC (i:=6) Wu.nd rfl (Or.inl rfl) (Z3 (Za (ZL Wc (Z3 (Za ZD Ze Zg)) (ZG (Zu (K:=K) rfl) (pv 3) Zi (λ_ _=>rfl))) (Za (ZG (Zu (K:=K) rfl) (pv 3) Zi (λ_ _=>rfl)) (Za (ZL Wc (ZL Wc (Z3 (Za ZD Ze Zg)) (ZG (Zu (K:=K) rfl) (pv 3) Zi (λ_ _=>rfl))) (ZG (Zu (K:=K) rfl) (pv 3) Zi (λ_ _=>rfl))) (Za (ZL Wc (ZL Wc (Z3 (Za ZD Ze Zg)) (ZG (Zu (K:=K) rfl) (pv 3) Zi (λ_ _=>rfl))) (ZG (Zu (K:=K) rfl) (pv 3) Zi (λ_ _=>rfl))) Ze ZS) ZS) Zj) ZS)))
   (Zm (Zz (ZG (Zu (K:=K) rfl) (pv 6) (peN T.Zx G__law_draw hr (Za (pv 0) (Za Zi Ze Zg) Zd)) (λ_ _=>rfl))))))) ,?_⟩
 refine Zt (ZP (zce Zk (Nr _) ?_));refine Zt (zcC (List.range 2) (λ(i:Nat)=>PyData.int (i:Nat)) (VN (n:=2) (Zb Zw Zk) (by decide)) (λi ρ=>∃(ms:List Ce)(v4 v5 v6:PV),ms.length=i/\(∀ c∈ms,∃ ei is q,c = .mk ei is z q/\q∈vs)/\ρ=[(dkT K).pv (n+3*i) p fp,.dat (.str z),.dat (.list (vs.map dF)),.own (ms.map λc=>dWs c.w),v4,v5,v6]) ⟨[],_,_,_,rfl,λ_ h=>(by cases h),rfl⟩ ?_ ?_)
 .rintro i hi _ ⟨ms,v4,v5,v6,hml,hms,rfl⟩;rw[IG]at hi;generalize (List.range 2)[i]=i';refine Um (Zt (ZP (Q8 (Yu (zdo rfl (by omega) λei=>⟨_,rfl,Yu (zdo rfl (by omega) λis=>⟨_,rfl,Xf Zk ⟨by show 2<=sizeLine;decide,?_⟩⟩)⟩)))));show Sv K B0 _ [(dkT K).pv (n+3*i+2) p fp,.dat (.str z),.dat (.list (vs.map dF)),.own (ms.map λc=>dWs c.w),.dat (.int (i' : Nat)),.dat (.list [.str (wB ei),.str (wI is)]),v6] _;refine zeV (i:=3) (Wf (ZR (Zc rfl) ⟨_,rfl,Q8 (Yu (ZR (Zc rfl) ⟨_,rfl,Yu (zlJ (j:=2) (i:=0) (c:=n+3*i+2) (vs:=vs) (m:=3) rfl rfl Zw (by omega) (by decide) (by omega) (by omega) λq hq=>⟨_,rfl,Xf Zk ⟨by show 2<=sizeLine;decide,?_⟩⟩)⟩))⟩)) rfl rfl;refine⟨_,dWs (Ce.mk ei is z q).w,rfl,λG σ va vb ha hb=>zd1 (Uk (Xz ha) (Xz hb) (by show 4<=sizeLine;decide)) rfl,_,_,ms.map λc=>dWs c.w,rfl,rfl,rfl,by rw[Ie];omega,ms++[.mk ei is z q],.dat (.int (i' : Nat)),.dat (.list [.str (wB ei),.str (wI is)]),v6,by rw[Ig,hml];rfl,?_,?_⟩
  .intro c hc;rcases Nq.mp hc with h | h
   .exact hms c h
   .exact⟨ei,is,q,IH.mp h,hq⟩
  .rw[IX,Nat.mul_add,← add_assoc];rfl
 .rintro _ ⟨ms,v4,v5,v6,hml,hms,rfl⟩;rw[IG]at hml;obtain⟨c0,c1,rfl⟩:∃ c0 c1,ms=[c0,c1]:=by
   match ms,hml with
   |[a,b],_=>exact⟨a,b,rfl⟩
  obtain⟨e0,i0,q0,rfl,h0⟩:=hms c0 (by simp);obtain⟨e1,i1,q1,rfl,h1⟩:=hms c1 (by simp);refine Qj 3 rfl ?_;show Sv K B0 _ [(dkT K).pv (n+6) p fp,.dat (.str z),.dat (.list (vs.map dF)),.dat (.list [dWs (Ce.mk e0 i0 z q0).w,dWs (Ce.mk e1 i1 z q1).w]),v4,v5,v6] _;have m0:∀{v6:PV},Er K B0 (tOp (zeF K) (Wj 3) (tC (.int 0))) (msk [(dkT K).pv (n+6) p fp,.dat (.str z),.dat (.list (vs.map dF)),.dat (.list [dWs (Ce.mk e0 i0 z q0).w,dWs (Ce.mk e1 i1 z q1).w]),v4,v5,v6]) (dWs (Ce.mk e0 i0 z q0).w):=XJ (n:=0) (Zc rfl) Zw rfl rfl;have m1:∀{v6:PV},Er K B0 (tOp (zeF K) (Wj 3) (tC (.int 1))) (msk [(dkT K).pv (n+6) p fp,.dat (.str z),.dat (.list (vs.map dF)),.dat (.list [dWs (Ce.mk e0 i0 z q0).w,dWs (Ce.mk e1 i1 z q1).w]),v4,v5,v6]) (dWs (Ce.mk e1 i1 z q1).w):=XJ (n:=1) (Zc rfl) Zw rfl rfl;have o1:∀(x:Str),Er K B0 (zhM (YC (tC (.str x)) Vk)) (msk [(dkT K).pv (n+6) p fp,.dat (.str z),.dat (.list (vs.map dF)),.dat (.list [dWs (Ce.mk e0 i0 z q0).w,dWs (Ce.mk e1 i1 z q1).w]),v4,v5,v6]) (.list [.str x]):=λx=>Yp (Zb ZX Zk) (by show 1<=sizeLine;decide);refine Zt (ZP (ZR (Yp (Zb (Wi (o1 _) m0 (by show 5<=sizeLine;decide)) (Zb m0 (Zb (Wi (Wi (o1 _) m0 (by show 5<=sizeLine;decide)) m1 (by show 9<=sizeLine;decide)) (Zb (Wi (Wi (o1 _) m0 (by show 5<=sizeLine;decide)) m1 (by show 9<=sizeLine;decide)) Zk)))) (by show 4<=sizeLine;decide)) ?_));refine Ym (Wf (ZR (Zc rfl) ⟨_,rfl,Yi (c:=n+6) rfl Zw (by omega) (by decide) (by decide) λr hr=>?_⟩));have fin:∃ c:Ce,([dWs (Ce.no (Ce.mk e0 i0 z q0)).w,dWs (Ce.mk e0 i0 z q0).w,dWs (Ce.an (Ce.mk e0 i0 z q0) (Ce.mk e1 i1 z q1)).w,dWs (Ce.or (Ce.mk e0 i0 z q0) (Ce.mk e1 i1 z q1)).w]:LA)[r]?=some (dWs c.w)/\c.ok (· = z) (λa b=>(a,b)∈vs)/\c.w.length<=9/\c.dp<=1:=by
   rcases r with _ | _ | _ | _ | r
   .exact⟨.no (.mk e0 i0 z q0),rfl,⟨rfl,h0⟩,(by show 5<=9;decide),Ik _⟩
   .exact⟨.mk e0 i0 z q0,rfl,⟨rfl,h0⟩,(by show 4<=9;decide),Nr _⟩
   .exact⟨.an (.mk e0 i0 z q0) (.mk e1 i1 z q1),rfl,⟨⟨rfl,h0⟩,rfl,h1⟩,(by show 9<=9;decide),Ik _⟩
   .exact⟨.or (.mk e0 i0 z q0) (.mk e1 i1 z q1),rfl,⟨⟨rfl,h0⟩,rfl,h1⟩,(by show 9<=9;decide),Ik _⟩
   .omega
  obtain⟨c,hc,ok,hl,hd⟩:=fin;exact⟨_,dWs c.w,rfl,λG σ va vb ha hb=>YS (Xz ha) (Xz hb) (YG (by show r<4;omega)) hc,_,n+7,rfl,⟨z,vs,c,rfl,rfl,ok,hl,hd,(by omega)⟩,rfl⟩
end
noncomputable def zkS:Nat->Nat | 0=>2 | N+1=>13+2*zkS N
noncomputable def zkG:Nat->Nat | 0=>3 | N+1=>10+2*zkG N
noncomputable def dpG:Nat->Nat | 0=>0 | N+1=>dpG N+3
inductive zhE(N n:Nat)(ds:LA):Prop
 |mk (bk:LB) (vs:List (Int×Int)) (_:ds=[dBk bk,.list (vs.map dF),.int (N:Nat)]) (_:zgT bk) (_:3<=vs.length) (_:vs.length<=100) (_:n+zkG N<=10^5):zhE N n ds
inductive RG(N n:Nat)(ds:LA)(x:PD)(n' : Nat):Prop
 |mk (bk:LB) (vs:List (Int×Int)) (o:Oe) (_:ds=[dBk bk,.list (vs.map dF),.int (N:Nat)]) (_:x=dWs o.w) (_:o.ok (· ∈ bk) (λa b=>(a,b)∈vs)) (_:o.w.length<=zkS N) (_:o.dp<=dpG N) (_:Wko bk o) (_:n' <= n+zkG N):RG N n ds x n'
def zjM:Sp:=λ_ _ _ _=>False
def Qm{a b:LB}(h:dBk a=dBk b):a=b:=by injection h with h;exact(List.map_inj_right λx y e=>by injection e).mp h
def Qq{a b:List (Int×Int)}(h:PyData.list (a.map dF) = .list (b.map dF)):a=b:=by injection h with h;refine(List.map_inj_right λx y e=>?_).mp h;injection e with e;injection e with e1 e2;injection e2 with e2 _;injection e1 with e1;injection e2 with e2;exact Prod.ext e1 e2
section
def zi6{X:XK}{j c:Nat}{p:AD}{te:TE}{bk:LB}{R:PV->LD->Prop}(hj:(msk ρ)[j]?=some (.dat (dBk bk)))(hi:ρ[i]?=some ((dkT K).pv c p fp))(hm:Er K B te (msk ρ) (.int (bk.length:Nat)))(hc:c<=10^6)(hb:zgT bk)(k:∀ z∈bk,R (.dat (.str z)) (ρ.set i ((dkT K).pv (c+1) p fp))):
  Eg K B (tOp (zeU K) (Wj j) (QM (spT (dkT K) zdf RDw) [] X (YC (Wj i) (YC te Vk)))) ρ R:=
 Wf (ZR (Zc hj) ⟨_,rfl,Yi hi hm hc (by have:=hb.1;omega) (by have:=hb.2.1;omega) λr hr=>by
  have hl:r<bk.length:=by omega
  exact⟨_,.str bk[r],rfl,λG σ va vb ha hb=>J8 (Xz ha) (Xz hb) (by rw[Ie];exact YG hl) (by rw[Ij,Ib hl];rfl),k _ (IQ hl)⟩⟩)
def zbI(T:Top K mg)(N:Nat)(sp:Sp)(hsp:∀ m,N=m+1->sp=spT (dkT K) (zhE m) (RG m))(hN:zkS N<=800)(G__law_good:T.Yl.O P w base (N+2) sp):T.Yl.O P w base (N+3) (spT (dkT K) (zhE N) (RG N)):=by
 have G__law_draw:T.Zx.O P w base (N+2) (spT (dkT K) zdf RDw):=(Jf T).mono (by omega);have G__law_case:T.J5.O P w base (N+2) (spT (dkT K) zj8 RCe):=(zik T).mono (by omega);refine T.Yl.F.okT Xo (by rintro _ _ ⟨_,_,rfl,_⟩;rfl) λcdv A outer s H E hr p fp n ds hP=>?_;obtain⟨bk,vs,rfl,hbk,hv,hv2,hn⟩:=hP;have zl:(2000:Nat)<sizeLine:=by decide
 have c3:3<=zkG N:=by cases N <;> (unfold zkG;omega)
 have l2:2<=zkS N:=by cases N <;> (unfold zkS;omega)
 refine⟨_,(Zf (ZC (i:=4) Xo.nd rfl (Or.inl rfl) (peN T.Zx G__law_draw hr (Za (pv 0) (Za Zi Ze Zg) Zd)))
   (Zf (ZC (i:=5) Xo.nd rfl (Or.inl rfl) (ZG (Z1 (K:=K) rfl) (pv 1) (peN T.Zx G__law_draw hr (Za (pv 0) (Za (Z2 (Yb (K:=K) rfl) (by rfl) T.zaA II (Za (pv 1) Ze Zd)) Ze Yo) Zd)) (λ_ _=>rfl)))
   (Zf (ZC (i:=6) Xo.nd rfl (Or.inl rfl) (Z3 (Za (ZG (Zu (K:=K) rfl) (Z3 (Za ZD (Za ZD Ze Zg) Zg)) (peN T.Zx G__law_draw hr (Za (pv 0) (Za Zi Ze Zg) Zd)) (λ_ _=>rfl)) (Za (pv 5) Ze Zd) Zj)))
   (Zf (Yv (ZJ Y6 (pv 4) Zi (ZM _)) (Zm (Zz (Z3 (Za ZD Ze Zg)))) ZQ)
   (Zf (Yv ((pw_or (ZJ Y6 (pv 3) Zi (ZM _)) (pw_or1 (ZJ zak (pv 4) Zi (ZM _))))).pt (Zm (Zz (pv 6))) ZQ)
   (Zf (ZC (i:=7) Xo.nd rfl (Or.inl rfl) (peN T.Yl G__law_good hr (Za (pv 0) (Za (pv 1) (Za (pv 2) (Za (ZL Us (pv 3) Zi) Ze ZS) Zd) Zd) Zd)))
   (Zf (Yv (ZJ Y6 (pv 4) Zi (ZM _)) (Zm (Zz (ZL Wc (Z3 (Za ZD Ze Zg)) (pv 7)))) ZQ)
   (Zf (Yv (ZJ Y6 (pv 4) Zi (ZM _)) (Zm (Zz (ZL Wc (ZL Wc (Z3 (Za ZD (Za ZD (Za (pv 5) Ze Zd) Zg) Zg)) (pv 7)) (pv 6)))) ZQ)
   (Zf (ZC (i:=8) Xo.nd rfl (Or.inl rfl) (peN T.Yl G__law_good hr (Za (pv 0) (Za (pv 1) (Za (pv 2) (Za (ZL Us (pv 3) Zi) Ze ZS) Zd) Zd) Zd)))
   (Zf (Yv (ZJ zak (pv 4) Zi (ZM _)) (Zm (Zz (ZL Wc (ZL Wc (Z3 (Za ZD Ze Zg)) (pv 7)) (pv 8)))) ZQ)
   (Zm (Zz (ZL Wc (ZL Wc (ZL Wc (ZL Wc (ZL Wc (Z3 (Za ZD Ze Zg)) (pv 6)) (Z3 (Za ZD Ze Zg))) (peN T.J5 G__law_case hr (Za (pv 0) (Za (pv 5) (Za (pv 2) Ze Zd) Zd) Zd))) (pv 7)) (pv 8)))))))))))))) ,?_⟩
 refine Zt (ZP (Yi rfl Zw (by omega) (by decide) (by decide) λst hst=>?_));refine Zt (ZP (zi6 (j:=1) (i:=0) (c:=n+1) rfl rfl (Xw (J0 (Zb (Zc rfl) Zk)) (by rw[Ie])) (by omega) hbk λz hz=>?_));refine Zt (ZP (Q8 (Yu (zdo (c:=n+2) rfl (by omega) λdn=>⟨_,rfl,Xf (Zb (Zc rfl) Zk) ⟨by show 2<=sizeLine;decide,?_⟩⟩))));show Sv K B0 _ [(dkT K).pv (n+3) p fp,.dat (dBk bk),.dat (.list (vs.map dF)),.dat (.int (N:Nat)),.dat (.int (st:Nat)),.dat (.str z),.dat (dWs (Oe.lf dn z).w),.un,.un] _;refine Zt (UV (Z0 (zbo (Zc rfl) Zw)) (λ_=>?_) λh3=>Z4 ?_)
 .exact Ym (ZR (Yp (Zb ZX Zk) (by show 1<=sizeLine;decide)) ⟨_,n+3,rfl,⟨bk,vs,.like,rfl,rfl,trivial,by show 1<=_;omega,Nr _,zhs,(by omega)⟩,rfl⟩)
 refine Zt (UV (zj3 (Z0 (zbo (Zc rfl) Zw)) λ_=>Z0 (Xa (Zc rfl) Zw λ_=>Yc _)) (λ_=>?_) λh=>Z4 ?_)
 .exact Ym (ZR (Zc rfl) ⟨_,n+3,rfl,⟨bk,vs,.lf dn z,rfl,rfl,hz,l2,Nr _,zfH,(by omega)⟩,rfl⟩)
 rw[Bool.or_eq_false_iff]at h;have hN0:N≠0:=λe=>by subst e;exact absurd h.1 (by decide)
 obtain⟨m,rfl⟩:∃ m,N=m+1:=⟨N-1,(by omega)⟩
 obtain rfl:=hsp m rfl;have hcs:zkG (m+1)=10+2*zkG m:=rfl;have hls:zkS (m+1)=13+2*zkS m:=rfl;have hds:dpG (m+1)=dpG m+3:=rfl;have hdeep:∀{v7 v8:PV}{c:Nat},Er K B0 (tOp (rI0 λa b=>.int (a-b)) (Wj 3) (tC (.int 1))) (msk [(dkT K).pv c p fp,.dat (dBk bk),.dat (.list (vs.map dF)),.dat (.int ((m+1:Nat):Int)),.dat (.int (st:Nat)),.dat (.str z),.dat (dWs (Oe.lf dn z).w),v7,v8]) (.int (m:Nat)):=Xw (Xa (Zc rfl) Zw λ_=>Zv _) (by congr 1;omega);refine Zt (ZP (Xh (s:=n+3) rfl (Xf (Zb (Zc rfl) (Zb (Zc rfl) (Zb hdeep Zk))) ⟨n+3,rfl,⟨bk,vs,rfl,hbk,hv,hv2,(by omega)⟩,λx n1 hx=>?_⟩)));obtain⟨bk1,vs1,o1,e1,rfl,ok1,hl1,hd1,wk1,hn1⟩:=hx;injection e1 with e1 e1';injection e1' with e1' _;obtain rfl:=Qm e1;obtain rfl:=Qq e1';have hw1:(o1.w.map Wd.d).length=o1.w.length:=Ie _;show Sv K B0 _ [(dkT K).pv n1 p fp,.dat (dBk bk),.dat (.list (vs.map dF)),.dat (.int ((m+1:Nat):Int)),.dat (.int (st:Nat)),.dat (.str z),.dat (dWs (Oe.lf dn z).w),.dat (dWs o1.w),.un] _;refine Zt (UV (Z0 (zbo (Zc rfl) Zw)) (λ_=>?_) λ_=>Z4 ?_)
 .exact Ym (ZR (Xw (Wi (Yp (Zb ZX Zk) (by show 1<=sizeLine;decide)) (Zc rfl) (by rw[hw1];show 1+_<=_;omega)) (show _=dWs (Oe.turn o1).w from rfl)) ⟨_,n1,rfl,⟨bk,vs,.turn o1,rfl,rfl,ok1,by show o1.w.length+1<=_;omega,by show o1.dp+1<=_;omega,zio wk1,(by omega)⟩,rfl⟩)
 refine Zt (UV (Z0 (zbo (Zc rfl) Zw)) (λ_=>?_) λ_=>Z4 ?_)
 .refine Ym (ZR (Xw (Wi (Wi (Yp (Zb ZX (Zb ZX (Zb (Zc rfl) Zk))) (by show 3<=sizeLine;decide)) (Zc rfl) (by rw[hw1];show 3+_<=_;omega)) (Zc rfl) (by rw[Ig,hw1];show 3+_+2<=_;omega)) (show _=dWs (Oe.pick (.same z) o1 (.lf dn z)).w from ?_)) ⟨_,n1,rfl,⟨bk,vs,.pick (.same z) o1 (.lf dn z),rfl,rfl,⟨hz,ok1,hz⟩,?_,?_,zhY wk1,(by omega)⟩,rfl⟩)
  .show PyData.list _=PyData.list (List.map Wd.d (_::(_++(_++_))));rw[Ng,IX,IX];rfl
  .show(_::([_,_]++(o1.w++[_,_]))).length<=_;rw[IC,Ig,Ig];show 2+(_+2)+1<=_;omega
  .show max 0 (max o1.dp 0)+1<=_;omega
 refine Zt (ZP (Xh (s:=n1) rfl (Xf (Zb (Zc rfl) (Zb (Zc rfl) (Zb hdeep Zk))) ⟨n1,rfl,⟨bk,vs,rfl,hbk,hv,hv2,(by omega)⟩,λx n2 hx=>?_⟩)));obtain⟨bk2,vs2,o2,e2,rfl,ok2,hl2,hd2,wk2,hn2⟩:=hx;injection e2 with e2 e2';injection e2' with e2' _;obtain rfl:=Qm e2;obtain rfl:=Qq e2';have hw2:(o2.w.map Wd.d).length=o2.w.length:=Ie _;show Sv K B0 _ [(dkT K).pv n2 p fp,.dat (dBk bk),.dat (.list (vs.map dF)),.dat (.int ((m+1:Nat):Int)),.dat (.int (st:Nat)),.dat (.str z),.dat (dWs (Oe.lf dn z).w),.dat (dWs o1.w),.dat (dWs o2.w)] _;refine Zt (UV (Z0 (Xa (Zc rfl) Zw λ_=>Yc _)) (λ_=>?_) λ_=>Z4 ?_)
 .refine Ym (ZR (Xw (Wi (Wi (Yp (Zb ZX Zk) (by show 1<=sizeLine;decide)) (Zc rfl) (by rw[hw1];show 1+_<=_;omega)) (Zc rfl) (by rw[Ig,hw1,hw2];show 1+_+_<=_;omega)) (show _=dWs (Oe.thn o1 o2).w from ?_)) ⟨_,n2,rfl,⟨bk,vs,.thn o1 o2,rfl,rfl,⟨ok1,ok2⟩,?_,?_,zjx wk1 wk2,(by omega)⟩,rfl⟩)
  .show PyData.list _=PyData.list (List.map Wd.d (_::(_++_)));rw[Ng,IX];rfl
  .show(_::(o1.w++o2.w)).length<=_;rw[IC,Ig];omega
  .show max o1.dp o2.dp+1<=_;omega
 refine Ym (Wf (Wf (Wf (ZR (Wi (Wi (Yp (Zb ZX Zk) (by show 1<=sizeLine;decide)) (Zc rfl) (by show 1+2<=sizeLine;decide)) (Yp (Zb ZX Zk) (by show 1<=sizeLine;decide)) (by show 3+1<=sizeLine;decide)) ⟨_,rfl,Xh (s:=n2) rfl (Xf (Zb (Zc rfl) (Zb (Zc rfl) Zk)) ⟨n2,rfl,⟨z,vs,rfl,hv,hv2,(by omega)⟩,λx n3 hx=>?_⟩)⟩))));obtain⟨z3,vs3,c,e3,rfl,okc,hlc,hdc,hn3⟩:=hx;injection e3 with e3 e3';injection e3 with e3;injection e3' with e3' _;obtain rfl:=Qq e3';subst e3;have hwc:(c.w.map Wd.d).length=c.w.length:=Ie _;refine⟨_,_,rfl,λG σ va vb ha hb=>Uk (Xz ha) (Xz hb) (by rw[hwc];show 4+_<=_;omega),_,rfl,ZR (Zc rfl) ⟨_,_,rfl,λG σ va vb ha hb=>Uk (Xz ha) (Xz hb) (by rw[Ig,hwc,hw1];show 4+_+_<=_;omega),_,rfl,ZR (Zc rfl) ⟨_,dWs (Oe.thn (.lf dn z) (.pick c o1 o2)).w,rfl,λG σ va vb ha hb=>zd1 (Uk (Xz ha) (Xz hb) (by rw[Ig,Ig,hwc,hw1,hw2];show 4+_+_+_<=_;omega)) ?_,_,n3,rfl,⟨bk,vs,.thn (.lf dn z) (.pick c o1 o2),rfl,rfl,⟨hz,okc.imp (λy e=>by rw[e];exact hz) (λ_ _ h=>h),ok1,ok2⟩,?_,?_,zh4 okc wk1 wk2,(by omega)⟩,rfl⟩⟩⟩
 .show PyData.list _=PyData.list (List.map Wd.d (_::(_++(_::(_++(_++_))))));rw[Ng,IX,Ng,IX,IX];congr 1;simp only[IZ,NA,nil_append];rfl
 .show(_::([_,_]++(_::(c.w++(o1.w++o2.w))))).length<=_;simp only[IC,Ig,N7];omega
 .show max 0 (max c.dp (max o1.dp o2.dp)+1)+1<=_;omega
def zhL(T:Top K mg):T.Yl.O P w base 3 (spT (dkT K) (zhE 0) (RG 0)):=zbI T 0 zjM (λm e=>by cases e) (by decide) (T.Yl.F.ok Xo (λvs H Q E h=>h.elim) (λcdv A outer s H vs Q E hr h=>h.elim))
def zbK(T:Top K mg):T.Yl.O P w base 4 (spT (dkT K) (zhE 1) (RG 1)):=zbI T 1 _ (λm e=>by injection e with e;subst e;rfl) (by decide) (zhL T)
def zic(T:Top K mg):T.Yl.O P w base 5 (spT (dkT K) (zhE 2) (RG 2)):=zbI T 2 _ (λm e=>by injection e with e;subst e;rfl) (by decide) (zbK T)
end
def zlv(n:Nat)(ds:LA):Prop:=zhE 2 n ds\/zhE 1 n ds
inductive zou(n:Nat)(ds:LA)(x:PD)(n' : Nat):Prop
 |mk (bk:LB) (vs:List (Int×Int)) (d:Nat) (o:Oe) (_:ds=[dBk bk,.list (vs.map dF),.int (d:Nat)]) (_:x=dWs o.w) (_:o.ok (· ∈ bk) (λa b=>(a,b)∈vs)) (_:o.w.length<=47) (_:(d=1->o.w.length<=17)) (_:o.dp<=6) (_:Wko bk o) (_:n' <= n+42):zou n ds x n'
inductive zkI(n:Nat)(ds:LA):Prop
 |mk (bk:LB) (vs:List (Int×Int)) (_:ds=[dBk bk,.list (vs.map dF)]) (_:zgT bk) (_:3<=vs.length) (_:vs.length<=100) (_:n<=10^4):zkI n ds
inductive ROr(n:Nat)(ds:LA)(x:PD)(n' : Nat):Prop
 |mk (bk:LB) (vs:List (Int×Int)) (o:Oe) (_:ds=[dBk bk,.list (vs.map dF)]) (_:x = .tuple (o.w.map Wd.d)) (_:o.ok (· ∈ bk) (λa b=>(a,b)∈vs)) (_:o.w.length<=24) (_:o.dp<=6) (_:Wko bk o) (_:n' <= n+84):ROr n ds x n'
section
def zkM{k:Nat}{f:AD}{fd:FuncData}{ps:LB}{sp sp' : Sp}(F:VH P w K mg base CX0 k f fd ps sp)(F' : VH P w K mg base CX0 k f fd ps sp'):VH P w K mg base CX0 k f fd ps (λvs H Q E=>sp vs H Q E\/sp' vs H Q E):=⟨λvs H Q E q=>q.elim (F.len vs H Q E) (F'.len vs H Q E),λA outer s H args us vs Q E hr he hb hv hs=>hs.elim (F.run A outer s H args us vs Q E hr he hb hv) (F'.run A outer s H args us vs Q E hr he hb hv)⟩
def zf9(T:Top K mg):T.Yl.O P w base 5 (spT (dkT K) zlv zou):=by
 refine(zkM (zic T) ((zbK T).mono (by decide))).imp λvs H Q E ⟨p,fp,us,G,n,ds,e,sg,gn,lv,hI,hd,hP,kk⟩=>?_;rcases hP with hP | hP
 .refine .inl ⟨p,fp,us,G,n,ds,e,sg,gn,lv,hI,hd,hP,λv x n' G' H' hR=>kk v x n' G' H' ?_⟩;obtain⟨bk,ws,o,e1,e2,ok,hl,hdp,wk,hn⟩:=hR;exact⟨bk,ws,2,o,e1,e2,ok,hl,λz=>absurd z (by decide),hdp,wk,hn⟩
 .refine .inr ⟨p,fp,us,G,n,ds,e,sg,gn,lv,hI,hd,hP,λv x n' G' H' hR=>kk v x n' G' H' ?_⟩;obtain⟨bk,ws,o,e1,e2,ok,hl,hdp,wk,hn⟩:=hR;have hl:o.w.length<=17:=hl;have hdp:o.dp<=3:=hdp;have hn:n' <= n+16:=hn;exact⟨bk,ws,1,o,e1,e2,ok,(by omega),λ_=>hl,(by omega),wk,(by omega)⟩
def zfl(T:Top K mg):T.Jd.O P w base 6 (spT (dkT K) zkI ROr):=by
 have G__law_good:=@zf9 T;refine T.Jd.F.okT J4 (by rintro _ _ ⟨_,_,rfl,_⟩;rfl) λcdv A outer s H E hr p fp n ds hP=>?_;obtain⟨bk,vs,rfl,hbk,hv,hv2,hn⟩:=hP;have zl:(2000:Nat)<sizeLine:=by decide
 refine⟨_,(Zf (ZC (i:=3) J4.nd rfl (Or.inl rfl) (peN T.Yl G__law_good hr (Za (pv 0) (Za (pv 1) (Za (pv 2) (Za Zi Ze Zg) Zd) Zd) Zd)))
   (Zf (Yv (ZJ zds (Z2 (Yb (K:=K) rfl) (by rfl) T.zaA II (Za (pv 3) Ze Zd)) Zi (ZM _)) (Zm (ZC (i:=3) J4.nd rfl (Or.inl rfl) (peN T.Yl G__law_good hr (Za (pv 0) (Za (pv 1) (Za (pv 2) (Za Zi Ze Zg) Zd) Zd) Zd)))) ZQ)
   (Zm (Zz (Yq (X4 (K:=K) rfl) (by rfl) T.Ux zi0 (Za (pv 3) Ze Zd)))))) ,?_⟩
 refine Zt (ZP (Xh (s:=n) rfl (Xf (Zb (Zc rfl) (Zb (Zc rfl) (Zb Zw Zk))) ⟨n,rfl,.inl ⟨bk,vs,rfl,hbk,hv,hv2,by show n+42<=_;omega⟩,λx n1 hx=>?_⟩)));obtain⟨bk1,vs1,d1,o1,e1,rfl,ok1,hl1,_,hd1,wk1,hn1⟩:=hx;injection e1 with e1 e1';injection e1' with e1' _;obtain rfl:=Qm e1;obtain rfl:=Qq e1';refine Q6 (fun ρ' => ∃(o:Oe)(n2:Nat),o.ok (· ∈ bk) (λa b=>(a,b)∈vs)/\o.w.length<=24/\o.dp<=6/\Wko bk o/\n2<=n+84/\ρ'=[(dkT K).pv n2 p fp,.dat (dBk bk),.dat (.list (vs.map dF)),.dat (dWs o.w)]) (UV (Z0 (Xa (zdl (Zb (Zc rfl) Zk)) Zw λ_=>Yc _)) (λ_=>?_) λh=>Z4 ?_) ?_
 .refine ZP (Xh (s:=n1) rfl (Xf (Zb (Zc rfl) (Zb (Zc rfl) (Zb Zw Zk))) ⟨n1,rfl,.inr ⟨bk,vs,rfl,hbk,hv,hv2,by show n1+16<=_;omega⟩,λx n2 hx=>?_⟩));obtain⟨bk2,vs2,d2,o2,e2,rfl,ok2,_,hl2,hd2,wk2,hn2⟩:=hx;injection e2 with e2 e2';injection e2' with e2' e2'';injection e2'' with e2'' _;injection e2'' with e2'';obtain rfl:=Qm e2;obtain rfl:=Qq e2';have:=hl2 (by omega);exact⟨o2,n2,ok2,(by omega),hd2,wk2,(by omega),rfl⟩
 .have h:=Ni h;rw[Ie]at h;exact⟨o1,n1,ok1,(by omega),hd1,wk1,(by omega),rfl⟩
 .rintro _ ⟨o,n2,ok,hl,hd,wk,hn2,rfl⟩;exact Ym (ZR (zai (Zb (Zc rfl) Zk)) ⟨_,n2,rfl,⟨bk,vs,o,rfl,rfl,ok,hl,hd,wk,hn2⟩,rfl⟩)
end
def RFa:LA->PD->Prop:=λas d=>∃ a b:Int×Int,as=[dF a,dF b]/\Sz a/\Sz b/\d = .int (hsA a b).z
section
def zfn(T:Top K mg):T.WR.O P w base 1 (spP K RFa):=by
 refine T.WR.F.okP zaf (by rintro _ _ ⟨a,b,rfl,_⟩;rfl) λcdv A outer s H E hr ds d hR=>?_;obtain⟨a,b,rfl,ha,hb,rfl⟩:=hR;have p1:(10:Nat)^40<10^100:=OF (by decide) (by decide);have q:∀{i:Int},i.natAbs<10^40->i.natAbs<10^100:=λh=>lt_trans h p1;refine⟨_,(Zf (ZC (i:=2) zaf.nd rfl (Or.inl rfl) (ZL Us (ZL Wh (ZG (Z1 (K:=K) rfl) (pv 0) Zi (λ_ _=>rfl)) (ZG (Z1 (K:=K) rfl) (pv 1) Zi (λ_ _=>rfl))) (ZL Wh (ZG (Z1 (K:=K) rfl) (pv 1) Zi (λ_ _=>rfl)) (ZG (Z1 (K:=K) rfl) (pv 0) Zi (λ_ _=>rfl)))))
   (Zm (Zz (ZL Us (Yq XH (by rfl) T.int_ zgX (Za (Y4 zds (pv 2) Zi (ZM _)) Ze Y0)) (Yq XH (by rfl) T.int_ zgX (Za (Y4 zak (pv 2) Zi (ZM _)) Ze Y0)))))) ,?_⟩
 have i0:∀{i:Nat}{x:Int×Int}{ρ:LD},ρ[i]?=some (.dat (dF x))->Er K B0 (tOp (zeU K) (Wj i) (tC (.int 0))) ρ (.int x.1):=λh=>Xx (n:=0) (Zc h) Zw rfl rfl;have i1:∀{i:Nat}{x:Int×Int}{ρ:LD},ρ[i]?=some (.dat (dF x))->Er K B0 (tOp (zeU K) (Wj i) (tC (.int 1))) ρ (.int x.2):=λh=>Xx (n:=1) (Zc h) Zw rfl rfl;refine Zt (ZP (ZR (Xa (UL (i0 (x:=a) rfl) (i1 (x:=b) rfl) (mw (q ha.1) (q hb.2)) λ_=>Zv _) (UL (i0 (x:=b) rfl) (i1 (x:=a) rfl) (mw (q hb.1) (q ha.2)) λ_=>Zv _) λ_=>Zv _) ?_));refine Ym (ZR (Xw (Xa (Xq (Zb (Xa (Zc rfl) Zw λ_=>Yc _) Zk)) (Xq (Zb (Xa (Zc rfl) Zw λ_=>Yc _) Zk)) λ_=>Zv _) ?_) rfl);congr 1;unfold hsA;generalize a.1*b.2=x;generalize b.1*a.2=y;by_cases h1:x<y
 .rw[Iq h1,Iw (show ¬ (0:Int)<x-y by omega),Ip (show x-y<0 by omega)];rfl
 .rw[Im h1,Iw (show ¬ x-y<0 by omega)];by_cases h2:x>y
  .rw[Iq h2,Ip (show(0:Int)<x-y by omega)];rfl
  .rw[Im h2,Iw (show ¬ (0:Int)<x-y by omega)];rfl
end
def zcR(bk:LB)(f:List (Int×Int)):Prop:=f.length=bk.length/\∀ p∈f,zaw p
def RHo(N:Nat):LA->PD->Prop:=λas d=>∃(pre:List Wd)(c:Ce)(post:List Wd)(bk:LB)(f g:List (Int×Int))(num:Int->Int->Prop),as=[.tuple ((pre++(c.w++post)).map Wd.d),.int (pre.length:Nat),dBk bk,.tuple [dTh f,dTh g]]/\c.dp<=N/\c.ok (· ∈ bk) num/\(∀ a b,num a b->zaw (a,b))/\zcR bk f/\zcR bk g/\d = .list [.bool (c.tr bk f g),.int ((pre.length+c.w.length:Nat):Int)]
def wAt{pre post:List Wd}{c:List Wd}{x:Wd}(h:c[i]?=some x):ixN ((pre++(c++post)).map Wd.d).length ((pre.length+i:Nat):Int)=some (pre.length+i)/\((pre++(c++post)).map Wd.d)[pre.length+i]?=some x.d:=by
 have hi:=(Il.mp h).1;have e:(pre++(c++post))[pre.length+i]?=some x:=by rw[IU (by omega),Nat.add_sub_cancel_left,IV hi];exact h
 refine⟨?_,by rw[Ij,e];rfl⟩;rw[Ie];exact YG (Il.mp e).1
def zm9{n:Nat}(p:Int×Int):Pl (n+1) (dF p):=ze1 λy hy=>by
 rcases IE.mp hy with rfl | hy
 .exact zd0 _
 .rw[IH.mp hy];exact zd0 _
def zkf{a b:Int×Int}(ha:zaw a)(hb:zaw b):PySem.Spec.same (dF a) (dF b)=isA (hsA a b) .like:=by
 by_cases h:a.1*b.2=b.1*a.2
 .have e:=zn1 ha hb h;subst e;rw[same_self];exact(Ip (zbP.mpr h)).symm
 .rw[show isA (hsA a b) .like=false from Iw λz=>h (zbP.mp z)];refine zdp λe=>h ?_;injection e with e;injection e with e1 e2;injection e2 with e2 _;injection e1 with e1;injection e2 with e2;rw[e1,e2]
section
def zlF{σ:St}{G:Hp}{x:Str}{ys:LB}(ha:Ev K ta σ G (.str x))(hb:Ev K tb σ G (.tuple (ys.map PyData.str))):Ev K (tOp (rIn K false) ta tb) σ G (.bool (decide (x∈ys))):=
 QR ha hb λG1 H u v Q s1 s2 hu hv k=>by
  obtain⟨p,xs,rfl,hp,hxs⟩:=hv.tup;have e:=zc6 hxs;subst e;have fl:(ys.map V.str).all za5=true:=by rw[NB];intro v m;obtain⟨s,_,rfl⟩:=N0.mp m;rfl
  have iv:inV (.str x) (ys.map V.str)=decide (x∈ys):=by
   clear fl hp hb hv hxs k;unfold inV
   induction ys with
   |nil=>simp
   |cons y r ih=>
    rw[Ng,any_cons,ih];by_cases h:y=x
    .subst h;simp[eqV]
    .have h2:¬ x=y:=λe=>h e.symm;simp[eqV,h,h2]
  rw[hu.str];refine⟨p,_,rfl,.inr (s2.tup hp),rfl,fl,?_⟩;rw[Im Ii,iv];exact k _ G1 H (YH.refl s2) (Yc _)
def Yd{x y:Str}(ha:Er K B ta ρ (.str x))(hb:Er K B tb ρ (.str y)):Er K B (tOp rEq ta tb) ρ (.bool (decide (x=y))):=λG σ r=>J7 (ha G σ r) (hb G σ r)
def Je{x:Str}{ys:LB}(ha:Er K B ta ρ (.str x))(hb:Er K B tb ρ (.tuple (ys.map PyData.str))):Er K B (tOp (rIn K false) ta tb) ρ (.bool (decide (x∈ys))):=λG σ r=>zlF (ha G σ r) (hb G σ r)
def zcJ(T:Top K mg)(Nd:Uo K=true)(N:Nat)(sp:Sp)(hsp:∀ m,N=m+1->sp=spP K (RHo m))(G__law_holds:T.Yy.O P w base (N+1) sp):T.Yy.O P w base (N+2) (spP K (RHo N)):=by
 have G__law_far:T.WR.O P w base (N+1) (spP K RFa):=(zfn T).mono (by omega);refine T.Yy.F.okP Ye (by rintro _ _ ⟨_,_,_,_,_,_,_,rfl,_⟩;rfl) λcdv A outer s H E hr ds d hR=>?_;obtain⟨pre,c,post,bk,f,g,num,rfl,hdp,ad,hnum,hf,hg,rfl⟩:=hR;have hu:=hr.units;have zl:(2000:Nat)<sizeLine:=by decide
 refine⟨_,(Zf (ZC (i:=4) Ye.nd rfl (Or.inl rfl) (ZG (Z1 (K:=K) rfl) (pv 0) (pv 1) (λ_ _=>rfl)))
   (Zf (Yv (ZJ Y6 (pv 4) ZD (ZM _)) (Zf (Vl (peN T.Yy G__law_holds hr (Za (pv 0) (Za (ZL YJ (pv 1) Zi) (Za (pv 2) (Za (pv 3) Ze Zd) Zd) ZS) Zd)) (zbm (n:=2) rfl (YD (Yh (i:=5) Ye.nd rfl (Or.inl rfl)) (YD (Yh (i:=1) Ye.nd rfl (Or.inr rfl)) Jo)) (by rfl)))
   (Zm (Zz (Z3 (Za (zfr (pv 5)) (Za (pv 1) Ze Zd) JL))))) ZQ)
   (Zf (Yv (ZJ zaB (pv 4) (Xb (Za ZD (Za ZD Ze Zg) Zg)) (by rfl)) (Zf (Vl (peN T.Yy G__law_holds hr (Za (pv 0) (Za (ZL YJ (pv 1) Zi) (Za (pv 2) (Za (pv 3) Ze Zd) Zd) ZS) Zd)) (zbm (n:=2) rfl (YD (Yh (i:=6) Ye.nd rfl (Or.inl rfl)) (YD (Yh (i:=1) Ye.nd rfl (Or.inr rfl)) Jo)) (by rfl)))
   (Zf (Vl (peN T.Yy G__law_holds hr (Za (pv 0) (Za (pv 1) (Za (pv 2) (Za (pv 3) Ze Zd) Zd) Zd) Zd)) (zbm (n:=2) rfl (YD (Yh (i:=7) Ye.nd rfl (Or.inl rfl)) (YD (Yh (i:=1) Ye.nd rfl (Or.inr rfl)) Jo)) (by rfl)))
   (Zm (Zz (Z3 (Za (ZG (Zu (K:=K) rfl) (Z3 (Za (ze7 (pv 6) (zaI (pv 7))) (Za (zhb (pv 6) (zaI (pv 7))) Ze Vy) Vy)) (Yq XH (by rfl) T.int_ zgX (Za (Y4 Y6 (pv 4) ZD (ZM _)) Ze Y0)) (λ_ _=>rfl)) (Za (pv 1) Ze Zd) Zj)))))) ZQ)
   (Zf (Yv (ZJ Y6 (pv 4) ZD (ZM _)) (Zf (ZC (i:=8) Ye.nd rfl (Or.inr rfl) (zcI (K:=K) rfl Nd OI OJ (Qs (K:=K) rfl) (pv 2) (Za (ZG (Z1 (K:=K) rfl) (pv 0) (ZL YJ (pv 1) Zi) (λ_ _=>rfl)) Ze Zj)))
   (Zm (Zz (Z3 (Za (Y4 (zax (K:=K) rfl hu) (ZG (Z1 (K:=K) rfl) (ZG (Z1 (K:=K) rfl) (pv 3) Zi (λ_ _=>rfl)) (pv 8) (λ_ _=>rfl)) (ZG (Z1 (K:=K) rfl) (ZG (Z1 (K:=K) rfl) (pv 3) Zi (λ_ _=>rfl)) (pv 8) (λ_ _=>rfl)) (ZM _)) (Za (ZL YJ (pv 1) Zi) Ze ZS) Y0))))) ZQ)
   (Zf (ZC (i:=8) Ye.nd rfl (Or.inr rfl) (zcI (K:=K) rfl Nd OI OJ (Qs (K:=K) rfl) (pv 2) (Za (ZG (Z1 (K:=K) rfl) (pv 0) (ZL YJ (pv 1) Zi) (λ_ _=>rfl)) Ze Zj)))
   (Zf (zfA (x:= "thing") (cap:=["place", "words", "at"]) (js:=[8,0,1]) (i:=9) (y:= "sides") ⟨rfl,(by decide +kernel),(by decide +kernel),rfl,(by show ∀ p∈(_:List (Str×NameKind)),p.2=NameKind.free->List.lookup p.1 (Zh Wt).names=some NameKind.cell;decide +kernel),(by decide +kernel),(by decide +kernel),(by decide +kernel)⟩ rfl rfl (λ_ _ h=>h) Ye.nd rfl rfl (zav (pv 3)) (λ_ _ _ _=>⟨X8,(peN T.WR G__law_far hr (Za (ZG (Z1 (K:=K) rfl) (pv 0) (pv 1) (λ_ _=>rfl)) (Za (ZG (Z1 (K:=K) rfl) (pv 2) (ZL YJ (pv 3) Zi) (λ_ _=>rfl)) Ze Zj) Zj))⟩))
   (Zf (zfA (x:= "side") (cap:=["words", "at"]) (js:=[0,1]) (i:=10) (y:= "marks") ⟨rfl,(by decide +kernel),(by decide +kernel),rfl,(by show ∀ p∈(_:List (Str×NameKind)),p.2=NameKind.free->List.lookup p.1 (Zh Wt).names=some NameKind.cell;decide +kernel),(by decide +kernel),(by decide +kernel),(by decide +kernel)⟩ rfl rfl (λ_ _ h=>h) Ye.nd rfl rfl (Ui (pv 9)) (λ_ _ _ _=>⟨X8,(ZG (Zu (K:=K) rfl) (Z3 (Za (Y4 Y6 (pv 0) Zi (ZM _)) (Za (Y4 zak (pv 0) Zi (ZM _)) Ze Y0) Y0)) (Yq XH (by rfl) T.int_ zgX (Za (Y4 Y6 (ZG (Z1 (K:=K) rfl) (pv 1) (ZL YJ (pv 2) Zi) (λ_ _=>rfl)) ZD (ZM _)) Ze Y0)) (λ_ _=>rfl))⟩))
   (Zm (Zz (Z3 (Za (ZG (Zu (K:=K) rfl) (Z3 (Za (ze7 (ZG (Zu (K:=K) rfl) (pv 10) Zi (λ_ _=>rfl)) (zaI (ZG (Zu (K:=K) rfl) (pv 10) Zi (λ_ _=>rfl)))) (Za (zhb (ZG (Zu (K:=K) rfl) (pv 10) Zi (λ_ _=>rfl)) (zaI (ZG (Zu (K:=K) rfl) (pv 10) Zi (λ_ _=>rfl)))) Ze Vy) Vy)) (Yq XH (by rfl) T.int_ zgX (Za (Y4 Y6 (pv 4) ZD (ZM _)) Ze Y0)) (λ_ _=>rfl)) (Za (ZL YJ (pv 1) Zi) Ze ZS) Zj))))))))))) ,?_⟩
 have at0:∀{ρ:LD}{x:Wd},ρ[0]?=some (.dat (.tuple ((pre++(c.w++post)).map Wd.d)))->ρ[1]?=some (.dat (.int (pre.length:Nat)))->c.w[0]?=some x->Er K B0 (tOp (zeU K) (Wj 0) (Wj 1)) ρ x.d:=λh0 h1 h=>Xx (Zc h0) (Zc h1) (wAt h).1 (wAt h).2;have atI:∀{ρ:LD}{x:Wd}(iw ia j:Nat),ρ[iw]?=some (.dat (.tuple ((pre++(c.w++post)).map Wd.d)))->ρ[ia]?=some (.dat (.int (pre.length:Nat)))->c.w[j]?=some x->Er K B0 (tOp (zeU K) (Wj iw) (tOp (rI0 λa b=>.int (a+b)) (Wj ia) (tC (.int (j:Nat))))) ρ x.d:=λiw ia j h0 h1 h=>Xx (Zc h0) (Xw (Xa (Zc h1) Zw λ_=>Zv _) (show _=PyData.int ((pre.length+j:Nat):Int)by rfl)) (wAt h).1 (wAt h).2;have gv:∀{h:List (Int×Int)}{z:Str},zcR bk h->z∈bk->ixN (h.map dF).length ((bk.idxOf z:Nat):Int)=some (bk.idxOf z)/\(h.map dF)[bk.idxOf z]?=some (dF (vl bk z h))/\zaw (vl bk z h):=λ{h z} hh hz=>by
  have hi:bk.idxOf z<h.length:=by rw[hh.1];exact NP hz
  have e:vl bk z h=h[bk.idxOf z]:=by unfold vl;rw[Ir,Ib hi];rfl
  refine⟨by rw[Ie];exact YG hi,by rw[Ij,Ib hi,e];rfl,by rw[e];exact hh.2 _ (IQ hi)⟩
 cases c with
 |same z=>refine Zt (ZP (ZR (at0 rfl rfl rfl) ?_));refine Zt (Xm (QV (Z0 (Yd (Zc rfl) ZX)) (by decide +kernel)) (Z4 ?_));refine Zt (Xm (QV (Z0 (Je (ys:=[S "and",S "or"]) (Zc rfl) (Wv (Zb ZX (Zb ZX Zk)) (by show 2<=sizeLine;decide)))) (by decide +kernel)) (Z4 ?_));refine Zt (Vh (QV (Z0 (Yd (Zc rfl) ZX)) (by decide +kernel)) ?_);obtain⟨f1,f2,f3⟩:=gv hf ad;obtain⟨g1,g2,g3⟩:=gv hg ad;refine Zt (ZP (ZR (zgl (Zc rfl) (atI 0 1 1 rfl rfl rfl) ad) ?_));refine Ym (ZR (Xw (Yp (Zb (zfu (n:=4) (Xx (Xx (n:=0) (Zc rfl) Zw rfl rfl) (Zc rfl) f1 f2) (Xx (Xx (n:=1) (Zc rfl) Zw rfl rfl) (Zc rfl) g1 g2) (zm9 _) (zm9 _) (by decide)) (Zb (Xa (Zc rfl) Zw λ_=>Zv _) Zk)) (by show 2<=sizeLine;decide)) ?_) rfl);rw[zkf f3 g3];rfl
 |mk ei is z q=>
  obtain⟨hz,hq⟩:=ad;obtain⟨f1,f2,f3⟩:=gv hf hz;obtain⟨g1,g2,g3⟩:=gv hg hz;have q3:zaw q:=hnum _ _ hq;refine Zt (ZP (ZR (at0 (x:=.t (wB ei)) rfl rfl rfl) ?_));refine Zt (Xm (QV (Z0 (Yd (Zc rfl) ZX)) (by cases ei <;> decide +kernel)) (Z4 ?_));refine Zt (Xm (QV (Z0 (Je (ys:=[S "and",S "or"]) (Zc rfl) (Wv (Zb ZX (Zb ZX Zk)) (by show 2<=sizeLine;decide)))) (by cases ei <;> decide +kernel)) (Z4 ?_));refine Zt (Xm (QV (Z0 (Yd (Zc rfl) ZX)) (by cases ei <;> decide +kernel)) (Z4 ?_));refine Zt (ZP (ZR (zgl (Zc rfl) (atI 0 1 2 rfl rfl rfl) hz) ?_));show Sv K B0 _ [.dat (.tuple ((pre++((Ce.mk ei is z q).w++post)).map Wd.d)),.dat (.int (pre.length:Nat)),.dat (dBk bk),.dat (.tuple [dTh f,dTh g]),.dat (.str (wB ei)),.un,.un,.un,.dat (.int (bk.idxOf z:Nat)),.un,.un] _;refine Zt (ZP (zks (js:=[8,0,1]) [f,g] dTh (λh=>some (.int (hsA (vl bk z h) q).z)) (zfw (Zc rfl)) (by show 2<sizeLine;decide) (λh hh=>?_) ?_))
  .have hth:zcR bk h:=by
    rcases IE.mp hh with e | e
    .rw[e];exact hf
    .rw[IH.mp e];exact hg
   obtain⟨h1,h2,h3⟩:=gv hth hz;exact lx1 Vd (Xe (Zb (Xx (Zc rfl) (Zc rfl) h1 h2) (Zb (atI 2 3 3 rfl rfl rfl) Zk)) ⟨vl bk z h,q,rfl,h3.1,q3.1,rfl⟩)
  refine Qj 9 rfl ?_;show Sv K B0 _ [.dat (.tuple ((pre++((Ce.mk ei is z q).w++post)).map Wd.d)),.dat (.int (pre.length:Nat)),.dat (dBk bk),.dat (.tuple [dTh f,dTh g]),.dat (.str (wB ei)),.un,.un,.un,.dat (.int (bk.idxOf z:Nat)),.dat (.list [.int (hsA (vl bk z f) q).z,.int (hsA (vl bk z g) q).z]),.un] _;refine Zt (ZP (zks (js:=[0,1]) [hsA (vl bk z f) q,hsA (vl bk z g) q] (λa=>PyData.int a.z) (λa=>some (.bool (isA a (if is=true then .like else .ahead)))) (zgC (Zc rfl)) (by show 2<sizeLine;decide) (λa ha=>?_) ?_))
  .have hw:Er K B0 (tOp (zeU K) (Wj 1) (tOp (rI0 λa b=>.int (a+b)) (Wj 2) (tC (.int (1:Nat))))) [.dat (.int a.z),.dat (.tuple ((pre++((Ce.mk ei is z q).w++post)).map Wd.d)),.dat (.int (pre.length:Nat))] (.str (wI is)):=atI (x:=.t (wI is)) 1 2 1 rfl rfl rfl;have l2:Er K B0 (zhM (YC (tOp rEq (Wj 0) (tC (.int 0))) (YC (tOp (rI0 λi j=>.bl (decide (i<j))) (Wj 0) (tC (.int 0))) Vk))) [.dat (.int a.z),.dat (.tuple ((pre++((Ce.mk ei is z q).w++post)).map Wd.d)),.dat (.int (pre.length:Nat))] (.list [.bool (isA a .like),.bool (isA a .ahead)]):=Xw (Yp (Zb (zbo (Zc rfl) Zw) (Zb (Xa (Zc rfl) Zw λ_=>Yc _) Zk)) (by show 2<=sizeLine;decide)) (by cases a <;> rfl);cases is
   .exact lx1 Vd (XJ (n:=1) l2 (Xw (Xq (Zb (Yd hw ZX) Zk)) (show _=PyData.int 1 from IT PyData.int (by decide +kernel))) rfl rfl)
   .exact lx1 Vd (XJ (n:=0) l2 (Xw (Xq (Zb (Yd hw ZX) Zk)) (show _=PyData.int 0 from IT PyData.int (by decide +kernel))) rfl rfl)
  refine Qj 10 rfl ?_;show Sv K B0 _ [.dat (.tuple ((pre++((Ce.mk ei is z q).w++post)).map Wd.d)),.dat (.int (pre.length:Nat)),.dat (dBk bk),.dat (.tuple [dTh f,dTh g]),.dat (.str (wB ei)),.un,.un,.un,.dat (.int (bk.idxOf z:Nat)),.dat (.list [.int (hsA (vl bk z f) q).z,.int (hsA (vl bk z g) q).z]),.dat (.list [.bool (mkB is (vl bk z f) q),.bool (mkB is (vl bk z g) q)])] _;have k0:Er K B0 (tOp (zeF K) (Wj 10) (tC (.int 0))) (msk [.dat (.tuple ((pre++((Ce.mk ei is z q).w++post)).map Wd.d)),.dat (.int (pre.length:Nat)),.dat (dBk bk),.dat (.tuple [dTh f,dTh g]),.dat (.str (wB ei)),.un,.un,.un,.dat (.int (bk.idxOf z:Nat)),.dat (.list [.int (hsA (vl bk z f) q).z,.int (hsA (vl bk z g) q).z]),.dat (.list [.bool (mkB is (vl bk z f) q),.bool (mkB is (vl bk z g) q)])]) (.bool (mkB is (vl bk z f) q)):=XJ (n:=0) (Zc rfl) Zw rfl rfl;have k1:Er K B0 (tOp (zeF K) (Wj 10) (tC (.int 1))) (msk [.dat (.tuple ((pre++((Ce.mk ei is z q).w++post)).map Wd.d)),.dat (.int (pre.length:Nat)),.dat (dBk bk),.dat (.tuple [dTh f,dTh g]),.dat (.str (wB ei)),.un,.un,.un,.dat (.int (bk.idxOf z:Nat)),.dat (.list [.int (hsA (vl bk z f) q).z,.int (hsA (vl bk z g) q).z]),.dat (.list [.bool (mkB is (vl bk z f) q),.bool (mkB is (vl bk z g) q)])]) (.bool (mkB is (vl bk z g) q)):=XJ (n:=1) (Zc rfl) Zw rfl rfl;cases ei
  .exact Ym (ZR (Xw (Yp (Zb (XJ (n:=0) (Yp (Zb (zdZ k0 λ_=>k1) (Zb (zfi k0 λ_=>k1) Zk)) (by show 2<=sizeLine;decide)) (Xw (Xq (Zb (Yd (Zc rfl) ZX) Zk)) (show _=PyData.int 0 from IT PyData.int (by decide +kernel))) rfl rfl) (Zb (Xa (Zc rfl) Zw λ_=>Zv _) Zk)) (by show 2<=sizeLine;decide)) rfl) rfl)
  .exact Ym (ZR (Xw (Yp (Zb (XJ (n:=1) (Yp (Zb (zdZ k0 λ_=>k1) (Zb (zfi k0 λ_=>k1) Zk)) (by show 2<=sizeLine;decide)) (Xw (Xq (Zb (Yd (Zc rfl) ZX) Zk)) (show _=PyData.int 1 from IT PyData.int (by decide +kernel))) rfl rfl) (Zb (Xa (Zc rfl) Zw λ_=>Zv _) Zk)) (by show 2<=sizeLine;decide)) rfl) rfl)
 |no c=>
  obtain⟨m,rfl⟩:∃ m,N=m+1:=⟨N-1,by have:c.dp+1<=N:=hdp;omega⟩
  obtain rfl:=hsp m rfl;refine Zt (ZP (ZR (at0 rfl rfl rfl) ?_));refine Zt (Vh (QV (Z0 (Yd (Zc rfl) ZX)) (by decide +kernel)) ?_);refine Zt (Jr (zaQ (Xe (Zb (Zc rfl) (Zb (Xa (Zc rfl) Zw λ_=>Zv _) (Zb (Zc rfl) (Zb (Zc rfl) Zk)))) ⟨pre++[.t (S "not")],c,post,bk,f,g,num,?_,by have:c.dp+1<=m+1:=hdp;omega,ad,hnum,hf,hg,rfl⟩)) (Jq ?_))
  .show _=[PyData.tuple (List.map Wd.d ((pre++[Wd.t (S "not")])++(c.w++post))),PyData.int (((pre++[Wd.t (S "not")]).length:Nat):Int),_,_]
   rw[IZ,Ig];rfl
  refine Ym (ZR (Xw (Yp (Zb (zjS (Zc rfl)) (Zb (Zc rfl) Zk)) (by show 2<=sizeLine;decide)) ?_) rfl);rw[Ig];show PyData.list [_,PyData.int ((pre.length+1+c.w.length:Nat):Int)]=PyData.list [_,PyData.int ((pre.length+(c.w.length+1):Nat):Int)];rw[show pre.length+1+c.w.length=pre.length+(c.w.length+1)by omega];rfl
 |an c e=>
  obtain⟨m,rfl⟩:∃ m,N=m+1:=⟨N-1,by have:max c.dp e.dp+1<=N:=hdp;omega⟩
  obtain rfl:=hsp m rfl;have hd1:max c.dp e.dp+1<=m+1:=hdp;refine Zt (ZP (ZR (at0 rfl rfl rfl) ?_));refine Zt (Xm (QV (Z0 (Yd (Zc rfl) ZX)) (by decide +kernel)) (Z4 ?_));refine Zt (Vh (QV (Z0 (Je (ys:=[S "and",S "or"]) (Zc rfl) (Wv (Zb ZX (Zb ZX Zk)) (by show 2<=sizeLine;decide)))) (by decide +kernel)) ?_);refine Zt (Jr (zaQ (Xe (Zb (Zc rfl) (Zb (Xa (Zc rfl) Zw λ_=>Zv _) (Zb (Zc rfl) (Zb (Zc rfl) Zk)))) ⟨pre++[.t (S "and")],c,e.w++post,bk,f,g,num,?_,(by omega),ad.1,hnum,hf,hg,rfl⟩)) (Jq ?_))
  .show[PyData.tuple (List.map Wd.d (pre++((Wd.t (S "and")::(c.w++e.w))++post))),_,_,_]=[PyData.tuple (List.map Wd.d ((pre++[Wd.t (S "and")])++(c.w++(e.w++post)))),PyData.int (((pre++[Wd.t (S "and")]).length:Nat):Int),_,_]
   rw[IZ,Ig,NA,IZ];rfl
  refine Zt (Jr (zaQ (Xe (Zb (Zc rfl) (Zb (Zc rfl) (Zb (Zc rfl) (Zb (Zc rfl) Zk)))) ⟨pre ++ .t (S "and")::c.w,e,post,bk,f,g,num,?_,(by omega),ad.2,hnum,hf,hg,rfl⟩)) (Jq ?_))
  .show[PyData.tuple (List.map Wd.d (pre++((Wd.t (S "and")::(c.w++e.w))++post))),_,_,_]=[PyData.tuple (List.map Wd.d ((pre++Wd.t (S "and")::c.w)++(e.w++post))),PyData.int (((pre++Wd.t (S "and")::c.w).length:Nat):Int),_,_]
   rw[IZ,Ig,Ig,NA,IZ,NA];simp only[IC,N7];rw[show pre.length+(0+1)+c.w.length=pre.length+(c.w.length+1)by omega]
  refine Ym (ZR (Xw (Yp (Zb (XJ (n:=0) (Yp (Zb (zdZ (Zc rfl) λ_=>Zc rfl) (Zb (zfi (Zc rfl) λ_=>Zc rfl) Zk)) (by show 2<=sizeLine;decide)) (Xw (Xq (Zb (Yd (Zc rfl) ZX) Zk)) (show _=PyData.int 0 from IT PyData.int (by decide +kernel))) rfl rfl) (Zb (Zc rfl) Zk)) (by show 2<=sizeLine;decide)) ?_) rfl);show PyData.list [_,PyData.int (((pre++Wd.t (S "and")::c.w).length+e.w.length:Nat):Int)]=PyData.list [_,PyData.int ((pre.length+(Wd.t (S "and")::(c.w++e.w)).length:Nat):Int)];rw[Ig,IC,IC,Ig,show pre.length+(c.w.length+1)+e.w.length=pre.length+(c.w.length+e.w.length+1)by omega];rfl
 |or c e=>
  obtain⟨m,rfl⟩:∃ m,N=m+1:=⟨N-1,by have:max c.dp e.dp+1<=N:=hdp;omega⟩
  obtain rfl:=hsp m rfl;have hd1:max c.dp e.dp+1<=m+1:=hdp;refine Zt (ZP (ZR (at0 rfl rfl rfl) ?_));refine Zt (Xm (QV (Z0 (Yd (Zc rfl) ZX)) (by decide +kernel)) (Z4 ?_));refine Zt (Vh (QV (Z0 (Je (ys:=[S "and",S "or"]) (Zc rfl) (Wv (Zb ZX (Zb ZX Zk)) (by show 2<=sizeLine;decide)))) (by decide +kernel)) ?_);refine Zt (Jr (zaQ (Xe (Zb (Zc rfl) (Zb (Xa (Zc rfl) Zw λ_=>Zv _) (Zb (Zc rfl) (Zb (Zc rfl) Zk)))) ⟨pre++[.t (S "or")],c,e.w++post,bk,f,g,num,?_,(by omega),ad.1,hnum,hf,hg,rfl⟩)) (Jq ?_))
  .show[PyData.tuple (List.map Wd.d (pre++((Wd.t (S "or")::(c.w++e.w))++post))),_,_,_]=[PyData.tuple (List.map Wd.d ((pre++[Wd.t (S "or")])++(c.w++(e.w++post)))),PyData.int (((pre++[Wd.t (S "or")]).length:Nat):Int),_,_]
   rw[IZ,Ig,NA,IZ];rfl
  refine Zt (Jr (zaQ (Xe (Zb (Zc rfl) (Zb (Zc rfl) (Zb (Zc rfl) (Zb (Zc rfl) Zk)))) ⟨pre ++ .t (S "or")::c.w,e,post,bk,f,g,num,?_,(by omega),ad.2,hnum,hf,hg,rfl⟩)) (Jq ?_))
  .show[PyData.tuple (List.map Wd.d (pre++((Wd.t (S "or")::(c.w++e.w))++post))),_,_,_]=[PyData.tuple (List.map Wd.d ((pre++Wd.t (S "or")::c.w)++(e.w++post))),PyData.int (((pre++Wd.t (S "or")::c.w).length:Nat):Int),_,_]
   rw[IZ,Ig,Ig,NA,IZ,NA];simp only[IC,N7];rw[show pre.length+(0+1)+c.w.length=pre.length+(c.w.length+1)by omega]
  refine Ym (ZR (Xw (Yp (Zb (XJ (n:=1) (Yp (Zb (zdZ (Zc rfl) λ_=>Zc rfl) (Zb (zfi (Zc rfl) λ_=>Zc rfl) Zk)) (by show 2<=sizeLine;decide)) (Xw (Xq (Zb (Yd (Zc rfl) ZX) Zk)) (show _=PyData.int 1 from IT PyData.int (by decide +kernel))) rfl rfl) (Zb (Zc rfl) Zk)) (by show 2<=sizeLine;decide)) ?_) rfl);show PyData.list [_,PyData.int (((pre++Wd.t (S "or")::c.w).length+e.w.length:Nat):Int)]=PyData.list [_,PyData.int ((pre.length+(Wd.t (S "or")::(c.w++e.w)).length:Nat):Int)];rw[Ig,IC,IC,Ig,show pre.length+(c.w.length+1)+e.w.length=pre.length+(c.w.length+e.w.length+1)by omega];rfl
def zft(T:Top K mg)(Nd:Uo K=true):T.Yy.O P w base 2 (spP K (RHo 0)):=zcJ T Nd 0 zjM (λm e=>by cases e) (T.Yy.F.ok Ye (λvs H Q E h=>h.elim) (λcdv A outer s H vs Q E hr h=>h.elim))
theorem zcN(T:Top K mg)(Nd:Uo K=true):∀ N:Nat,T.Yy.O P w base (N+2) (spP K (RHo N))
 |0=>zft T Nd
 |N+1=>zcJ T Nd (N+1) _ (λm e=>by injection e with e;subst e;rfl) (zcN T Nd N)
end
def RAl(N:Nat):LA->PD->Prop:=λas d=>∃(pre:List Wd)(o:Oe)(post:List Wd)(bk:LB)(f g:List (Int×Int))(num:Int->Int->Prop),as=[.tuple ((pre++(o.w++post)).map Wd.d),.int (pre.length:Nat),dBk bk,.tuple [dTh f,dTh g]]/\o.dp<=N/\o.ok (· ∈ bk) num/\(∀ a b,num a b->zaw (a,b))/\zcR bk f/\zcR bk g/\d = .list [.int (o.an bk f g).z,.int ((pre.length+o.w.length:Nat):Int)]
section
def zct(T:Top K mg)(Nd:Uo K=true)(N:Nat)(sp:Sp)(hsp:∀ m,N=m+1->sp=spP K (RAl m))(G__law_along:T.YM.O P w base (N+3) sp):T.YM.O P w base (N+4) (spP K (RAl N)):=by
 have G__law_far:T.WR.O P w base (N+3) (spP K RFa):=(zfn T).mono (by omega);have G__law_holds:T.Yy.O P w base (N+3) (spP K (RHo N)):=(zcN T Nd N).mono (by omega);refine T.YM.F.okP Z6 (by rintro _ _ ⟨_,_,_,_,_,_,_,rfl,_⟩;rfl) λcdv A outer s H E hr ds d hR=>?_;obtain⟨pre,o,post,bk,f,g,num,rfl,hdp,ad,hnum,hf,hg,rfl⟩:=hR;have hu:=hr.units;have zl:(2000:Nat)<sizeLine:=by decide
 refine⟨_,(Zf (ZC (i:=4) Z6.nd rfl (Or.inl rfl) (ZG (Z1 (K:=K) rfl) (pv 0) (pv 1) (λ_ _=>rfl)))
   (Zf (Yv (ZJ Y6 (pv 4) ZD (ZM _)) (Zm (Zz (Z3 (Za Zi (Za (ZL YJ (pv 1) Zi) Ze ZS) Zg)))) ZQ)
   (Zf (Yv (ZJ zaB (pv 4) (Xb (Za ZD (Za ZD Ze Zg) Zg)) (by rfl)) (Zf (ZC (i:=5) Z6.nd rfl (Or.inl rfl) (zcI (K:=K) rfl Nd OI OJ (Qs (K:=K) rfl) (pv 2) (Za (ZG (Z1 (K:=K) rfl) (pv 0) (ZL YJ (pv 1) Zi) (λ_ _=>rfl)) Ze Zj)))
   (Zf (ZC (i:=6) Z6.nd rfl (Or.inl rfl) (peN T.WR G__law_far hr (Za (ZG (Z1 (K:=K) rfl) (ZG (Z1 (K:=K) rfl) (pv 3) Zi (λ_ _=>rfl)) (pv 5) (λ_ _=>rfl)) (Za (ZG (Z1 (K:=K) rfl) (ZG (Z1 (K:=K) rfl) (pv 3) Zi (λ_ _=>rfl)) (pv 5) (λ_ _=>rfl)) Ze Zj) Zj)))
   (Zm (Zz (Z3 (Za (ZG (Zu (K:=K) rfl) (Z3 (Za (pv 6) (Za (ZL Us Zi (pv 6)) Ze ZS) Zd)) (Yq XH (by rfl) T.int_ zgX (Za (Y4 Y6 (pv 4) ZD (ZM _)) Ze Y0)) (λ_ _=>rfl)) (Za (ZL YJ (pv 1) Zi) Ze ZS) Zj)))))) ZQ)
   (Zf (Yv (ZJ Y6 (pv 4) ZD (ZM _)) (Zm (Zz (peN T.YM G__law_along hr (Za (pv 0) (Za (ZL YJ (pv 1) Zi) (Za (pv 2) (Za (zge rfl (pv 3) (XS (za2 QX Zi))) Ze Zj) Zd) ZS) Zd)))) ZQ)
   (Zf (ZC (i:=7) Z6.nd rfl (Or.inl rfl) VR)
   (Zf (ZC (i:=1) Z6.nd rfl (Or.inl rfl) (ZL YJ (pv 1) Zi))
   (Zf (Yv (ZJ Y6 (pv 4) ZD (ZM _)) (Zm (Vl (peN T.Yy G__law_holds hr (Za (pv 0) (Za (pv 1) (Za (pv 2) (Za (pv 3) Ze Zd) Zd) Zd) Zd)) (zbm (n:=2) rfl (YD (Yh (i:=7) Z6.nd rfl (Or.inl rfl)) (YD (Yh (i:=1) Z6.nd rfl (Or.inl rfl)) Jo)) (by rfl)))) ZQ)
   (Zf (Vl (peN T.YM G__law_along hr (Za (pv 0) (Za (pv 1) (Za (pv 2) (Za (pv 3) Ze Zd) Zd) Zd) Zd)) (zbm (n:=2) rfl (YD (Yh (i:=8) Z6.nd rfl (Or.inl rfl)) (YD (Yh (i:=1) Z6.nd rfl (Or.inl rfl)) Jo)) (by rfl)))
   (Zf (Vl (peN T.YM G__law_along hr (Za (pv 0) (Za (pv 1) (Za (pv 2) (Za (pv 3) Ze Zd) Zd) Zd) Zd)) (zbm (n:=2) rfl (YD (Yh (i:=9) Z6.nd rfl (Or.inl rfl)) (YD (Yh (i:=1) Z6.nd rfl (Or.inl rfl)) Jo)) (by rfl)))
   (Zf (Yv (ZJ Y6 (pv 4) ZD (ZM _)) (Zm (ZC (i:=7) Z6.nd rfl (Or.inl rfl) (Y4 zjV (pv 8) Zi (ZM _)))) ZQ)
   (Zm (Zz (Z3 (Za (ZG (Zu (K:=K) rfl) (Z3 (Za (pv 9) (Za (pv 8) Ze Zd) Zd)) (Yq XH (by rfl) T.int_ zgX (Za (pv 7) Ze Zd)) (λ_ _=>rfl)) (Za (pv 1) Ze Zd) Zj)))))))))))))) ,?_⟩
 have at0:∀{ρ:LD}{x:Wd},ρ[0]?=some (.dat (.tuple ((pre++(o.w++post)).map Wd.d)))->ρ[1]?=some (.dat (.int (pre.length:Nat)))->o.w[0]?=some x->Er K B0 (tOp (zeU K) (Wj 0) (Wj 1)) ρ x.d:=λh0 h1 h=>Xx (Zc h0) (Zc h1) (wAt h).1 (wAt h).2;have atI:∀{ρ:LD}{x:Wd}(iw ia j:Nat),ρ[iw]?=some (.dat (.tuple ((pre++(o.w++post)).map Wd.d)))->ρ[ia]?=some (.dat (.int (pre.length:Nat)))->o.w[j]?=some x->Er K B0 (tOp (zeU K) (Wj iw) (tOp (rI0 λa b=>.int (a+b)) (Wj ia) (tC (.int (j:Nat))))) ρ x.d:=λiw ia j h0 h1 h=>Xx (Zc h0) (Xw (Xa (Zc h1) Zw λ_=>Zv _) (show _=PyData.int ((pre.length+j:Nat):Int)by rfl)) (wAt h).1 (wAt h).2;have gv:∀{h:List (Int×Int)}{z:Str},zcR bk h->z∈bk->ixN (h.map dF).length ((bk.idxOf z:Nat):Int)=some (bk.idxOf z)/\(h.map dF)[bk.idxOf z]?=some (dF (vl bk z h))/\zaw (vl bk z h):=λ{h z} hh hz=>by
  have hi:bk.idxOf z<h.length:=by rw[hh.1];exact NP hz
  have e:vl bk z h=h[bk.idxOf z]:=by unfold vl;rw[Ir,Ib hi];rfl
  refine⟨by rw[Ie];exact YG hi,by rw[Ij,Ib hi,e];rfl,by rw[e];exact hh.2 _ (IQ hi)⟩
 cases o with
 |like=>refine Zt (ZP (ZR (at0 rfl rfl rfl) ?_));refine Zt (Vh (QV (Z0 (Yd (Zc rfl) ZX)) (by decide +kernel)) ?_);exact Ym (ZR (Xw (Yp (Zb Zw (Zb (Xa (Zc rfl) Zw λ_=>Zv _) Zk)) (by show 2<=sizeLine;decide)) rfl) rfl)
 |lf dn z=>
  obtain⟨f1,f2,f3⟩:=gv hf ad;obtain⟨g1,g2,g3⟩:=gv hg ad;refine Zt (ZP (ZR (at0 (x:=.t (wL dn)) rfl rfl rfl) ?_));refine Zt (Xm (QV (Z0 (Yd (Zc rfl) ZX)) (by cases dn <;> decide +kernel)) (Z4 ?_));refine Zt (Vh (QV (Z0 (Je (ys:=[S "up",S "down"]) (Zc rfl) (Wv (Zb ZX (Zb ZX Zk)) (by show 2<=sizeLine;decide)))) (by cases dn <;> decide +kernel)) ?_);refine Zt (ZP (ZR (zgl (Zc rfl) (atI 0 1 1 rfl rfl rfl) ad) ?_));refine Zt (ZP (ZR (Xe (Zb (Xx (Xx (n:=0) (Zc rfl) Zw rfl rfl) (Zc rfl) f1 f2) (Zb (Xx (Xx (n:=1) (Zc rfl) Zw rfl rfl) (Zc rfl) g1 g2) Zk)) ⟨vl bk z f,vl bk z g,rfl,f3.1,g3.1,rfl⟩) ?_));cases dn
  .exact Ym (ZR (Xw (Yp (Zb (XJ (n:=0) (Yp (Zb (Zc rfl) (Zb (Xa Zw (Zc rfl) λ_=>Zv _) Zk)) (by show 2<=sizeLine;decide)) (Xw (Xq (Zb (Yd (Zc rfl) ZX) Zk)) (show _=PyData.int 0 from IT PyData.int (by decide +kernel))) rfl rfl) (Zb (Xa (Zc rfl) Zw λ_=>Zv _) Zk)) (by show 2<=sizeLine;decide)) rfl) rfl)
  .refine Ym (ZR (Xw (Yp (Zb (XJ (n:=1) (Yp (Zb (Zc rfl) (Zb (Xa Zw (Zc rfl) λ_=>Zv _) Zk)) (by show 2<=sizeLine;decide)) (Xw (Xq (Zb (Yd (Zc rfl) ZX) Zk)) (show _=PyData.int 1 from IT PyData.int (by decide +kernel))) rfl rfl) (Zb (Xa (Zc rfl) Zw λ_=>Zv _) Zk)) (by show 2<=sizeLine;decide)) ?_) rfl);show PyData.list [PyData.int (0-(hsA (vl bk z f) (vl bk z g)).z),_]=PyData.list [PyData.int (hsA (vl bk z f) (vl bk z g)).turn.z,_];rw[zmw,Int.zero_sub];rfl
 |turn a=>
  obtain⟨m,rfl⟩:∃ m,N=m+1:=⟨N-1,by have:a.dp+1<=N:=hdp;omega⟩
  obtain rfl:=hsp m rfl;refine Zt (ZP (ZR (at0 rfl rfl rfl) ?_));refine Zt (Xm (QV (Z0 (Yd (Zc rfl) ZX)) (by decide +kernel)) (Z4 ?_));refine Zt (Xm (QV (Z0 (Je (ys:=[S "up",S "down"]) (Zc rfl) (Wv (Zb ZX (Zb ZX Zk)) (by show 2<=sizeLine;decide)))) (by decide +kernel)) (Z4 ?_));refine Zt (Vh (QV (Z0 (Yd (Zc rfl) ZX)) (by decide +kernel)) ?_);refine Ym (ZR (Xw (Xe (Zb (Zc rfl) (Zb (Xa (Zc rfl) Zw λ_=>Zv _) (Zb (Zc rfl) (Zb (ze2 (Zc rfl)) Zk)))) ⟨pre++[.t (S "turn")],a,post,bk,g,f,num,?_,by have:a.dp+1<=m+1:=hdp;omega,ad,hnum,hg,hf,rfl⟩) ?_) rfl)
  .show _=[PyData.tuple (List.map Wd.d ((pre++[Wd.t (S "turn")])++(a.w++post))),PyData.int (((pre++[Wd.t (S "turn")]).length:Nat):Int),_,_]
   rw[IZ,Ig];rfl
  .rw[Oe.sym bk f g a,Ig];show PyData.list [_,PyData.int ((pre.length+1+a.w.length:Nat):Int)]=PyData.list [_,PyData.int ((pre.length+(a.w.length+1):Nat):Int)];rw[show pre.length+1+a.w.length=pre.length+(a.w.length+1)by omega];rfl
 |thn a b=>
  obtain⟨m,rfl⟩:∃ m,N=m+1:=⟨N-1,by have:max a.dp b.dp+1<=N:=hdp;omega⟩
  obtain rfl:=hsp m rfl;have hd1:max a.dp b.dp+1<=m+1:=hdp;refine Zt (ZP (ZR (at0 rfl rfl rfl) ?_));refine Zt (Xm (QV (Z0 (Yd (Zc rfl) ZX)) (by decide +kernel)) (Z4 ?_));refine Zt (Xm (QV (Z0 (Je (ys:=[S "up",S "down"]) (Zc rfl) (Wv (Zb ZX (Zb ZX Zk)) (by show 2<=sizeLine;decide)))) (by decide +kernel)) (Z4 ?_));refine Zt (Xm (QV (Z0 (Yd (Zc rfl) ZX)) (by decide +kernel)) (Z4 ?_));refine Zt (ZP (ZR zgb ?_));refine Zt (ZP (ZR (Xw (Xa (Zc rfl) Zw λ_=>Zv _) (show _=PyData.int ((pre.length+1:Nat):Int)by rfl)) ?_));refine Zt (Xm (QV (Z0 (Yd (Zc rfl) ZX)) (by decide +kernel)) (Z4 ?_));show Sv K B0 _ [.dat (.tuple ((pre++((Oe.thn a b).w++post)).map Wd.d)),.dat (.int ((pre.length+1:Nat):Int)),.dat (dBk bk),.dat (.tuple [dTh f,dTh g]),.dat (.str (S "then")),.un,.un,.dat (.bool true),.un,.un] _;refine Zt (Jr (zaQ (Xe (Zb (Zc rfl) (Zb (Zc rfl) (Zb (Zc rfl) (Zb (Zc rfl) Zk)))) ⟨pre++[.t (S "then")],a,b.w++post,bk,f,g,num,?_,(by omega),ad.1,hnum,hf,hg,rfl⟩)) (Jq ?_))
  .show[PyData.tuple (List.map Wd.d (pre++((Wd.t (S "then")::(a.w++b.w))++post))),_,_,_]=[PyData.tuple (List.map Wd.d ((pre++[Wd.t (S "then")])++(a.w++(b.w++post)))),PyData.int (((pre++[Wd.t (S "then")]).length:Nat):Int),_,_]
   rw[IZ,Ig,NA,IZ];rfl
  refine Zt (Jr (zaQ (Xe (Zb (Zc rfl) (Zb (Zc rfl) (Zb (Zc rfl) (Zb (Zc rfl) Zk)))) ⟨pre ++ .t (S "then")::a.w,b,post,bk,f,g,num,?_,(by omega),ad.2,hnum,hf,hg,rfl⟩)) (Jq ?_))
  .show[PyData.tuple (List.map Wd.d (pre++((Wd.t (S "then")::(a.w++b.w))++post))),_,_,_]=[PyData.tuple (List.map Wd.d ((pre++Wd.t (S "then")::a.w)++(b.w++post))),PyData.int (((pre++Wd.t (S "then")::a.w).length:Nat):Int),_,_]
   rw[IZ,Ig,Ig,NA,IZ,NA];simp only[IC,N7];rw[show pre.length+(0+1)+a.w.length=pre.length+(a.w.length+1)by omega]
  refine Zt (Vh (QV (Z0 (Yd (Zc rfl) ZX)) (by decide +kernel)) (ZP (ZR (zl6 (Zc rfl) Zw) ?_)));have hl:(pre++Wd.t (S "then")::a.w).length+b.w.length=pre.length+(Oe.thn a b).w.length:=by show _=pre.length+(Wd.t (S "then")::(a.w++b.w)).length;rw[Ig,IC,IC,Ig];omega
  rw[hl];by_cases hz:a.an bk f g = .like
  .have e:(Oe.thn a b).an bk f g=b.an bk f g:=Iq hz;rw[e,hz];exact Ym (ZR (Yp (Zb (XJ (n:=0) (Yp (Zb (Zc rfl) (Zb (Zc rfl) Zk)) (by show 2<=sizeLine;decide)) (Xw (Xq (Zb (Zc rfl) Zk)) (show _=PyData.int 0 from IT PyData.int (by decide +kernel))) rfl rfl) (Zb (Zc rfl) Zk)) (by show 2<=sizeLine;decide)) rfl)
  .have e:(Oe.thn a b).an bk f g=a.an bk f g:=Im hz;have h1:(!decide ((a.an bk f g).z=0))=true:=by rw[Iw λq=>hz (zmr.mp q)];rfl
   rw[e,h1];exact Ym (ZR (Yp (Zb (XJ (n:=1) (Yp (Zb (Zc rfl) (Zb (Zc rfl) Zk)) (by show 2<=sizeLine;decide)) (Xw (Xq (Zb (Zc rfl) Zk)) (show _=PyData.int 1 from IT PyData.int (by decide +kernel))) rfl rfl) (Zb (Zc rfl) Zk)) (by show 2<=sizeLine;decide)) rfl)
 |pick c a b=>
  obtain⟨m,rfl⟩:∃ m,N=m+1:=⟨N-1,by have:max c.dp (max a.dp b.dp)+1<=N:=hdp;omega⟩
  obtain rfl:=hsp m rfl;have hd1:max c.dp (max a.dp b.dp)+1<=m+1:=hdp;refine Zt (ZP (ZR (at0 rfl rfl rfl) ?_));refine Zt (Xm (QV (Z0 (Yd (Zc rfl) ZX)) (by decide +kernel)) (Z4 ?_));refine Zt (Xm (QV (Z0 (Je (ys:=[S "up",S "down"]) (Zc rfl) (Wv (Zb ZX (Zb ZX Zk)) (by show 2<=sizeLine;decide)))) (by decide +kernel)) (Z4 ?_));refine Zt (Xm (QV (Z0 (Yd (Zc rfl) ZX)) (by decide +kernel)) (Z4 ?_));refine Zt (ZP (ZR zgb ?_));refine Zt (ZP (ZR (Xw (Xa (Zc rfl) Zw λ_=>Zv _) (show _=PyData.int ((pre.length+1:Nat):Int)by rfl)) ?_));have ww:∀ x y:List Wd,pre++((Oe.pick c a b).w++post)=(pre++Wd.t (S "pick")::c.w)++(a.w++(b.w++post)):=λ_ _=>by show pre++((Wd.t (S "pick")::(c.w++(a.w++b.w)))++post)=_;simp only[IZ,NA]
  refine Zt (Vh (QV (Z0 (Yd (Zc rfl) ZX)) (by decide +kernel)) (Jr (zaQ (Xe (Zb (Zc rfl) (Zb (Zc rfl) (Zb (Zc rfl) (Zb (Zc rfl) Zk)))) ⟨pre++[.t (S "pick")],c,(a.w++b.w)++post,bk,f,g,num,?_,(by omega),ad.1,hnum,hf,hg,rfl⟩)) (Jq ?_)))
  .show[PyData.tuple (List.map Wd.d (pre++((Wd.t (S "pick")::(c.w++(a.w++b.w)))++post))),_,_,_]=[PyData.tuple (List.map Wd.d ((pre++[Wd.t (S "pick")])++(c.w++((a.w++b.w)++post)))),PyData.int (((pre++[Wd.t (S "pick")]).length:Nat):Int),_,_]
   simp only[IZ,NA,nil_append,Ig,IC,N7]
  have hl1:(pre++[Wd.t (S "pick")]).length+c.w.length=(pre++Wd.t (S "pick")::c.w).length:=by simp only[Ig,IC,N7];omega
  rw[hl1];show Sv K B0 _ [.dat (.tuple ((pre++((Oe.pick c a b).w++post)).map Wd.d)),.dat (.int (((pre++Wd.t (S "pick")::c.w).length:Nat):Int)),.dat (dBk bk),.dat (.tuple [dTh f,dTh g]),.dat (.str (S "pick")),.un,.un,.dat (.bool (c.tr bk f g)),.un,.un] _;refine Zt (Jr (zaQ (Xe (Zb (Zc rfl) (Zb (Zc rfl) (Zb (Zc rfl) (Zb (Zc rfl) Zk)))) ⟨pre ++ .t (S "pick")::c.w,a,b.w++post,bk,f,g,num,?_,(by omega),ad.2.1,hnum,hf,hg,rfl⟩)) (Jq ?_))
  .rw[ww [] []]
  have hl2:(pre++Wd.t (S "pick")::c.w).length+a.w.length=(pre++Wd.t (S "pick")::(c.w++a.w)).length:=by simp only[Ig,IC];omega
  rw[hl2];refine Zt (Jr (zaQ (Xe (Zb (Zc rfl) (Zb (Zc rfl) (Zb (Zc rfl) (Zb (Zc rfl) Zk)))) ⟨pre ++ .t (S "pick")::(c.w++a.w),b,post,bk,f,g,num,?_,(by omega),ad.2.2,hnum,hf,hg,rfl⟩)) (Jq ?_))
  .rw[ww [] []];simp only[IZ,NA]
  have hl3:(pre++Wd.t (S "pick")::(c.w++a.w)).length+b.w.length=pre.length+(Oe.pick c a b).w.length:=by show _=pre.length+(Wd.t (S "pick")::(c.w++(a.w++b.w))).length;simp only[Ig,IC];omega
  rw[hl3];refine Zt (Xm (QV (Z0 (Yd (Zc rfl) ZX)) (by decide +kernel)) (Z4 ?_));cases hz:c.tr bk f g
  .have e:(Oe.pick c a b).an bk f g=b.an bk f g:=Im (by rw[hz];decide);rw[e];exact Ym (ZR (Yp (Zb (XJ (n:=0) (Yp (Zb (Zc rfl) (Zb (Zc rfl) Zk)) (by show 2<=sizeLine;decide)) (Xw (Xq (Zb (Zc rfl) Zk)) (show _=PyData.int 0 from rfl)) rfl rfl) (Zb (Zc rfl) Zk)) (by show 2<=sizeLine;decide)) rfl)
  .have e:(Oe.pick c a b).an bk f g=a.an bk f g:=Iq hz;rw[e];exact Ym (ZR (Yp (Zb (XJ (n:=1) (Yp (Zb (Zc rfl) (Zb (Zc rfl) Zk)) (by show 2<=sizeLine;decide)) (Xw (Xq (Zb (Zc rfl) Zk)) (show _=PyData.int 1 from rfl)) rfl rfl) (Zb (Zc rfl) Zk)) (by show 2<=sizeLine;decide)) rfl)
def zgQ(T:Top K mg)(Nd:Uo K=true):T.YM.O P w base 4 (spP K (RAl 0)):=zct T Nd 0 zjM (λm e=>by cases e) (T.YM.F.ok Z6 (λvs H Q E h=>h.elim) (λcdv A outer s H vs Q E hr h=>h.elim))
theorem zci(T:Top K mg)(Nd:Uo K=true):∀ N:Nat,T.YM.O P w base (N+4) (spP K (RAl N))
 |0=>zgQ T Nd
 |N+1=>zct T Nd (N+1) _ (λm e=>by injection e with e;subst e;rfl) (zci T Nd N)
def RSi:LA->PD->Prop:=λas d=>∃(o:Oe)(bk:LB)(f g:List (Int×Int))(num:Int->Int->Prop),as=[.tuple (o.w.map Wd.d),dBk bk,dTh f,dTh g]/\o.dp<=9/\o.ok (· ∈ bk) num/\(∀ a b,num a b->zaw (a,b))/\zcR bk f/\zcR bk g/\d = .int (o.an bk f g).z
def zih(T:Top K mg)(Nd:Uo K=true):T.Vc.O P w base 14 (spP K RSi):=by have G__law_along:=@zci T Nd 9;refine T.Vc.F.okP zcD (by rintro _ _ ⟨_,_,_,_,_,rfl,_⟩;rfl) λcdv A outer s H E hr ds d hR=>?_;obtain⟨o,bk,f,g,num,rfl,hdp,ad,hnum,hf,hg,rfl⟩:=hR;refine⟨_,(Zm (Zz (ZG (Zu (K:=K) rfl) (peN T.YM G__law_along hr (Za (pv 0) (Za Zi (Za (pv 1) (Za (Xb (Za (pv 2) (Za (pv 3) Ze Zd) Zd)) Ze zbz) Zd) Zg) Zd)) Zi (λ_ _=>rfl)))) ,?_⟩;refine Ym (ZR (XJ (n:=0) (ds:=[.int (o.an bk f g).z,.int ((0+o.w.length:Nat):Int)]) (Xe (Zb (Zc rfl) (Zb Zw (Zb (Zc rfl) (Zb (Wv (Zb (Zc rfl) (Zb (Zc rfl) Zk)) (by show 2<=sizeLine;decide)) Zk)))) ⟨[],o,[],bk,f,g,num,?_,hdp,ad,hnum,hf,hg,rfl⟩) Zw rfl rfl) rfl);rw[NK,nil_append];rfl
end
abbrev dOr(o:Oe):PD:=.tuple (o.w.map Wd.d)
def zlc(bk:LB)(o:Oe):Prop:=o.ok (· ∈ bk) (λa b=>zaw (a,b))/\o.w.length<=100/\o.dp<=9
def zid:∀ z∈nm6,Yr z=none:=by decide +kernel
end K61
namespace Mvs
open L2
noncomputable def inR(m:Int)(n:Int):Bool:=decide (0<=n)&&decide (n<m)
end Mvs
namespace Look
open PySem Ord Rdo
theorem pw_once{α:Type}{r:α->α->Prop}(as:∀ x y,r x y->¬ r y x):∀{a b:List α},(∀ x,x∈a↔x∈b)->a.Pairwise r->b.Pairwise r->a=b
 |[],[],_,_,_=>rfl
 |[],y::b,h,_,_=>absurd ((h y).mpr ID) Nz
 |x::a,[],h,_,_=>absurd ((h x).mp ID) Nz
 |x::a,y::b,h,h1,h2=>by
  obtain⟨p1,p2⟩:=N3.mp h1;obtain⟨q1,q2⟩:=N3.mp h2;have e:x=y:=by
   rcases IE.mp ((h x).mp ID)with e | hx
   .exact e
   .rcases IE.mp ((h y).mpr ID)with e | hy
    .exact e.symm
    .exact absurd (p1 y hy) (as _ _ (q1 x hx))
  subst e;have na:x∉a:=λm=>as _ _ (p1 x m) (p1 x m);have nb:x∉b:=λm=>as _ _ (q1 x m) (q1 x m);rw[pw_once as (λz=>⟨λm=>(IE.mp ((h z).mp (Iy _ m))).elim (λe=>absurd (e ▸ m) na) id,λm=>(IE.mp ((h z).mpr (Iy _ m))).elim (λe=>absurd (e ▸ m) nb) id⟩) p2 q2]
section
variable {L:Fs->Fs->An}{gs:List Fs}
def zcF{x:Nat}:x∈tn L gs↔x<gs.length:=(zc4 L gs).mem_iff.trans OP
abbrev lt6(L:Fs->Fs->An)(gs:List Fs)(i j:Nat):Prop:=ltN (rkZ L gs) i j
def zcc{i j k:Nat}(h:lt6 L gs i j)(h' : lt6 L gs j k):lt6 L gs i k:=by unfold lt6 ltN at *;omega
def zea:(tn L gs).Pairwise (lt6 L gs):=zdw _ _
def zlp{found:List Nat}(h1:∀ x,x∈found↔x<gs.length)(h2:found.Pairwise (lt6 L gs)):found=tn L gs:=pw_once (ziZ _) (λx=>(h1 x).trans zcF.symm) h2 zea
def zpk(wk:Wk L (· ∈ gs)){i j:Nat}(hi:i<gs.length)(hj:j<gs.length):L (th gs i) (th gs j) = .behind↔rkZ L gs j<rkZ L gs i:=by rw[zd8 wk (za9 hi) (za9 hj),(Ua _ _).2.2];unfold rkZ;omega
theorem zdE{α:Type}{p:α->Bool}:∀{l:List α},l.Pairwise (λa b=>p a=true->p b=true)->(∀ x∈l.take (l.length-l.countP p),p x=false)/\∀ x∈l.drop (l.length-l.countP p),p x=true
 |[],_=>⟨λx h=>(by simp at h),λx h=>(by simp at h)⟩
 |a::l,h=>by
  obtain⟨h1,h2⟩:=N3.mp h;obtain⟨i1,i2⟩:=zdE h2;have hc:=List.countP_le_length (p:=p) (l:=l);cases ha:p a with
  |true=>have all:∀ x∈l,p x=true:=λx hx=>h1 x hx ha;have e:(a::l).countP p=(a::l).length:=List.countP_eq_length.mpr λx hx=>(IE.mp hx).elim (λe=>e ▸ ha) (all x);rw[e,Nat.sub_self];exact⟨λx hx=>(by simp at hx),λx hx=>(IE.mp hx).elim (λe=>e ▸ ha) (all x)⟩
  |false=>
   have e:(a::l).length-(a::l).countP p=(l.length-l.countP p)+1:=by rw[List.countP_cons_of_neg (by rw[ha];exact Ii),IC];omega
   rw[e,List.take_succ_cons,List.drop_succ_cons];exact⟨λx hx=>(IE.mp hx).elim (λe=>e ▸ ha) (i1 x),i2⟩
noncomputable def bhd(L:Fs->Fs->An)(gs:List Fs)(i:Nat)(j:Nat):Bool:=isA (L (th gs j) (th gs i)) .behind
noncomputable def znr(L:Fs->Fs->An)(gs:List Fs)(found:List Nat)(i:Nat):List Nat:=found.take (found.length-found.countP (bhd L gs i))++i::found.drop (found.length-found.countP (bhd L gs i))
def zlZ(wk:Wk L (· ∈ gs)){found:List Nat}{i:Nat}(hi:i<gs.length)(h1:∀ x,x∈found↔x<i)(h2:found.Pairwise (lt6 L gs)):(∀ x,x∈znr L gs found i↔x<i+1)/\(znr L gs found i).Pairwise (lt6 L gs):=by
 have hb:∀ j,j<i->(bhd L gs i j=true↔rkZ L gs i<rkZ L gs j):=λj hj=>by unfold bhd isA;rw[Na,zpk wk (by omega) hi]
 have hp:found.Pairwise (λa b=>bhd L gs i a=true->bhd L gs i b=true):=(List.Pairwise.and_mem.mp h2).imp λ{a b} ⟨ma,mb,hab⟩ h=>by have ha:=(h1 a).mp ma;have hb':=(h1 b).mp mb;rw[hb a ha]at h;rw[hb b hb'];unfold lt6 ltN at hab;omega
 obtain⟨c1,c2⟩:=zdE hp;unfold znr;generalize found.length-found.countP (bhd L gs i)=k at c1 c2;constructor
 .intro x;have:=h1 x;rw[← List.take_append_drop k found,Nq]at this;rw[Nq,IE];constructor
  .rintro(h | h | h)
   .have:=this.mp (.inl h);omega
   .omega
   .have:=this.mp (.inr h);omega
  .intro h;by_cases e:x=i
   .exact .inr (.inl e)
   .rcases this.mpr (by omega) with h | h
    .exact .inl h
    .exact .inr (.inr h)
 .rw[← List.take_append_drop k found]at h2;obtain⟨p1,p2,p3⟩:=OG.mp h2;refine OG.mpr ⟨p1,N3.mpr ⟨λb hb' => ?_,p2⟩,λa ha b hb' => ?_⟩
  .have hbi:=(h1 b).mp (List.mem_of_mem_drop hb');have:=(hb b hbi).mp (c2 b hb');unfold lt6 ltN;omega
  .rcases IE.mp hb' with rfl | hb'
   .have hai:=(h1 a).mp (List.mem_of_mem_take ha);have h:=c1 a ha;have:¬ rkZ L gs b<rkZ L gs a:=λz=>by rw[(hb a hai).mpr z]at h;cases h
    unfold lt6 ltN;omega
   .exact p3 a ha b hb'
noncomputable def gaB(L:Fs->Fs->An)(gs:List Fs)(i j:Int):Bool:=isA (L (th gs i.toNat) (th gs j.toNat)) .ahead||(isA (L (th gs i.toNat) (th gs j.toNat)) .like&&decide (i<j))
noncomputable def oth(gs:List Fs)(ps:LX):List Nat:=(List.range gs.length).filter λp=>!decide ((p:Int)∈ps)
noncomputable def fsB(L:Fs->Fs->An)(gs:List Fs)(ps:LX):Bool:=ps.all (Mvs.inR (gs.length:Nat))&&(((ps.zip (ps.drop 1)).all λq=>gaB L gs q.1 q.2)&&(decide (ps=[])||(oth gs ps).all λo=>gaB L gs (ps.getD (ps.length-1) 0) (o:Nat)))
def zbR(wk:Wk L (· ∈ gs)){i j:Nat}(hi:i<gs.length)(hj:j<gs.length):gaB L gs (i:Nat) (j:Nat)=true↔lt6 L gs i j:=by have h:=zjs wk hi hj;unfold lt6;rw[← h];unfold gaB isA ltL;rw[NG,NG,Bool.or_eq_true,IR,Na,Na,Na,Int.ofNat_lt]
theorem zi4(wk:Wk L (· ∈ gs)):∀{qs:List Nat},(∀ q∈qs,q<gs.length)->(((qs.map λ(i:Nat)=>(i:Int)).zip ((qs.map λ(i:Nat)=>(i:Int)).drop 1)).all λq=>gaB L gs q.1 q.2)=true->qs.Pairwise (lt6 L gs)
 |[],_,_=>.nil
 |[a],_,_=>List.pairwise_singleton _ _
 |a::b::l,hq,h=>by
  have h:(gaB L gs (a:Nat) (b:Nat)&&((((b::l).map λ(i:Nat)=>(i:Int)).zip (((b::l).map λ(i:Nat)=>(i:Int)).drop 1)).all λq=>gaB L gs q.1 q.2))=true:=h;rw[IR]at h;have ih:=zi4 wk (λq hq' => hq q (Iy _ hq')) h.2;have hab:=(zbR wk (hq a ID) (hq b (Iy _ ID))).mp h.1;refine N3.mpr ⟨λc hc=>?_,ih⟩;rcases IE.mp hc with rfl | hc
  .exact hab
  .exact zcc hab ((N3.mp ih).1 c hc)
theorem pw_zip(wk:Wk L (· ∈ gs)):∀{qs:List Nat},(∀ q∈qs,q<gs.length)->qs.Pairwise (lt6 L gs)->(((qs.map λ(i:Nat)=>(i:Int)).zip ((qs.map λ(i:Nat)=>(i:Int)).drop 1)).all λq=>gaB L gs q.1 q.2)=true
 |[],_,_=>rfl
 |[a],_,_=>rfl
 |a::b::l,hq,h=>by show(gaB L gs (a:Nat) (b:Nat)&&((((b::l).map λ(i:Nat)=>(i:Int)).zip (((b::l).map λ(i:Nat)=>(i:Int)).drop 1)).all λq=>gaB L gs q.1 q.2))=true;obtain⟨h1,h2⟩:=N3.mp h;rw[IR];exact⟨(zbR wk (hq a ID) (hq b (Iy _ ID))).mpr (h1 b ID),pw_zip wk (λq hq' => hq q (Iy _ hq')) h2⟩
abbrev tnI(L:Fs->Fs->An)(gs:List Fs):LX:=(tn L gs).map λ(i:Nat)=>(i:Int)
theorem zfN:∀{ps:LX}{n:Nat},ps.all (Mvs.inR (n:Nat))=true->∃ qs:List Nat,ps=qs.map (λ(i:Nat)=>(i:Int))/\∀ q∈qs,q<n
 |[],_,_=>⟨[],rfl,λ_ h=>(by cases h)⟩
 |p::ps,n,h=>by
  rw[all_cons,IR]at h;obtain⟨qs,rfl,hq⟩:=zfN h.2;have h1:=h.1;unfold Mvs.inR at h1;rw[IR,Na,Na]at h1;refine⟨p.toNat::qs,by rw[Ng,Int.toNat_of_nonneg h1.1],λq h=>?_⟩;rcases IE.mp h with rfl | h
  .omega
  .exact hq q h
def zd5{qs:List Nat}{p:Nat}:(p:Int)∈qs.map (λ(i:Nat)=>(i:Int))↔p∈qs:=by
 constructor
 .intro h;obtain⟨q,hq,e⟩:=N0.mp h;rw[← Int.ofNat.inj e];exact hq
 .exact λh=>N0.mpr ⟨p,h,rfl⟩
def zgy(wk:Wk L (· ∈ gs))(ps:LX):fsB L gs ps=decide (ps=(tnI L gs).take ps.length):=by
 rw[Bool.eq_iff_iff,Na];unfold fsB;rw[IR,IR,Bool.or_eq_true,Na];constructor
 .rintro⟨h1,h2,h3⟩;obtain⟨qs,rfl,hq⟩:=zfN h1;have pw:=zi4 wk hq h2;rw[Ie,← OR];congr 1;by_cases e0:qs=[]
  .subst e0;rfl
  have hl:0<qs.length:=length_pos_iff.mpr e0;have h3:((oth gs (qs.map λ(i:Nat)=>(i:Int))).all λo=>gaB L gs ((qs.map λ(i:Nat)=>(i:Int)).getD ((qs.map λ(i:Nat)=>(i:Int)).length-1) 0) (o:Nat))=true:=h3.elim (λe=>absurd (List.map_eq_nil_iff.mp e) e0) id;have el:(qs.map λ(i:Nat)=>(i:Int)).getD ((qs.map λ(i:Nat)=>(i:Int)).length-1) 0=((qs[qs.length-1]'(by omega):Nat):Int):=by rw[Ie,Ir,Ij,Ib (by omega)];rfl
  rw[el,NB]at h3;have hlast:∀ q∈qs,q=qs[qs.length-1]'(by omega)\/lt6 L gs q (qs[qs.length-1]'(by omega)):=λq hq' => by
   obtain⟨k,hk,rfl⟩:=List.getElem_of_mem hq';by_cases e:k=qs.length-1
   .left;congr 1
   .exact .inr (N9.mp pw k _ hk (by omega) (by omega))
  have hll:qs[qs.length-1]'(by omega)<gs.length:=hq _ (IQ _);generalize qs[qs.length-1]'(by omega)=z at h3 hlast hll;have key:qs++(tn L gs).filter (λp=>!decide (p∈qs))=tn L gs:=by
   refine zlp (λx=>?_) (OG.mpr ⟨pw,zea.sublist List.filter_sublist,λa ha b hb=>?_⟩)
   .rw[Nq,mem_filter,zcF];constructor
    .rintro(h | h)
     .exact hq x h
     .exact h.1
    .intro h;by_cases m:x∈qs
     .exact .inl m
     .exact .inr ⟨h,by rw[Iw m];rfl⟩
   .obtain⟨b1,b2⟩:=mem_filter.mp hb;have hbn:=zcF.mp b1;have nb:b∉qs:=λm=>by rw[Ip m]at b2;cases b2
    have hzb:lt6 L gs z b:=(zbR wk hll hbn).mp (h3 b (by
     unfold oth;refine mem_filter.mpr ⟨OP.mpr hbn,?_⟩;rw[Iw (λm=>nb (zd5.mp m))];rfl))
    rcases hlast a ha with rfl | h
    .exact hzb
    .exact zcc h hzb
  have:=IT (List.take qs.length) key;rw[List.take_left]at this;exact this
 .intro h;obtain⟨qs,e⟩:∃ qs:List Nat,qs=(tn L gs).take ps.length:=⟨_,rfl⟩
  have hps:ps=qs.map λ(i:Nat)=>(i:Int):=by rw[h,e,← OR]
  have hq:∀ q∈qs,q<gs.length:=λq hq=>zcF.mp (List.mem_of_mem_take (e ▸ hq));have pw:qs.Pairwise (lt6 L gs):=by rw[e];exact zea.sublist (List.take_sublist _ _)
  have hsplit:qs++(tn L gs).drop ps.length=tn L gs:=by rw[e];exact List.take_append_drop _ _
  refine⟨?_,?_,?_⟩
  .rw[hps,NB];intro x hx;obtain⟨q,hq',rfl⟩:=N0.mp hx;have:=hq q hq';unfold Mvs.inR;rw[IR,Na,Na];omega
  .rw[hps];exact pw_zip wk hq pw
  .by_cases e0:ps=[]
   .exact .inl e0
   right;rw[NB];intro o ho;unfold oth at ho;obtain⟨o1,o2⟩:=mem_filter.mp ho;have hon:=OP.mp o1;have no:o∉qs:=λm=>by rw[hps,Ip (zd5.mpr m)]at o2;cases o2
   have hq0:qs≠[]:=λz=>e0 (by rw[hps,z];rfl);have hl:0<qs.length:=length_pos_iff.mpr hq0;have el:ps.getD (ps.length-1) 0=((qs[qs.length-1]'(by omega):Nat):Int):=by rw[hps,Ie,Ir,Ij,Ib (by omega)];rfl
   rw[el,zbR wk (hq _ (IQ _)) hon];have hod:o∈(tn L gs).drop ps.length:=by have:=(zcF (L:=L) (gs:=gs)).mpr hon;rw[← hsplit,Nq]at this;exact this.elim (λm=>absurd m no) id
   have p:=zea (L:=L) (gs:=gs);rw[← hsplit]at p;exact(OG.mp p).2.2 _ (IQ _) o hod
end
end Look
namespace K61
open PySem L2 Frac Lw PySem.NumText
open Mvs
abbrev dI(ns:LX):PD:=.tuple (ns.map PyData.int)
def zov:LA->PD->Prop:=λas d=>∃(ns:LX)(m:Int),as=[dI ns,.int m]/\ns.length<=200/\d = .bool (ns.all (inR m))
section
def zlD(T:Top K mg):T.Ja.O P w base 1 (spP K zov):=by
 refine T.Ja.F.okP zbu (by rintro _ _ ⟨ns,m,rfl,_⟩;rfl) λcdv A outer s H E hr ds d hR=>?_;obtain⟨ns,m,rfl,hl,rfl⟩:=hR;have zl:(200:Nat)<sizeLine:=by decide
 refine⟨_,(Zm (Zz (Z2 (zaL (K:=K) rfl rfl) (by rfl) T.znU znQ (Za (zbv (x:= "number") (cap:=["many"]) (js:=[1]) ⟨rfl,(by decide +kernel),(by decide +kernel),rfl,(by show ∀ p∈(_:List (Str×NameKind)),p.2=NameKind.free->List.lookup p.1 (Zh Jb).names=some NameKind.cell;decide +kernel),(by decide +kernel),(by decide +kernel),(by decide +kernel)⟩ rfl rfl (λ_ _ h=>h) (zav (pv 0)) (λ_ _ _ _=>⟨X8,(zhU zhg zak Zi (pv 0) (pv 1))⟩)) Ze Wn)))) ,?_⟩;refine Ym (ZR (Xw (zfB (bs:=ns.map (inR m)) (Zb (Xw (zm8 (js:=[1]) ns PyData.int (λn=>some (.bool (inR m n))) (zfw (Zc rfl)) (by omega) λa ha=>lx1 Vd (zbw Zw (Zc rfl) (Zc rfl))) ?_) Zk)) ?_) rfl)
 .rw[JT,N8];rfl
 .rw[all_map];rfl
end
open Ord Look Rdo Mvs
abbrev anL(bk:LB)(o:Oe):Fs->Fs->An:=λf g=>o.an bk f g
structure OBR(o:Oe)(bk:LB)(ac:List Fs):Prop where
 ho:zlc bk o
 hb:zgT bk
 hr:∀ g∈ac,zcR bk g
 hl:ac.length<64
 hk:Wk (anL bk o) (· ∈ ac)
inductive RTp:LA->PD->Prop
 |mk (o:Oe) (bk:LB) (ac:List Fs) (_:OBR o bk ac):RTp [dOr o,dBk bk,.tuple (ac.map dTh)] (dN (tn (anL bk o) ac))
inductive RAt:LA->PD->Prop
 |mk (o:Oe) (bk:LB) (ac:List Fs) (p:Nat) (_:OBR o bk ac) (_:p<ac.length):RAt [dOr o,dBk bk,.tuple (ac.map dTh),.int (p:Nat)] (.tuple [dTh (th ac ((tn (anL bk o) ac).getD p 0)),.int ((tn (anL bk o) ac).getD p 0:Nat)])
inductive RFp:LA->PD->Prop
 |mk (o:Oe) (bk:LB) (ac:List Fs) (m:Nat) (_:OBR o bk ac) (_:m<=ac.length):RFp [dOr o,dBk bk,.tuple (ac.map dTh),.int (m:Nat)] (dI ((tnI (anL bk o) ac).take m))
def zoK{bk:LB}(hb:zgT bk):∀ z∈bk,Yr z=none:=λz hz=>zid z (hb.2.2 z hz)
section
variable {B:Hp}
def zdN(T:Top K mg)(hB1:B T.Z8=some (.tbl Z5))(hB2:B T.Yn=some (.tbl λ_ _=>some Ys))(Nd:Uo K=true)(M:Bs K mg base)(W:Wds K w.params mg)(W1:Txs K w.params mg "AHEAD" Wl)(W2:Txs K w.params mg "OTHER_WAY" X7):T.JF.O P w base 10 (zgF K B RTp):=
 (zeH T Nd M W W1 W2).imp λvs H Q E h=>by
  obtain⟨G,ds,d,sB,sg,hv,hR,kk⟩:=h;cases hR with
  |mk o bk ac q=>
  obtain⟨vo,r,rfl,h0,hv⟩:=hv.cons;obtain⟨vb,r,rfl,h1,hv⟩:=hv.cons;obtain⟨v2,r,rfl,h2,hv⟩:=hv.cons;cases hv.nil;obtain⟨pb,_,rfl,_,_⟩:=id h1.tup;have hw:=zoK q.hb;have eL:Wq bk o.w=anL bk o:=funext λf=>funext λg=>zhq (Oe.ev hw f g q.ho.1);refine⟨G,bk,vo,pb,[v2],[dOs o.w,.tuple (ac.map dT)],dN (tn (Wq bk o.w) ac),rfl,⟨sB _ _ hB1,sB _ _ hB2⟩,sg,h1,ZV h0 (ZV h2 Z9),⟨o.w,_,ac,rfl,⟨Oe.zcW q.ho.1,λa b (h:zaw (a,b))=>h.1,hw,by have:=q.ho.2.1;omega⟩,λg hg=>⟨(q.hr g hg).1,λp hp=>((q.hr g hg).2 p hp).1⟩,q.hl,by rw[eL];exact q.hk,rfl⟩,λv G' H' g' hv=>?_⟩;rw[eL]at hv;exact kk v G' H' g' hv
def zna(T:Top K mg)(hB1:B T.Z8=some (.tbl Z5))(hB2:B T.Yn=some (.tbl λ_ _=>some Ys))(Nd:Uo K=true)(M:Bs K mg base)(W:Wds K w.params mg)(W1:Txs K w.params mg "AHEAD" Wl)(W2:Txs K w.params mg "OTHER_WAY" X7):T.QC.O P w base 11 (zgF K B RAt):=by
 have G_turning:=@zdN B T hB1 hB2 Nd M W W1 W2;refine T.QC.F.znK zaP (by rintro _ _ ⟨⟩;rfl) λcdv A outer s H E hr ds d hR=>?_;cases hR with
 |mk o bk ac p q hp=>
 have tl:=zfI (anL bk o) ac;have hti:(tn (anL bk o) ac).getD p 0<ac.length:=by rw[Ir,Ib (by omega)];exact znY (IQ _)
 refine⟨_,(Zf (Yv (zbn (zdC zhg zak Zi (pv 3) (Z2 (Yb (K:=K) rfl) (by rfl) T.zaA II (Za (pv 2) Ze Zd)))) zas ZQ)
   (Zf (ZC (i:=4) zaP.nd rfl (Or.inl rfl) (ZG (Z1 (K:=K) rfl) (peN T.JF G_turning hr (Za (pv 0) (Za (pv 1) (Za (pv 2) Ze Zd) Zd) Zd)) (pv 3) (λ_ _=>rfl)))
   (Zm (Zz (Xb (Za (ZG (Z1 (K:=K) rfl) (pv 2) (pv 4) (λ_ _=>rfl)) (Za (pv 4) Ze Zd) Zj)))))) ,?_⟩
 refine Zt (Xm (QV (zcr (Z0 (zbw Zw (Zc rfl) (Xw (J0 (Zb (Zc rfl) Zk)) (by rw[Ie]))))) ?_) (Z4 ?_))
 .rw[Ip (show(0:Int)<=(p:Nat)by omega),Ip (show((p:Nat):Int)<(ac.length:Nat)by omega)];rfl
 refine Zt (ZP (ZR (Xx (n:=p) (d:=.int ((tn (anL bk o) ac).getD p 0:Nat)) (Vj (Zb (Zc rfl) (Zb (Zc rfl) (Zb (Zc rfl) Zk))) ⟨o,bk,ac,q⟩) (Zc rfl) (by rw[Ie,tl];exact YG hp) (by rw[Ij,Ir,Ib (by omega)];rfl)) ?_));generalize (tn (anL bk o) ac).getD p 0=z at hti;exact Ym (ZR (Wv (Zb (Xx (n:=z) (Zc rfl) (Zc rfl) (by rw[Ie];exact YG hti) (by rw[Ij,Ib hti];show some _=some (dTh (ac.getD z []));rw[Ir,Ib hti];rfl)) (Zb (Zc rfl) Zk)) (by show 2<=sizeLine;decide)) rfl)
def zfV(T:Top K mg)(hB1:B T.Z8=some (.tbl Z5))(hB2:B T.Yn=some (.tbl λ_ _=>some Ys))(Nd:Uo K=true)(M:Bs K mg base)(W:Wds K w.params mg)(W1:Txs K w.params mg "AHEAD" Wl)(W2:Txs K w.params mg "OTHER_WAY" X7):T.Wr.O P w base 11 (zgF K B RFp):=by
 have G_turning:=@zdN B T hB1 hB2 Nd M W W1 W2;refine T.Wr.F.znK zan (by rintro _ _ ⟨⟩;rfl) λcdv A outer s H E hr ds d hR=>?_;cases hR with
 |mk o bk ac m q hm=>
 refine⟨_,(Zf (Yv (zbn (zdC zhg zhg Zi (pv 3) (Z2 (Yb (K:=K) rfl) (by rfl) T.zaA II (Za (pv 2) Ze Zd)))) zas ZQ)
   (Zm (Zz (XM (WT (K:=K) rfl) (peN T.JF G_turning hr (Za (pv 0) (Za (pv 1) (Za (pv 2) Ze Zd) Zd) Zd)) W6 (XS (pv 3)))))) ,?_⟩
 refine Zt (Xm (QV (zcr (Z0 (zbw Zw (Zc rfl) (Xw (J0 (Zb (Zc rfl) Zk)) (by rw[Ie]))))) ?_) (Z4 ?_))
 .rw[Ip (show(0:Int)<=(m:Nat)by omega),Ip (show((m:Nat):Int)<=(ac.length:Nat)by omega)];rfl
 exact Ym (ZR (Xw (zbj (Vj (Zb (Zc rfl) (Zb (Zc rfl) (Zb (Zc rfl) Zk))) ⟨o,bk,ac,q⟩) V3 (zdS rfl)) (by rw[Vo];unfold dI;rw[OR,N8];rfl)) rfl)
end
end K61
namespace L2
open PySem PySem.Spec PyProof.Rows Lw
variable {js:List Nat}{α:Type}{tt:TT}{i:Nat}{RH:AD->St->Hp->Prop}{ds:LA}
section
variable {K:FG}{B:Hp}{ρ:LD}{σ:St}{G H:Hp}{te:TE}{a b:PD}
def zjr{x y:V}(r:Rx K B G σ ρ)(hx:Dat K G x a)(hy:Dat K G y b):Rx K B G (some x::some y::WK σ js) (.dat a :: .dat b::za0 ρ js):=by
 have r1:=zf6 (js:=js) r hy;refine⟨r1.1,λk e h=>?_,λk u e h hu=>?_,λk T h=>?_,λk ns h=>?_,λk z h=>?_⟩
 .cases k with
  |zero=>cases h;exact⟨x,rfl,hx⟩
  |succ k=>exact r1.2.1 k e h
 .cases k with
  |zero=>cases h;cases hu
  |succ k=>exact r1.2.2.1 k u e h hu
 .cases k with
  |zero=>cases h
  |succ k=>exact r1.2.2.2.1 k T h
 .cases k with
  |zero=>cases h
  |succ k=>exact r1.2.2.2.2.1 k ns h
 .cases k with
  |zero=>cases h
  |succ k=>exact r1.2.2.2.2.2 k z h
def zkL{wi:TI}(as:List α)(ea eb:α->PD)(f:α->Option PD)(h:Ei K B wi ρ (as.map λa=>.tuple [ea a,eb a]))(hn:as.length<sizeLine)(hc:∀ a∈as,Lcx K B tt te (.dat (ea a) :: .dat (eb a)::za0 ρ js) (f a))(r:Rx K B G σ ρ)(s:ZF G H){Q:VK}(k:∀ p xs G' H',YH G H G' H' -> H' p=none->YB K G' xs (as.filterMap f)->Q (.ref p) (upd H' p (.lst xs))):zod K wi js tt te σ H Q:=by
 refine h G H σ r s _ λJ G2 H2 g2 W=>?_;have fl:∀ i (hi:i<as.length),((as.take (i+1)).filterMap f)=(as.take i).filterMap f++(f as[i]).toList:=λi hi=>by rw[take_succ,Ox,Ib hi];show _++List.filterMap f [as[i]]=_;rw[NC];cases f as[i] <;> rfl
 refine⟨λi m ys H' => m=as.length-i/\i<=as.length/\ys.length<=i/\∃ G',YH G2 H2 G' H' /\ YB K G' ys ((as.take i).filterMap f),⟨as.length,(by omega),(by omega),(by simp),G2,YH.refl g2.gh,by simpa using Z9⟩,?_⟩;rintro i m ys H' ⟨rfl,hi,hl,G',g',hys⟩;refine⟨(by omega),?_⟩;have sgh:ZF G2 H':=g'.gg.trans g'.gh;by_cases hin:i=as.length
 .subst hin;refine .inl ⟨W.stop _ H' sgh (by rw[Ie]),λp hp=>?_⟩;rw[OE]at hys;exact k p ys G' H' (g2.trans g') hp hys
 .have hi' : i<as.length:=by omega
  refine .inr ⟨W.go i H' sgh (by rw[Ie];exact hi'),λx H'' hy=>?_⟩;obtain⟨G3,g3,hx⟩:=W.yld i H' x H'' G' (.tuple [ea as[i],eb as[i]]) g'.gg g'.gh (by rw[Ij,Ib hi'];rfl) hy;obtain⟨p,xs,rfl,hp,hx⟩:=hx.tup;obtain⟨y,r1,rfl,hy1,hx⟩:=hx.cons;obtain⟨z,r2,rfl,hz1,hx⟩:=hx.cons;cases hx.nil;have rx:=zjr (js:=js) ((r.mono (g2.gg.trans g'.gg)).mono g3.gg) hy1 hz1;refine⟨p,y,z,rfl,g3.gh.tup hp,?_⟩;rcases hc as[i] (IQ hi')with⟨d,hf,ht,he⟩ | ⟨hf,ht⟩
  .refine ht _ _ rx G3 H'' (ZF.refl _) g3.gh _ λG4 H4 g4=>?_;rw[Iq rfl];refine he _ _ (rx.mono g4.gg) G4 H4 (ZF.refl _) g4.gh _ λv G5 H5 g5 hv=>⟨as.length-(i+1),(by omega),rfl,(by omega),by rw[Ig];show ys.length+1<=i+1;omega,G5,((g'.trans g3).trans g4).trans g5,?_⟩
   rw[fl i hi',hf];exact XF (hys.same ((g3.gg.trans g4.gg).trans g5.gg)) hv
  .refine ht _ _ rx G3 H'' (ZF.refl _) g3.gh _ λG4 H4 g4=>?_;rw[Im Ii];refine⟨as.length-(i+1),(by omega),rfl,(by omega),(by omega),G4,(g'.trans g3).trans g4,?_⟩;rw[fl i hi',hf];show YB K G4 ys (_++[]);rw[NK];exact hys.same (g3.gg.trans g4.gg)
def zmm{wi:TI}(as:List α)(ea eb:α->PD)(f:α->Option PD)(h:Ei K B wi ρ (as.map λa=>.tuple [ea a,eb a]))(hn:as.length<sizeLine)(hc:∀ a∈as,Lcx K B tt te (.dat (ea a) :: .dat (eb a)::za0 ρ js) (f a)):Er K B (zod K wi js tt te) ρ (.list (as.filterMap f)):=λG σ r G1 H s1 s2 Q k=>
 zkL as ea eb f h hn hc (r.mono s1) s2 λp xs G' H' g hp hd=>by have g3:=YF (o:=.lst xs) g.gh hp;exact k _ _ _ (g.trans g3) (Xd Zo (hd.same g3.gg))
end
open PySem PySem.Spec PyProof.Rows
def zdz{X:Cx}{K:FG}(eK:X.K=K){tg l:Expr}{tl:TE}(hl:PE X l tl):PI X tg l (zhh K tl):=by subst eK;exact Ui hl
section
variable {K:FG}{B:Hp}{ρ:LD}{te ta tb:TE}
theorem zcz{G G' : Hp}:∀{ds:LA}{xs:LC},YB K G' xs ds->(∀ d∈ds,flat d=true)->YB K G xs ds
 |[],xs,h,_=>by rw[h.nil];exact Z9
 |d::ds,xs,h,hf=>by obtain⟨y,ys,rfl,hy,hr⟩:=h.cons;exact ZV (hy.flat (hf d ID) G) (zcz hr λe he=>hf e (Iy _ he))
end
section
variable {K:FG}{B:Hp}{ρ:LD}{te ta tb tx:TE}{E:AD->Prop}{G0 H0 G H:Hp}{σ:St}{F:Nat->LH}
def zhR{X:Cx}(e:X.K=K):OpR X (compareOp .NotIn) (rIn K true):=by subst e;exact zb8
def zln{wi:TI}{R:PV->LD->Prop}(as:List α)(enc:α->PD)(f:α->Option PD)(h:Ei K B wi ρ (as.map enc))(hn:as.length<sizeLine)(hc:∀ a∈as,Lcx K B tt te (.dat (enc a)::za0 ρ js) (f a))(hf:∀ a∈as,∀ d,f a=some d->flat d=true)(k:R (.own (as.filterMap f)) ρ):Eg K B (tLC wi js tt te) ρ R:=λE G0 H0 G H σ F r Q q=>by
 obtain⟨s1,s2,x⟩:=r.gpl;refine zfh as enc f h hn hc x s2 λp xs G' H' g hp hd=>?_;have hd2:YB K G xs (as.filterMap f):=zcz hd λd hd' => by obtain⟨a,ha,e⟩:=mem_filterMap.mp hd';exact hf a ha d e
 obtain⟨a,b,c⟩:=(r.grow (Uv r.g.gh g.hh)).zmN hp hd2;exact q _ _ _ G _ F [p] k (ZF.refl _) a b c
def SvE(E:AD->Prop)(K:FG)(B:Hp)(t:TS)(ρ:LD)(R:Pn):Prop:=∀ G0 H0 G H σ F D,Rl K B E G0 H0 G H σ ρ F->Dn K B E G0 H0 G R D->t D σ H
def svE{t:TS}{R:Pn}(h:Sv K B t ρ R):SvE E K B t ρ R:=λG0 H0 G H σ F D=>h _ G0 H0 G H σ F D
abbrev Sv0(K:FG)(B:Hp)(t:TS)(ρ:LD)(R:Pn):Prop:=SvE (λ_=>False) K B t ρ R
def sv0{t:TS}{R:Pn}(h:Sv K B t ρ R):Sv0 K B t ρ R:=svE h
def Fun.zlj{P:Program}{w:World}{mg:Str->LG}{base:Heap}{x qual:Str}{st:Stmt}{f:AD}{fd:FuncData}{N ps:LB}{k:Nat}{R:LA->PD->Prop}(Fn:Fun K x qual st f fd)(S:ZK N ps (Zh st))(len:∀ ds d,R ds d->ds.length=ps.length)(hb:∀(cdv:Value)(A:Around)(outer:LJ)(s:SH)(H:Hp)(E:XK),cdv=fd.code->Wz k (A.deeper (envOfC qual (Zh st) s.heap.objs.size f cdv))->∀ ds d,R ds d->
   ∃ t,PSs (zbJ CX0 P w K mg base N qual (Zh st) f cdv A outer s H E).nox (Yj st) t/\Sv0 K B t (W9 N (ds.map .dat)) {nx:=λ_=>d = .none,rt:=λr _=>r = .dat d}):VH P w K mg base CX0 (k+1) f fd ps (zgF K B R):=by
 refine Fn.okC S (λvs H Q E h=>?_) λcdv A outer s H vs Q E hcd hr h=>?_
 .obtain⟨G,ds,d,_,_,hv,hR,_⟩:=h;rw[hv.length];exact len ds d hR
 .obtain⟨G,ds,d,sb,sg,hv,hR,kk⟩:=h;obtain⟨t,ht,hs⟩:=hb cdv A outer s H E hcd hr ds d hR;refine⟨t,ht,hs _ _ _ _ _ _ _ (zf1 sb sg hv) ⟨λe _ r=>?_,λe _ r sl n=>?_,λe=>e.elim,λe=>e.elim⟩⟩
  .have e:d = .none:=e;subst e;exact kk _ _ _ r.g.zdD Q4
  .subst e;obtain⟨_,y,hy,hd⟩:=sl;cases hy;exact kk _ _ _ r.g.zdD hd
end
def CellsAre.unX{s s' : SH}{H H' : Hp}{cl:List (Str×AD)}{cap:LB}{vals:St}{fs ex:LH}(C:CellsAre s H cl cap vals)(u:Un fs ex H H' s.heap s'.heap)(hx:∀ y c,cl.lookup y=some c->c∉ex):CellsAre s' H' cl cap vals:=by
 have kc:∀ c v,H c=none->c∉ex->s.heap.IsCell c v->s'.heap.IsCell c v:=λc v n ne h=>by obtain⟨o,ho,hd⟩:=h;obtain⟨sl,e⟩:=u.any ho n ne;exact⟨_,e,hd⟩
 refine⟨C.inj,λx c h=>?_,λi y v h1 h2=>?_⟩
 .obtain⟨⟨v,hv⟩,n⟩:=C.isc x c h;obtain⟨o,ho,hd⟩:=id hv;exact⟨⟨v,kc c v n (hx x c h) hv⟩,u.free c o ho n (hx x c h)⟩
 .obtain⟨c,w,e1,e2,r⟩:=C.val i y v h1 h2;exact⟨c,w,e1,kc c _ (C.isc y c e1).2 (hx y c e1) e2,r⟩
inductive zab(P:Program)(w:World)(K:FG)(mg:Str->LG)(base:Heap)(k:Nat)(f:AD)(n:Nat)(sp:Sp)(ex:LH)(s:SH)(H:Hp):Prop
 |mk (name q:Str) (params:Arguments) (body:List Stmt) (sc:Scope) (cl:List (Str×AD)) (cap:LB) (vals:St) (H1:Hp) (_:∀ y c,cl.lookup y=some c->c∉ex) (_:Kp H1 H) (_:Qa H f name q params body sc cl) (_:CellsAre s H cl cap vals)
  (_:∀(A:Around)(outer:LJ)(s' : SH)(H' : Hp)(us:LF)(vs:LC)(Q:VK),Wz k A->zdQ P w K mg base A outer s' H' -> Kp H1 H' -> Qa H' f name q params body sc cl->CellsAre s' H' cl cap vals->Vals vs us->vs.length=n->sp vs H' Q E0->
   codeAny (model P w) A (.call (.ref f) ⟨us,[]⟩) (CR CX0 outer P w H' s' Q E0) s'):zab P w K mg base k f n sp ex s H
section
variable {P:Program}{w:World}{K:FG}{mg:Str->LG}{base:Heap}{k n:Nat}{f:AD}{sp:Sp}{s s' : SH}{H H' : Hp}{ex:LH}
def zab.un{fs:LH}(C:zab P w K mg base k f n sp ex s H)(u:Un fs ex H H' s.heap s'.heap):zab P w K mg base k f n sp ex s' H':=by
 cases C with
 |mk name q params body sc cl cap vals H1 h0 h1 h2 h3 h4=>exact⟨name,q,params,body,sc,cl,cap,vals,H1,h0,h1.trans ⟨u.tups,u.frzs,u.tbls⟩,h2.same u.frzs,h3.unX u h0,h4⟩
theorem zab.fnAt(C:zab P w K mg base k f n sp ex s H)(ok:HOk P w H s.heap):PySem.W.FnAt f s.heap:=by
 cases C with
 |mk name q params body sc cl cap vals H1 h0 h1 h2 h3 h4=>exact h2.fnAt ok
def zab.run{A:Around}{outer:LJ}{us:LF}{vs:LC}{Q:VK}(C:zab P w K mg base k f n sp ex s H)(hr:Wz k A)(e0:zdQ P w K mg base A outer s H)(r:Vals vs us)(hl:vs.length=n)(hs:sp vs H Q E0):
  codeAny (model P w) A (.call (.ref f) ⟨us,[]⟩) (CR CX0 outer P w H s Q E0) s:=by
 cases C with
 |mk name q params body sc cl cap vals H1 h0 h1 h2 h3 h4=>exact h4 A outer s H us vs Q hr e0 h1 h2 h3 r hl hs
end
section
variable {X:Cx}{k i n:Nat}{x:Str}{f:AD}{sp:Sp}{e:Expr}{es:List Expr}{t:TA}{p pos:Pos}
def zcs(hN:X.N[i]?=some x)(hv:Vis X.env.scope x)(hr:Wz k X.A)(C:zab X.prog X.w X.K X.mg X.base k f n sp X.ex X.s₀ X.H₀)(ha:PA X (e::es) t)(hd:(x==("__debug__" : Str))=false:=by decide)(hcd:(x==("__classdict__" : Str))=false:=by decide)(he:starEach (e::es) X.env=(false,eval e X.env)::starEach es X.env:=by rfl)(hpl:(backTo pos (starEach es X.env)).any (·.1)=false:=by rfl):
  PE X (.Call (.Name x p) (e::es) [] pos) (zd2 i f n sp t):=by
 intro aa s σ H Q I h;obtain⟨eσ,h⟩:=h;refine Nt (thn (zgD hN hv hd hcd aa s σ H (λv H' => v = .ref f/\H'=H) I ⟨_,eσ,rfl,rfl⟩) λu s1 h1=>?_);obtain⟨v,H1,I1,r,ev,eH⟩:=h1;subst ev eH;obtain rfl:u=Value.ref f:=r;refine callWith_F ((C.un I1.base).fnAt I1.ad) (thn (ha pos aa s1 σ H1 _ I1 h) λus s2 h2=>?_) he hpl;obtain⟨vs,H2,I2,rv,hl,hq⟩:=h2;refine⟨(C.un I2.base).fnAt I2.ad,?_⟩;refine wpAny_call (Ob ((C.un I2.base).run hr I2.env0 rv hl hq) λr s' hq' => ?_);cases r with
 |error e=>exact False.elim hq'
 |ok fl=>
  cases fl with
  |ret u=>exact I2.after hq'
  |next=>exact False.elim hq'
  |brk=>exact False.elim hq'
  |cont=>exact False.elim hq'
end
section
variable {X:Cx}{aa:List (Addr×Obj)}{σ:St}{H:Hp}{s:SH}{sc:Scope}{ps loc cap:LB}{name q:Str}{params:Arguments}{body:List Stmt}{f:AD}{k:Nat}{sp:Sp}{ex:LH}
def zme(I:Inv X aa σ H s)(hf:∀ b∈ex,zcQ X aa H b)(S:Y9 X.env.scope sc ps loc cap)(hjs:js.map (λj=>X.N[j]?)=cap.map some)(L:Qa H f name q params body sc (Jz X.env sc.names []))(hbind:∀(cl:List (Str×AD))(us:LF),us.length=ps.length->∀(doc pm ctv:Value)(c' : AD),bindArgs (PySem.W.fnX name q params body sc cl .none .none doc pm none (.ref c') ctv) ⟨us,[]⟩=pure (ps.zip us))(hbody:∀(A:Around)(outer:LJ)(s' : SH)(H' : Hp)(vs:LC)(Q:VK)(f c' : AD)(cl:List (Str×AD)),Wz k (A.deeper (zhB q sc s'.heap.objs.size f (.ref c') cl))->Kp H H' -> vs.length=ps.length->sp vs H' Q E0->
   ∃ t,PSs (Uz X.prog X.w X.K X.mg X.base (ps++loc++cap) q sc f c' cl A outer s' H') body t/\t {nx:=λ_ H' => Q .non H',rt:=Q} (vs.map some++List.replicate loc.length none++WK σ js) H'):
  zab X.prog X.w X.K X.mg X.base (k+1) f ps.length sp ex s H:=by
 have lenJ:js.length=cap.length:=by have:=IT List.length hjs;simpa using this
 refine⟨name,q,params,body,sc,Jz X.env sc.names [],cap,WK σ js,H,λy c h hx=>?_,Kp.refl H,L,I.cellsOf S hjs,λA outer s' H' us vs Q hr e0 kp L' C' r hl hs=>?_⟩
 .exact(hf c hx).2.2.2.2.1 y c (S.sub I.ok h) rfl
 refine zgp S (λy hy=>?_) (λy c hc=>?_) hr e0 L' C' (hbind _ us (by rw[← r.length];exact hl)) hl (by unfold WK;rw[Ie,lenJ]) r λc' hr' => hbody A outer s' H' vs Q f c' _ hr' kp hl hs
 .exact NE.mp (W7 (env:=X.env) (acc:=[]) (IJ hy))
 .rcases zaW hc with m | m
  .exact lookup_mem S.ndn m
  .cases m
end
section
variable {X:Cx}{aa:List (Addr×Obj)}{σ:St}{H:Hp}{s:SH}{sc:Scope}{ps loc cap:LB}{P c:AD}{cr:Nat->Nat->Option Str}{name q:Str}{params:Arguments}{body:List Stmt}{pos:Pos}
def zjQ(S:Y9 X.env.scope sc ps loc cap)(hcode:X.env.code = .ref c)(C:CodeHd X.base c P)(hbm:BM X.mg X.base)(hq:q=qualnameIn X.env name name)(hcr:cr pos.line pos.col=some q)(hN:X.N.Nodup)(hi:X.N[i]?=some name)(hx:Loc X.env.scope name)(hfn:X.fn name=true\/X.env.scope.names.lookup name=some .local)(hd0:params.defaults=[]:=by rfl)(hk0:params.kw_defaults=[]:=by rfl)(ha:annTrees params none X.env=[]:=by rfl):
  PS X (.FunctionDef name params body [] none [] sc none name pos) (znA i P cr name q params body sc (Jz X.env sc.names [])):=by
 intro aa s σ H D I h;obtain⟨hP,h⟩:=h;refine nestDef_K hd0 hk0 ha ?_;rw[← hq];refine thn (zi2 S hcode C hbm hcr I hP) λv s' ⟨f,H',I',ev,hf,sm,L⟩=>?_;subst ev;exact JZ I' hN hi hx (show RelV (.ref f) (.ref f)from rfl) (λs2 I2=>⟨_,H',I2,h f H' hf sm L⟩) hfn
end
def zn0(RH:St->Hp->Prop)(wi:TI):TI:=fun σ H R=>wi σ H λJ H1=>RH σ H1/\R J H1
def zoE(RH:AD->St->Hp->Prop)(wi:TI)(js:List Nat)(tt:TT)(te:AD->TE):TE:=fun σ H Q=>∃ f,tLC (zn0 (RH f) wi) js tt (te f) σ H Q
def zlw(K:FG)(RH:AD->St->Hp->Prop)(wi:TI)(js:List Nat)(tt:TT)(te:AD->TE):TE:=fun σ H Q=>∃ f,zod K (zn0 (RH f) wi) js tt (te f) σ H Q
section
variable {X:Cx}{sc:Scope}{x x2:Str}{cap:LB}
def zlq(S:WY X.env.scope sc x cap)(hjs:js.map (λj=>X.N[j]?)=cap.map some)(hc:X.calm=true)(hxe:∀ e s,¬ X.xe e s){elt iter:Expr}{ifs:List Expr}{pos px:Pos}{wi:TI}{te:AD->TE}(hi:PI X (.Name x px) iter wi)(hb:∀ f aa σ C s0 H0 ex,Inv X aa σ H0 s0->(∀ b∈ex,zcQ X aa H0 b)->RH f σ H0->PIf (Xg X sc (x::cap) C s0 H0 ex) ifs tt/\PE (Xg X sc (x::cap) C s0 H0 ex) elt (te f))(hs:∀ x,foldedSetIterable iter X.env x=pure x:=by intro _;rfl):PE X (.ListComp elt [⟨.Name x px,iter,ifs,0⟩] sc pos) (zoE RH wi js tt te):=by
 intro aa s σ H Q I h;obtain⟨f,h⟩:=h;rw[eval_ListComp];refine Oh (use:=none) rfl hs (Xr (S.n.cells I.ok)) S.kind S.names (thn (hi aa s σ H _ I h) λxv s₁ h₁=>thn h₁ λitv s₂ h₂=>?_);obtain⟨it,fp,tn,J,H2,e,I2,T,st2,f2,hRH,W,w0,turn⟩:=h₂;subst e;refine Vp (xs:=[x]) (Q:=Q) (RR:=λacc C=>compPost (model X.prog X.w) X.A X.xe none (EP X aa σ Q) acc C) S.n hjs hc S.pg (λC=>hb f _ _ C _ _ _ I2 f2 hRH) I2 T st2 f2 w0 (zjW turn) ?_;intro D C s' σ' H' ys its k hD hC J' rv hz q;obtain⟨m,hn,_⟩:=J'.loc;have pinD:=J'.pin (D,{cls:=.type "list",data:=.seq its.toArray k}) (IL _ (IH.mpr rfl));exact⟨m,hn,λh' hs' => ⟨.ref D,_,VB (xs:=[x]) S.n I2 f2 hD hC J' pinD.2.1 pinD.1 rv hz hs',rfl,q D pinD.2.1⟩⟩
def zkT(S:Jw X.env.scope sc x x2 cap)(hjs:js.map (λj=>X.N[j]?)=cap.map some)(hc:X.calm=true)(hxe:∀ e s,¬ X.xe e s){elt iter:Expr}{ifs:List Expr}{pos px py tpos:Pos}{tk:Nat}{wi:TI}{te:AD->TE}(hi:PI X (.Tuple [.Name x px,.Name x2 py] tk tpos) iter wi)(hb:∀ f aa σ C s0 H0 ex,Inv X aa σ H0 s0->(∀ b∈ex,zcQ X aa H0 b)->RH f σ H0->PIf (Xg X sc (x::x2::cap) C s0 H0 ex) ifs tt/\PE (Xg X sc (x::x2::cap) C s0 H0 ex) elt (te f))(hs:∀ x,foldedSetIterable iter X.env x=pure x:=by intro _;rfl):PE X (.ListComp elt [⟨(.Tuple [.Name x px,.Name x2 py] tk tpos),iter,ifs,0⟩] sc pos) (zlw X.K RH wi js tt te):=by
 intro aa s σ H Q I h;obtain⟨f,h⟩:=h;rw[eval_ListComp];refine Oh (use:=none) rfl hs (Xr (S.n.cells I.ok)) S.kind S.names (thn (hi aa s σ H _ I h) λxv s₁ h₁=>thn h₁ λitv s₂ h₂=>?_);obtain⟨it,fp,tn,J,H2,e,I2,T,st2,f2,hRH,W,w0,turn⟩:=h₂;subst e;refine Vp (xs:=[x,x2]) (Q:=Q) (RR:=λacc C=>compPost (model X.prog X.w) X.A X.xe none (EP X aa σ Q) acc C) S.n hjs hc (S.pg hc) (λC=>hb f _ _ C _ _ _ I2 f2 hRH) I2 T st2 f2 w0 (zms turn) ?_;intro D C s' σ' H' ys its k hD hC J' rv hz q;obtain⟨m,hn,_⟩:=J'.loc;have pinD:=J'.pin (D,{cls:=.type "list",data:=.seq its.toArray k}) (IL _ (IH.mpr rfl));exact⟨m,hn,λh' hs' => ⟨.ref D,_,VB (xs:=[x,x2]) S.n I2 f2 hD hC J' pinD.2.1 pinD.1 rv hz hs',rfl,q D pinD.2.1⟩⟩
end
section
variable {K:FG}{B:Hp}{ρ:LD}{ta tb:TE}{te:AD->TE}{f:AD}{G H:Hp}
def ziO{RH:St->Hp->Prop}{wi:TI}(h:Ei K B wi ρ ds)(hR:∀ G σ,Rx K B G σ ρ->∀ H,ZF G H->RH σ H):Ei K B (zn0 RH wi) ρ ds:=λG H σ r s R k=>h G H σ r s _ λJ G' H' g W=>⟨hR G σ r H' (g.gg.trans g.gh),k J G' H' g W⟩
def zlA{wi:TI}(as:List α)(enc:α->PD)(g:α->Option PD)(hR:∀ G σ,Rx K B G σ ρ->∀ H,ZF G H->RH f σ H)(h:Ei K B wi ρ (as.map enc))(hn:as.length<sizeLine)(hc:∀ a∈as,Lcx K B tt (te f) (.dat (enc a)::za0 ρ js) (g a)):Er K B (zoE RH wi js tt te) ρ (.list (as.filterMap g)):=λG σ r G1 H s1 s2 Q k=>⟨f,zm8 as enc g (ziO h hR) hn hc G σ r G1 H s1 s2 Q k⟩
def zjK{wi:TI}(as:List α)(ea eb:α->PD)(g:α->Option PD)(hR:∀ G σ,Rx K B G σ ρ->∀ H,ZF G H->RH f σ H)(h:Ei K B wi ρ (as.map λa=>.tuple [ea a,eb a]))(hn:as.length<sizeLine)(hc:∀ a∈as,Lcx K B tt (te f) (.dat (ea a) :: .dat (eb a)::za0 ρ js) (g a)):Er K B (zlw K RH wi js tt te) ρ (.list (as.filterMap g)):=λG σ r G1 H s1 s2 Q k=>⟨f,zmm as ea eb g (ziO h hR) hn hc G σ r G1 H s1 s2 Q k⟩
def zlh{t:TA}{es:LA}(h:Ea K B t ρ [.tuple ds,.tuple es])(hl:es.length<=ds.length):Ei K B (zoB K t) ρ ((ds.zip es).map λp=>.tuple [p.1,p.2]):=λG H σ r s R k=>h G σ r G H (ZF.refl _) s _ λvs G' H' g hv=>by
 obtain⟨y1,ys,rfl,h1,hv⟩:=hv.cons;obtain⟨y2,ys,rfl,h2,hv⟩:=hv.cons;cases hv.nil;obtain⟨p1,xs1,rfl,q1,d1⟩:=h1.tup;obtain⟨p2,xs2,rfl,q2,d2⟩:=h2.tup;have e1:=d1.length;have e2:=d2.length;have ez:((ds.zip es).map λp=>PyData.tuple [p.1,p.2]).length=es.length:=by rw[Ie,List.length_zip];omega
 refine⟨p1,p2,rfl,⟨xs1,g.gh.tup q1⟩,⟨xs2,g.gh.tup q2⟩,k _ G' H' g ⟨λi H' s hi=>?_,λi H' s hi=>?_,λi H1 x H2 G1 d s1 s2 he y=>?_⟩⟩
 .rw[ez]at hi;exact⟨xs1,_,xs2,_,s.tup q1,Ib (by omega),s.tup q2,Ib (by omega)⟩
 .rw[ez]at hi;exact⟨xs1,xs2,s.tup q1,s.tup q2,(by omega)⟩
 .obtain⟨p,u,v,hp,rfl,rfl,y1,y2⟩:=y;have hu:=y1 xs1 (s2.tup (s1.tup q1));have hv:=y2 xs2 (s2.tup (s1.tup q2));obtain⟨a,ha,hda⟩:=d1.zgZ hu;obtain⟨b,hb,hdb⟩:=d2.zgZ hv;have g2:=YF (o:=.tup [u,v]) s2 hp;refine⟨_,g2,?_⟩;rw[Ij]at he;have ez2:(ds.zip es)[i]?=some (a,b):=NS.mpr ⟨ha,hb⟩;rw[ez2]at he;cases he;exact XX (SqT.of Zo) (ZV ((hda.same s1).same g2.gg) (ZV ((hdb.same s1).same g2.gg) Z9))
def zmj{Pt:AD}{cr:Nat->Nat->Option Str}{name q:Str}{params:Arguments}{body:List Stmt}{sc:Scope}{cl:List (Str×AD)}{u:TS}{R:Pn}{d:PD}(hB:B Pt=some (.tbl cr))(hp:∀ v∈ρ,(∃ d,v = .dat d)\/v = .un)(fl:flat d=true)(hR:∀ ρ',R.rt (.dat d) ρ')(h:∀ f B',ZF B B' -> Qa B' f name q params body sc cl->Sv K B' u (ρ.set i (.val (.ref f))) {nx:=λ_=>False,rt:=λr _=>r = .dat d}):Sv K B (ziQ (znA i Pt cr name q params body sc cl) u) ρ R:=λE G0 H0 G H σ F D r dn=>by
 refine⟨r.g.gh _ _ (r.bb _ _ hB),λf H' hf sH L=>?_⟩;have sG:ZF G H':=r.g.gh.trans sH;refine h f H' (r.bb.trans sG) L (λ_=>False) H' H' H' H' _ (λ_=>[]) D ⟨Gw.refl (ZF.refl _),ZF.refl _,by rw[Og,Og,r.ls],λj v e=>?_,λj a ha=>(by cases ha),λj k a ha=>(by cases ha),λj ds a _ ha=>(by cases ha)⟩ ⟨λz=>z.elim,λ{v rr G1 H1 σ1 ρ1 F1 L1} z _ r1 sl n=>?_,λz=>z.elim,λz=>z.elim⟩
 .by_cases z:j=i
  .subst z;have hj:j<ρ.length:=by have:=(Il.mp e).1;rw[Og]at this;exact this
   rw[IY hj]at e;cases e;exact⟨rfl,by rw[IY (by rw[r.ls];exact hj)]⟩
  .rw[I9 (Ne.symm z)]at e ⊢;rcases hp v (Iz e)with⟨d',rfl⟩ | rfl
   .obtain⟨_,x,hx,hd⟩:=r.sl j _ e;exact⟨rfl,x,hx,hd.same sG⟩
   .rfl
 .obtain rfl:rr = .dat d:=z;obtain⟨_,x,hx,hd⟩:=sl;cases hx;exact dn.rt (hR ρ) (ZF.refl _) (r.grow (Uv r.g.gh (sH.trans λb o e=>r1.g.kp b o (λz=>z) e))) ⟨rfl,v,rfl,hd.flat fl G⟩ QW
def zcy{n:Nat}{t:TA}{d:PD}{Rf:LA->PD->Prop}(hi:ρ[i]?=some (.val (.ref f)))(h:Ea K B t ρ ds)(hn:ds.length=n)(hR:Rf ds d):Er K B (zd2 i f n (spP K Rf) t) ρ d:=λG σ r=>QH (r.2.2.2.2.2 i _ hi) (h G σ r) hn hR
end
def zoZ:bootBuiltins "min" = some (.builtin "min"):=by decide +kernel
section
variable {X:Cx}
def zgA(K:FG):V->LC->Hp->VK->Prop:=λx vs H Q=>∃(p:AD)(ns:LX)(z:Int),x = .ref p/\vs=[.int z]/\SqL K H p (ns.map V.int)/\Q (.int (ns.count z:Nat)) H
def zgr{K:FG}(eK:X.K=K):MtM X "list.count" (zgA K):=by subst eK;intro aa s σ H x vs v us Q I rx rv h;obtain⟨p,ns,z,rfl,rfl,hp,q⟩:=h;cases rx;obtain⟨u,rfl,ru⟩:=vals1 rv;obtain⟨t,rfl⟩:=ru;obtain⟨its,r,pl,hl⟩:=I.list hp;exact count_list_ints pl.isList (intsAre_of r) ⟨.int _,H,I.tok _,⟨_,rfl⟩,q⟩
end
theorem zgu{K:FG}{G:Hp}:∀{vs:LC}{ns:LX},YB K G vs (ns.map PyData.int)->vs=ns.map V.int
 |vs,[],h=>h.nil
 |vs,n::ns,h=>by obtain⟨y,ys,rfl,hy,hr⟩:=h.cons;rw[hy.int,zgu hr];rfl
section
variable {K:FG}{B:Hp}{ρ:LD}{ta tb te:TE}
def zju{t:TA}{ns:LX}{z:Int}(ha:Er K B ta ρ (.list (ns.map .int)))(h:Ea K B t ρ [.int z]):Er K B (tBM K "list" (zgA K) ta t) ρ (.int (ns.count z:Nat)):=λG σ r G1 H s1 s2 Q k=>by refine ha G σ r G1 H s1 s2 _ λx G2 H2 g2 hx=>?_;obtain⟨p,xs,rfl,hp,hd⟩:=hx.lst;refine⟨.inl ⟨rfl,xs,SqL.of (g2.gh _ _ hp)⟩,h G σ r G2 H2 (s1.trans g2.gg) g2.gh _ λvs G3 H3 g3 hv=>?_⟩;obtain⟨y,ys,rfl,hy,hn⟩:=hv.cons;cases hn.nil;rw[hy.int];rw[show xs=ns.map V.int from zgu hd]at hp;exact⟨p,ns,z,rfl,rfl,SqL.of (g3.gh _ _ (g3.gg _ _ hp)),k _ G3 H3 (g2.trans g3) (Zv _)⟩
def ziY{j:Nat}{t:TA}{d:PD}{u:PV}{R:Pn}(hi:ρ[i]?=some u)(hu:u.rd=some ds)(h:Ea K B t (msk ρ) [.int (j:Nat),d])(hj:j<=ds.length)(hl:ds.length<sizeLine)(k:R.nx (ρ.set i (u.put (ds.take j++d::ds.drop j)))):Sv K B (zkm (tBM K "list" zfs (Wj i) t)) ρ R:=λE G0 H0 G H σ F D r dn=>by obtain⟨p,xs,e,hx,hp,hd⟩:=(r.sl i _ hi).rd hu;have el:=hd.length;refine⟨_,hx,.inl ⟨rfl,xs,SqL.of hp⟩,?_⟩;refine h G σ r.rx G H (ZF.refl _) r.g.gh _ λvs G' H' g hv=>?_;obtain⟨y,ys,rfl,hy,hv⟩:=hv.cons;obtain⟨y2,ys,rfl,hy2,hv⟩:=hv.cons;cases hv.nil;rw[hy.int];have hd':=hd.same g.gg;refine⟨p,xs,(j:Nat),y2,rfl,rfl,g.hh _ _ hp,(by omega),(by omega),(by omega),?_⟩;refine dn.nx k g.gg ((r.grow g).put hi hu hx ?_);rw[NG];exact W5 (Qn j hd') (ZV hy2 (Qc j hd'))
def zog{σ:St}{G:Hp}{c e:Bool}(h:Ev K ta σ G (.bool c))(h' : c=false->Ev K tb σ G (.bool e)):Ev K (zn2 ta tb) σ G (.bool (c||e)):=λG1 H s1 s2 Q k=>h G1 H s1 s2 _ λv G2 H2 g hv=>⟨c,hv.bl,by
 cases c with
 |true=>rw[Iq rfl];exact k _ G2 H2 g (Yc _)
 |false=>
  rw[Im Ii];exact h' rfl G2 H2 (s1.trans g.gg) g.gh _ λv G3 H3 g3 hv=>k v G3 H3 (g.trans g3) hv⟩
def zlY(ds:LA):slD ds none (some (-1))=ds.take (ds.length-1):=by
 have e:HT.sIx ds.length ds.length (some (-1))=ds.length-1:=by show(if(-1:Int)<0 then(-1+(ds.length:Int)).toNat else min (-1:Int).toNat ds.length)=_;rw[Iq (by decide)];omega
 unfold slD;rw[e];rfl
def zkw:Eo K B (UJ (tUn (rU λi=>.int (-i)) (tC (.int 1)))) ρ (some (-1)):=λ_ _ _ _ _ q=>⟨1,rfl,-1,rfl,q⟩
def zjR{j:Int}(h:Er K B te ρ (.tuple ds))(hd:Er K B tb ρ (.int j)):Er K B (tSl (zcj K) te Ql (UJ tb)) ρ (.tuple (slD ds none (some j))):=λG σ r G1 H s1 s2 Q k=>h G σ r G1 H s1 s2 _ λv G2 H2 g2 hv=>hd G σ r G2 H2 (s1.trans g2.gg) g2.gh _ λv2 G3 H3 g3 hv2=>by rw[hv2.int];refine⟨j,rfl,?_⟩;have:=zf4 (K:=K) (σ:=σ) (G:=G3) (te:=tC v) (tl:=Ql) (th:=UJ (tC (.int j))) (Xz (hv.same g3.gg)) (λH Q q=>q) (λH Q q=>⟨j,rfl,q⟩) G3 H3 (ZF.refl _) g3.gh Q λv3 G4 H4 g4 hv4=>k v3 G4 H4 ((g2.trans g3).trans g4) hv4;obtain⟨j',e',this⟩:=this;cases e';exact this
def zj2{R:PV->LD->Prop}(h:Er K B te (msk ρ) (.tuple ds))(hd:Eg K B tb ρ λy ρ2=>∃ j:Int,y = .dat (.int j)/\R (.dat (.tuple (slD ds none (some j)))) ρ2):Eg K B (tSl (zcj K) te Ql (UJ tb)) ρ R:=λE G0 H0 G H σ F r Q q=>
 h G σ r.rx G H (ZF.refl _) r.g.gh _ λv G1 H1 g hv=>hd E G0 H0 G1 H1 σ F (r.grow g) _ λv2 w2 ρ2 G2 H2 F2 L2 hw2 s2 r2 sl2 n2=>by obtain⟨j,rfl,hR⟩:=hw2;obtain⟨_,y2,hy2,hd2⟩:=sl2;cases hy2;rw[hd2.int];refine⟨j,rfl,?_⟩;have:=zf4 (K:=K) (σ:=σ) (G:=G2) (te:=tC v) (tl:=Ql) (th:=UJ (tC (.int j))) (Xz (hv.same s2)) (λH Q q=>q) (λH Q q=>⟨j,rfl,q⟩) G2 H2 (ZF.refl _) r2.g.gh Q λv3 G3 H3 g3 hv3=>q v3 _ ρ2 G3 H3 F2 [] hR ((g.gg.trans s2).trans g3.gg) (r2.grow g3) ⟨rfl,v3,rfl,hv3⟩ QW;obtain⟨j',e',this⟩:=this;cases e';exact this
def zjJ{t:TA}{a b:Int}(h:Ea K B t ρ [.int a,.int b]):Er K B (tCB (λxs H Q=>∃ i j,xs=[.int i,.int j]/\Q (.int (if j<i then j else i)) H) t) ρ (.int (if b<a then b else a)):=zkj h λG1 H xs Q s hx k=>by obtain⟨y,ys,rfl,hy,hv⟩:=hx.cons;obtain⟨y2,ys,rfl,hy2,hv⟩:=hv.cons;cases hv.nil;rw[hy.int,hy2.int];exact⟨a,b,rfl,k _ G1 H (YH.refl s) (Zv _)⟩
end
end L2
namespace K61
open PySem L2 Frac Lw PySem.NumText
open Ord Look Rdo Mvs
inductive RGa(o:Oe)(bk:LB)(ac:List Fs):LA->PD->Prop
 |mk (i j:Int) (_:0<=i/\i<ac.length) (_:0<=j/\j<ac.length):RGa o bk ac [.int i,.int j] (.bool (gaB (anL bk o) ac i j))
inductive RFh:LA->PD->Prop
 |mk (o:Oe) (bk:LB) (ac:List Fs) (ps:LX) (_:zlc bk o) (_:zgT bk) (_:∀ g∈ac,zcR bk g) (_:ac.length<64) (_:ps.length<=200):RFh [dOr o,dBk bk,.tuple (ac.map dTh),dI ps] (.bool (fsB (anL bk o) ac ps))
def zmR(w:Wd):noL w.d=true:=by cases w <;> rfl
def zjO(o:Oe):noL (dOr o)=true:=by
 show zgV (o.w.map Wd.d)=true
 induction o.w with
 |nil=>rfl
 |cons x r ih=>rw[Ng];unfold zgV;rw[ih,zmR];rfl
def zg7(ac:List Fs):noL (.tuple (ac.map dTh))=true:=by
 show zgV (ac.map dTh)=true
 induction ac with
 |nil=>rfl
 |cons x r ih=>rw[Ng];unfold zgV;rw[ih,show noL (dTh x)=true from zaV x];rfl
def zbT{ac:List Fs}{i:Int}(h:0<=i/\i<ac.length):ixN (ac.map dTh).length i=some i.toNat/\(ac.map dTh)[i.toNat]?=some (dTh (th ac i.toNat)):=by
 obtain⟨k,rfl⟩:=Int.eq_ofNat_of_zero_le h.1;have hk:k<ac.length:=by omega
 refine⟨by rw[Ie];exact YG hk,?_⟩;rw[NG,Ij,Ib hk];show some _=some (dTh (ac.getD k []));rw[Ir,Ib hk];rfl
def zlN{bk:LB}{ac:List Fs}(hr:∀ g∈ac,zcR bk g){i:Int}(h:0<=i/\i<ac.length):zcR bk (th ac i.toNat):=hr _ (za9 (by omega))
def zgS{a:An}{x:An}:decide (a.t=x.t)=isA a x:=decide_eq_decide.mpr zkE
section
theorem zgd(x:Int):∀ ns:LX,inV (V.int x) (ns.map V.int)=decide (x∈ns)
 |[]=>by simp[inV]
 |n::ns=>by
  have ih:=zgd x ns;unfold inV at ih ⊢;rw[Ng,any_cons,ih];by_cases h:n=x
  .subst h;simp[eqV]
  .have h2:¬ x=n:=λe=>h e.symm;simp[eqV,h,h2]
def zlC{B:Hp}{ρ:LD}{ta tb:TE}{neg:Bool}{x:Int}{ns:LX}(ha:Er K B ta ρ (.int x))(hb:Er K B tb ρ (.tuple (ns.map PyData.int))):Er K B (tOp (rIn K neg) ta tb) ρ (.bool (if neg=true then !decide (x∈ns)else decide (x∈ns))):=λG σ r=>
 QR (ha G σ r) (hb G σ r) λG1 H u v Q s1 s2 hu hv k=>by
  obtain⟨p,xs,rfl,hp,hxs⟩:=hv.tup;have e:=hxs.ints;subst e;have fl:(ns.map V.int).all za5=true:=by rw[NB];intro v m;obtain⟨s,_,rfl⟩:=N0.mp m;rfl
  rw[hu.int];refine⟨p,_,rfl,.inr (s2.tup hp),rfl,fl,?_⟩;rw[zgd];exact k _ G1 H (YH.refl s2) (Yc _)
def zjh(T:Top K mg)(Nd:Uo K=true)(M:Bs K mg base)(W:Wds K w.params mg)(W1:Txs K w.params mg "AHEAD" Wl)(W2:Txs K w.params mg "OTHER_WAY" X7){o:Oe}{bk:LB}{ac:List Fs}(ho:zlc bk o)(hb:zgT bk)(hr:∀ g∈ac,zcR bk g){H0:Hp}{vo vb vr:V}(hP:H0 T.Z8=some (.tbl Z5))(hvo:Dat K H0 vo (dOr o))(hvb:Dat K H0 vb (dBk bk))(hvr:Dat K H0 vr (.tuple (ac.map dTh))){A:Around}{outer:LJ}{s' : SH}{H' : Hp}{vs:LC}{Q:VK}{fa c' : AD}{cl:List (Str×AD)}(hr2:Wz 6 (A.deeper (zhB X6 (Zh Y7) s'.heap.objs.size fa (.ref c') cl)))(kp:Kp H0 H')(h:spP K (RGa o bk ac) vs H' Q E0):
  ∃ t,PSs (Uz P w K mg base ((["one", "other"]:LB)++(["look"]:LB)++(["order", "book", "row"]:LB)) X6 (Zh Y7) fa c' cl A outer s' H') (Yj Y7) t/\t {nx:=λ_ H' => Q .non H',rt:=Q} (vs.map some++List.replicate (["look"]:LB).length none++[some vo,some vb,some vr]) H':=by
 have G_looked:=@zcB T Nd M W W1 W2;have hr:=hr2;have hu:=hr.units;obtain⟨G,as,d,sg,hv,hx,k⟩:=h;cases hx with
 |mk i j hi hj=>
 obtain⟨v1,r1,rfl,h1,hv⟩:=hv.cons;obtain⟨v2,r2,rfl,h2,hv⟩:=hv.cons;cases hv.nil;have hvo:=kp.dat _ _ (zjO o) hvo;have hvb:=kp.dat _ _ (zbp bk) hvb;have hvr:=kp.dat _ _ (zg7 ac) hvr;have hw:=zoK hb
 rename ∀ g∈ac,zcR bk g=>hr0
 refine⟨_,(Zf (ZC (i:=2) JW.nd rfl (Or.inl rfl) (peN T.Jc G_looked hr (Za (pv 3) (Za (pv 4) (Za (ZG (Z1 (K:=K) rfl) (pv 5) (pv 0) (λ_ _=>rfl)) (Za (ZG (Z1 (K:=K) rfl) (pv 5) (pv 1) (λ_ _=>rfl)) Ze Zj) Zj) Zd) Zd)))
   (Zm (Zz (zhb (Y4 Y6 (pv 2) ZD (ZM _)) (zaI (ze7 (Y4 Y6 (pv 2) ZD (ZM _)) (zaI (Y4 zak (pv 0) (pv 1) (ZM _))))))))) ,?_⟩
 have fi:=zlN hr0 hi;have fj:=zlN hr0 hj;refine JH (K:=K) (G:=H') (zdu (kp.2.2 _ _ hP) (Zq (Zn rfl hvo) (Zq (Zn rfl hvb) (Zq (J8 (Zn rfl hvr) (Zn rfl (h1.same sg)) (zbT hi).1 (zbT hi).2) (Zq (J8 (Zn rfl hvr) (Zn rfl (h2.same sg)) (zbT hj).1 (zbT hj).2) ZW)))) ⟨o.w,bk,th ac i.toNat,th ac j.toNat,_,o.an bk (th ac i.toNat) (th ac j.toNat),rfl,Oe.zcW ho.1,λa b (h:zaw (a,b))=>h.1,⟨fi.1,fj.1,λp hp=>(fi.2 p hp).1,λp hp=>(fj.2 p hp).1⟩,hw,by have:=ho.2.1;omega,Oe.ev hw _ _ ho.1,rfl⟩) (ZF.refl _) λv3 G1 H1 g1 h3=>?_;refine Yz (K:=K) (G:=G1) (zd1 (zog (J7 (Zn rfl h3) Yk) λ_=>zi1 (J7 (Zn rfl h3) Yk) λ_=>QS (Zn rfl ((h1.same sg).same g1.gg)) (Zn rfl ((h2.same sg).same g1.gg)) (Yc _)) (show _=PyData.bool (gaB (anL bk o) ac i j)from ?_)) g1.gh λv G' H'' g hv=>?_
 .show PyData.bool (decide ((o.an bk (th ac i.toNat) (th ac j.toNat)).t=An.ahead.t)||(decide ((o.an bk (th ac i.toNat) (th ac j.toNat)).t=An.like.t)&&decide (i<j)))=_;rw[zgS,zgS];rfl
 .rw[hv.bl];have gh:=g1.trans g;exact k _ G H'' ⟨ZF.refl _,sg.trans gh.hh,gh.hh,λ_ _ h=>.inl h⟩ (Yc _)
def zib(T:Top K mg){B:Hp}(hB1:B T.Z8=some (.tbl Z5))(hB3:B T.ZZ=some (.tbl Yg))(Nd:Uo K=true)(M:Bs K mg base)(W:Wds K w.params mg)(W1:Txs K w.params mg "AHEAD" Wl)(W2:Txs K w.params mg "OTHER_WAY" X7):T.Yw.O P w base 9 (zgF K B RFh):=by
 have G_are_places:T.Ja.O P w base 8 (spP K zov):=(zlD T).mono (by decide);refine T.Yw.F.zlj Jt (by rintro _ _ ⟨⟩;rfl) λcdv A outer s H E hcd hr ds d hR=>?_;cases hR with
 |mk o bk ac ps ho hb hrs hrl hpl=>
 have hu:=hr.units;have zl:(2000:Nat)<sizeLine:=by decide
 let RH:AD->St->Hp->Prop:=λf σ H1=>Qa H1 f "goes_ahead" X6 (We Y7) (Yj Y7) (Zh Y7) (Jz (PyProof.Rows.envOfC "first_shown" (Zh Z7) s.heap.objs.size T.Yw.f cdv) (Zh Y7).names [])/\H1 T.Z8=some (.tbl Z5)/\∃ vo vb vr,WK σ [0,1,2]=[some vo,some vb,some vr]/\Dat K H1 vo (dOr o)/\Dat K H1 vb (dBk bk)/\Dat K H1 vr (.tuple (ac.map dTh))
 have hC:∀(f:AD)(aa:List (Addr×Obj))(σ:St)(s0:SH)(H0:Hp)(ex:LH),Inv (zbJ CX0 P w K mg base ["order", "book", "row", "places", "goes_ahead", "others"] "first_shown" (Zh Z7) T.Yw.f cdv A outer s H E).nox aa σ H0 s0->(∀ b∈ex,zcQ (zbJ CX0 P w K mg base ["order", "book", "row", "places", "goes_ahead", "others"] "first_shown" (Zh Z7) T.Yw.f cdv A outer s H E).nox aa H0 b)->RH f σ H0->zab P w K mg base 7 f 2 (spP K (RGa o bk ac)) ex s0 H0:=by
  rintro f aa σ s0 H0 ex I hf ⟨L,hP,vo,vb,vr,ec,d0,d1,d2⟩;refine zme (js:=[0,1,2]) I hf JW rfl L (λcl us hl doc pm ctv c' => ?_) (λA outer s' H' vs Q fa c' cl hr' kp hl h=>?_)
  .match us,hl with
   |[_,_],_=>rfl
  .rw[ec];exact zjh T Nd M W W1 W2 ho hb hrs hP d0 d1 d2 hr' kp h
 refine⟨_,(Zf (Yv (zbn (Qh (peN T.Ja G_are_places hr (Za (pv 3) (Za (Z2 (Yb (K:=K) rfl) (by rfl) T.zaA II (Za (pv 2) Ze Zd)) Ze Yo) Zd)))) (Zm (Zz VR)) ZQ)
   (Zf (zjQ (i:=4) (P:=T.ZZ) (cr:=Yg) (q:=X6) JW (hcd.trans T.cd_first_shown) (codeHd_of_K M.kin T.ch_first_shown) M.bm rfl rfl Jt.nd rfl (Or.inr rfl) (Or.inl rfl))
   (Zf (Yv (zbn (Qh (Z2 (zaL (K:=K) rfl rfl) (by rfl) T.znU znQ (Za (zkT (RH:=RH) (x:= "one") (x2:= "other") (cap:=["goes_ahead"]) (js:=[4]) ⟨rfl,(by decide +kernel),(by decide +kernel),rfl,rfl,(by show ∀ p∈(_:List (Str×NameKind)),p.2=NameKind.free->List.lookup p.1 (Zh Z7).names=some NameKind.cell;decide +kernel),(by decide +kernel),(by decide +kernel),(by decide +kernel)⟩ rfl rfl (λ_ _ h=>h) (zkt (K:=K) rfl (by rfl) T.zoN (Za (pv 3) (Za (XM (WT (K:=K) rfl) (pv 3) (XS Zi) W6) Ze Zj) Zd)) (λf aa σ C s0 H0 ex I hf hR=>⟨X8,(zcs (i:=2) (n:=2) (sp:=spP K (RGa o bk ac)) rfl (by first | exact Or.inl rfl | exact Or.inr (Or.inl rfl) | exact Or.inr (Or.inr rfl)) (hr.mono (by decide)) (hC f aa σ s0 H0 ex I hf hR) (Za (pv 0) (Za (pv 1) Ze Zd) Zd))⟩)) Ze Wn)))) (Zm (Zz VR)) ZQ)
   (Zf (zfA (x:= "place") (cap:=["places"]) (js:=[3]) (i:=5) (y:= "others") ⟨rfl,(by decide +kernel),(by decide +kernel),rfl,(by show ∀ p∈(_:List (Str×NameKind)),p.2=NameKind.free->List.lookup p.1 (Zh Z7).names=some NameKind.cell;decide +kernel),(by decide +kernel),(by decide +kernel),(by decide +kernel)⟩ rfl rfl (λ_ _ h=>h) Jt.nd rfl rfl (XC (by rfl) T.Qv (Za (Z2 (Yb (K:=K) rfl) (by rfl) T.zaA II (Za (pv 2) Ze Zd)) Ze Yo)) (λ_ _ _ _=>⟨(zfO (ZJ (zhR (K:=K) rfl) (pv 0) (pv 1) (by rfl))),(pv 0)⟩))
   (Zm (Zz (zhb (Y4 (zax (K:=K) rfl hu) (pv 3) (Xb Ze) (ZM _)) (zaI (Z2 (zaL (K:=K) rfl rfl) (by rfl) T.znU znQ (Za (zlq (RH:=RH) (x:= "other") (cap:=["goes_ahead", "places"]) (js:=[4,3]) ⟨rfl,(by decide +kernel),(by decide +kernel),rfl,(by show ∀ p∈(_:List (Str×NameKind)),p.2=NameKind.free->List.lookup p.1 (Zh Z7).names=some NameKind.cell;decide +kernel),(by decide +kernel),(by decide +kernel),(by decide +kernel)⟩ rfl rfl (λ_ _ h=>h) (zdz (K:=K) rfl (pv 5)) (λf aa σ C s0 H0 ex I hf hR=>⟨X8,(zcs (i:=1) (n:=2) (sp:=spP K (RGa o bk ac)) rfl (by first | exact Or.inl rfl | exact Or.inr (Or.inl rfl) | exact Or.inr (Or.inr rfl)) (hr.mono (by decide)) (hC f aa σ s0 H0 ex I hf hR) (Za (ZG (Z1 (K:=K) rfl) (pv 2) (za2 QX Zi) (λ_ _=>rfl)) (Za (pv 0) Ze Zd) Zj))⟩)) Ze Wn)))))))))) ,?_⟩
 refine sv0 ?_;have eL:∀{ρ:LD}{B' : Hp},ρ[2]?=some (.dat (.tuple (ac.map dTh)))->Er K B' (tCB (λxs H Q=>∃ p ys,xs=[.ref p]/\(SqL K H p ys\/SqT K H p ys)/\Q (.int ys.length) H) (YC (Wj 2) Vk)) ρ (.int (ac.length:Nat)):=λh=>Xw (J0 (Zb (Zc h) Zk)) (by rw[Ie]);refine Zt (UV (zcr (znw (Xe (Zb (Zc rfl) (Zb (eL rfl) Zk)) ⟨ps,(ac.length:Nat),rfl,(by omega),rfl⟩))) (λh=>?_) λh=>Z4 ?_)
 .refine Ym (ZR (Xw zgb ?_) rfl);have h:ps.all (inR (ac.length:Nat))=false:=by
   cases e:ps.all (inR (ac.length:Nat))with
   |false=>rfl
   |true=>rw[e]at h;cases h
  unfold fsB;rw[h];rfl
 have hin:ps.all (inR (ac.length:Nat))=true:=by
  cases e:ps.all (inR (ac.length:Nat))with
  |true=>rfl
  |false=>rw[e]at h;cases h
 have hpi:∀ x∈ps,0<=x/\x<ac.length:=λx hx=>by have:=NB.mp hin x hx;unfold inR at this;simpa using this
 refine zmj (i:=4) hB3 (λv hv=>?_) rfl (λ_=>rfl) λf B' sB L=>?_
 .simp only[Ng,map_nil,W9,IE,Nq,Nz,Od,mem_replicate]at hv;rcases hv with(rfl | rfl | rfl | rfl) | ⟨_,rfl⟩
  .exact .inl ⟨_,rfl⟩
  .exact .inl ⟨_,rfl⟩
  .exact .inl ⟨_,rfl⟩
  .exact .inl ⟨_,rfl⟩
  .exact .inr rfl
 have hRH:∀{ρ:LD},ρ[0]?=some (.dat (dOr o))->ρ[1]?=some (.dat (dBk bk))->ρ[2]?=some (.dat (.tuple (ac.map dTh)))->∀ G σ,Rx K B' G σ ρ->∀ H1,ZF G H1->RH f σ H1:=λ{ρ} e0 e1 e2 G σ r H1 sH=>by obtain⟨x0,q0,d0⟩:=r.2.1 0 _ e0;obtain⟨x1,q1,d1⟩:=r.2.1 1 _ e1;obtain⟨x2,q2,d2⟩:=r.2.1 2 _ e2;refine⟨L.same λb o u e=>sH _ _ (r.1 _ _ e),sH _ _ (r.1 _ _ (sB _ _ hB1)),x0,x1,x2,?_,d0.same sH,d1.same sH,d2.same sH⟩;show[(σ[0]?).join,(σ[1]?).join,(σ[2]?).join]=_;rw[q0,q1,q2];rfl
 have e3:slD (ps.map PyData.int) (some 1) none=(ps.drop 1).map PyData.int:=by rw[map_drop];exact zdT 1 _
 have ez:((ps.map PyData.int).zip ((ps.drop 1).map PyData.int)).map (λp=>PyData.tuple [p.1,p.2])=(ps.zip (ps.drop 1)).map λq=>PyData.tuple [.int q.1,.int q.2]:=by rw[List.zip_map,N8];rfl
 refine Zt (UV (zcr (znw (zfB (bs:=(ps.zip (ps.drop 1)).map λq=>gaB (anL bk o) ac q.1 q.2) (Zb (Xw (zjK (js:=[4]) (f:=f) (ps.zip (ps.drop 1)) (λq=>.int q.1) (λq=>.int q.2) (λq=>some (.bool (gaB (anL bk o) ac q.1 q.2))) (hRH rfl rfl rfl) (by rw[← ez,← e3];exact zlh (Zb (Zc rfl) (Zb (zbj (Zc rfl) zdP V3) Zk)) (by rw[e3,Ie,Ie,Nk];omega)) (by rw[List.length_zip];omega) λq hq=>lx1 Vd (zcy (i:=2) rfl (Zb (Zc rfl) (Zb (Zc rfl) Zk)) rfl ⟨q.1,q.2,hpi _ (ON hq).1,hpi _ (List.mem_of_mem_drop (ON hq).2)⟩)) (by rw[JT,N8];rfl)) Zk)))) (λh=>?_) λh=>Z4 ?_)
 .refine Ym (ZR (Xw zgb ?_) rfl);rw[all_map]at h;have h:((ps.zip (ps.drop 1)).all λq=>gaB (anL bk o) ac q.1 q.2)=false:=by have h:(!((ps.zip (ps.drop 1)).all λq=>gaB (anL bk o) ac q.1 q.2))=true:=h;rw[Bool.not_eq_true']at h;exact h
  unfold fsB;rw[hin,h];rfl
 have hz:((ps.zip (ps.drop 1)).all λq=>gaB (anL bk o) ac q.1 q.2)=true:=by rw[all_map]at h;have h:(!((ps.zip (ps.drop 1)).all λq=>gaB (anL bk o) ac q.1 q.2))=false:=h;rw[Bool.not_eq_false']at h;exact h
 have hoth:(List.range ac.length).filterMap (λ(p:Nat)=>if(!decide ((p:Int)∈ps))=true then some (PyData.int (p:Nat))else none)=(oth ac ps).map λ(p:Nat)=>PyData.int (p:Nat):=by
  unfold oth
  induction List.range ac.length with
  |nil=>rfl
  |cons a l ih=>
   rw[NC,List.filter_cons];by_cases h:(!decide ((a:Int)∈ps))=true
   .rw[Iq h,Iq h,Ng,ih]
   .rw[Im h,Im h,ih]
 refine Zt (ZP (zks (js:=[3]) (List.range ac.length) (λ(i:Nat)=>PyData.int (i:Nat)) (λ(p:Nat)=>if(!decide ((p:Int)∈ps))=true then some (PyData.int (p:Nat))else none) (VN (Zb (eL rfl) Zk) (by omega)) (by rw[IG];omega) (λp hp=>lxB (Z0 (zlC (neg:=true) (Zc rfl) (Zc rfl))) λ_=>Zc rfl) ?_));rw[hoth];refine Qj 5 rfl ?_;show Sv K B' _ [.dat (dOr o),.dat (dBk bk),.dat (.tuple (ac.map dTh)),.dat (dI ps),.val (.ref f),.dat (.list ((oth ac ps).map λ(p:Nat)=>PyData.int (p:Nat)))] _;have hol:(oth ac ps).length<=ac.length:=by have:=List.length_filter_le (λ(p:Nat)=>!decide ((p:Int)∈ps)) (List.range ac.length);rw[IG]at this;exact this
 refine Ym (ZR (Xw (zfi (c:=decide (ps=[])) (e:=(oth ac ps).all λp=>gaB (anL bk o) ac (ps.getD (ps.length-1) 0) (p:Nat)) (Xw (zfu (g:=λb=>b) (n:=2) (Zc rfl) (Wv Zk (Nr _)) (zcZ ps) (ze1 λ_ h=>by cases h) (by decide)) ?_) λh0=>?_) ?_) rfl)
 .congr 1;by_cases h:ps=[]
  .subst h;rw[Ip rfl];exact same_self _
  .rw[Iw h];exact zdp λe=>h (by injection e with e;exact List.map_eq_nil_iff.mp e)
 .have hne:ps≠[]:=Ni h0;have hl:0<ps.length:=length_pos_iff.mpr hne;have hm:ps.getD (ps.length-1) 0∈ps:=by rw[Ir,Ib (by omega)];exact IQ _
  refine Xw (zfB (bs:=(oth ac ps).map λp=>gaB (anL bk o) ac (ps.getD (ps.length-1) 0) (p:Nat)) (Zb (Xw (zlA (js:=[4,3]) (f:=f) (oth ac ps) (λ(p:Nat)=>PyData.int (p:Nat)) (λp=>some (.bool (gaB (anL bk o) ac (ps.getD (ps.length-1) 0) (p:Nat)))) (hRH rfl rfl rfl) (zgC (Zc rfl)) (by omega) λp hp=>lx1 Vd (zcy (i:=1) rfl (Zb (Xx (n:=ps.length-1) (d:=.int (ps.getD (ps.length-1) 0)) (Zc rfl) (za7 Zw) ?_ ?_) (Zb (Zc rfl) Zk)) rfl ⟨_,_,hpi _ hm,?_⟩)) (by rw[JT,N8];rfl)) Zk)) (by rw[all_map];rfl)
  .unfold ixN;rw[Ie,Im (by decide),Iq (by omega)];congr 1;omega
  .rw[Ij,Ib (by omega),Ir,Ib (by omega)];rfl
  .have:=OP.mp (mem_filter.mp hp).1;omega
 .unfold fsB;rw[hin,hz];rfl
end
end K61
namespace K61
open PySem L2 Frac Lw PySem.NumText
open Ord Look Rdo Mvs
variable {ns:LX}{a:Nat}
inductive RLp:LA->PD->Prop
 |mk (o:Oe) (bk:LB) (ac:List Fs) (_:OBR o bk ac):RLp [dOr o,dBk bk,.tuple (ac.map dTh)] (.list ((tn (anL bk o) ac).map λ(i:Nat)=>PyData.int (i:Nat)))
def zo8{bk:LB}{o:Oe}{ac:List Fs}{found:List Nat}{i:Nat}:(found.map λj=>(o.an bk (th ac j) (th ac i)).z).count 1=found.countP (bhd (anL bk o) ac i):=by rw[List.count_eq_countP,List.countP_map];congr 1;funext j;show((o.an bk (th ac j) (th ac i)).z==1)=isA (o.an bk (th ac j) (th ac i)) .behind;cases o.an bk (th ac j) (th ac i) <;> rfl
inductive RSp(n:Nat)(as:LA)(x:PD)(n' : Nat):Prop
 |mk (ps:LX) (m:Nat) (ps' : LX) (_:as=[dI ps,.int (m:Nat)]) (_:x=dI ps') (_:ps'.length<=ps.length+1) (_:n' <= n+8):RSp n as x n'
inductive zkb(n:Nat)(as:LA):Prop
 |mk (chain:LX) (m:Nat) (_:as=[dI chain,.int (m:Nat)]) (_:chain.length<=200) (_:m<=100) (_:n<=10^5):zkb n as
section
def zdJ(L:LX){r:Nat}(h:r<L.length):ixN (L.map PyData.int).length (r:Nat)=some r/\(L.map PyData.int)[r]?=some (.int (L.getD r 0)):=by refine⟨by rw[Ie];exact YG h,?_⟩;rw[Ij,Ir,Ib h];rfl
def zf8(L:List (LX)){r:Nat}(h:r<L.length):ixN (L.map dI).length (r:Nat)=some r/\(L.map dI)[r]?=some (dI (L.getD r [])):=by refine⟨by rw[Ie];exact YG h,?_⟩;rw[Ij,Ir,Ib h];rfl
def zob :slD (ns.map PyData.int) none (some ((a:Nat):Int))=(ns.take a).map PyData.int:=by rw[OR];exact Vo a _
def znJ :slD (ns.map PyData.int) (some ((a:Nat):Int)) none=(ns.drop a).map PyData.int:=by rw[map_drop];exact zdT a _
section
variable {B:Hp}{ρ:LD}{ta tb te:TE}
def Qf{a b:LX}(ha:Er K B ta ρ (dI a))(hb:Er K B tb ρ (dI b))(hz:a.length+b.length<=2000):Er K B (tOp (zhw K) ta tb) ρ (dI (a++b)):=Xw (W4 ha hb (by rw[Ie,Ie];exact ND hz (by decide))) (by unfold dI;rw[IX])
def ziC{x:Int}(h:Er K B te ρ (.int x)):Er K B (ziB (YC te Vk)) ρ (dI [x]):=Wv (Zb h Zk) (by show 1<=sizeLine;decide)
def ziM{i:Nat}{tl:TO}(h:ρ[i]?=some (.dat (dI ns)))(hl:Eo K B tl ρ (some ((a:Nat):Int))):Er K B (tSl (zcj K) (Wj i) Ql tl) ρ (dI (ns.take a)):=Xw (zbj (Zc h) V3 hl) (by rw[zob])
def zgN{i:Nat}{tl:TO}{z:Int}(h:ρ[i]?=some (.dat (dI ns)))(hl:Eo K B tl ρ (some z))(hz:z=((a:Nat):Int)):Er K B (tSl (zcj K) (Wj i) tl Ql) ρ (dI (ns.drop a)):=Xw (zbj (Zc h) hl V3) (by rw[hz,znJ])
end
def zeK(T:Top K mg)(Nd:Uo K=true):T.J1.O P w base 15 (spP K RLp):=by
 have G__law_side:=@zih T Nd;refine T.J1.F.okP Xc (by rintro _ _ ⟨⟩;rfl) λcdv A outer s H E hr ds d hR=>?_;cases hR with
 |mk o bk ac q=>
 have zl:(2000:Nat)<sizeLine:=by decide
 have hrl:=q.hl;refine⟨_,(Zf (ZC (i:=3) Xc.nd rfl (Or.inl rfl) (Z3 Ze))
   (Zf (ZC (i:=4) Xc.nd rfl (Or.inl rfl) (Z3 Ze))
   (Zf (JG Nh rfl (XC (by rfl) T.Qv (Za (Z2 (Yb (K:=K) rfl) (by rfl) T.zaA II (Za (pv 2) Ze Zd)) Ze Yo)) (Yh (i:=5) Xc.nd rfl (Or.inr rfl)) (Zf (zfA (x:= "one") (cap:=["order", "book", "row", "place"]) (js:=[0,1,2,5]) (i:=6) (y:= "sides") ⟨rfl,(by decide +kernel),(by decide +kernel),rfl,(by show ∀ p∈(_:List (Str×NameKind)),p.2=NameKind.free->List.lookup p.1 (Zh WL).names=some NameKind.cell;decide +kernel),(by decide +kernel),(by decide +kernel),(by decide +kernel)⟩ rfl rfl (λ_ _ h=>h) Xc.nd rfl rfl (zdz (K:=K) rfl (pv 4)) (λ_ _ _ _=>⟨X8,(peN T.Vc G__law_side hr (Za (pv 1) (Za (pv 2) (Za (pv 0) (Za (ZG (Z1 (K:=K) rfl) (pv 3) (pv 4) (λ_ _=>rfl)) Ze Zj) Zd) Zd) Zd))⟩))
   (Zf (ZC (i:=7) Xc.nd rfl (Or.inl rfl) (ZL Us (Z2 (Yb (K:=K) rfl) (by rfl) T.zaA II (Za (pv 4) Ze Zd)) (zap Nv PySem.F.slot_list_count PySem.F.type_list_count (zgr (K:=K) rfl) (pv 6) (Za Zi Ze Zg))))
   (Zf (JQ (zap Nv PySem.F.slot_list_insert PySem.F.type_list_insert zcx (pv 3) (Za (pv 7) (Za (pv 5) Ze Zd) Zd)))
   (Zm (JQ (zap Nv PySem.F.slot_list_insert PySem.F.type_list_insert zcx (pv 4) (Za (pv 7) (Za (ZG (Z1 (K:=K) rfl) (pv 2) (pv 5) (λ_ _=>rfl)) Ze Zj) Zd))))))))
   (Zm (Zz (pv 3)))))) ,?_⟩
 refine Zt (ZP (zce Zk (Nr _) ?_));refine Zt (ZP (zce Zk (Nr _) ?_));refine Zt (zcC (List.range ac.length) (λ(i:Nat)=>PyData.int (i:Nat)) (VN (Zb (Xw (J0 (Zb (Zc rfl) Zk)) (by rw[Ie])) Zk) (by omega)) (λk ρ=>∃(found:List Nat)(v5 v6 v7:PV),(∀ x,x∈found↔x<k)/\found.Pairwise (lt6 (anL bk o) ac)/\found.length=k/\ρ=[.dat (dOr o),.dat (dBk bk),.dat (.tuple (ac.map dTh)),.own (found.map λ(i:Nat)=>PyData.int (i:Nat)),.own (found.map λj=>dTh (th ac j)),v5,v6,v7]) ⟨[],_,_,_,λx=>⟨λh=>(by cases h),λh=>absurd h (by omega)⟩,.nil,rfl,rfl⟩ ?_ ?_)
 .rintro k hk _ ⟨found,v5,v6,v7,h1,h2,h3,rfl⟩;rw[IG]at hk;have ei:(List.range ac.length)[k]'(by rw[IG];exact hk)=k:=by simp
  rw[ei];have hgk:(ac.map dTh)[k]?=some (dTh (th ac k)):=by rw[Ij,Ib hk];show some _=some (dTh (ac.getD k []));rw[Ir,Ib hk];rfl
  have hix:ixN (ac.map dTh).length (k:Nat)=some k:=by rw[Ie];exact YG hk
  have hth:∀ j,j<ac.length->zcR bk (th ac j):=λj hj=>q.hr _ (za9 hj);refine Um (Zt (ZP (zln (js:=[0,1,2,5]) found (λj=>dTh (th ac j)) (λj=>some (.int (o.an bk (th ac j) (th ac k)).z)) (zgC (ziI rfl rfl)) (by omega) (λj hj=>lx1 Vd (Xe (Zb (Zc rfl) (Zb (Zc rfl) (Zb (Zc rfl) (Zb (Xx (Zc rfl) (Zc rfl) hix hgk) Zk)))) ⟨o,bk,th ac j,th ac k,_,rfl,q.ho.2.2,q.ho.1,λa b h=>h,hth j (by have:=(h1 j).mp hj;omega),hth k hk,rfl⟩)) (λj _ d e=>by cases e;rfl) ?_)));rw[JT];refine Qj 6 rfl ?_;have em:(found.map λj=>PyData.int (o.an bk (th ac j) (th ac k)).z)=(found.map λj=>(o.an bk (th ac j) (th ac k)).z).map PyData.int:=by rw[N8];rfl
  rw[em];have hcl:=List.countP_le_length (p:=bhd (anL bk o) ac k) (l:=found);obtain⟨a1,ea⟩:∃ a1:Nat,a1=found.length-found.countP (bhd (anL bk o) ac k):=⟨_,rfl⟩
  refine Zt (ZP (zjz (Xw (Xa (zdl (Zb (ziI rfl rfl) Zk)) (zju (Zc rfl) (Zb Zw Zk)) λ_=>Zv _) (show _=PyData.int (a1:Nat)from ?_)) rfl ?_))
  .rw[zo8,Ie];congr 1;omega
  have hins:=zlZ q.hk hk h1 h2;unfold znr at hins;rw[← ea]at hins;show Sv K B0 _ [.dat (dOr o),.dat (dBk bk),.dat (.tuple (ac.map dTh)),.own (found.map λ(i:Nat)=>PyData.int (i:Nat)),.own (found.map λj=>dTh (th ac j)),.dat (.int (k:Nat)),.dat (.list ((found.map λj=>(o.an bk (th ac j) (th ac k)).z).map PyData.int)),.dat (.int (a1:Nat))] _;refine Zt (ziY (i:=3) (j:=a1) rfl rfl (Zb (Zc rfl) (Zb (Zc rfl) Zk)) (by rw[Ie];omega) (by rw[Ie];omega) ?_);refine ziY (i:=4) (j:=a1) rfl rfl (Zb (Zc rfl) (Zb (Xx (Zc rfl) (Zc rfl) hix hgk) Zk)) (by rw[Ie];omega) (by rw[Ie];omega) ⟨found.take a1++k::found.drop a1,.dat (.int (k:Nat)),.dat (.list ((found.map λj=>(o.an bk (th ac j) (th ac k)).z).map PyData.int)),.dat (.int (a1:Nat)),hins.1,hins.2,?_,?_⟩
  .rw[Ig,IC,Nj,Nk];omega
  .rw[← OR,← map_drop,← OR,← map_drop,IX,IX,Ng,Ng];rfl
 .rintro _ ⟨found,v5,v6,v7,h1,h2,h3,rfl⟩;rw[IG]at h1;rw[zlp h1 h2];exact Qj 3 rfl (Ym (ZR (Zc rfl) rfl))
def zeo(T:Top K mg):T.Wb.O P w base 2 (spT (dkT K) zkb RSp):=by
 have G__law_draw:=@Jf T;refine T.Wb.F.okT Yt (by rintro _ _ ⟨_,_,rfl,_⟩;rfl) λcdv A outer s H E hr p fp n ds hP=>?_;obtain⟨chain,m,rfl,hcl,hm,hn⟩:=hP;have zl:(2000:Nat)<sizeLine:=by decide
 have cl:(chain.map PyData.int).length=chain.length:=Ie _;have p18:∀{ρ:LD},Er K B0 (tOp (rI znp λi j=>.int (i^j.toNat)) (tC (.int 10)) (tC (.int 18))) ρ (.int 1000000000000000000):=zal (i:=10) (j:=18) (r:=1000000000000000000) ⟨(by decide),(by decide),(by decide)⟩ rfl;refine⟨_,(Zf (ZC (i:=3) Yt.nd rfl (Or.inl rfl) (peN T.Zx G__law_draw hr (Za (pv 0) (Za (ZL YJ (Z2 (Yb (K:=K) rfl) (by rfl) T.zaA II (Za (pv 1) Ze Zd)) Zi) Ze ZS) Zd)))
   (Zf (ZC (i:=4) Yt.nd rfl (Or.inl rfl) (Z3 (Za (peN T.Zx G__law_draw hr (Za (pv 0) (Za (ZL YJ (pv 2) Zi) Ze ZS) Zd)) (Za (peN T.Zx G__law_draw hr (Za (pv 0) (Za (ZL YJ (pv 2) Zi) Ze ZS) Zd)) (Za (za2 QX Zi) (Za (pv 2) (Za (za2 QX (pv 2)) (Za (ZL Uy Zi Zi) Ze ZS) JL) Zd) JL) Yo) Yo)))
   (Zf (ZC (i:=4) Yt.nd rfl (Or.inl rfl) (ZL Wc (pv 4) (Z3 (Za (ZL Us (za2 QX Zi) (peN T.Zx G__law_draw hr (Za (pv 0) (Za (ZL YJ (pv 2) Zi) Ze ZS) Zd))) (Za (za2 QX (ZL Uy Zi Zi)) Ze JL) ZS))))
   (Zf (ZC (i:=5) Yt.nd rfl (Or.inl rfl) (ZG (Zu (K:=K) rfl) (pv 4) (peN T.Zx G__law_draw hr (Za (pv 0) (Za Zi Ze Zg) Zd)) (λ_ _=>rfl)))
   (Zf (ZC (i:=6) Yt.nd rfl (Or.inl rfl) (XM (WT (K:=K) rfl) (pv 1) W6 (XS (pv 3))))
   (Zf (ZC (i:=7) Yt.nd rfl (Or.inl rfl) (XM (WT (K:=K) rfl) (pv 1) (XS (ZL YJ (pv 3) Zi)) W6))
   (Zf (ZC (i:=4) Yt.nd rfl (Or.inl rfl) (Z3 (Za (ZL (YT (K:=K) rfl) (ZL (YT (K:=K) rfl) (pv 6) (Xb (Za (pv 5) Ze Zd))) (XM (WT (K:=K) rfl) (pv 1) (XS (pv 3)) W6)) (Za (ZL (YT (K:=K) rfl) (pv 6) (pv 7)) (Za (ZL (YT (K:=K) rfl) (ZL (YT (K:=K) rfl) (pv 6) (Xb (Za (pv 5) Ze Zd))) (pv 7)) Ze ZS) ZS) ZS)))
   (Zf (ZC (i:=4) Yt.nd rfl (Or.inl rfl) (ZL Wc (pv 4) (Z3 (Za (ZL (YT (K:=K) rfl) (ZL (YT (K:=K) rfl) (ZL (YT (K:=K) rfl) (pv 6) (XM (WT (K:=K) rfl) (pv 7) W6 (XS Zi))) (XM (WT (K:=K) rfl) (pv 1) (XS (pv 3)) (XS (ZL YJ (pv 3) Zi)))) (XM (WT (K:=K) rfl) (pv 7) (XS Zi) W6)) (Za (zge rfl (pv 1) (XS (za2 QX Zi))) Ze Zj) ZS))))
   (Zm (Zz (ZG (Zu (K:=K) rfl) (pv 4) (peN T.Zx G__law_draw hr (Za (pv 0) (Za Zi Ze Zg) Zd)) (λ_ _=>rfl)))))))))))) ,?_⟩
 refine Zt (ZP (Yi (c:=n) rfl (Xa (J0 (Zb (Zc rfl) Zk)) Zw λ_=>Zv _) (by omega) (by omega) (by omega) λa ha=>?_));refine Zt (ZP (Q8 (Yu (Yi (c:=n+1) rfl (Xa (Zc rfl) Zw λ_=>Zv _) (by omega) (by omega) (by omega) λx1 h1=>⟨_,rfl,Yu (Yi (c:=n+2) rfl (Xa (Zc rfl) Zw λ_=>Zv _) (by omega) (by omega) (by omega) λx2 h2=>⟨_,rfl,Xf (Zb (za7 Zw) (Zb (Zc rfl) (Zb (za7 (Zc rfl)) (Zb p18 Zk)))) ⟨by show 6<=sizeLine;decide,?_⟩⟩)⟩))));refine Zt (ZP (Wf (ZR (Zc rfl) ⟨_,rfl,Q8 (Yu (Wf (ZR (za7 Zw) ⟨_,rfl,Yi (c:=n+3) rfl (Xa (Zc rfl) Zw λ_=>Zv _) (by omega) (by omega) (by omega) λx3 h3=>⟨_,.int (-1-(x3:Int)),rfl,λG σ va vb ha hb=>QS (Xz ha) (Xz hb) (Zv _),_,rfl,Xf (Zb (za7 p18) Zk) ⟨by show 2<=sizeLine;decide,_,_,rfl,λG σ va vb ha hb=>Uk (Xz ha) (Xz hb) (by show 6+2<=sizeLine;decide),?_⟩⟩⟩)))⟩)));show Sv K B0 _ [(dkT K).pv (n+4) p fp,.dat (dI chain),.dat (.int (m:Nat)),.dat (.int (a:Nat)),.dat (.list ([(x1:Int),(x2:Int),-1,(m:Int),-(m:Int),1000000000000000000,-1-(x3:Int),-1000000000000000000].map PyData.int)),.un,.un,.un] _;refine Zt (ZP (Wf (ZR (Zc rfl) ⟨_,rfl,Yi (c:=n+4) rfl Zw (by omega) (by decide) (by decide) λr hr=>⟨_,_,rfl,λG σ va vb ha hb=>YS (Xz ha) (Xz hb) (zdJ _ (show r<8 by omega)).1 (zdJ _ (show r<8 by omega)).2,?_⟩⟩)));generalize ([(x1:Int),(x2:Int),-1,(m:Int),-(m:Int),1000000000000000000,-1-(x3:Int),-1000000000000000000]:LX).getD r 0=new;have tk:(chain.take a).length<=200:=by rw[Nj];omega
 have dk1:(chain.drop (a+1)).length<=200:=by rw[Nk];omega
 have dk0:(chain.drop a).length<=200:=by rw[Nk];omega
 refine Zt (ZP (ZR (ziM rfl (zdS rfl)) ?_));refine Zt (ZP (ZR (zgN (a:=a+1) rfl (zmf (g:=λa b=>a+b) rfl) (by omega)) ?_));refine Zt (ZP (ZR (Yp (ds:=[dI (chain.take a++[new]++chain.drop a),dI (chain.take a++chain.drop (a+1)),dI (chain.take a++[new]++chain.drop (a+1))]) (Zb (Qf (Qf (Zc rfl) (ziC (Zc rfl)) (by show _+1<=_;omega)) (zgN rfl (zdS rfl) rfl) (by rw[Ig];show _+1+_<=_;omega)) (Zb (Qf (Zc rfl) (Zc rfl) (by omega)) (Zb (Qf (Qf (Zc rfl) (ziC (Zc rfl)) (by show _+1<=_;omega)) (Zc rfl) (by rw[Ig];show _+1+_<=_;omega)) Zk))) (by show 3<=sizeLine;decide)) ?_));have sl1:((chain.drop (a+1)).take 1).length<=1:=by rw[Nj];omega
 have sl2:((chain.take (a+1)).drop a).length<=1:=by rw[Nk,Nj];omega
 have sl3:((chain.drop (a+1)).drop 1).length<=200:=by rw[Nk];omega
 have sp:∀{ρ:LD},ρ[1]?=some (.dat (dI chain))->ρ[3]?=some (.dat (.int (a:Nat)))->Er K B0 (tSl (zcj K) (Wj 1) (UJ (Wj 3)) (UJ (tOp (rI0 λi j=>.int (i+j)) (Wj 3) (tC (.int 1))))) ρ (dI ((chain.take (a+1)).drop a)):=λh1 h3=>Xw (zbj (Zc h1) (zdS h3) (zmf (g:=λa b=>a+b) h3)) (by rw[show((a:Nat):Int)+1=((a+1:Nat):Int)from rfl,zg0];unfold dI;rw[map_drop,OR]);refine Zt (ZP (ZR (Xw (Wi (Zc rfl) (Yp (Zb (Qf (Qf (Qf (Zc rfl) (ziM (a:=1) rfl zdP) (by omega)) (sp rfl rfl) (by rw[Ig];omega)) (zgN (a:=1) rfl zdP rfl) (by rw[Ig,Ig];omega)) (Zb (Xw (ze2 (Zc rfl)) (show _=dI chain.reverse by unfold dI;rw[List.map_reverse])) Zk)) (by show 2<=sizeLine;decide)) (by show 3+2<=sizeLine;decide)) (show _=PyData.list ([chain.take a++[new]++chain.drop a,chain.take a++chain.drop (a+1),chain.take a++[new]++chain.drop (a+1),chain.take a++(chain.drop (a+1)).take 1++(chain.take (a+1)).drop a++(chain.drop (a+1)).drop 1,chain.reverse].map dI)from rfl)) ?_));refine Ym (Wf (ZR (Zc rfl) ⟨_,rfl,Yi (c:=n+5) rfl Zw (by omega) (by decide) (by decide) λz hz=>⟨_,_,rfl,λG σ va vb ha hb=>YS (Xz ha) (Xz hb) (zf8 _ (show z<5 by omega)).1 (zf8 _ (show z<5 by omega)).2,_,n+6,rfl,⟨chain,m,_,rfl,rfl,?_,(by omega)⟩,rfl⟩⟩));have lt:(chain.take a).length=a:=by rw[Nj];omega
 have ld:(chain.drop (a+1)).length=chain.length-(a+1):=Nk;have ld0:(chain.drop a).length=chain.length-a:=Nk;rcases z with _ | _ | _ | _ | _ | z
 .show(_++[new]++_).length<=_;rw[Ig,Ig,lt,ld0];show a+1+_<=_;omega
 .show(chain.take a++chain.drop (a+1)).length<=_;rw[Ig,lt,ld];omega
 .show(_++[new]++_).length<=_;rw[Ig,Ig,lt,ld];show a+1+_<=_;omega
 .show(chain.take a++(chain.drop (a+1)).take 1++(chain.take (a+1)).drop a++(chain.drop (a+1)).drop 1).length<=_;rw[Ig,Ig,Ig,lt,Nj,Nk (l:=chain.take (a+1)),Nj,Nk (l:=chain.drop (a+1)),ld];omega
 .show(chain.reverse).length<=_;rw[OB];omega
 .omega
end
open Ord Look Rdo
inductive zjg(n:Nat)(ds:LA):Prop
 |mk (bk:LB) (o:Oe) (_:ds=[dBk bk,dOr o]) (_:zgT bk) (_:o.ok (· ∈ bk) (λa b=>zaw (a,b))) (_:o.w.length<=24) (_:o.dp<=6) (_:Wko bk o) (_:n<=10^5):zjg n ds
inductive RFt(n:Nat)(ds:LA)(x:PD)(n' : Nat):Prop
 |mk (bk:LB) (o o' : Oe) (_:ds=[dBk bk,dOr o]) (_:x=dOr o') (_:zlc bk o') (_:Wkd bk o') (_:n' <= n+2):RFt n ds x n'
def znq:zaw (1000000000000000000,1):=by
 refine⟨⟨?_,?_⟩,(by decide),(by decide)⟩
 .exact Nat.lt_of_le_of_lt (show(1000000000000000000:Int).natAbs<=10^19 by decide) (OF (by decide) (by decide))
 .exact Nat.lt_of_le_of_lt (show(1:Int).natAbs<=10^19 by decide) (OF (by decide) (by decide))
section
def zkx(T:Top K mg):T.XN.O P w base 2 (spT (dkT K) zjg RFt):=by
 have G__law_draw:=@Jf T;refine T.XN.F.okT Jx (by rintro _ _ ⟨_,_,rfl,_⟩;rfl) λcdv A outer s H E hr p fp n ds hP=>?_;obtain⟨bk,o,rfl,hbk,ad,hl,hd,wk,hn⟩:=hP;have zl:(2000:Nat)<sizeLine:=by decide
 have hwl:(o.w.map Wd.d).length=o.w.length:=Ie _;refine⟨_,(Zf (ZC (i:=3) Jx.nd rfl (Or.inl rfl) (Xb (Za (ZG (Z1 (K:=K) rfl) (pv 1) (peN T.Zx G__law_draw hr (Za (pv 0) (Za (Z2 (Yb (K:=K) rfl) (by rfl) T.zaA II (Za (pv 1) Ze Zd)) Ze Yo) Zd)) (λ_ _=>rfl)) (Za (Xb (Za (ZL Uy Zi Zi) (Za Zi Ze Zg) ZS)) Ze zbz) Zj)))
   (Zf (Yv (ZJ Y6 (peN T.Zx G__law_draw hr (Za (pv 0) (Za Zi Ze Zg) Zd)) Zi (ZM _)) (Zm (Zz (ZL (YT (K:=K) rfl) (ZL (YT (K:=K) rfl) (ZL (YT (K:=K) rfl) (ZL (YT (K:=K) rfl) (ZL (YT (K:=K) rfl) (Xb (Za ZD (Za ZD (Za ZD (Za ZD Ze Zg) Zg) Zg) Zg)) (pv 3)) (Xb (Za ZD (Za ZD Ze Zg) Zg))) (pv 3)) (Xb (Za ZD Ze Zg))) (pv 2)))) ZQ)
   (Zm (Zz (ZL (YT (K:=K) rfl) (ZL (YT (K:=K) rfl) (ZL (YT (K:=K) rfl) (ZL (YT (K:=K) rfl) (ZL (YT (K:=K) rfl) (Xb (Za ZD (Za ZD (Za ZD (Za ZD Ze Zg) Zg) Zg) Zg)) (pv 3)) (Xb (Za ZD (Za ZD Ze Zg) Zg))) (pv 3)) (pv 2)) (Xb (Za ZD Ze Zg))))))) ,?_⟩
 refine Zt (ZP (zld (Yu (zi6 (j:=1) (i:=0) (c:=n) rfl rfl (Xw (J0 (Zb (Zc rfl) Zk)) (by rw[Ie])) (by omega) hbk λz hz=>⟨_,rfl,Xf (Zb (Wv (Zb (zal (i:=10) (j:=18) (r:=1000000000000000000) ⟨(by decide),(by decide),(by decide)⟩ rfl) (Zb Zw Zk)) (by show 2<=sizeLine;decide)) Zk) ⟨by show 2<=sizeLine;decide,?_⟩⟩))));show Sv K B0 _ [(dkT K).pv (n+1) p fp,.dat (dBk bk),.dat (dOr o),.dat (.tuple [.str z,dF (1000000000000000000,1)])] _;refine Zt (zd6 (U6 (Wf (Yi (c:=n+1) rfl Zw (by omega) (by decide) (by decide) λr hr=>⟨_,rfl,ZR Zw ⟨_,.bool (decide ((r:Int)=0)),rfl,λG σ va vb ha hb=>zau (Xz ha) (Xz hb),_,rfl,?_⟩⟩))));have t4:∀{a b c e:Str}{ρ:LD},Er K B0 (ziB (YC (tC (.str a)) (YC (tC (.str b)) (YC (tC (.str c)) (YC (tC (.str e)) Vk))))) ρ (.tuple [.str a,.str b,.str c,.str e]):=Wv (Zb ZX (Zb ZX (Zb ZX (Zb ZX Zk)))) (by show 4<=sizeLine;decide);have t2:∀{a b:Str}{ρ:LD},Er K B0 (ziB (YC (tC (.str a)) (YC (tC (.str b)) Vk))) ρ (.tuple [.str a,.str b]):=Wv (Zb ZX (Zb ZX Zk)) (by show 2<=sizeLine;decide);have t1:∀{a:Str}{ρ:LD},Er K B0 (ziB (YC (tC (.str a)) Vk)) ρ (.tuple [.str a]):=Wv (Zb ZX Zk) (by show 1<=sizeLine;decide);split
 .refine Ym (ZR (Xw (W4 (W4 (W4 (W4 (W4 t4 (Zc rfl) (by show 6<=sizeLine;decide)) t2 (by show 8<=sizeLine;decide)) (Zc rfl) (by show 10<=sizeLine;decide)) t1 (by show 11<=sizeLine;decide)) (Zc rfl) (by rw[hwl];show 11+_<=_;omega)) (show _=dOr (.pick (.an (.mk true true z (1000000000000000000,1)) (.mk false false z (1000000000000000000,1))) .like o)from ?_)) ⟨_,n+2,rfl,⟨bk,o,_,rfl,rfl,⟨⟨⟨⟨hz,znq⟩,hz,znq⟩,trivial,ad⟩,?_,?_⟩,zjN wk.d,Ik _⟩,rfl⟩)
  .rfl
  .show(Wd.t (S "pick")::(_++([Wd.t (S "like")]++o.w))).length<=100;rw[IC,Ig,Ig];show 9+(1+_)+1<=100;omega
  .show max (max 0 0+1) (max 0 o.dp)+1<=9;omega
 .refine Z4 ?_;refine Ym (ZR (Xw (W4 (W4 (W4 (W4 (W4 t4 (Zc rfl) (by show 6<=sizeLine;decide)) t2 (by show 8<=sizeLine;decide)) (Zc rfl) (by show 10<=sizeLine;decide)) (Zc rfl) (by rw[hwl];show 10+_<=_;omega)) t1 (by rw[Ig,hwl];show 10+_+1<=_;omega)) (show _=dOr (.pick (.or (.mk false false z (1000000000000000000,1)) (.mk false true z (1000000000000000000,1))) o .like)from ?_)) ⟨_,n+2,rfl,⟨bk,o,_,rfl,rfl,⟨⟨⟨⟨hz,znq⟩,hz,znq⟩,ad,trivial⟩,?_,?_⟩,zm5 wk.d,Ik _⟩,rfl⟩)
  .show PyData.tuple _=PyData.tuple (List.map Wd.d (Wd.t (S "pick")::(_++(o.w++[Wd.t (S "like")]))));rw[Ng,IX,IX];rfl
  .show(Wd.t (S "pick")::(_++(o.w++[Wd.t (S "like")]))).length<=100;rw[IC,Ig,Ig];show 9+(_+1)+1<=100;omega
  .show max (max 0 0+1) (max o.dp 0)+1<=9;omega
end
def zfv{a b:LX}(h:dI a=dI b):a=b:=by injection h with h;exact(List.map_inj_right λx y e=>by injection e).mp h
def zjy{L:Fs->Fs->An}{gs:List Fs}(wk:Wk L (· ∈ gs))(m:Nat):fsB L gs ((tnI L gs).take m)=true:=by
 rw[zgy wk,Na,Nj];rcases Nat.le_total m (tnI L gs).length with h | h
 .rw[min_eq_left h]
 .rw[Nat.min_eq_right h,NQ h,OE]
def zcX(ns:LX)(m:Nat):PyData.tuple ((ns.map PyData.int).take m)=dI (ns.take m):=by unfold dI;rw[OR]
section
def zkA{f:AD}{fd:FuncData}(F:Fun K "law" "law" zbF f fd)(T:Top K mg)(hne1:T.Z8≠T.Yn)(hne2:T.Z8≠T.ZZ)(hne3:T.Yn≠T.ZZ)(Nd:Uo K=true)(W:Wds K w.params mg)(W1:Txs K w.params mg "AHEAD" Wl)(W2:Txs K w.params mg "OTHER_WAY" X7)(M:Bs K mg base):VH P w K mg base CX0 16 f fd ["script"] (zaR K [(T.Z8,Z5),(T.Yn,λ_ _=>some Ys),(T.ZZ,Yg)]):=by
 have hB1:zgW [(T.Z8,Z5),(T.Yn,λ_ _=>some Ys),(T.ZZ,Yg)] T.Z8=some (.tbl Z5):=by unfold zgW;simp
 have hB2:zgW [(T.Z8,Z5),(T.Yn,λ_ _=>some Ys),(T.ZZ,Yg)] T.Yn=some (.tbl λ_ _=>some Ys):=by unfold zgW;simp[hne1]
 have hB3:zgW [(T.Z8,Z5),(T.Yn,λ_ _=>some Ys),(T.ZZ,Yg)] T.ZZ=some (.tbl Yg):=by unfold zgW;simp[hne2,hne3]
 refine F.znf Wm λcdv A outer s H E hr ns hns=>?_;generalize zgW [(T.Z8,Z5),(T.Yn,λ_ _=>some Ys),(T.ZZ,Yg)]=B at hB1 hB2 hB3;have G__law_decks:T.Jk.O P w base 15 (zka K):=(zhA T).mono (by decide);have G__law_draw:T.Zx.O P w base 15 (spT (dkT K) zdf RDw):=(Jf T).mono (by decide);have G__law_book:T.J2.O P w base 15 (spT (dkT K) znu RBk):=(zkF T).mono (by decide);have G__law_values:T.WP.O P w base 15 (spT (dkT K) znu RVs):=(zfo T).mono (by decide);have G__law_order:T.Jd.O P w base 15 (spT (dkT K) zkI ROr):=(zfl T).mono (by decide);have G__law_good:T.Yl.O P w base 15 (spT (dkT K) (zhE 1) (RG 1)):=(zbK T).mono (by decide);have G__law_row:T.QJ.O P w base 15 (spT (dkT K) znI RRw):=(zj6 T).mono (by decide);have G__law_for_these:T.XN.O P w base 15 (spT (dkT K) zjg RFt):=(zkx T).mono (by decide);have G__law_places:=@zeK T Nd;have G__law_spoilt:T.Wb.O P w base 15 (spT (dkT K) zkb RSp):=(zeo T).mono (by decide);have G_first_places:T.Wr.O P w base 15 (zgF K B RFp):=(zfV T hB1 hB2 Nd M W W1 W2).mono (by decide);have G_at_place:T.QC.O P w base 15 (zgF K B RAt):=(zna T hB1 hB2 Nd M W W1 W2).mono (by decide);have G_first_shown:T.Yw.O P w base 15 (zgF K B RFh):=(zib T hB1 hB3 Nd M W W1 W2).mono (by decide);have hu:=hr.units;have zl:(2000:Nat)<sizeLine:=by decide
 refine⟨_,(Zf (ZC (i:=1) Wm.nd rfl (Or.inl rfl) (peN T.Jk G__law_decks hr (Za (pv 0) Ze Zd)))
   (Zf (ZC (i:=2) Wm.nd rfl (Or.inl rfl) (peN T.J2 G__law_book hr (Za (pv 1) Ze Zd)))
   (Zf (ZC (i:=3) Wm.nd rfl (Or.inl rfl) (peN T.WP G__law_values hr (Za (pv 1) Ze Zd)))
   (Zf (ZC (i:=4) Wm.nd rfl (Or.inl rfl) (Y4 Y6 (peN T.Zx G__law_draw hr (Za (pv 1) (Za Zi Ze Zg) Zd)) Zi (ZM _)))
   (Zf (ZC (i:=5) Wm.nd rfl (Or.inl rfl) (peN T.Jd G__law_order hr (Za (pv 1) (Za (pv 2) (Za (pv 3) Ze Zd) Zd) Zd)))
   (Zf (Yv (Qh (pv 4)) (Zm (ZC (i:=5) Wm.nd rfl (Or.inl rfl) (Yq (X4 (K:=K) rfl) (by rfl) T.Ux zi0 (Za (peN T.Yl G__law_good hr (Za (pv 1) (Za (pv 2) (Za (pv 3) (Za Zi Ze Zg) Zd) Zd) Zd)) Ze Yo)))) ZQ)
   (Zf (Yv (ZJ Y6 (peN T.Zx G__law_draw hr (Za (pv 1) (Za Zi Ze Zg) Zd)) Zi (ZM _)) (Zm (ZC (i:=5) Wm.nd rfl (Or.inl rfl) (peN T.XN G__law_for_these hr (Za (pv 1) (Za (pv 2) (Za (pv 5) Ze Zd) Zd) Zd)))) ZQ)
   (Zf (ZC (i:=6) Wm.nd rfl (Or.inl rfl) (peN T.QJ G__law_row hr (Za (pv 1) (Za (pv 2) (Za (pv 3) (Za (ZG (Zu (K:=K) rfl) (Z3 (Za (peN T.Zx G__law_draw hr (Za (pv 1) (Za Zi Ze Zg) Zd)) (Za (ZL YJ Zi (peN T.Zx G__law_draw hr (Za (pv 1) (Za Zi Ze Zg) Zd))) Ze ZS) Yo)) (Yq XH (by rfl) T.int_ zgX (Za (pv 4) Ze Zd)) (λ_ _=>rfl)) Ze Zj) Zd) Zd) Zd)))
   (Zf (ZC (i:=7) Wm.nd rfl (Or.inl rfl) (Yq (X4 (K:=K) rfl) (by rfl) T.Ux zi0 (Za (peN T.J1 G__law_places hr (Za (pv 5) (Za (pv 2) (Za (pv 6) Ze Zd) Zd) Zd)) Ze Yo)))
   (Zf (ZC (i:=8) Wm.nd rfl (Or.inl rfl) (peN T.Zx G__law_draw hr (Za (pv 1) (Za (ZL YJ (Z2 (Yb (K:=K) rfl) (by rfl) T.zaA II (Za (pv 6) Ze Zd)) Zi) Ze ZS) Zd)))
   (Zf (ZC (i:=9) Wm.nd rfl (Or.inl rfl) (peN T.Wr G_first_places hr (Za (pv 5) (Za (pv 2) (Za (pv 6) (Za (pv 8) Ze Zd) Zd) Zd) Zd)))
   (Zf (Yv ((pw_or (ZJ zfF (peN T.Yw G_first_shown hr (Za (pv 5) (Za (pv 2) (Za (pv 6) (Za (pv 9) Ze Zd) Zd) Zd) Zd)) VR (ZM _)) (pw_or1 (ZJ zfF (peN T.Yw G_first_shown hr (Za (pv 5) (Za (pv 2) (Za (pv 6) (Za (XM (WT (K:=K) rfl) (pv 9) W6 (XS (za2 QX Zi))) Ze Zj) Zd) Zd) Zd)) VR (ZM _))))).pt (Zm (Zz VR)) ZQ)
   (Zf (JG Nh rfl (XC (by rfl) T.Qv (Za (Z2 (zf3 rfl) (by rfl) T.zoV zoZ (Za (ZG (Zu (K:=K) rfl) (Z3 (Za Zi (Za Zi Ze Zg) Zg)) (Yq XH (by rfl) T.int_ zgX (Za (pv 4) Ze Zd)) (λ_ _=>rfl)) (Za (pv 8) Ze Zd) Zj)) Ze Yo)) (Yh (i:=10) Wm.nd rfl (Or.inl rfl)) (Zm (Yv (ZJ zjV (ZG (Z1 (K:=K) rfl) (peN T.QC G_at_place hr (Za (pv 5) (Za (pv 2) (Za (pv 6) (Za (pv 10) Ze Zd) Zd) Zd) Zd)) Zi (λ_ _=>rfl)) (ZG (Z1 (K:=K) rfl) (pv 9) (pv 10) (λ_ _=>rfl)) (ZM _)) (Zm (Zz VR)) ZQ)))
   (Zf (JG Nh rfl (XC (by rfl) T.Qv (Za Zi Ze Zg)) (Yh (i:=11) Wm.nd rfl (Or.inl rfl)) (Zf (ZC (i:=12) Wm.nd rfl (Or.inl rfl) (XM (WT (K:=K) rfl) (pv 7) W6 (XS (peN T.Zx G__law_draw hr (Za (pv 1) (Za (ZL YJ (Z2 (Yb (K:=K) rfl) (by rfl) T.zaA II (Za (pv 6) Ze Zd)) Zi) Ze ZS) Zd)))))
   (Zf (Yv (ZJ zds (peN T.Zx G__law_draw hr (Za (pv 1) (Za Zi Ze Zg) Zd)) Zi (ZM _)) (Zm (ZC (i:=12) Wm.nd rfl (Or.inl rfl) (peN T.Wb G__law_spoilt hr (Za (pv 1) (Za (pv 12) (Za (Z2 (Yb (K:=K) rfl) (by rfl) T.zaA II (Za (pv 6) Ze Zd)) Ze Yo) Zd) Zd)))) ZQ)
   (Zf (Yv (ZJ Y6 (peN T.Zx G__law_draw hr (Za (pv 1) (Za Zi Ze Zg) Zd)) Zi (ZM _)) (Zm (ZC (i:=12) Wm.nd rfl (Or.inl rfl) (peN T.Wb G__law_spoilt hr (Za (pv 1) (Za (pv 12) (Za (Z2 (Yb (K:=K) rfl) (by rfl) T.zaA II (Za (pv 6) Ze Zd)) Ze Yo) Zd) Zd)))) ZQ)
   (Zf (ZC (i:=13) Wm.nd rfl (Or.inl rfl) (peN T.Yw G_first_shown hr (Za (pv 5) (Za (pv 2) (Za (pv 6) (Za (pv 12) Ze Zd) Zd) Zd) Zd)))
   (Zm (Yv ((pw_or (zbn (Qh (Z2 (zd3 (K:=K) rfl) (by rfl) T.zaH zoL (Za (pv 13) (Za (zfd (v:=.ty "bool") (by rfl) T.bool_ zn7 rfl) Ze))))) (pw_or1 (ZJ (zkc (K:=K) rfl hu) (pv 13) (Y4 (zax (K:=K) rfl hu) (pv 12) (XM (WT (K:=K) rfl) (pv 7) W6 (XS (Z2 (Yb (K:=K) rfl) (by rfl) T.zaA II (Za (pv 12) Ze Zd)))) (ZM _)) (ZM _))))).pt (Zm (Zz VR)) ZQ)))))))
   (Zm (Zz VR)))))))))))))))) ,?_⟩
 have nvs:∀{vs:List (Int×Int)}{bk:LB}{o:Oe},(∀ p∈vs,zaw p)->o.ok (· ∈ bk) (λa b=>(a,b)∈vs)->o.ok (· ∈ bk) (λa b=>zaw (a,b)):=λh ok=>Oe.ok.imp (λ_ z=>z) (λa b hm=>h _ hm) ok;refine Zt (ZP (zhS rfl λp fp=>?_));refine Zt (ZP (Xh (s:=0) rfl (Xf Zk ⟨0,rfl,⟨rfl,(by decide)⟩,λx n1 hx=>?_⟩)));obtain⟨bk,rfl,hbk,hn1⟩:=hx;refine Zt (ZP (Xh (s:=n1) rfl (Xf Zk ⟨n1,rfl,⟨rfl,(by omega)⟩,λx n2 hx=>?_⟩)));obtain⟨vs,rfl,hv1,hv2,hvs,hlo,hn2⟩:=hx;refine Zt (ZP (Wf (Yi (c:=n2) rfl Zw (by omega) (by decide) (by decide) λr6 _=>⟨_,rfl,ZR Zw ⟨_,.bool (decide ((r6:Int)=0)),rfl,λG σ va vb ha hb=>zau (Xz ha) (Xz hb),?_⟩⟩)));generalize decide ((r6:Int)=0)=gr;show Sv K B _ [.scr ns,(dkT K).pv (n2+1) p fp,.dat (dBk bk),.dat (.list (vs.map dF)),.dat (.bool gr),.un,.un,.un,.un,.un,.un,.un,.un,.un] _;refine Zt (ZP (Xh (s:=n2+1) rfl (Xf (Zb (Zc rfl) (Zb (Zc rfl) Zk)) ⟨n2+1,rfl,⟨bk,vs,rfl,hbk,hv1,(by omega),(by omega)⟩,λx n3 hx=>?_⟩)));obtain⟨bk1,vs1,o0,e1,rfl,ok0,hl0,hd0,wk0,hn3⟩:=hx;injection e1 with e1 e1';injection e1' with e1' _;obtain rfl:=Qm e1;obtain rfl:=Qq e1';show Sv K B _ [.scr ns,(dkT K).pv n3 p fp,.dat (dBk bk),.dat (.list (vs.map dF)),.dat (.bool gr),.dat (dOr o0),.un,.un,.un,.un,.un,.un,.un,.un] _;refine Q6 (fun ρ' => ∃(o:Oe)(c:Nat),c<=n3+20/\o.ok (· ∈ bk) (λa b=>zaw (a,b))/\o.w.length<=24/\o.dp<=6/\Wko bk o/\ρ'=[.scr ns,(dkT K).pv c p fp,.dat (dBk bk),.dat (.list (vs.map dF)),.dat (.bool gr),.dat (dOr o),.un,.un,.un,.un,.un,.un,.un,.un]) (UV (znw (Zc rfl)) (λ_=>?_) λ_=>Z4 ⟨o0,n3,(by omega),nvs hvs ok0,hl0,hd0,wk0,rfl⟩) ?_
 .refine ZP (ze3 (Xh (s:=n3) rfl (Xf (Zb (Zc rfl) (Zb (Zc rfl) (Zb Zw Zk))) ⟨n3,rfl,⟨bk,vs,rfl,hbk,hv1,(by omega),by show n3+16<=_;omega⟩,λx c2 hx=>?_⟩)));obtain⟨bk1,vs1,o,e1,rfl,ok,hl,hd,wk,hc2⟩:=hx;injection e1 with e1 e1';injection e1' with e1' _;obtain rfl:=Qm e1;obtain rfl:=Qq e1';have hl:o.w.length<=17:=hl;have hd:o.dp<=3:=hd;have hc2:c2<=n3+16:=hc2;exact⟨_,dOr o,rfl,λG σ va ha=>Qp (Zq (Xz ha) ZW),o,c2,(by omega),nvs hvs ok,(by omega),(by omega),wk,rfl⟩
 rintro _ ⟨o1,c1,hc1,ok1,hl1,hd1,wk1,rfl⟩;refine Q6 (fun ρ' => ∃(o:Oe)(c:Nat),c<=c1+5/\zlc bk o/\Wkd bk o/\ρ'=[.scr ns,(dkT K).pv c p fp,.dat (dBk bk),.dat (.list (vs.map dF)),.dat (.bool gr),.dat (dOr o),.un,.un,.un,.un,.un,.un,.un,.un]) (zd6 (U6 (Wf (Yi (c:=c1) rfl Zw (by omega) (by decide) (by decide) λr3 _=>⟨_,rfl,ZR Zw ⟨_,.bool (decide ((r3:Int)=0)),rfl,λG σ va vb ha hb=>zau (Xz ha) (Xz hb),_,rfl,?_⟩⟩)))) ?_
 .split
  .refine ZP (Xh (s:=c1+1) rfl (Xf (Zb (Zc rfl) (Zb (Zc rfl) Zk)) ⟨c1+1,rfl,⟨bk,o1,rfl,hbk,ok1,hl1,hd1,wk1,(by omega)⟩,λx c2 hx=>?_⟩));obtain⟨bk1,o2,o',e1,rfl,ok,wk,hc2⟩:=hx;injection e1 with e1 _;obtain rfl:=Qm e1;exact⟨o',c2,(by omega),ok,wk,rfl⟩
  .exact Z4 ⟨o1,c1+1,(by omega),⟨ok1,(by omega),(by omega)⟩,wk1.d,rfl⟩
 rintro _ ⟨o,c2,hc2,ok,wkd,rfl⟩;refine Zt (ZP (Xh (s:=c2) rfl (Yu (ZR (Zc rfl) ⟨_,rfl,Yu (ZR (Zc rfl) ⟨_,rfl,Yu (Wf (Q8 (Yu (Yi (c:=c2) rfl Zw (by omega) (by decide) (by decide) λa ha=>⟨_,rfl,Yu (Wf (ZR Zw ⟨_,rfl,Yi (c:=c2+1) rfl Zw (by omega) (by decide) (by decide) λb hb=>⟨_,.int (24+(b:Int)),rfl,λG σ va vb ha hb=>QS (Xz ha) (Xz hb) (Zv _),_,rfl,Xf Zk ⟨by show 2<=sizeLine;decide,_,rfl,ZR (Xq (Zb (Zc rfl) Zk)) ?_⟩⟩⟩))⟩))))⟩)⟩))));have hmm:∃ mm:Nat,mm<=60/\ixN [PyData.int (a:Nat),.int (24+(b:Int))].length (if gr=true then 1 else 0)=some (if gr=true then 1 else 0)/\[PyData.int (a:Nat),.int (24+(b:Int))][(if gr=true then 1 else 0)]?=some (.int (mm:Nat)):=by
  cases gr
  .exact⟨a,(by omega),rfl,rfl⟩
  .exact⟨24+b,(by omega),rfl,rfl⟩
 obtain⟨mm,hmm,x1,x2⟩:=hmm;refine⟨_,.int (mm:Nat),rfl,λG σ va vb ha hb=>YS (Xz ha) (Xz hb) x1 x2,_,rfl,Xf Zk ⟨c2+2,rfl,⟨bk,vs,mm,rfl,hbk,(by omega),(by omega),(by omega),(by omega)⟩,λx c3 hx=>?_⟩⟩;obtain⟨bk1,vs1,mm1,ac,e1,rfl,hrl,hrs,hc3⟩:=hx;injection e1 with e1 e1';injection e1' with e1' e1'';injection e1'' with e1'' _;injection e1'' with e1'';obtain rfl:=Qm e1;obtain rfl:=Qq e1';have hmm1:mm=mm1:=by omega
 have q:OBR o bk ac:=⟨ok,hbk,λg hg=>⟨(hrs g hg).1,λz hz=>hvs z ((hrs g hg).2 z hz)⟩,(by omega),wkd.sub λg hg=>⟨⟨(hrs g hg).1,λz hz=>(hvs z ((hrs g hg).2 z hz)).2.1⟩,λz hz=>hlo z ((hrs g hg).2 z hz)⟩⟩
 have hc3' : c3<=1000:=by omega
 clear hrs x1 x2 hn1 hn2 hn3 hc1 hc2 hc3;show Sv K B _ [.scr ns,(dkT K).pv c3 p fp,.dat (dBk bk),.dat (.list (vs.map dF)),.dat (.bool gr),.dat (dOr o),.dat (.tuple (ac.map dTh)),.un,.un,.un,.un,.un,.un,.un] _;have hr60:ac.length<=60:=by omega
 have tl:(tnI (anL bk o) ac).length=ac.length:=by rw[Ie,zfI]
 have hlen:∀{ρ:LD},ρ[6]?=some (.dat (.tuple (ac.map dTh)))->Er K B (tCB (λxs H Q=>∃ p ys,xs=[.ref p]/\(SqL K H p ys\/SqT K H p ys)/\Q (.int ys.length) H) (YC (Wj 6) Vk)) ρ (.int (ac.length:Nat)):=λh=>Xw (J0 (Zb (Zc h) Zk)) (by rw[Ie]);have hshow:∀{ρ:LD}{X:XK}{te:TE}{ps:LX},ρ[5]?=some (.dat (dOr o))->ρ[2]?=some (.dat (dBk bk))->ρ[6]?=some (.dat (.tuple (ac.map dTh)))->ps.length<=200->Er K B te ρ (dI ps)->Er K B (QM (zgF K B RFh) [] X (YC (Wj 5) (YC (Wj 2) (YC (Wj 6) (YC te Vk))))) ρ (.bool (decide (ps=(tnI (anL bk o) ac).take ps.length))):=λh5 h2 h6 hl h=>Xw (Vj (Zb (Zc h5) (Zb (Zc h2) (Zb (Zc h6) (Zb h Zk)))) ⟨o,bk,ac,_,q.ho,q.hb,q.hr,q.hl,hl⟩) (by rw[zgy q.hk]);have hfst:∀ m,decide ((tnI (anL bk o) ac).take m=(tnI (anL bk o) ac).take ((tnI (anL bk o) ac).take m).length)=true:=λm=>by rw[← zgy q.hk];exact zjy q.hk m
 refine Zt (ZP (ZR (Xw (zai (Zb (Xe (Zb (Zc rfl) (Zb (Zc rfl) (Zb (Zc rfl) Zk))) ⟨o,bk,ac,q⟩) Zk)) (show _=dI (tnI (anL bk o) ac) by unfold dI;rw[N8];rfl)) ?_));refine Zt (ZP (Yi (c:=c3) rfl (Xa (hlen rfl) Zw λ_=>Zv _) (by omega) (by omega) (by omega) λm hm=>?_));have hm:m<=ac.length:=by omega
 refine Zt (ZP (ZR (Vj (Zb (Zc rfl) (Zb (Zc rfl) (Zb (Zc rfl) (Zb (Zc rfl) Zk)))) ⟨o,bk,ac,m,q,hm⟩) ?_));have htk:((tnI (anL bk o) ac).take m).length=m:=by rw[Nj,tl];omega
 have e2:PyData.tuple (slD (((tnI (anL bk o) ac).take m).map PyData.int) none (some (-1)))=dI ((tnI (anL bk o) ac).take (m-1)):=by rw[zlY,zcX,Ie,htk,List.take_take,min_eq_left (by omega)]
 show Sv K B _ [.scr ns,(dkT K).pv (c3+1) p fp,.dat (dBk bk),.dat (.list (vs.map dF)),.dat (.bool gr),.dat (dOr o),.dat (.tuple (ac.map dTh)),.dat (dI (tnI (anL bk o) ac)),.dat (.int (m:Nat)),.dat (dI ((tnI (anL bk o) ac).take m)),.un,.un,.un,.un] _;refine Zt (Xm (QV (zj3 (Z0 (ziL (hshow rfl rfl rfl (by omega) (Zc rfl)))) λ_=>Z0 (ziL (hshow rfl rfl rfl (by rw[Nj];omega) (Xw (zbj (Zc rfl) V3 zkw) e2)))) (by rw[hfst,hfst];rfl)) (Z4 ?_));have h31:∃ t:Nat,t<=3/\([PyData.int 3,.int 1])[(if gr=true then 1 else 0)]?=some (.int (t:Nat))/\ixN ([PyData.int 3,.int 1]).length (if gr=true then 1 else 0)=some (if gr=true then 1 else 0):=by
  cases gr with
  |true=>exact⟨1,(by decide),rfl,rfl⟩
  |false=>exact⟨3,(by decide),rfl,rfl⟩
 obtain⟨t,ht,m1,m2⟩:=h31;have hmin:(if((m:Nat):Int)<(t:Nat)then((m:Nat):Int)else(t:Nat))=((min m t:Nat):Int):=by split <;> omega
 refine Zt (zcC (List.range (min m t)) (λ(i:Nat)=>PyData.int (i:Nat)) (VN (Zb (Xw (zjJ (Zb (XJ (Yp (Zb Zw (Zb Zw Zk)) (by show 2<=sizeLine;decide)) (Xq (Zb (Zc rfl) Zk)) m2 m1) (Zb (Zc rfl) Zk))) (by rw[hmin])) Zk) (by omega)) (λk ρ=>∃ v10:PV,ρ=[.scr ns,(dkT K).pv (c3+1) p fp,.dat (dBk bk),.dat (.list (vs.map dF)),.dat (.bool gr),.dat (dOr o),.dat (.tuple (ac.map dTh)),.dat (dI (tnI (anL bk o) ac)),.dat (.int (m:Nat)),.dat (dI ((tnI (anL bk o) ac).take m)),v10,.un,.un,.un]) ⟨_,rfl⟩ ?_ ?_)
 .rintro k hk _ ⟨v10,rfl⟩;rw[IG]at hk;have ei:(List.range (min m t))[k]'(by rw[IG];exact hk)=k:=by simp
  rw[ei];have hkm:k<m:=by omega
  refine Um (Xm (QV (Z0 (zl6 (Xx (n:=1) (Vj (Zb (Zc rfl) (Zb (Zc rfl) (Zb (Zc rfl) (Zb (Zc rfl) Zk)))) ⟨o,bk,ac,k,q,(by omega)⟩) Zw rfl rfl) (Xx (n:=k) (d:=.int ((tn (anL bk o) ac).getD k 0:Nat)) (Zc rfl) (Zc rfl) (by rw[Ie,htk];exact YG hkm) ?_))) ?_) (Z4 ⟨_,rfl⟩))
  .have tl0:=zfI (anL bk o) ac;rw[Ij,List.getElem?_take_of_lt hkm,Ij,Ir,Ib (by omega)];rfl
  .rw[Ip rfl];rfl
 rintro _ ⟨v10,rfl⟩;refine Zt (zcC (List.range 8) (λ(i:Nat)=>PyData.int (i:Nat)) (VN (n:=8) (Zb Zw Zk) (by decide)) (λk ρ=>∃(c:Nat)(v10 v11 v12 v13:PV),c<=c3+1+30*k/\ρ=[.scr ns,(dkT K).pv c p fp,.dat (dBk bk),.dat (.list (vs.map dF)),.dat (.bool gr),.dat (dOr o),.dat (.tuple (ac.map dTh)),.dat (dI (tnI (anL bk o) ac)),.dat (.int (m:Nat)),.dat (dI ((tnI (anL bk o) ac).take m)),v10,v11,v12,v13]) ⟨c3+1,_,_,_,_,(by omega),rfl⟩ ?_ ?_)
 .rintro k hk _ ⟨c,v10,v11,v12,v13,hc,rfl⟩;rw[IG]at hk;generalize (List.range 8)[k]=k';refine Um (Q6 (fun ρ' => ∃ ps:LX,ps.length<=60/\ρ'=[.scr ns,(dkT K).pv (c+1) p fp,.dat (dBk bk),.dat (.list (vs.map dF)),.dat (.bool gr),.dat (dOr o),.dat (.tuple (ac.map dTh)),.dat (dI (tnI (anL bk o) ac)),.dat (.int (m:Nat)),.dat (dI ((tnI (anL bk o) ac).take m)),v10,.dat (.int (k' : Nat)),.dat (dI ps),v13]) (ZP (zj2 (Zc rfl) (Yi (c:=c) rfl (Xa (hlen rfl) Zw λ_=>Zv _) (by omega) (by omega) (by omega) λj hj=>⟨j,rfl,(tnI (anL bk o) ac).take j,by rw[Nj,tl];omega,?_⟩))) ?_)
  .rw[Vo,zcX];rfl
  rintro _ ⟨ps,hps,rfl⟩;refine Q6 (fun ρ' => ∃(c' : Nat)(ps' : LX),c' <= c+10/\ps'.length<=61/\ρ'=[.scr ns,(dkT K).pv c' p fp,.dat (dBk bk),.dat (.list (vs.map dF)),.dat (.bool gr),.dat (dOr o),.dat (.tuple (ac.map dTh)),.dat (dI (tnI (anL bk o) ac)),.dat (.int (m:Nat)),.dat (dI ((tnI (anL bk o) ac).take m)),v10,.dat (.int (k' : Nat)),.dat (dI ps'),v13]) (zd6 (U6 (Wf (Yi (c:=c+1) rfl Zw (by omega) (by decide) (by decide) λr3 _=>⟨_,rfl,ZR Zw ⟨_,.bool (decide ((0:Int)<(r3:Nat))),rfl,λG σ va vb ha hb=>QS (Xz ha) (Xz hb) (Yc _),_,rfl,?_⟩⟩)))) ?_
  .split
   .refine ZP (Xh (s:=c+2) rfl (Xf (Zb (Zc rfl) (Zb (hlen rfl) Zk)) ⟨c+2,rfl,⟨ps,ac.length,rfl,(by omega),(by omega),(by omega)⟩,λx c4 hx=>?_⟩));obtain⟨ps1,m1,ps2,e1,rfl,hl2,hc4⟩:=hx;injection e1 with e1 _;obtain rfl:=zfv e1;exact⟨c4,ps2,(by omega),(by omega),rfl⟩
   .exact Z4 ⟨c+2,ps,(by omega),(by omega),rfl⟩
  rintro _ ⟨c5,ps5,hc5,hps5,rfl⟩;refine Q6 (fun ρ' => ∃(c' : Nat)(ps' : LX),c' <= c+20/\ps'.length<=62/\ρ'=[.scr ns,(dkT K).pv c' p fp,.dat (dBk bk),.dat (.list (vs.map dF)),.dat (.bool gr),.dat (dOr o),.dat (.tuple (ac.map dTh)),.dat (dI (tnI (anL bk o) ac)),.dat (.int (m:Nat)),.dat (dI ((tnI (anL bk o) ac).take m)),v10,.dat (.int (k' : Nat)),.dat (dI ps'),v13]) (zd6 (U6 (Wf (Yi (c:=c5) rfl Zw (by omega) (by decide) (by decide) λr3 _=>⟨_,rfl,ZR Zw ⟨_,.bool (decide ((r3:Int)=0)),rfl,λG σ va vb ha hb=>zau (Xz ha) (Xz hb),_,rfl,?_⟩⟩)))) ?_
  .split
   .refine ZP (Xh (s:=c5+1) rfl (Xf (Zb (Zc rfl) (Zb (hlen rfl) Zk)) ⟨c5+1,rfl,⟨ps5,ac.length,rfl,(by omega),(by omega),(by omega)⟩,λx c4 hx=>?_⟩));obtain⟨ps1,m1,ps2,e1,rfl,hl2,hc4⟩:=hx;injection e1 with e1 _;obtain rfl:=zfv e1;exact⟨c4,ps2,(by omega),(by omega),rfl⟩
   .exact Z4 ⟨c5+1,ps5,(by omega),(by omega),rfl⟩
  rintro _ ⟨c6,ps6,hc6,hps6,rfl⟩;refine Zt (ZP (ZR (hshow rfl rfl rfl (by omega) (Zc rfl)) ?_));refine Xm (QV (zj3 (zcr (znw (zla (Zc rfl) T.bb))) λ_=>Z0 (zmL (g:=(!·)) (Zc rfl) (Xw (zfu (g:=λb=>b) (n:=2) (Zc rfl) (Xw (zjR (Zc rfl) (Xw (J0 (Zb (Zc rfl) Zk)) (by rw[Ie]))) (by rw[Vo,zcX])) (zcZ _) (zcZ _) (by decide)) (show _=PyData.bool (decide (ps6=(tnI (anL bk o) ac).take ps6.length))from ?_)) ⟨rfl,rfl,rfl⟩)) ?_) (Z4 ⟨c6,_,_,_,_,(by omega),rfl⟩)
  .congr 1;by_cases h:ps6=(tnI (anL bk o) ac).take ps6.length
   .rw[Ip h,← h];exact same_self _
   .rw[Iw h];exact zdp λe=>h (zfv e)
  .show(!true || !PySem.Spec.same (.bool _) (.bool _))=false;rw[same_self];rfl
 .rintro _ ⟨c,v10,v11,v12,v13,hc,rfl⟩;exact Ym (ZR zgb rfl)
end
def zjt(P:Program)(w:World)(K:FG)(mg:Str->LG)(base:Heap):OkL P w K mg base:=Classical.byContradiction λh=>(@Classical.epsilon_spec EnC (λe=>¬ OkL e.P e.w e.K e.mg e.base) ⟨⟨P,w,K,mg,base⟩,h⟩) (λf fd F T hne1 hne2 hne3 Nd W W1 W2 M=>zkA F T hne1 hne2 hne3 Nd W W1 W2 M)
def zli{P:Program}{w:World}{K:FG}{mg:Str->LG}{base:Heap}{f:AD}{fd:FuncData}(F:Fun K "law" "law" zbF f fd)(T:Top K mg)(hne1:T.Z8≠T.Yn)(hne2:T.Z8≠T.ZZ)(hne3:T.Yn≠T.ZZ)(Nd:Uo K=true)(W:Wds K w.params mg)(W1:Txs K w.params mg "AHEAD" Wl)(W2:Txs K w.params mg "OTHER_WAY" X7)(M:Bs K mg base):VH P w K mg base CX0 16 f fd ["script"] (zaR K [(T.Z8,Z5),(T.Yn,λ_ _=>some Ys),(T.ZZ,Yg)]):=zjt P w K mg base f fd F T hne1 hne2 hne3 Nd W W1 W2 M
structure Pm(K:FG)(x:Str)(st:Stmt)(f:AD)(oc:Value)(od:Option AD)(kV dc pm:Value)(an:Option AD)(cd ct:Value)(sl:Array (LG)):Prop where
 a:PySem.W.nsIn K mainGlobals x=some (some (.ref f))
 l:K.lookup f=some ⟨oc,od,.func (PySem.W.fnOf x x (We st) (Yj st) (Zh st) .none kV dc pm an cd ct),sl⟩
 c:codeIn K cd x=true
 k:keepIn K (.ref f)=true
abbrev tabs:ziV:=[(173,Z5),(238,λ_ _=>some Ys),(264,Yg)]
def Pn(K:FG)(n:Str)(s:Stmt):Prop:=∃ f oc od kV dc pm an cd ct sl,Pm K n s f oc od kV dc pm an cd ct sl
noncomputable def Pn.go{K:FG}{h:Heap}{mg:Str->LG}{n:Str}{s:Stmt}{ps:LB}(p:Pn K n s)(X:K.In h)(G:h.Ns mainGlobals mg)(hb:∀(kV doc pm:Value)(an:Option AD)(cdv ct:Value)(us:LF),us.length=ps.length->bindArgs (PySem.W.fnOf n n (We s) (Yj s) (Zh s) .none kV doc pm an cdv ct) ⟨us,[]⟩=pure (ps.zip us)):Fn1 K mg n s ps:=Classical.choice (by
 obtain⟨f,oc,od,kV,dc,pm,an,cd,ct,sl,p⟩:=p;exact⟨⟨f,_,Vv (st:=s) p.l p.c p.k,(Vv (st:=s) p.l p.c p.k).binds hb,mg_of X G p.a⟩⟩)
noncomputable def Pn.go1{K:FG}{h:Heap}{mg:Str->LG}{n:Str}{s:Stmt}{x0:Str}(p:Pn K n s)(X:K.In h)(G:h.Ns mainGlobals mg)(hb:∀(kV doc pm:Value)(an:Option AD)(cdv ct:Value)(u0:Value),bindArgs (PySem.W.fnOf n n (We s) (Yj s) (Zh s) .none kV doc pm an cdv ct) ⟨[u0],[]⟩=pure ([x0].zip [u0])):Fn1 K mg n s [x0]:=p.go X G λa b c d e f us hl=>match us,hl with | [u0],_=>hb a b c d e f u0
noncomputable def Pn.go2{K:FG}{h:Heap}{mg:Str->LG}{n:Str}{s:Stmt}{x0 x1:Str}(p:Pn K n s)(X:K.In h)(G:h.Ns mainGlobals mg)(hb:∀(kV doc pm:Value)(an:Option AD)(cdv ct:Value)(u0 u1:Value),bindArgs (PySem.W.fnOf n n (We s) (Yj s) (Zh s) .none kV doc pm an cdv ct) ⟨[u0,u1],[]⟩=pure ([x0,x1].zip [u0,u1])):Fn1 K mg n s [x0,x1]:=p.go X G λa b c d e f us hl=>match us,hl with | [u0,u1],_=>hb a b c d e f u0 u1
noncomputable def Pn.go3{K:FG}{h:Heap}{mg:Str->LG}{n:Str}{s:Stmt}{x0 x1 x2:Str}(p:Pn K n s)(X:K.In h)(G:h.Ns mainGlobals mg)(hb:∀(kV doc pm:Value)(an:Option AD)(cdv ct:Value)(u0 u1 u2:Value),bindArgs (PySem.W.fnOf n n (We s) (Yj s) (Zh s) .none kV doc pm an cdv ct) ⟨[u0,u1,u2],[]⟩=pure ([x0,x1,x2].zip [u0,u1,u2])):Fn1 K mg n s [x0,x1,x2]:=p.go X G λa b c d e f us hl=>match us,hl with | [u0,u1,u2],_=>hb a b c d e f u0 u1 u2
noncomputable def Pn.go4{K:FG}{h:Heap}{mg:Str->LG}{n:Str}{s:Stmt}{x0 x1 x2 x3:Str}(p:Pn K n s)(X:K.In h)(G:h.Ns mainGlobals mg)(hb:∀(kV doc pm:Value)(an:Option AD)(cdv ct:Value)(u0 u1 u2 u3:Value),bindArgs (PySem.W.fnOf n n (We s) (Yj s) (Zh s) .none kV doc pm an cdv ct) ⟨[u0,u1,u2,u3],[]⟩=pure ([x0,x1,x2,x3].zip [u0,u1,u2,u3])):Fn1 K mg n s [x0,x1,x2,x3]:=p.go X G λa b c d e f us hl=>match us,hl with | [u0,u1,u2,u3],_=>hb a b c d e f u0 u1 u2 u3
def zmB{l:PySem.W.OpenLaw}{w:World}{K:FG}{h:Heap}{mg:Str->LG}{fa:AD}{fz12 fz23 fz27 fz44:AD}(X:K.In h)(G:h.Ns mainGlobals mg)(hfa:mg "law" = some (.ref fa)){odz12 anz12 odz23 anz23 odz27 anz27 odz44 anz44:Option AD}{slz12 slz23 slz27 slz44:Array (LG)}{ocz12 kVz12 dcz12 pmz12 cdz12 ctz12 ocz23 kVz23 dcz23 pmz23 cdz23 ctz23 ocz27 kVz27 dcz27 pmz27 cdz27 ctz27 ocz44 kVz44 dcz44 pmz44 cdz44 ctz44:Value}(pz0:Pn K "telling" zaY)(pz1:Pn K "taken" zdb)(pz2:Pn K "word_told" QZ)(pz3:Pn K "put_together" Ju)(pz4:Pn K "is_open" zam)(pz5:Pn K "answer" zbW)(pz6:Pn K "one_then_other" Wx)(pz7:Pn K "turned_about" Js)(pz8:Pn K "picked" zbV)(pz9:Pn K "settled_by" W8)(pz10:Pn K "compared" Uc)(pz11:Pn K "how_stands" Qi)(pz12:Pm K "looked" Xi fz12 ocz12 odz12 kVz12 dcz12 pmz12 anz12 cdz12 ctz12 slz12)(pz13:Pn K "each_once" Q7)(pz14:Pn K "table_of" QL)(pz15:Pn K "looks_of" QD)(pz16:Pn K "looks_agree" JV)(pz17:Pn K "against_ranks" W0)(pz18:Pn K "three_against" Wa)(pz19:Pn K "picked_out" Qd)(pz20:Pn K "ranks_in" Qy)(pz21:Pn K "by_size" zaX)(pz22:Pn K "are_places" Jb)(pz23:Pm K "turning" Jy fz23 ocz23 odz23 kVz23 dcz23 pmz23 anz23 cdz23 ctz23 slz23)(pz24:Pn K "ranks_of" Qz)(pz25:Pn K "at_place" V4)(pz26:Pn K "first_places" Jp)(pz27:Pm K "first_shown" Z7 fz27 ocz27 odz27 kVz27 dcz27 pmz27 anz27 cdz27 ctz27 slz27)(pz28:Pn K "_law_decks" Qw)(pz29:Pn K "_law_draw" Q3)(pz30:Pn K "_law_least" Qk)(pz31:Pn K "_law_values" JP)(pz32:Pn K "_law_book" JS)(pz33:Pn K "_law_row" Qx)(pz34:Pn K "_law_case" Q9)(pz35:Pn K "_law_good" Vf)(pz36:Pn K "_law_order" Qu)(pz37:Pn K "_law_far" Ud)(pz38:Pn K "_law_holds" Wt)(pz39:Pn K "_law_along" Qe)(pz40:Pn K "_law_side" Q0)(pz41:Pn K "_law_places" WL)(pz42:Pn K "_law_for_these" WD)(pz43:Pn K "_law_spoilt" JM)(pz44:Pm K "law" zbF fz44 ocz44 odz44 kVz44 dcz44 pmz44 anz44 cdz44 ctz44 slz44)(qz12:cdz12 = .ref 177)(hz12:codeHdIn K 177 173=true)(nz12:K.lookup 173=none)(qz23:cdz23 = .ref 242)(hz23:codeHdIn K 242 238=true)(nz23:K.lookup 238=none)(qz27:cdz27 = .ref 266)(hz27:codeHdIn K 266 264=true)(nz27:K.lookup 264=none)(z_len:PySem.W.nsIn K mainGlobals "len" = some none)(z_range:PySem.W.nsIn K mainGlobals "range" = some none)(z_tuple:PySem.W.nsIn K mainGlobals "tuple" = some none)(z_isinstance:PySem.W.nsIn K mainGlobals "isinstance" = some none)(z_list:PySem.W.nsIn K mainGlobals "list" = some none)(z_int:PySem.W.nsIn K mainGlobals "int" = some none)(z_reversed:PySem.W.nsIn K mainGlobals "reversed" = some none)(z_enumerate:PySem.W.nsIn K mainGlobals "enumerate" = some none)(z_bool:PySem.W.nsIn K mainGlobals "bool" = some none)(z_abs:PySem.W.nsIn K mainGlobals "abs" = some none)(z_sorted:PySem.W.nsIn K mainGlobals "sorted" = some none)(z_max:PySem.W.nsIn K mainGlobals "max" = some none)(z_all:PySem.W.nsIn K mainGlobals "all" = some none)(z_zip:PySem.W.nsIn K mainGlobals "zip" = some none)(z_min:PySem.W.nsIn K mainGlobals "min" = some none){aW:AD}{esW:Array DictEntry}{nW:Nat}(aWo:PySem.W.nsIn K mainGlobals "WORDS" = some (some (.ref aW)))(lWo:K.lookup aW=some ⟨.type "dict",none,.dict esW nW,#[]⟩)(kWo:KeysLit w.params esW.toList)(oWo:(aW==sysModules)=false)(vWo:zcA K esW.toList Ord.zaJ=true){aA:AD}{esA:Array DictEntry}{nA:Nat}(aAo:PySem.W.nsIn K mainGlobals "AHEAD" = some (some (.ref aA)))(lAo:K.lookup aA=some ⟨.type "dict",none,.dict esA nA,#[]⟩)(kAo:KeysLit w.params esA.toList)(oAo:(aA==sysModules)=false)(vAo:zco esA.toList Wl=true){aO:AD}{esO:Array DictEntry}{nO:Nat}(aOo:PySem.W.nsIn K mainGlobals "OTHER_WAY" = some (some (.ref aO)))(lOo:K.lookup aO=some ⟨.type "dict",none,.dict esO nO,#[]⟩)(kOo:KeysLit w.params esO.toList)(oOo:(aO==sysModules)=false)(vOo:zco esO.toList X7=true)(nd:Uo K=true)(tt:kitOne K (.type "tuple") (.type "tuple")=some true)(st:kitOne K (.type "str") (.type "tuple")=some false)(bt:kitOne K (.type "bool") (.type "tuple")=some false)(ii:kitOne K (.type "int") (.type "int")=some true)(ib:kitOne K (.type "int") (.type "bool")=some false)(bb:kitOne K (.type "bool") (.type "bool")=some true):
  ∃ fd:FuncData,(∀(s:SH)(v:Value),BindsTo s fd ⟨[v],[]⟩ [("script",v)])/\((∀ p∈tabs,K.lookup p.1=none)/\(∀ p∈tabs,isCodeTable h p.1)/\(tabs.map (·.1)).Nodup)/\∀ base:Heap,K.In base->base.Ns mainGlobals mg->Bs K mg base->VH l.prog w K mg base CX0 16 fa fd ["script"] (zaR K tabs):=by
 have e:=hfa.symm.trans (mg_of X G pz44.a);cases e;obtain⟨W⟩:=Ord.zmJ (P:=w.params) (mg_of X G aWo) lWo kWo oWo vWo;obtain⟨W1⟩:=ziD (P:=w.params) (mg_of X G aAo) lAo kAo oAo vAo;obtain⟨W2⟩:=ziD (P:=w.params) (mg_of X G aOo) lOo kOo oOo vOo;exact⟨PySem.W.fnOf "law" "law" (We zbF) (Yj zbF) (Zh zbF) .none kVz44 dcz44 pmz44 anz44 cdz44 ctz44,λs v=>.of_eq rfl,⟨(Ou.mpr ⟨nz12,(Ou.mpr ⟨nz23,(Ou.mpr ⟨nz27,(λ_ h=>nomatch h)⟩)⟩)⟩),(Ou.mpr ⟨zbE X hz12,(Ou.mpr ⟨zbE X hz23,(Ou.mpr ⟨zbE X hz27,(λ_ h=>nomatch h)⟩)⟩)⟩),(by decide)⟩,λbase _ _ M=>zli (Vv (st:=zbF) pz44.l pz44.c pz44.k)
  ⟨pz0.go3 X G λ_ _ _ _ _ _ _ _ _=>rfl,
  pz1.go2 X G λ_ _ _ _ _ _ _ _=>rfl,
  pz2.go4 X G λ_ _ _ _ _ _ _ _ _ _=>rfl,
  pz3.go2 X G λ_ _ _ _ _ _ _ _=>rfl,
  pz4.go1 X G λ_ _ _ _ _ _ _=>rfl,
  pz5.go2 X G λ_ _ _ _ _ _ _ _=>rfl,
  pz6.go2 X G λ_ _ _ _ _ _ _ _=>rfl,
  pz7.go1 X G λ_ _ _ _ _ _ _=>rfl,
  pz8.go3 X G λ_ _ _ _ _ _ _ _ _=>rfl,
  pz9.go3 X G λ_ _ _ _ _ _ _ _ _=>rfl,
  pz10.go2 X G λ_ _ _ _ _ _ _ _=>rfl,
  pz11.go2 X G λ_ _ _ _ _ _ _ _=>rfl,
   ⟨fz12,_,(Vv (st:=Xi) pz12.l pz12.c pz12.k),(Vv (st:=Xi) pz12.l pz12.c pz12.k).binds (ps:=["order", "book", "first", "second"]) λ_ _ _ _ _ _ us hl=>match us,hl with | [_,_,_,_],_=>rfl,mg_of X G pz12.a⟩,
  pz13.go1 X G λ_ _ _ _ _ _ _=>rfl,
  pz14.go3 X G λ_ _ _ _ _ _ _ _ _=>rfl,
  pz15.go4 X G λ_ _ _ _ _ _ _ _ _ _=>rfl,
  pz16.go1 X G λ_ _ _ _ _ _ _=>rfl,
  pz17.go1 X G λ_ _ _ _ _ _ _=>rfl,
  pz18.go1 X G λ_ _ _ _ _ _ _=>rfl,
  pz19.go2 X G λ_ _ _ _ _ _ _ _=>rfl,
  pz20.go1 X G λ_ _ _ _ _ _ _=>rfl,
  pz21.go2 X G λ_ _ _ _ _ _ _ _=>rfl,
  pz22.go2 X G λ_ _ _ _ _ _ _ _=>rfl,
   ⟨fz23,_,(Vv (st:=Jy) pz23.l pz23.c pz23.k),(Vv (st:=Jy) pz23.l pz23.c pz23.k).binds (ps:=["order", "book", "row"]) λ_ _ _ _ _ _ us hl=>match us,hl with | [_,_,_],_=>rfl,mg_of X G pz23.a⟩,
  pz24.go3 X G λ_ _ _ _ _ _ _ _ _=>rfl,
  pz25.go4 X G λ_ _ _ _ _ _ _ _ _ _=>rfl,
  pz26.go4 X G λ_ _ _ _ _ _ _ _ _ _=>rfl,
   ⟨fz27,_,(Vv (st:=Z7) pz27.l pz27.c pz27.k),(Vv (st:=Z7) pz27.l pz27.c pz27.k).binds (ps:=["order", "book", "row", "places"]) λ_ _ _ _ _ _ us hl=>match us,hl with | [_,_,_,_],_=>rfl,mg_of X G pz27.a⟩,
  pz28.go1 X G λ_ _ _ _ _ _ _=>rfl,
  pz29.go2 X G λ_ _ _ _ _ _ _ _=>rfl,
  pz30.go2 X G λ_ _ _ _ _ _ _ _=>rfl,
  pz31.go1 X G λ_ _ _ _ _ _ _=>rfl,
  pz32.go1 X G λ_ _ _ _ _ _ _=>rfl,
  pz33.go4 X G λ_ _ _ _ _ _ _ _ _ _=>rfl,
  pz34.go3 X G λ_ _ _ _ _ _ _ _ _=>rfl,
  pz35.go4 X G λ_ _ _ _ _ _ _ _ _ _=>rfl,
  pz36.go3 X G λ_ _ _ _ _ _ _ _ _=>rfl,
  pz37.go2 X G λ_ _ _ _ _ _ _ _=>rfl,
  pz38.go4 X G λ_ _ _ _ _ _ _ _ _ _=>rfl,
  pz39.go4 X G λ_ _ _ _ _ _ _ _ _ _=>rfl,
  pz40.go4 X G λ_ _ _ _ _ _ _ _ _ _=>rfl,
  pz41.go3 X G λ_ _ _ _ _ _ _ _ _=>rfl,
  pz42.go3 X G λ_ _ _ _ _ _ _ _ _=>rfl,
  pz43.go3 X G λ_ _ _ _ _ _ _ _ _=>rfl,
   177,173,qz12,hz12,
   242,238,qz23,hz23,
   266,264,qz27,hz27,
   NR X G z_len,
   NR X G z_range,
   NR X G z_tuple,
   NR X G z_isinstance,
   NR X G z_list,
   NR X G z_int,
   NR X G z_reversed,
   NR X G z_enumerate,
   NR X G z_bool,
   NR X G z_abs,
   NR X G z_sorted,
   NR X G z_max,
   NR X G z_all,
   NR X G z_zip,
   NR X G z_min,
   tt,
   st,
   bt,
   ii,
   ib,
   bb⟩ (show((173:Nat)≠238)by decide) (show((173:Nat)≠264)by decide) (show((238:Nat)≠264)by decide) nd W W1 W2 M⟩
def walk{l:PySem.W.OpenLaw}{q:Program}{loose:LB}{XP:(Str->LG)->Heap->Prop}{YP:World->Heap->Prop}{d:DefRec}{K:Params->FG}(hn:l.most=some 63)(hdf:d.params.defaults=[])(hY:∀(w:World)(h:Heap),YP w h->(K w.params).In h/\∀ p∈tabs,h.get? p.1=some {cls:=.none,data:=.fields #[]})(F:∀(w:World)(mg:Str->LG)(fa:AD)(h:Heap),(K w.params).In h->h.Ns mainGlobals mg->mg d.name=some (.ref fa)->
   ∃ fd:FuncData,(∀(s:SH)(u:Value),BindsTo s fd ⟨[u],[]⟩ [("script",u)])/\((∀ p∈tabs,(K w.params).lookup p.1=none)/\(∀ p∈tabs,isCodeTable h p.1)/\(tabs.map (·.1)).Nodup)/\∀ base:Heap,(K w.params).In base->base.Ns mainGlobals mg->Bs (K w.params) mg base->VH l.prog w (K w.params) mg base CX0 16 fa fd ["script"] (zaR (K w.params) tabs)):
  PySem.W.WalkO q loose XP YP l.row.toRowW d [] (λf vs=>PySem.call f vs):=
 L2.zhk (n:=63) (k:=16) (x:= "script") (sp:=λw=>zaR (K w.params) tabs) (λ_=>tabs) hn (by decide) hdf ⟨rfl,(by decide),(by decide)⟩ hY F (λ_ _ a ns hl hT hS=>⟨a,ns,rfl,hS,hl,hT,λ_=>rfl⟩)
end K61
def PySem.W.Fast.tw11556207973574804866:Nat:=0
def PySem.W.Fast.tw3477755733687328231:Nat:=0
def PySem.W.Fast.tw18405035335642257322:Nat:=0
def PySem.W.Fast.tw18325321023134770448:Nat:=0
def PySem.W.Fast.tw10444608191413281842:Nat:=0
def PySem.W.Fast.tw10384256718820209397:Nat:=0
def PySem.W.Fast.tw16448871991538405527:Nat:=0
def PySem.W.Fast.tw16674188101907409697:=0
def PySem.W.Fast.tw4606226126214462019:=0
def PySem.W.Fast.tw8051534078598904503:=0
def PySem.W.Fast.tw14568477148483865162:=0
def PySem.W.Fast.tw16196910543547803340:=0
def PySem.W.Fast.tw17875068646780839646:=0
def PySem.W.Fast.tw13576119298218687476:=0
def PySem.W.Fast.tw8798099447431658631:=0
def PySem.W.Fast.tw1215339202383887661:=0
def PySem.W.Fast.tw6423961772194463049:=0
def PySem.W.Fast.tw15154522441269208335:=0
def PySem.W.Fast.tw15153850888917794509:=0
def PySem.W.Fast.tw8233383087741789438:=0
def PySem.W.Fast.tw8675257793163265672:=0
def PySem.W.Fast.tw16185581092859695401:=0
def PySem.W.Fast.tw12466954683680764853:=0
def PySem.W.Fast.tw14428273020547033811:=0
def PySem.W.Fast.tw1880693018820216156:=0
def PySem.W.Fast.tw10271409092816786121:=0
def PySem.W.Fast.tw17767413328782230575:=0
def PySem.W.Fast.tw9300113854342990085:=0
def PySem.W.Fast.tw9164962277514608417:=0
def PySem.W.Fast.tw13978817977019076378:=0
def PySem.W.Fast.tw5516311086828677626:=0
def PySem.W.Fast.tw9131340944210783097:=0
def PySem.W.Fast.tw6645367018097758044:=0
def PySem.W.Fast.tw4378606360891446515:=0
def PySem.W.Fast.tw15306476766913454394:=0
def PySem.W.Fast.tw11234019353117149044:=0
def PySem.W.Fast.tw8866786731670199279:=0
def PySem.W.Fast.tw8677092442869204235:=0
def PySem.W.Fast.tw16048496612406088145:=0
def PySem.W.Fast.tw1246926786761433577:=0
def PySem.W.Fast.tw15500377793278686136:=0
def PySem.W.Fast.tw840456397924732376:=0
def PySem.W.Fast.tw13195705587389881920:=0
def PySem.W.Fast.tw1636027211533770251:=0
def PySem.W.Fast.tw5474377699845704570:=0
def PySem.W.Fast.tw13196155347118614356:=0
def PySem.W.Fast.tw14178596696736249584:=0
def PySem.W.Fast.tw7774271808841226000:=0
def PySem.W.Fast.tw5335311158461182138:=0
def PySem.W.Fast.tw16425837124400215734:=0
def PySem.W.Fast.tw8902162058405672558:=0
def PySem.W.Fast.tw16389526883761276640:=0
def PySem.W.Fast.tw13597905727632153306:=0
def PySem.W.Fast.tw6814203713844448255:=0
def PySem.W.Fast.tw13623584927412382530:=0
def PySem.W.Fast.tw9215717117148262044:=0
def PySem.W.Fast.tw776316177274231129:=0
def PySem.W.Fast.tw9107871810865184062:=0
def PySem.W.Fast.tw4126372797709099639:=0
def PySem.W.Fast.tw305157572767822720:=0
def PySem.W.Fast.tw9756104055807298867:=0
def PySem.W.Fast.tw110620643951766634:=0
def PySem.W.Fast.tw4989270586245281632:=0
def PySem.W.Fast.tw10375492517600573896:=0
def PySem.W.Fast.tw15860096000019172889:=0
def PySem.W.Fast.tw81302709316825394:=0
def PySem.W.Fast.tw14362756431158328941:=0
def PySem.W.Fast.tw4263300777605052891:=0
def PySem.W.Fast.tw6986684161492328876:=0
def PySem.W.Fast.tw17377889081489123985:=0
def PySem.W.Fast.tw12007885123730924362:=0
def PySem.W.Fast.tw13049965656128127091:=0
def PySem.W.Fast.tw48007248920810537:=0
def PySem.W.Fast.tw15055062180653018198:=0
def PySem.W.Fast.tw13029789344808630817:=0
def PySem.W.Fast.tw4087627009190734898:=0
def PySem.W.Fast.tw12746844908732456641:=0
def PySem.W.Fast.tw8713793903526554505:=0
def PySem.W.Fast.tw7440815380674777586:=0
def PySem.W.Fast.tw3910780531526957440:=0
def PySem.W.Fast.tw1422458222997579985:=0
def PySem.W.Fast.tw12762717144018201166:=0
def PySem.W.Fast.tw16431594261872033646:=0
def PySem.W.Fast.tw8302069530746467496:=0
def PySem.W.Fast.tw784728436741999488:=0
def PySem.W.Fast.tw5153301609677037985:=0
def PySem.W.Fast.tw8752405210260879129:=0
def PySem.W.Fast.tw5803477778477534900:=0
def PySem.W.Fast.tw14463915266388377365:=0
def PySem.W.Fast.tw10295181978644198721:=0
def PySem.W.Fast.tw13010299593514710205:=0
def PySem.W.Fast.tw11096999997894978762:=0
def PySem.W.Fast.tw1422317803135155317:=0
def PySem.W.Fast.tw16629730432943823938:=0
def PySem.W.Fast.tw7575413306406504401:=0
def PySem.W.Fast.tw15687206464821156513:=0
def PySem.W.Fast.tw12997582914465359006:=0
def PySem.W.Fast.tw13287361639864035693:=0
def PySem.W.Fast.tw199619632626035241:=0
def PySem.W.Fast.tw6477719545126593621:=0
def PySem.W.Fast.tw5859388254086147316:=0
def PySem.W.Fast.tw9508589145959364708:=0
def PySem.W.Fast.tw12450645417074549649:=0
def PySem.W.Fast.tw8293516141711398366:=0
def PySem.W.Fast.tw16952807496147565171:=0
def PySem.W.Fast.tw12625687383213632239:=0
def PySem.W.Fast.tw18304953146728997937:=0
def PySem.W.Fast.tw4634586316806652774:=0
def PySem.W.Fast.tw5878014152442462134:=0
def PySem.W.Fast.tw15761344000061681777:=0
def PySem.W.Fast.tw9597557469272553265:=0
def PySem.W.Fast.tw716014149389307318:=0
def PySem.W.Fast.tw1523093886420471475:=0
def PySem.W.Fast.tw2847358335896228:=0
def PySem.W.Fast.tw15594344143743344869:=0
def PySem.W.Fast.tw3889279973692755573:=0
def PySem.W.Fast.tw9687701091127744059:=0
def PySem.W.Fast.tw17767005792813472964:=0
def PySem.W.Fast.tw5225928615322756234:=0
def PySem.W.Fast.tw15162181976669879640:=0
open PySem PySem.W PyProof.Rows
set_option maxRecDepth 100000 in
set_option maxHeartbeats 0 in
theorem PySem.Challenge.cw_ordertext_k61_whole_first_looked_at_holds : PySem.Challenge.rw_ordertext_k61_whole_first_looked_at.Holds := by
 w_on;o_law;k_head;(case hw=>w_witness2)
 k_fill
 refine K61.walk (l:=PySem.Challenge.rw_ordertext_k61_whole_first_looked_at) rfl rfl (λw h Y=>⟨PySem.W.km_in_of Y,(List.forall_mem_cons.mpr ⟨km_tabs_of Y _ (by first | k_mem | simp),(List.forall_mem_cons.mpr ⟨km_tabs_of Y _ (by first | k_mem | simp),(List.forall_mem_cons.mpr ⟨km_tabs_of Y _ (by first | k_mem | simp),(λ_ h=>nomatch h)⟩)⟩)⟩)⟩) ?F
 case F=>
  intro w mg fa h KX G hmg;refine' K61.zmB KX G hmg ?pz0 ?pz1 ?pz2 ?pz3 ?pz4 ?pz5 ?pz6 ?pz7 ?pz8 ?pz9 ?q1g ?q15 ?q1c ?q0y ?q0w ?q10 ?q0u ?q0v ?q12 ?q1a ?q1d ?q0x ?q1e ?q0p ?q0r ?q0m ?q0k ?q16 ?q1i ?q0j ?q0n ?q0s ?q0f ?q1l ?q0q ?q1h ?q18 ?q19 ?q1k ?q11 ?q0i ?q0t ?q14 ?q1j ?q0z ?q0o ?q1b ?q0l ?q1f ?q17 ?q0g ?q13 ?q0h ?q1m ?q0b ?q05 ?q04 ?q00 ?q07 ?q0a ?q02 ?q01 ?q06 ?q09 ?q03 ?q0c ?q0e ?q0d ?q08 ?aWo ?lWo ?kWo ?oWo ?vWo ?aAo ?lAo ?kAo ?oAo ?vAo ?aOo ?lOo ?kOo ?oOo ?vOo ?nd ?tt ?st ?bt ?ii ?ib ?bb
  case pz0|pz1|pz2|pz3|pz4|pz5|pz6|pz7|pz8|pz9|q1g|q15|q0y|q0w|q10|q0u|q0v|q12|q1a|q1d|q0x|q1e|q0r|q0m|q0k|q1i|q0j|q0n|q0s|q0f|q1l|q0q|q1h|q18|q19|q1k|q11|q0i|q0t|q14|q1j=>exact⟨_,_,_,_,_,_,_,_,_,_,by k_is,by k_is,by k_is,by k_is⟩
  (case q1c|q0p|q16|q0z=>exact⟨by k_is,by k_is,by k_is,by k_is⟩)
  (case q0o|q1b|q0l|q1f|q17|q0g|q13|q0h|q1m=>first | rfl | kernel_rfl | k_is)
  (case q0b|q05|q04|q00|q07|q0a|q02|q01|q06|q09|q03|q0c|q0e|q0d|q08|aWo|lWo=>k_is)
  (case kWo=>k_keys)
  (case oWo=>decide)
  (case vWo=>kernel_rfl)
  (case aAo|lAo=>k_is)
  (case kAo=>k_keys)
  (case oAo=>decide)
  (case vAo=>kernel_rfl)
  (case aOo|lOo=>k_is)
  (case kOo=>k_keys)
  (case oOo=>decide)
  (case vOo=>kernel_rfl)
  (case nd=>first | kernel_rfl | k_is)
  (case tt|st|bt|ii|ib|bb=>first | kit_is | k_is | rfl)
