import PyProof.Rows.All
import Wide.All
import OpenK.AllK
import Wide.FinOn
import Lean
import PyProof.EqAt
import PyProof.EqKinds
import PyProof.TupleCall
import PySem.Challenge.RW_ordertext_k37_least_looks
set_option Elab.async false
set_option linter.all false
set_option maxRecDepth 100000
set_option genSizeOf false
open Array (forIn_toList mem_toList_iff)
open Bool (noConfusion not_eq_true')
open PySem.Calls (spliced_nil)
open PySem.Heap (ExtBut SameBut)
open Int (emod_lt_of_pos emod_nonneg)
open List (all_eq_true any_map drop_zero filter_cons filter_map find?_eq_none flatMap_cons getElem_idxOf length_drop map_drop map_eq_nil_iff map_id map_nil map_take ne_nil_of_mem nil_append nodup_append nodup_nil of_mem_zip range' sum_cons take_succ zip_cons_cons)
open Nat (le_succ mod_lt mul_comm ne_of_gt not_lt_zero pow_succ succ_pos)
open Option (getD_some map_some)
open PyProof.Rows (entry_list_sort slot_list_sort)
open PySem.Spec (sameAll samePairs same_self)
open PySem.W (CodeHd KatTups Looks callWith_K codeHdIn codeIn emptyDict findIn handedIn hasDictIn instObj kat_cons kat_go kat_no kat_yes keepIn kitOne kitx_dict kitx_list kitx_tuple kla_fn kla_obj lookIn makesIn methodObj mg_of plainGet plainGet_of plainOver takerIn)
open PySem.Shared (TypeIs)
noncomputable section
set_option maxHeartbeats 4000000
def Ia:=@PySem.wpAny_bind
def Ib:=@List.getElem?_eq_getElem
def Ic:=@PySem.wpAny_pure
def Ie:=@List.length_map
def Ig:=@PySem.Heap.get?_push_of_some
def Ih:=@Nat.le_refl
def Ii:=@Bool.false_ne_true
def Ij:=@List.mem_singleton
def Ik:=@List.getElem?_map
def Il:=@List.length_append
def Im:=@List.mem_cons_of_mem
def Io:=@List.getElem?_eq_some_iff
def Ip:=@decide_eq_false
def Iq:=@if_neg
def Ir:=@List.mem_cons_self
def Iu:=@PySem.Heap.get?_push_size
def Iw:=@decide_eq_true
def Ix:=@Array.getElem?_eq_getElem
def Iy:=@List.length_range
def Iz:=@if_pos
def IA:=@Option.some.inj
def IB:=@List.mem_map
def IC:=@of_decide_eq_true
def ID:=@List.size_toArray
def IE:=@List.mem_cons
def IF:=@Bool.false_eq_true
def IG:=@List.mem_append_right
def IH:=@Nat.le_trans
def II:=@List.getD_eq_getElem?_getD
def IJ:=@List.mem_range
def IL:=@List.length_cons
def IM:=@List.mem_of_getElem?
def IN:=@PySem.Heap.lt_size
def IP:=@Nat.lt_of_lt_of_le
def IQ:=@Array.length_toList
def IR:=@PySem.PassesOwn.never
def IS:=@List.getElem?_set_ne
def IT:=@List.length_filter_le
def IU:=@List.getElem?_eq_none
def IV:=@PySem.AutoSeq1.wpAny_loadPart'
def IW:=@List.getElem?_set_self
def IX:=@Nat.ne_of_lt
def IY:=@if_false
def IZ:=@Array.getD_eq_getD_getElem?
def I9:=@PySem.wpAny_holding
def Na:=@PySem.wpAny_newObj_type
def Nb:=@PySem.Heap.get?_update_other
def Nf:=@decide_eq_true_eq
def Ng:=@List.getElem?_append_left
def Nh:=@List.take_succ_eq_append_getElem
def Ni:=@List.getElem?_append_right
def Nj:=@List.mem_filter
def Nk:=@List.map_append
def Nl:=@List.length_replicate
def Nm:=@PyProof.Rows.callWith_type1
def Nn:=@PySem.wpAny_call_entry
def Np:=@List.getElem_mem
def Nq:=@decide_eq_decide
def Nr:=@PySem.wpAny_Call_Name_kw
def Nt:=@List.map_cons
def Nu:=@PySem.codeAny_builtin
def Nv:=@List.flatMap_singleton
def Nx:=@List.append_nil
def Ny:=@PySem.wpAny_callSpecial?_slot
def Nz:=@List.mem_append
def NA:=@List.getElem_of_mem
def NB:=@PySem.F.slot_list_append
def NC:=@PySem.F.type_list_append
def ND:=@congrArg
def NF:=@beq_eq_false_iff_ne
def NG:=@PySem.mem_of_lookup
def NH:=@PySem.Heap.size_push
def NI:=@PySem.Heap.get?_update_self
def NJ:=@List.Nodup.length_le_of_subset
def NL:=@List.flatMap_append
def NM:=@PySem.boot_len
def NN:=@Nat.zero_le
def NO:=@Nat.lt_succ_of_lt
def NP:=@Int.toNat_natCast
def NQ:=@List.map_map
def NR:=@Bool.and_eq_true
def NS:=@PySem.Obj.data_mapFields
def NT:=@List.nodup_cons
def NU:=@Array.getElem?_toList
def NV:=@PySem.Around.under_plainId
def NW:=@PySem.plainId_quiet
def NX:=@List.pairwise_cons
def NY:=@Nat.mul_le_mul_right
def NZ:=@Decidable.byContradiction
def N0:=@PySem.wpAny_mono
def N1:=@List.filterMap_cons
def N2:=@List.eq_nil_of_length_eq_zero
def N3:=@List.mem_append_left
def N4:=@Bool.eq_iff_iff
def N5:=@PySem.F.plainAttrs_list
def N6:=@List.mem_singleton_self
def N7:=@PySem.W.mg_none_of
def N8:=@PySem.wpAny_isInstance
def N9:=@List.pairwise_iff_getElem
def Oa:=@List.idxOf_lt_length_of_mem
def Ob:=@List.length_set
def Oc:=@PySem.wpAny_seqItems
def Od:=@Bool.eq_false_iff
def Oe:=@List.map_congr_left
def Og:=@PySem.wpAny_setState_of
def Oh:=@Bool.or_eq_true
def Oi:=@PyProof.Rows.slot_tuple_getitem
def Oj:=@List.getElem?_zip_eq_some
def Ol:=@Classical.byContradiction
def Om:=@if_true
def Oo:=@Bool.not_true
def Op:=@Nat.le_of_lt
def Oq:=@List.replicate_succ
def Os:=@PySem.lookup_relabel_local
def Ot:=@PySem.Heap.SameBut.update
def Ou:=@Array.perm_iff_toList_perm
def Ov:=@List.take_length
def Ow:=@PySem.wpAny_typeNameOfWhole_keyiter
def Ox:=@PySem.wpAny_truthy_bool
def Oy:=@bne_self_eq_false
def Oz:=@beq_iff_eq
def OA:=@PySem.F.slot_dict_keyiterator_next
def OB:=@Nat.lt_succ_self
def OC:=@PySem.codeAny_mono
def OD:=@List.append_assoc
def OE:=@List.length_take
def OF:=@List.mem_flatMap
def OG:=@List.any_eq_true
def OH:=@List.cons.inj
def OI:=@Nat.lt_irrefl
def OJ:=@List.take_append_drop
def OK:=@PySem.wpAny_forIn_list
def OL:=@Nat.pow_le_pow_right
def OM:=@PySem.wpAny_pyIter_tuple
def ON:=@PySem.call_meets
def OO:=@PySem.F.slot_tuple_iterator_next
def OP:=@List.range_succ
def OQ:=@Nat.mul_le_mul
def OR:=@Array.getElem?_eq_some_iff
def OS:=@List.perm_ext_iff_of_nodup
def OT:=@PySem.wpAny_tryCatch
def OU:=@PySem.wpAny_passesOwn
def OV:=@PySem.wpAny_specialOf
def OW:=@PySem.wpAny_updateSeq
def OX:=@List.nodup_range
def OY:=@List.pairwise_map
def OZ:=@PySem.wpAny_comprehension_free
def O0:=@PySem.wpAny_attempt
def O3:=@List.Pairwise.imp_of_mem
def O4:=@PySem.wpAny_typeNameOf_keyiter
def O5:=@Nat.le_of_eq
def O6:=@beq_self_eq_true
def O7:=@PySem.wpAny_setField
def O8:=@PySem.F.plain_min_loop
def O9:=@List.not_mem_nil
def Da:=@PySem.wpAny_rule
def Db:=@PySem.wpAny_typeOf
def Dc:=@List.flatten_cons
def Dd:=@List.foldl_cons
def De:=@of_decide_eq_false
def Df:=@Array.getElem?_eq_none
def Dg:=@List.getElem?_cons_succ
def Dh:=@List.pairwise_append
def Di:=@Nat.lt_trichotomy
def Dj:=@PySem.Obj.isFreed_of_fields
def Dl:=@List.pairwise_flatMap
def Dm:=@Option.isSome_iff_exists
def Dp:=@PySem.wpAny_field
def Dq:=@Bool.and_false
def Dr:=@Nat.succ_mul
def Ds:=@List.mem_map_of_mem
def Dt:=@List.getElem?_range
def Du:=@PySem.wpAny_fieldsOf
def Dv:=@List.find?_cons
def Dw:=@PySem.Calls.spliced_cons
def Dx:=@List.ext_getElem?
def Dy:=@List.filter_congr
def Dz:=@PySem.wpAny_standAt
def DA:=@Prod.ext
def DB:=@List.mem_replicate
def DC:=@PySem.W.kia_one
def DD:=@List.lookup_cons
def DE:=@List.any_cons
abbrev FG:=PySem.W.Frag
abbrev SH:=PySem.Shared
abbrev PD:=PySem.PyData
abbrev AD:=PySem.Addr
namespace StbG
open PySem PyProof.Rows
variable {xs:Array Keyed}{st:SortSt}{x nrem:Nat}
noncomputable def R(f:Keyed->Int)(xs:Array Keyed)(i:Nat):Int:=match xs[i]? with
 |some p=>f p
 |none=>0
def zgu{f:Keyed->Int}{ys:Array Keyed}{i j:Nat}(h:xs[i]?=ys[j]?):R f xs i=R f ys j:=by unfold R;rw[h]
structure SB(κ:SortKind)(a₀:Array Keyed)(st:SortSt):Prop where
 perm:(arrOf st).Perm a₀
 kind:kindOf st=κ
 failed:failedOf st=none
 pend:pendingOf st = #[]
theorem SB.size{κ:SortKind}{a₀:Array Keyed}(h:SB κ a₀ st):(arrOf st).size=a₀.size:=h.perm.size_eq
theorem SB.setArr{κ:SortKind}{a₀:Array Keyed}(h:SB κ a₀ st)(hp:xs.Perm (arrOf st)):SB κ a₀ (PyProof.Rows.setArr st xs):=⟨hp.trans h.perm,h.kind,h.failed,h.pend⟩
def Srt(ρ:Keyed->Int)(xs:Array Keyed)(n:Nat):Prop:=∀ i j,i<=j->j<n->R ρ xs i<=R ρ xs j
def Up(ρ τ:Keyed->Int)(xs:Array Keyed)(n:Nat):Prop:=∀ i j,i<j->j<n->R ρ xs i<R ρ xs j\/(R ρ xs i=R ρ xs j/\R τ xs i<=R τ xs j)
def Dn(ρ τ:Keyed->Int)(xs:Array Keyed)(n:Nat):Prop:=∀ i j,i<j->j<n->R ρ xs j<R ρ xs i\/(R ρ xs i=R ρ xs j/\R τ xs j<=R τ xs i)
def Rs(τ:Keyed->Int)(N:Nat)(xs:Array Keyed)(n:Nat):Prop:=∀ i j,i<j->n<=j->j<N->R τ xs i<=R τ xs j
variable {ρ τ:Keyed->Int}{κ:SortKind}
def Rs.mono{N n m:Nat}(h:Rs τ N xs n)(k:n<=m):Rs τ N xs m:=λi j a b c=>h i j a (by omega) c
def Up.le{n:Nat}(h:Up ρ τ xs n):Srt ρ xs n:=λi j hij hj=>by
 rcases Nat.lt_or_eq_of_le hij with q | rfl
 .rcases h i j q hj with z | z <;> omega
 .exact Int.le_refl _
def zkO{a n N:Nat}(hu:Up ρ τ xs a)(hr:Rs τ N xs a)(hs:Srt ρ xs n)(hn:n<=N):Up ρ τ xs n:=λi j hij hj=>by
 have le:=hs i j (Op hij) hj;by_cases h:j<a
 .exact hu i j hij h
 .have:=hr i j hij (by omega) (by omega);omega
def ziE{i j:Nat}(hj:j<=xs.size)(k:Nat):(i<=k/\k<j->R ρ (mirror xs i j ((j-i) / 2)) k=R ρ xs (i+j-1-k)/\R τ (mirror xs i j ((j-i) / 2)) k=R τ xs (i+j-1-k))/\
  (¬ (i<=k/\k<j)->R ρ (mirror xs i j ((j-i) / 2)) k=R ρ xs k/\R τ (mirror xs i j ((j-i) / 2)) k=R τ xs k):=by
 have e:=getElem?_mirror_all (i:=i) hj k;refine⟨λh=>?_,λh=>?_⟩
 .rw[Iz h]at e;exact⟨zgu e,zgu e⟩
 .rw[Iq h]at e;exact⟨zgu e,zgu e⟩
def zmD{src d:Nat}(hs:src<xs.size)(hd:d<=src)(k:Nat):(k=src-d->R ρ (bubble xs src d) k=R ρ xs src/\R τ (bubble xs src d) k=R τ xs src)/\
  (src-d<k/\k<=src->R ρ (bubble xs src d) k=R ρ xs (k-1)/\R τ (bubble xs src d) k=R τ xs (k-1))/\(k<src-d\/src<k->R ρ (bubble xs src d) k=R ρ xs k/\R τ (bubble xs src d) k=R τ xs k):=by
 have e:=getElem?_bubble hs d hd k;refine⟨λh=>?_,λh=>?_,λh=>?_⟩
 .rw[Iz h]at e;exact⟨zgu e,zgu e⟩
 .rw[Iq (by omega),Iz h]at e;exact⟨zgu e,zgu e⟩
 .rw[Iq (by omega),Iq (by omega)]at e;exact⟨zgu e,zgu e⟩
def zef{g:Nat}(hx:x<=xs.size)(hg:g<=x)(h1:Dn ρ τ xs g)(h2:∀ i,i<g->g<x->R ρ xs g<R ρ xs i)(h3:∀ i,g<=i->i<x->R ρ xs i=R ρ xs g)(h4:∀ i j,i<j->g<=i->j<x->R τ xs i<=R τ xs j):
  Dn ρ τ (mirror xs g x ((x-g) / 2)) x:=λi j hij hj=>by
 have mi:=ziE (ρ:=ρ) (τ:=τ) (i:=g) hx i;have mj:=ziE (ρ:=ρ) (τ:=τ) (i:=g) hx j;by_cases c1:g<=i
 .obtain⟨a1,a2⟩:=mi.1 ⟨c1,by omega⟩;obtain⟨b1,b2⟩:=mj.1 ⟨by omega,hj⟩;rw[a1,a2,b1,b2];have q1:=h3 (g+x-1-i) (by omega) (by omega);have q2:=h3 (g+x-1-j) (by omega) (by omega);exact .inr ⟨by omega,h4 _ _ (by omega) (by omega) (by omega)⟩
 .obtain⟨a1,a2⟩:=mi.2 (by omega);rw[a1,a2];by_cases c2:g<=j
  .obtain⟨b1,b2⟩:=mj.1 ⟨c2,hj⟩;rw[b1,b2];have q2:=h3 (g+x-1-j) (by omega) (by omega);have:=h2 i (by omega) (by omega);exact .inl (by omega)
  .obtain⟨b1,b2⟩:=mj.2 (by omega);rw[b1,b2];exact h1 i j hij (by omega)
def zbu{N g:Nat}(hx:x<=xs.size)(h:Rs τ N xs x):Rs τ N (mirror xs g x ((x-g) / 2)) x:=λi j hij h1 h2=>by
 have mi:=ziE (ρ:=τ) (τ:=τ) (i:=g) hx i;obtain⟨_,b2⟩:=(ziE (ρ:=τ) (τ:=τ) (i:=g) hx j).2 (by omega);rw[b2];by_cases c1:g<=i/\i<x
 .rw[(mi.1 c1).2];exact h _ _ (by omega) (by omega) h2
 .rw[(mi.2 c1).2];exact h _ _ hij (by omega) h2
section
variable {prog:Program}{w:World}{A:Around}{E:Value->SH->Prop}{s:SH}{a₀:Array Keyed}
def Cmp(prog:Program)(w:World)(A:Around)(E:Value->SH->Prop)(s:SH)(ρ:Keyed->Int)(κ:SortKind)(a₀:Array Keyed):Prop:=∀{st:SortSt}{i j:Nat}{Q:Option Bool->SortSt->Prop},SB κ a₀ st->i<a₀.size->j<a₀.size->Q (some (decide (R ρ (arrOf st) i<R ρ (arrOf st) j))) st->wpS (model prog w) A E s (ltAt' i j) Q st
def zmw{a:Nat}{Q:AscSt->SortSt->Prop}(ik:Cmp prog w A E s ρ κ a₀)(hn:nrem<=a₀.size)(a1:1<=a)(an:a<=nrem)(hB:SB κ a₀ st)(hs:Srt ρ (arrOf st) a)(k:∀ n,a<=n->n<=nrem->Srt ρ (arrOf st) n->(n=nrem\/R ρ (arrOf st) n<R ρ (arrOf st) (n-1))->Q (none,n) st):wpS (model prog w) A E s (ascLoop a nrem) Q st:=by
 unfold ascLoop;refine wpS_forRange (I:=λx c s2=>s2=st/\c=(none,x)/\Srt ρ (arrOf st) x) ?turn ?over ⟨rfl,rfl,hs⟩
 case over=>rintro c s2 ⟨rfl,rfl,h⟩;rw[Nat.max_eq_right an]at h ⊢;exact k nrem an (Ih _) h (.inl rfl)
 case turn=>
  rintro x c s2 x1 x2 ⟨rfl,rfl,h⟩;dsimp only;refine wpS_bind (ik hB (by omega) (by omega) ?_);by_cases less:R ρ (arrOf s2) x<R ρ (arrOf s2) (x-1)
  .rw[Iw less];simp only[Om];exact wpS_pure (k x x1 (by omega) h (.inr less))
  .rw[Ip less];simp only[IF,IY];refine wpS_pure ⟨rfl,rfl,λi j hij hj=>?_⟩;by_cases c:j<x
   .exact h i j hij c
   .have e:j=x:=by omega
    subst e;by_cases e2:i=j
    .rw[e2];exact Int.le_refl _
    .have:=h i (j-1) (by omega) (by omega);omega
abbrev Good(ρ τ:Keyed->Int)(κ:SortKind)(a₀:Array Keyed)(st:SortSt)(n:Nat):Prop:=SB κ a₀ st/\Up ρ τ (arrOf st) n/\Rs τ a₀.size (arrOf st) n
def zh4{n:Nat}{Q:Option Nat->SortSt->Prop}(ik:Cmp prog w A E s ρ κ a₀)(hn:nrem<=a₀.size)(n1:1<=n)(nn:n<=nrem)(hB:SB κ a₀ st)(hd:Dn ρ τ (arrOf st) n)(hr:Rs τ a₀.size (arrOf st) n)(k:∀ m st',Good ρ τ κ a₀ st' m->1<=m->m<=nrem->Q (some m) st'):wpS (model prog w) A E s (tail3 n nrem) Q st:=by
 have hsz:n<=(arrOf st).size:=by rw[hB.size];omega
 have u:Up ρ τ (mirror (arrOf st) 0 n ((n-0) / 2)) n:=λi j hij hj=>by obtain⟨a1,a2⟩:=(ziE (ρ:=ρ) (τ:=τ) (i:=0) hsz i).1 ⟨NN _,by omega⟩;obtain⟨b1,b2⟩:=(ziE (ρ:=ρ) (τ:=τ) (i:=0) hsz j).1 ⟨NN _,hj⟩;rw[a1,a2,b1,b2];have:=hd (0+n-1-j) (0+n-1-i) (by omega) (by omega);omega
 have r:Rs τ a₀.size (mirror (arrOf st) 0 n ((n-0) / 2)) n:=zbu hsz hr;unfold tail3;refine wpS_bind (wpS_reverse (wpS_bind (zmw ik hn n1 nn (hB.setArr (mirror_perm _ _ _ _)) (Up.le u) λm m1 m2 sm _=>?_)));exact wpS_pure (k m _ ⟨hB.setArr (mirror_perm _ _ _ _),zkO u r sm (by omega),Rs.mono r m1⟩ (by omega) m2)
structure zdZ(ρ τ:Keyed->Int)(κ:SortKind)(a₀:Array Keyed)(st:SortSt)(x g:Nat):Prop where
 b:SB κ a₀ st
 lt:g<x
 d:Dn ρ τ (arrOf st) g
 hi:∀ i,i<g->R ρ (arrOf st) g<R ρ (arrOf st) i
 eq:∀ i,g<=i->i<x->R ρ (arrOf st) i=R ρ (arrOf st) g
 r:Rs τ a₀.size (arrOf st) g
def zdZ.close{g:Nat}(f:zdZ ρ τ κ a₀ st x g)(hx:x<=a₀.size):SB κ a₀ (setArr st (mirror (arrOf st) g x ((x-g) / 2)))/\Dn ρ τ (mirror (arrOf st) g x ((x-g) / 2)) x/\Rs τ a₀.size (mirror (arrOf st) g x ((x-g) / 2)) x/\∀ k,R ρ (mirror (arrOf st) g x ((x-g) / 2)) k=R ρ (arrOf st) k:=by
 have hs:x<=(arrOf st).size:=by rw[f.b.size];exact hx
 have lt:=f.lt;refine⟨f.b.setArr (mirror_perm _ _ _ _),zef hs (Op lt) f.d (λi h _=>f.hi i h) f.eq λi j a b c=>f.r i j a (by omega) (by omega),zbu hs (f.r.mono (Op lt)),λk=>?_⟩;by_cases c:g<=k/\k<x
 .rw[((ziE (ρ:=ρ) (τ:=τ) (i:=g) hs k).1 c).1,f.eq _ (by omega) (by omega),f.eq k c.1 c.2]
 .rw[((ziE (ρ:=ρ) (τ:=τ) (i:=g) hs k).2 c).1]
def zdZ.one(f:zdZ ρ τ κ a₀ st x (x-1)):Dn ρ τ (arrOf st) x:=λi j hij hj=>by
 have lt:=f.lt;by_cases c:j<x-1
 .exact f.d i j hij c
 .have e:j=x-1:=by omega
  subst e;exact .inl (f.hi i hij)
def zkB{n:Nat}{Q:DescSt->SortSt->Prop}(ik:Cmp prog w A E s ρ κ a₀)(hn:nrem<=a₀.size)(nn:n+1<=nrem)(f0:zdZ ρ τ κ a₀ st (n+1) n)(k:∀ m q st',zdZ ρ τ κ a₀ st' m (m-(q+1))->q+1<=m->m<=nrem->Q (none,m,q) st'):wpS (model prog w) A E s (descLoop (n+1) nrem) Q st:=by
 unfold descLoop;refine wpS_forRange (I:=λx c st' => ∃ q,c=(none,x,q)/\zdZ ρ τ κ a₀ st' x (x-(q+1))/\q+1<=x) ?turn ?over ⟨0,rfl,by simpa using f0,by omega⟩
 case over=>rintro c st' ⟨q,rfl,f,hq⟩;rw[show max (n+1) nrem=nrem from Nat.max_eq_right nn]at f hq ⊢;exact k nrem q st' f hq (Ih _)
 case turn=>
  rintro x c st' hx1 hx2 ⟨q,rfl,f,hq⟩;dsimp only;have lx:R ρ (arrOf st') (x-1)=R ρ (arrOf st') (x-(q+1)):=f.eq _ (by omega) (by omega);refine wpS_bind (ik f.b (by omega) (by omega) ?_);by_cases less:R ρ (arrOf st') x<R ρ (arrOf st') (x-1)
  .rw[Iw less];simp only[Om];have nextF:∀ st2,SB κ a₀ st2->Dn ρ τ (arrOf st2) x->Rs τ a₀.size (arrOf st2) x->(∀ z,R ρ (arrOf st2) z=R ρ (arrOf st') z)->zdZ ρ τ κ a₀ st2 (x+1) (x+1-(0+1)):=λst2 b d r e=>by
    refine⟨b,by omega,by simpa using d,λi hi=>?_,λi h1 h2=>?_,by simpa using r⟩
    .have hi' : i<x:=by omega
     rw[show x+1-(0+1)=x by omega,e,e];by_cases c:i<x-(q+1)
     .have:=f.hi i c;omega
     .have:=f.eq i (by omega) hi';omega
    .have:i=x+1-(0+1):=by omega
     rw[this]
   by_cases hq0:q>0
   .rw[Iz hq0];obtain⟨c1,c2,c3,c4⟩:=f.close (by omega);exact wpS_bind (wpS_reverse (wpS_pure ⟨0,rfl,nextF _ c1 c2 c3 c4,by omega⟩))
   .rw[Iq hq0];have e0:q=0:=by omega
    subst e0;exact wpS_pure ⟨0,rfl,nextF st' f.b (zdZ.one (by simpa using f)) (f.r.mono (by omega)) λ_=>rfl,by omega⟩
  .rw[Ip less];simp only[IF,IY];refine wpS_bind (ik f.b (by omega) (by omega) ?_);by_cases more:R ρ (arrOf st') (x-1)<R ρ (arrOf st') x
   .rw[Iw more];simp only[Om];exact wpS_pure (k x q st' f hq (by omega))
   .rw[Ip more];simp only[IF,IY];have ee:x+1-(q+1+1)=x-(q+1):=by omega
    have f' : zdZ ρ τ κ a₀ st' (x+1) (x-(q+1)):=⟨f.b,by omega,f.d,f.hi,λi h1 h2=>by
     by_cases c:i<x
     .exact f.eq i h1 c
     .have:i=x:=by omega
      subst this;omega,f.r⟩
    exact wpS_pure ⟨q+1,rfl,by rw[ee];exact f',by omega⟩
def zay{n:Nat}{Q:Option Nat->SortSt->Prop}(ik:Cmp prog w A E s ρ κ a₀)(hn:nrem<=a₀.size)(nn:n+1<=nrem)(f0:zdZ ρ τ κ a₀ st (n+1) n)(k:∀ m st',Good ρ τ κ a₀ st' m->1<=m->m<=nrem->Q (some m) st'):
  wpS (model prog w) A E s (descPart n nrem) Q st:=by
 unfold descPart;refine wpS_bind (wpS_lift (Da ⟨rfl,wpS_bind (zkB ik hn nn f0 λm q st' f hq hm=>?_)⟩));dsimp only;by_cases hq0:q>0
 .rw[Iz hq0];obtain⟨c1,c2,c3,_⟩:=f.close (by omega);exact wpS_bind (wpS_reverse (zh4 ik hn (by omega) hm c1 c2 c3 k))
 .rw[Iq hq0];have e0:q=0:=by omega
  subst e0;exact zh4 ik hn (by omega) hm f.b (zdZ.one (by simpa using f)) (f.r.mono (by omega)) k
def zkb{Q:Option Nat->SortSt->Prop}(ik:Cmp prog w A E s ρ κ a₀)(hn:nrem<=a₀.size)(n1:1<=nrem)(hB:SB κ a₀ st)(r0:Rs τ a₀.size (arrOf st) 0)(k:∀ m st',Good ρ τ κ a₀ st' m->1<=m->m<=nrem->Q (some m) st'):
  wpS (model prog w) A E s (countRun' 0 nrem) Q st:=by
 have u1:Up ρ τ (arrOf st) 1:=λi j a b=>by omega
 rw[countRun0_eq];refine wpS_bind (zmw ik hn (Ih 1) n1 hB u1.le λn m1 m2 sn hor=>?_);have un:Up ρ τ (arrOf st) n:=zkO u1 (r0.mono (by omega)) sn (by omega);have g:Good ρ τ κ a₀ st n:=⟨hB,un,r0.mono (by omega)⟩
 dsimp only;by_cases e:n=nrem
 .rw[Iz (by simpa using e)];exact wpS_pure (k n st g m1 m2)
 rw[Iq (by simpa using e)];have lt:R ρ (arrOf st) n<R ρ (arrOf st) (n-1):=hor.resolve_left e;by_cases c:n>1
 .rw[Iz c];refine wpS_bind (ik hB (by omega) (by omega) ?_);by_cases rose:R ρ (arrOf st) 0<R ρ (arrOf st) (n-1)
  .rw[Iw rose];simp only[Om];exact wpS_pure (k n st g m1 m2)
  .rw[Ip rose];simp only[IF,IY];have all:∀ i,0<=i->i<n->R ρ (arrOf st) i=R ρ (arrOf st) 0:=λi _ hi=>by have a1:=sn 0 i (NN _) hi;have a2:=sn i (n-1) (by omega) (by omega);omega
   have f:zdZ ρ τ κ a₀ st n 0:=⟨hB,by omega,λi j _ h=>by omega,λi h=>by omega,all,r0⟩
   obtain⟨c1,c2,c3,c4⟩:=f.close (by omega);refine wpS_bind (wpS_reverse (zay ik hn (by omega) ⟨c1,by omega,c2,λi hi=>?_,λi h1 h2=>?_,c3⟩ k))
   .show R ρ (mirror (arrOf st) 0 n ((n-0) / 2)) n<R ρ (mirror (arrOf st) 0 n ((n-0) / 2)) i;rw[c4,c4];have:=all i (NN _) hi;have:=all (n-1) (NN _) (by omega);omega
   .have:i=n:=by omega
    rw[this]
 .rw[Iq c];have e1:n=1:=by omega
  subst e1;exact zay ik hn (by omega) ⟨hB,by omega,λi j _ h=>by omega,λi h=>by(have:i=0:=by omega);subst this;exact lt,λi h1 h2=>by(have:i=1:=by omega);rw[this],r0.mono (by omega)⟩ k
def zgX{n ok:Nat}{Q:Bool->SortSt->Prop}(ik:Cmp prog w A E s ρ κ a₀)(hn:n<=a₀.size)(o1:1<=ok)(o2:ok<=n)(g0:Good ρ τ κ a₀ st ok)(kk:∀ st',Good ρ τ κ a₀ st' n->Q true st'):wpS (model prog w) A E s (binarySort' 0 n ok) Q st:=by
 rw[binarySort'_eq];simp only[Nat.zero_add];refine wpS_bind (wpS_mono (wpS_forRange (I:=λk c st' => c=(none,())/\Good ρ τ κ a₀ st' k) (Q:=λc st' => c=(none,())/\Good ρ τ κ a₀ st' n) ?turn ?over ⟨rfl,by rw[Nat.max_eq_left o1];exact g0⟩) λc st' ⟨e,g⟩=>by subst e;exact wpS_pure (kk st' g))
 case over=>rintro c st' ⟨e,g⟩;rw[Nat.max_eq_left o1,Nat.max_eq_right o2]at g;exact⟨e,g⟩
 case turn=>
  rintro k c st' k1 k2 ⟨rfl,hB,u,r⟩;have ks:k<a₀.size:=by omega
  have srt:=u.le;refine wpS_bind (wpS_mono (wpS_forRange (I:=λx c s2=>s2=st' /\ ∃ lo hi,c=(none,lo,hi)/\lo<=hi/\hi<=k/\hi-lo<=k-x/\(∀ i,i<lo->R ρ (arrOf st') i<=R ρ (arrOf st') k)/\∀ i,hi<=i->i<k->R ρ (arrOf st') k<R ρ (arrOf st') i)
   (Q:=λc s2=>s2=st' /\ ∃ lo hi,c=(none,lo,hi)/\lo<=k/\(∀ i,i<lo->R ρ (arrOf st') i<=R ρ (arrOf st') k)/\∀ i,lo<=i->i<k->R ρ (arrOf st') k<R ρ (arrOf st') i) ?look ?found ⟨rfl,0,k,rfl,NN _,Ih _,by omega,λi h=>by omega,λi a b=>by omega⟩) ?put)
  case found=>
   rintro c s2 ⟨rfl,lo,hi,rfl,a1,a2,a3,a4,a5⟩;have:lo=hi:=by omega
   subst this;exact⟨rfl,lo,lo,rfl,a2,a4,a5⟩
  case look=>
   rintro x c s2 _ hx ⟨rfl,lo,hi,rfl,a1,a2,a3,a4,a5⟩;dsimp only;by_cases ge:lo ≥ hi
   .rw[Iz ge];have:lo=hi:=by omega
    subst this;exact wpS_pure ⟨rfl,lo,lo,rfl,a2,a4,a5⟩
   .rw[Iq ge];refine wpS_bind (ik hB ks (by omega) ?_);by_cases less:R ρ (arrOf s2) k<R ρ (arrOf s2) ((lo+hi) / 2)
    .rw[Iw less];simp only[Om];exact wpS_pure ⟨rfl,lo,(lo+hi) / 2,rfl,by omega,by omega,by omega,a4,λi b1 b2=>Int.lt_of_lt_of_le less (srt _ _ b1 b2)⟩
    .rw[Ip less];simp only[IF,IY];exact wpS_pure ⟨rfl,(lo+hi) / 2+1,hi,rfl,by omega,by omega,by omega,λi b1=>Int.le_trans (srt i ((lo+hi) / 2) (by omega) (by omega)) (Int.not_lt.mp less),a5⟩
  case put=>
   rintro c s2 ⟨rfl,lo,hi,rfl,a2,a4,a5⟩;show wpS _ _ _ _ (do moveDown' k lo;pure (ForInStep.yield (none,()))) _ _;have kz:k<(arrOf s2).size:=by rw[hB.size];exact ks
   have ed:k-(k-lo)=lo:=by omega
   rw[moveDown'_eq];refine wpS_bind (wpS_modify (wpS_pure ⟨rfl,hB.setArr (bubble_perm _ _ _),λi j hij hj=>?_,λi j hij h1 h2=>?_⟩))
   .show R ρ (bubble (arrOf s2) k (k-lo)) i<R ρ (bubble (arrOf s2) k (k-lo)) j\/(R ρ (bubble (arrOf s2) k (k-lo)) i=R ρ (bubble (arrOf s2) k (k-lo)) j/\R τ (bubble (arrOf s2) k (k-lo)) i<=R τ (bubble (arrOf s2) k (k-lo)) j)
    have bi:=zmD (ρ:=ρ) (τ:=τ) kz (show k-lo<=k by omega) i;have bj:=zmD (ρ:=ρ) (τ:=τ) kz (show k-lo<=k by omega) j;rw[ed]at bi bj;rcases Di i lo with c1 | c1 | c1
    .obtain⟨p1,p2⟩:=bi.2.2 (.inl c1);rw[p1,p2];rcases Di j lo with c2 | c2 | c2
     .obtain⟨q1,q2⟩:=bj.2.2 (.inl c2);rw[q1,q2];exact u i j hij (by omega)
     .obtain⟨q1,q2⟩:=bj.1 c2;rw[q1,q2];have z1:=a4 i c1;have z2:=r i k (by omega) (Ih _) ks;omega
     .obtain⟨q1,q2⟩:=bj.2.1 ⟨c2,by omega⟩;rw[q1,q2];exact u i (j-1) (by omega) (by omega)
    .obtain⟨p1,p2⟩:=bi.1 c1;obtain⟨q1,q2⟩:=bj.2.1 ⟨by omega,by omega⟩;rw[p1,p2,q1,q2];exact .inl (a5 (j-1) (by omega) (by omega))
    .obtain⟨p1,p2⟩:=bi.2.1 ⟨c1,by omega⟩;obtain⟨q1,q2⟩:=bj.2.1 ⟨by omega,by omega⟩;rw[p1,p2,q1,q2];exact u (i-1) (j-1) (by omega) (by omega)
   .show R τ (bubble (arrOf s2) k (k-lo)) i<=R τ (bubble (arrOf s2) k (k-lo)) j;have bi:=zmD (ρ:=ρ) (τ:=τ) kz (show k-lo<=k by omega) i;rw[ed]at bi;obtain⟨_,q2⟩:=(zmD (ρ:=ρ) (τ:=τ) kz (show k-lo<=k by omega) j).2.2 (.inr (by omega));rw[q2];rcases Di i lo with c1 | c1 | c1
    .rw[(bi.2.2 (.inl c1)).2];exact r i j hij (by omega) h2
    .rw[(bi.1 c1).2];exact r k j (by omega) (by omega) h2
    .by_cases c2:i<=k
     .rw[(bi.2.1 ⟨c1,c2⟩).2];exact r (i-1) j (by omega) (by omega) h2
     .rw[(bi.2.2 (.inr (by omega))).2];exact r i j hij (by omega) h2
def zh8{Q:Unit->SortSt->Prop}(ik:Cmp prog w A E s ρ κ a₀)(hB:SB κ a₀ st)(z2:2<=a₀.size)(z64:a₀.size<64)(r0:Rs τ a₀.size (arrOf st) 0)(kk:∀ st',(arrOf st').Perm a₀->failedOf st'=none->Up ρ τ (arrOf st') a₀.size->Q () st'):wpS (model prog w) A E s sortRuns' Q st:=by
 have mr:minRun' a₀.size a₀.size 0=a₀.size:=by
  obtain⟨f,hf⟩:∃ f,a₀.size=f+1:=⟨a₀.size-1,by omega⟩
  have q:minRun' (f+1) a₀.size 0=a₀.size:=by rw[minRun'_succ,Iz z64];rfl
  rwa [← hf]at q
 rw[sortRuns'_eq];refine wpS_bind (wpS_get (show wpS _ _ _ _ _ _ _ from ?_));dsimp only;simp only[hB.size,mr];have fin:∀ st' n,n=a₀.size->Good ρ τ κ a₀ st' n->(arrOf (setPending st' ((pendingOf st').push (0,n,0)))).Perm a₀/\failedOf (setPending st' ((pendingOf st').push (0,n,0)))=none/\pendingOf (setPending st' ((pendingOf st').push (0,n,0))) = #[(0,n,0)]/\Up ρ τ (arrOf (setPending st' ((pendingOf st').push (0,n,0)))) n:=λst' n _ g=>⟨g.1.perm,g.1.failed,by show(pendingOf st').push _=_;rw[g.1.pend];rfl,g.2.1⟩
 refine wpS_bind (wpS_mono (wpS_forRange
  (I:=λx c st' => (x=0/\c=(none,0)/\SB κ a₀ st' /\ Rs τ a₀.size (arrOf st') 0)\/(1<=x/\c=(none,a₀.size)/\(arrOf st').Perm a₀/\failedOf st'=none/\pendingOf st' = #[(0,a₀.size,0)]/\Up ρ τ (arrOf st') a₀.size))
  (Q:=λc st' => c=(none,a₀.size)/\(arrOf st').Perm a₀/\failedOf st'=none/\pendingOf st' = #[(0,a₀.size,0)]/\Up ρ τ (arrOf st') a₀.size) ?turn ?over (.inl ⟨rfl,rfl,hB,r0⟩)) ?post)
 case over=>
  rintro c st' (⟨hx,_⟩ | ⟨_,r⟩)
  .omega
  .exact r
 case turn=>
  rintro x c st' _ hx (⟨rfl,rfl,hB',r'⟩ | ⟨hx1,rfl,hD⟩)
  .dsimp only;rw[Iq (show ¬ (0 ≥ a₀.size)by omega)];simp only[Nat.sub_zero,Nat.min_self,Nat.zero_add];refine wpS_bind (zkb ik (Ih _) (show 1<=a₀.size by omega) hB' r' λm st2 g2 m1 m2=>?_);dsimp only;by_cases lt:m<a₀.size
   .rw[Iz lt];refine wpS_bind (wpS_lift (Da ⟨rfl,wpS_bind (zgX ik (Ih _) m1 m2 g2 λst3 g3=>?_)⟩));simp only[Oo,IF,IY];have nb:(pendingOf st3).back?=none:=by rw[g3.1.pend];rfl
    refine wpS_bind (wpS_get (show wpS _ _ _ _ _ _ _ from ?_));rw[nb];exact wpS_bind (wpS_modify (wpS_pure (.inr ⟨by omega,rfl,fin st3 _ rfl g3⟩)))
   .rw[Iq lt];have em:m=a₀.size:=by omega
    subst em;have nb:(pendingOf st2).back?=none:=by rw[g2.1.pend];rfl
    refine wpS_bind (wpS_get (show wpS _ _ _ _ _ _ _ from ?_));rw[nb];exact wpS_bind (wpS_modify (wpS_pure (.inr ⟨by omega,rfl,fin st2 _ rfl g2⟩)))
  .dsimp only;rw[Iz (show a₀.size ≥ a₀.size from Ih _)];exact wpS_pure ⟨rfl,hD⟩
 case post=>
  rintro c st' ⟨rfl,p,f,pd,u⟩;dsimp only;refine wpS_bind (wpS_mono (wpS_forRange (I:=λ_ c s2=>s2=st' /\ c=(none,())) (Q:=λc s2=>s2=st' /\ c=(none,())) (λx c s2 _ _ ⟨e1,e2⟩=>?_) (λ_ _ q=>q) ⟨rfl,rfl⟩) λc s2 ⟨e1,e2⟩=>?_)
  .subst e1 e2;exact wpS_pure (kk _ p f u)
  .subst e1 e2;refine wpS_bind (wpS_get (show wpS _ _ _ _ _ _ _ from ?_));rw[Iz (show(pendingOf s2).size<=1 by rw[pd];exact Ih 1)];exact wpS_pure ⟨rfl,rfl⟩
end
end StbG
namespace L2
open PySem PySem.Spec PyProof.Rows
variable {us:List Value}{x:Str}{a b f C:AD}{h:Heap}{t' i k:Nat}{ch fp:List AD}{e tg:Expr}{M:Model}{A:Around}{E:Value->SH->Prop}{Q:Unit->SH->Prop}{s:SH}{aa:List (AD×Obj)}{body:List Stmt}{pl:Sem Bool}{op:CmpOp}{kw:List (Str×Value)}{fd:FuncData}{ps:List Str}{outer:List Env}{kindOf:Str->Option NameKind}{scope:Scope}
abbrev Key:=Sum Int Str
noncomputable def zdK:Key->Value->Bool
 |.inl k,v=>Value.isInt k v
 |.inr x,v=>Value.isStrOf x v
noncomputable def zn5(w:World):Key->Int
 |.inl k=>hashInt k
 |.inr x=>hashStr w x
theorem Yt:∀{k:Key}{v:Value},zdK k v=true->(∃ i t,k=Sum.inl i/\v=Value.int i t)\/(∃ x t,k=Sum.inr x/\v=Value.str x t)
 |.inl i,v,h=>by obtain⟨t,e⟩:=Value.isInt_shape (k:=i) (v:=v) h;exact .inl ⟨i,t,rfl,e⟩
 |.inr x,v,h=>by obtain⟨t,e⟩:=Value.isStrOf_shape (x:=x) (v:=v) h;exact .inr ⟨x,t,rfl,e⟩
def zfX(i:Int)(t:Tok):zdK (.inl i) (.int i t)=true:=by simp[zdK,Value.isInt]
def zen(x:Str)(t:Tok):zdK (.inr x) (.str x t)=true:=by simp[zdK,Value.isStrOf]
def zmb(a b:Int):decide ((Sum.inl a:Key)=Sum.inl b)=(a==b):=by
 by_cases e:a=b
 .subst e;simp
 .have h:¬ (Sum.inl a:Key)=Sum.inl b:=λq=>e (Sum.inl.inj q);rw[Ip h];exact(NF.mpr e).symm
def zlz(a b:Str):decide ((Sum.inr a:Key)=Sum.inr b)=decide (a=b):=by
 by_cases e:a=b
 .subst e;simp
 .have h:¬ (Sum.inr a:Key)=Sum.inr b:=λq=>e (Sum.inr.inj q);rw[Ip h,Ip e]
def zlE(a:Int)(b:Str):decide ((Sum.inl a:Key)=Sum.inr b)=false:=Ip (λq=>nomatch q)
def zmg(a:Str)(b:Int):decide ((Sum.inr a:Key)=Sum.inl b)=false:=Ip (λq=>nomatch q)
noncomputable def Y6(prog:Program)(w:World):PySem.KeyKind prog w Key where
 is:=zdK
 hash:=zn5 w
 inj:=λv a b ha hb=>by
  rcases Yt ha with⟨i,t,rfl,rfl⟩ | ⟨x,t,rfl,rfl⟩
  .rcases Yt hb with⟨j,u,rfl,e⟩ | ⟨y,u,rfl,e⟩
   .injection e with e1 _;rw[e1]
   .exact nomatch e
  .rcases Yt hb with⟨j,u,rfl,e⟩ | ⟨y,u,rfl,e⟩
   .exact nomatch e
   .injection e with e1 _;rw[e1]
 byValue:=λk v h=>by rcases Yt h with⟨i,t,rfl,rfl⟩ | ⟨x,t,rfl,rfl⟩ <;> rfl
 pyHash:=λhv h=>by
  rcases Yt hv with⟨i,t,rfl,rfl⟩ | ⟨x,t,rfl,rfl⟩
  .exact wpAny_pyHash_int h
  .exact wpAny_pyHash_str h
 eqBool:=λhu hv h=>by
  rcases Yt hu with⟨i,t,rfl,rfl⟩ | ⟨x,t,rfl,rfl⟩
  .rcases Yt hv with⟨j,u,rfl,rfl⟩ | ⟨y,u,rfl,rfl⟩
   .rw[zmb]at h;exact wpAny_eqBool_int h
   .rw[zlE]at h;exact SeqAt.EqAt.int_str i t y u _ _ _ _ h
  .rcases Yt hv with⟨j,u,rfl,rfl⟩ | ⟨y,u,rfl,rfl⟩
   .rw[zmg]at h;exact SeqAt.EqAt.str_int x t j u _ _ _ _ h
   .rw[zlz]at h;exact wpAny_eqBool_str h
 «strs» := λk x t v h=>by
  rcases Yt h with⟨i,u,rfl,e⟩ | ⟨y,u,rfl,e⟩
  .exact nomatch e
  .injection e with e1 _;subst e1;cases v <;> rfl
def zcf(prog:Program)(w:World)(i:Int)(t:Tok):(Y6 prog w).is (.inl i) (.int i t)=true:=zfX i t
def zco(prog:Program)(w:World)(x:Str)(t:Tok):(Y6 prog w).is (.inr x) (.str x t)=true:=zen x t
inductive V where
 |non | bl (b:Bool) | int (i:Int) | str (x:Str) | byt (b:Array UInt8) | flt (b:UInt64) | ref (a:AD) | ty (n:String)
 deriving DecidableEq
def RelV:V->Value->Prop
 |.non,u=>u=Value.none
 |.bl b,u=>u=Value.bool b
 |.int i,u=>∃ t,u=Value.int i t
 |.str x,u=>∃ t,u=Value.str x t
 |.byt b,u=>∃ t,u=Value.bytes b t
 |.flt b,u=>∃ t,u=Value.float b t
 |.ref a,u=>u=Value.ref a
 |.ty n,u=>u=Value.type n
abbrev Vals:List V->List Value->Prop:=Paired RelV
theorem Vals.length{xs:List V}(r:Vals xs us):xs.length=us.length:=Paired.length r
theorem Vals.get:∀{xs:List V}{us:List Value}{i:Nat}{x:V},Vals xs us->xs[i]?=some x->∃ u,us[i]?=some u/\RelV x u
 |_,_,_,_,.nil,e=>by simp at e
 |_,_,0,_,.cons r _,e=>by simp at e;subst e;exact⟨_,rfl,r⟩
 |_,_,i+1,x,.cons _ t,e=>by obtain⟨u,h1,h2⟩:=Vals.get (i:=i) (x:=x) t (by simpa using e);exact⟨u,by simpa using h1,h2⟩
theorem Vals.set{x:V}{u:Value}(r:RelV x u):∀{xs:List V}{us:List Value}(i:Nat),Vals xs us->Vals (xs.set i x) (us.set i u)
 |_,_,_,.nil=>.nil
 |_,_,0,.cons _ t=>.cons r t
 |_,_,i+1,.cons q t=>.cons q (Vals.set r i t)
theorem Vals.append:∀{xs ys:List V}{us ws:List Value},Vals xs us->Vals ys ws->Vals (xs++ys) (us++ws)
 |_,_,_,_,.nil,s=>s
 |_,_,_,_,.cons r t,s=>.cons r (Vals.append t s)
theorem Vals.take:∀{xs:List V}{us:List Value}(n:Nat),Vals xs us->Vals (xs.take n) (us.take n)
 |_,_,0,_=>.nil
 |_,_,_+1,.nil=>.nil
 |_,_,n+1,.cons r t=>.cons r (Vals.take n t)
theorem Vals.drop:∀{xs:List V}{us:List Value}(n:Nat),Vals xs us->Vals (xs.drop n) (us.drop n)
 |_,_,0,r=>r
 |_,_,_+1,.nil=>.nil
 |_,_,n+1,.cons _ t=>Vals.drop n t
def zgw:Option V->Option Value->Prop
 |some v,some u=>RelV v u
 |none,none=>True
 |_,_=>False
def KV{κ:Type}:List (κ×V)->List (κ×Value)->Prop:=Paired λ(p:κ×V)(q:κ×Value)=>p.1=q.1/\RelV p.2 q.2
noncomputable def kV:Key->V
 |.inl i=>.int i
 |.inr x=>.str x
inductive HO where
 
 |lst (xs:List V)
 
 |tup (xs:List V)
 
 |dK (kvs:List (Key×V)) | dT (kvs:List (List Key×V))
 
 |set (S:Int->Bool) (n:Nat)
 
 |ins (C dx:AD) (fs:List (Str×V))
 
 |own (x:AD)
 
 |xd (fs:List (Str×V))
 
 |met (f x:AD)
 
 |rng (lo hi:Int)
 
 |frz (o:Obj) (u:HO)
 
 |tbl (cr:Nat->Nat->Option Str)
 
 |ext (φ:Heap->Prop)
abbrev Hp:=AD->Option HO
noncomputable def upd(H:Hp)(a:AD)(o:HO):Hp:=λb=>if b=a then some o else H b
def Zi{H:Hp}{o:HO}:upd H a o a=some o:=by unfold upd;rw[Iz rfl]
def Zk{H:Hp}{o:HO}(h:b≠a):upd H a o b=H b:=by unfold upd;rw[Iq h]
def ZC{H:Hp}{o:HO}(h:H a=some o)(h' : H b=none):a≠b:=by intro e;subst e;rw[h]at h';cases h'
def zfi(oc:Obj)(q:Str):Prop:=∃(vs:Array Value)(t:Tok),oc.data = .fields vs/\vs[1]?=some (.str q t)
def ziz(h:Heap)(a:AD):Prop:=∃ o,h.get? a=some o/\o.dict=none
section
variable (P:Program)(w:World)
def Yu(H:Hp)(h:Heap)(a:AD):HO->Prop
 |.lst xs=>xs.length<=sizeLine/\∃(its:List Value)(n:Nat),Vals xs its/\h.get? a=some {cls:=.type "list",data:=.seq its.toArray n}
 |.tup xs=>xs.length<=sizeLine/\∃ its:List Value,Vals xs its/\IsTup h a its.toArray/\ziz h a
 |.dK kvs=>kvs.length<=sizeLine/\(a==sysModules)=false/\∃ vs,KV kvs vs/\h.DictOf (Y6 P w) a vs
 |.dT kvs=>kvs.length<=sizeLine/\(a==sysModules)=false/\∃ xs:List (List Key×AD×Value),
   Paired (λ(p:List Key×V)(q:List Key×AD×Value)=>p.1=q.1/\H q.2.1=some (.tup (p.1.map kV))/\RelV p.2 q.2.2) kvs xs/\
   ∃ o es ep,h.get? a=some o/\o.ExactDict/\o.data = .dict es ep/\es.toList=xs.map (entryOfKey (tupleKind (Y6 P w)))/\(xs.map (·.1)).Nodup
 |.set S n=>h.SetOf (intKind P w) a S n
 |.ins C dx fs=>H dx=some (.own a)/\fs.length<=1000/\dx≠a/\h.get? a=some (instObj C dx)/\
   ∃ mA,h.Ns1 dx mA/\(∀ f,zgw (fs.lookup f) (mA f))/\PySem.Within mA (fs.map (·.1))
 |.own _=>∃ o,h.get? a=some o
 |.xd fs=>∃ mA,h.Ns1 a mA/\∀ f,zgw (fs.lookup f) (mA f)
 |.rng lo hi=>∃ t u v,h.get? a=some {cls:=.type "range",data:=.fields #[.int lo t,.int hi u,.int 1 v]}
 |.frz o u=>h.get? a=some o/\Yu H h a u
 |.tbl cr=>∃ ps:Array Value,h.get? a=some {cls:=.none,data:=.fields ps}/\TriplesOk ps.toList/\∀(pos:Pos)(v:Value),codeAmong pos ps.toList=some v->
   ∃(c:AD)(oc:Obj)(q:Str),v = .ref c/\cr pos.line pos.col=some q/\H c=some (.frz oc (.own c))/\zfi oc q
 |.met f x=>h.get? a=some (methodObj (.ref f) (.ref x))
 |.ext φ=>φ h/\(∃ o,h.get? a=some o)/\∀ h1 h2:Heap,φ h1->(∀ o,h1.get? a=some o->h2.get? a=some o)->φ h2
def HOk(H:Hp)(h:Heap):Prop:=∀ a o,H a=some o->Yu P w H h a o
end
section
variable {P:Program}{w:World}{H H' : Hp}{h h' : Heap}{a:AD}{o:HO}
theorem Yu.lt(x:Yu P w H h a o):a<h.objs.size:=by
 cases o with
 |lst xs=>obtain⟨_,_,_,_,e⟩:=x;exact IN e
 |tup xs=>obtain⟨_,_,_,p,_⟩:=x;exact p.lt
 |dK kvs=>obtain⟨_,_,_,_,o,_,_,e,_⟩:=x;exact IN e
 |dT kvs=>obtain⟨_,_,_,_,o,_,_,e,_⟩:=x;exact IN e
 |set S n=>obtain⟨o,_,_,_,e,_⟩:=x;exact IN e
 |ins C dx fs=>obtain⟨_,_,_,e,_⟩:=x;exact IN e
 |own y=>obtain⟨_,e⟩:=x;exact IN e
 |xd fs=>obtain⟨_,⟨_,_,_,e,_⟩,_⟩:=x;exact IN e
 |rng lo hi=>obtain⟨_,_,_,e⟩:=x;exact IN e
 |frz ob u=>obtain⟨e,_⟩:=x;exact IN e
 |tbl cr=>obtain⟨_,e,_⟩:=x;exact IN e
 |met f y=>exact IN (show h.get? a=some _ from x)
 |ext φ=>obtain⟨_,⟨_,e⟩,_⟩:=x;exact IN e
theorem Paired.znY{α β:Type}{F G:α->β->Prop}:∀{l₁:List α}{l₂:List β},Paired F l₁ l₂->(∀ a b,F a b->G a b)->Paired G l₁ l₂
 |_,_,.nil,_=>.nil
 |_,_,.cons r t,f=>.cons (f _ _ r) (Paired.znY t f)
def Yu.stay(x:Yu P w H h a o)(k:∀ b u,(b=a\/H b=some (.own a))->h.get? b=some u->h'.get? b=some u)(ho:∀ b,H b=some (.own a)->H' b=some (.own a))(ht:∀ b xs,H b=some (.tup xs)->H' b=some (.tup xs))(hz:∀ b o u,H b=some (.frz o u)->H' b=some (.frz o u)):Yu P w H' h' a o:=by
 induction o with
 |lst xs=>obtain⟨z,its,n,r,e⟩:=x;exact⟨z,its,n,r,k _ _ (.inl rfl) e⟩
 |tup xs=>obtain⟨z,its,r,⟨ob,e,c⟩,od,e',d'⟩:=x;exact⟨z,its,r,⟨ob,k _ _ (.inl rfl) e,c⟩,od,k _ _ (.inl rfl) e',d'⟩
 |dK kvs=>obtain⟨z,y,vs,r,ob,es,ep,e,c⟩:=x;exact⟨z,y,vs,r,ob,es,ep,k _ _ (.inl rfl) e,c⟩
 |dT kvs=>obtain⟨z,y,xs,r,ob,es,ep,e,c⟩:=x;exact⟨z,y,xs,Paired.znY r λp q z=>⟨z.1,ht _ _ z.2.1,z.2.2⟩,ob,es,ep,k _ _ (.inl rfl) e,c⟩
 |set S n=>obtain⟨ob,es,ep,t,e,c⟩:=x;exact⟨ob,es,ep,t,k _ _ (.inl rfl) e,c⟩
 |ins C dx fs=>obtain⟨d,z,ne,e,mA,⟨od,es,ep,e2,c⟩,r⟩:=x;exact⟨ho _ d,z,ne,k _ _ (.inl rfl) e,mA,⟨od,es,ep,k _ _ (.inr d) e2,c⟩,r⟩
 |own y=>obtain⟨ob,e⟩:=x;exact⟨ob,k _ _ (.inl rfl) e⟩
 |xd fs=>obtain⟨mA,⟨od,es,ep,e,c⟩,r⟩:=x;exact⟨mA,⟨od,es,ep,k _ _ (.inl rfl) e,c⟩,r⟩
 |rng lo hi=>obtain⟨t,u,v,e⟩:=x;exact⟨t,u,v,k _ _ (.inl rfl) e⟩
 |frz ob u ih=>obtain⟨e,q⟩:=x;exact⟨k _ _ (.inl rfl) e,ih q⟩
 |tbl cr=>obtain⟨ps,e,ht3,hc⟩:=x;exact⟨ps,k a _ (.inl rfl) e,ht3,λpos v q=>let ⟨c,oc,z,h1,h2,h3,h4⟩:=hc pos v q;⟨c,oc,z,h1,h2,hz _ _ _ h3,h4⟩⟩
 |met f y=>have e:h.get? a=some (methodObj (.ref f) (.ref y)):=x;show h'.get? a=some (methodObj (.ref f) (.ref y));exact k a _ (.inl rfl) e
 |ext φ=>obtain⟨p,⟨o,e⟩,st⟩:=x;exact⟨st _ _ p λo q=>k _ _ (.inl rfl) q,⟨o,k _ _ (.inl rfl) e⟩,st⟩
theorem HOk.lt(x:HOk P w H h)(e:H a=some o):a<h.objs.size:=(x a o e).lt
def HOk.fresh(x:HOk P w H h)(e:h.objs.size<=a):H a=none:=by
 cases q:H a with
 |none=>rfl
 |some u=>exact absurd (IP (x.lt q) e) (OI _)
def HOk.kept(x:HOk P w H h)(k:∀ b u,h.get? b=some u->h'.get? b=some u):HOk P w H h':=λa o e=>(x a o e).stay (λb u _ q=>k b u q) (λ_ q=>q) (λ_ _ q=>q) λ_ _ _ q=>q
def HOk.laid(x:HOk P w H h)(k:∀ b u,h.get? b=some u->h'.get? b=some u)(hp:h.objs.size<=a)(new:Yu P w (upd H a o) h' a o):HOk P w (upd H a o) h':=λb u e=>by
 have hn:=x.fresh hp;by_cases hb:b=a
 .subst hb;rw[Zi]at e;cases e;exact new
 .rw[Zk hb]at e;exact(x b u e).stay (λc v _ q=>k c v q) (λc q=>by rw[Zk (ZC q hn)];exact q) (λc xs q=>by rw[Zk (ZC q hn)];exact q) λc o u q=>by rw[Zk (ZC q hn)];exact q
end
def Rd(H:Hp)(a:AD)(u:HO):Prop:=H a=some u\/∃ o,H a=some (.frz o u)
def Rd.ok{P:Program}{w:World}{H:Hp}{u:HO}(r:Rd H a u)(x:HOk P w H h):Yu P w H h a u:=by
 rcases r with r | ⟨o,r⟩
 .exact x a u r
 .obtain⟨_,q⟩:=x a _ r;exact q
def Mut:Option HO->Prop
 |some (.lst _)=>True
 |some (.dK _)=>True
 |some (.dT _)=>True
 |some (.set _ _)=>True
 |some (.ins _ _ _)=>True
 |some (.ext _)=>True
 |_=>False
section
variable {P:Program}{w:World}{H:Hp}{h h' : Heap}{x e:AD}{o' : HO}
def HOk.write(ok:HOk P w H h)(mu:Mut (H x))(he:e=x\/H e=some (.own x))(k:∀ b u,b≠e->h.get? b=some u->h'.get? b=some u)(heo:∃ u,h'.get? e=some u)(new:Yu P w (upd H x o') h' x o'):HOk P w (upd H x o') h':=λb u q=>by
 have nown:∀ c y,H c=some (.own y)->c≠x:=λc y r z=>by subst z;rw[r]at mu;exact mu
 have ntup:∀ c xs,H c=some (.tup xs)->c≠x:=λc xs r z=>by subst z;rw[r]at mu;exact mu
 have nfrz:∀ c o u,H c=some (.frz o u)->c≠x:=λc o u r z=>by subst z;rw[r]at mu;exact mu
 by_cases hb:b=x
 .subst hb;rw[Zi]at q;cases q;exact new
 .rw[Zk hb]at q;by_cases hbe:b=e
  .have q' : H b=some (.own x):=by
    rcases he with z | z
    .exact absurd (hbe.trans z) hb
    .rw[hbe];exact z
   rw[q]at q';cases q';obtain⟨v,hv⟩:=heo;exact⟨v,by rw[hbe];exact hv⟩
  .refine(ok b u q).stay (λc v hc r=>k c v ?_ r) (λc r=>by rw[Zk (nown c b r)];exact r) (λc xs r=>by rw[Zk (ntup c xs r)];exact r) λc o u r=>by rw[Zk (nfrz c o u r)];exact r
   rcases hc with rfl | hc
   .exact hbe
   .rintro rfl;rcases he with z | z
    .exact nown c b hc z
    .rw[hc]at z;cases z;exact hb rfl
end
structure Un(fs ex:List AD)(H H' : Hp)(h h' : Heap):Prop where
 keep:∀ b o,h.get? b=some o->H b=none->b∉fs->b∉ex->h'.get? b=some o
 slot:∀ b o,h.get? b=some o->H b=none->b∈fs->b∉ex->∃ sl,h'.get? b=some {o with slots:=sl}
 free:∀ b o,h.get? b=some o->H b=none->b∉ex->H' b=none
 there:∀ b o,h.get? b=some o->b∉ex->∃ o',h'.get? b=some o'
 tups:∀ b xs,H b=some (.tup xs)->H' b=some (.tup xs)
 frzs:∀ b o u,H b=some (.frz o u)->H' b=some (.frz o u)
 tbls:∀ b cr,H b=some (.tbl cr)->H' b=some (.tbl cr)
section
variable {fs fs' ex ex' : List AD}{H H1 H2:Hp}{h h1 h2 h' : Heap}{a x e:AD}{o:HO}
def Un.any(u:Un fs ex H H1 h h1){ob:Obj}(q:h.get? b=some ob)(n:H b=none)(hx:b∉ex):∃ sl,h1.get? b=some {ob with slots:=sl}:=by
 by_cases hb:b∈fs
 .exact u.slot b ob q n hb hx
 .exact⟨ob.slots,u.keep b ob q n hb hx⟩
def Un.kept(k:∀ b u,h.get? b=some u->h'.get? b=some u):Un fs ex H H h h' :=⟨λb ob q _ _ _=>k b ob q,λb ob q _ _ _=>⟨ob.slots,k b ob q⟩,λ_ _ _ n _=>n,λb ob q _=>⟨ob,k b ob q⟩,λ_ _ q=>q,λ_ _ _ q=>q,λ_ _ q=>q⟩
def Un.refl:Un fs ex H H h h:=Un.kept λ_ _ q=>q
def Un.laid(k:∀ b u,h.get? b=some u->h'.get? b=some u)(hp:h.objs.size<=a)(hn:H a=none):Un fs ex H (upd H a o) h h' where
 keep:=λb u q _ _ _=>k b u q
 slot:=λb u q _ _ _=>⟨u.slots,k b u q⟩
 free:=λb u q n _=>by rw[Zk (IX (IP (IN q) hp))];exact n
 there:=λb u q _=>⟨u,k b u q⟩
 tups:=λb xs q=>by rw[Zk (ZC q hn)];exact q
 frzs:=λb u xs q=>by rw[Zk (ZC q hn)];exact q
 tbls:=λb cr q=>by rw[Zk (ZC q hn)];exact q
def Un.write(mu:Mut (H x))(he:e=x\/H e=some (.own x))(k:∀ b u,b≠e->h.get? b=some u->h'.get? b=some u)(heo:∃ u,h'.get? e=some u):Un fs ex H (upd H x o) h h':=by
 have hx:∀ b,H b=none->b≠x:=λb n z=>by subst z;rw[n]at mu;exact mu
 have hb:∀ b,H b=none->b≠e:=λb n z=>by
  subst z;rcases he with r | r
  .exact hx b n r
  .rw[n]at r;cases r
 have hm:∀ b u,H b=some u->¬ Mut (some u)->b≠x:=λb u q nm z=>by subst z;rw[q]at mu;exact nm mu
 refine⟨λb u q n _ _=>k b u (hb b n) q,λb u q n _ _=>⟨u.slots,k b u (hb b n) q⟩,λb u q n _=>by rw[Zk (hx b n)];exact n,λb u q _=>?_,
  λb xs q=>by rw[Zk (hm b _ q λz=>z)];exact q,λb u xs q=>by rw[Zk (hm b _ q λz=>z)];exact q,λb cr q=>by rw[Zk (hm b _ q λz=>z)];exact q⟩
 by_cases hbe:b=e
 .subst hbe;exact heo
 .exact⟨u,k b u hbe q⟩
end
noncomputable def trk(h:Heap)(H:Hp):List AD:=(List.range h.objs.size).filter λa=>(H a).isSome
noncomputable def zgA(h:Heap)(H:Hp):Heap:=PySem.W.hideAll h (trk h H)
def ze0(h:Heap)(H:Hp):(zgA h H).objs.size=h.objs.size:=PySem.W.hideAll_size _ _
def zgN{H:Hp}{o:Obj}(e:h.get? b=some o)(n:H b=none):(zgA h H).get? b=some o:=
 PySem.W.hideAll_get _ e λhm=>by have q:(H b).isSome=true:=(Nj.mp hm).2;rw[n]at q;simp at q
def zkh{H:Hp}{o:Obj}(e:(zgA h H).get? b=some o):h.get? b=some o/\H b=none:=by
 have e' : h.get? b=some o:=PySem.W.of_hideAll (trk h H) e;refine⟨e',?_⟩;cases q:H b with
 |none=>rfl
 |some x=>have hm:b∈trk h H:=Nj.mpr ⟨IJ.mpr (IN e'),by simp[q]⟩;have z:(zgA h H).get? b=none:=PySem.W.hideAll_none (trk h H) hm;rw[z]at e;cases e
structure Mod(K:FG)(mg:Str->Option Value)(base:Heap):Prop where
 kin:K.In base
 glob:base.Ns mainGlobals mg
 blt:∃ mb,base.Ns builtinsNs mb/\∀ x:Str,x≠ "__name__" -> mb x=bootBuiltins x
 nolimit:base.NoLimit
structure Cx where
 prog:Program
 w:World
 K:FG
 mg:Str->Option Value
 base:Heap
 A:Around
 N:List Str
 s₀:SH
 H₀:Hp
 env:Env
 outer:List Env
 stack:List Env
 ex:List AD
 fn:Str->Bool
 calm:Bool
 pn:List (AD×Obj)
 xe:Value->SH->Prop
noncomputable def frs(l:List Env):List AD:=l.filterMap (·.frame)
abbrev Cx.fs(X:Cx):List AD:=frs X.outer
def Vis(sc:Scope)(x:Str):Prop:=sc.names.lookup x=some .local\/sc.names.lookup x=some .cell\/sc.names.lookup x=some .free
def Loc(sc:Scope)(x:Str):Prop:=sc.names.lookup x=some .local\/sc.names.lookup x=some .cell
def Look(env:Env)(h:Heap)(m:Str->Option Value)(x:Str)(u:Value):Prop:=(env.kindOf x=some .local/\m x=some u)\/((env.kindOf x=some .cell\/env.kindOf x=some .free)/\∃ c,env.cells.lookup x=some c/\h.IsCell c (some u))
structure Cx.Ok(X:Cx):Prop where
 mod:Mod X.K X.mg X.base
 kind:X.env.scope.kind = .function
 glob:X.env.globals=mainGlobals
 blt:X.env.builtins=builtinsNs
 above:X.s₀.heap.objs.size<=X.env.locals
 inj:∀ x y c,X.env.cells.lookup x=some c->X.env.cells.lookup y=some c->x=y
 has:∀ x,(X.env.kindOf x=some .cell\/X.env.kindOf x=some .free)->∃ c,X.env.cells.lookup x=some c
 cab:∀ x c,X.fn x=true->X.env.cells.lookup x=some c->X.s₀.heap.objs.size<=c
 hd:X.calm=true->X.A.handled=none
 frames:X.A.frames=some X.stack
 stk:X.stack=X.outer\/(X.stack=X.env::X.outer/\X.env.frame=some X.env.locals)
 exf:∀ b∈X.ex,b≠X.env.locals/\∀ x c,X.env.cells.lookup x=some c->c≠b
 bs:∀ b o,X.base.get? b=some o->X.s₀.heap.get? b=some o/\X.H₀ b=none
 bsz:X.base.objs.size<=X.s₀.heap.objs.size
 noex:∀ b o,X.base.get? b=some o->b∉X.ex
 exfs:∀ b∈X.ex,b∉X.fs
 zcd:X.s₀.heap.FunFrames X.base X.outer
 frf:∀ b∈X.fs,X.H₀ b=none
structure Inv(X:Cx)(aa:List (AD×Obj))(σ:List (Option V))(H:Hp)(s:SH):Prop where
 ok:X.Ok
 os:s.os=X.s₀.os
 bare:AllBare s.gens
 base:Un X.fs X.ex X.H₀ H X.s₀.heap s.heap
 loc:∃ m,s.heap.Ns X.env.locals m/\∀(i:Nat)(x:Str)(v:V),X.N[i]?=some x->σ[i]?=some (some v)->Vis X.env.scope x->∃ u,RelV v u/\Look X.env s.heap m x u
 cell:∀ x c,X.env.cells.lookup x=some c->∃ v,s.heap.IsCell c v
 free:H X.env.locals=none
 freeC:∀ x c,X.env.cells.lookup x=some c->H c=none
 pin:∀ p∈X.pn++aa,s.heap.get? p.1=some p.2/\H p.1=none/\p.1≠X.env.locals/\p.1∉X.fs/\∀ v,p.2.data≠.cell v
 ab:HOk X.prog X.w H s.heap
 len:σ.length=X.N.length
section
variable {X:Cx}{aa:List (AD×Obj)}{σ:List (Option V)}{H H' : Hp}{s:SH}{h' : Heap}
def Cx.Ok.zor(ok:X.Ok){o:Obj}(e:X.base.get? b=some o):b∉X.fs:=λhb=>by have:=(ok.zcd.mem hb).1;rw[e]at this;cases this
theorem Inv.bs(I:Inv X aa σ H s):∀ b o,X.base.get? b=some o->s.heap.get? b=some o/\H b=none:=λb o e=>⟨I.base.keep b o (I.ok.bs b o e).1 (I.ok.bs b o e).2 (I.ok.zor e) (I.ok.noex b o e),I.base.free b o (I.ok.bs b o e).1 (I.ok.bs b o e).2 (I.ok.noex b o e)⟩
def Inv.bk(I:Inv X aa σ H s):∀ b o,X.base.get? b=some o->s.heap.get? b=some o:=λb o e=>(I.bs b o e).1
theorem Inv.mod(I:Inv X aa σ H s):Mod X.K X.mg X.base:=I.ok.mod
def Inv.kIn(I:Inv X aa σ H s):X.K.In s.heap:=I.ok.mod.kin.keeps I.bk
theorem Inv.lt(I:Inv X aa σ H s):X.env.locals<s.heap.objs.size:=let ⟨_,hn,_⟩:=I.loc;hn.lt
def Inv.sz(I:Inv X aa σ H s):X.s₀.heap.objs.size<=s.heap.objs.size:=IH I.ok.above (Op I.lt)
def Inv.zn4(I:Inv X aa σ H s)(h:s.heap.objs.size<=a):a∉X.fs:=λhb=>by obtain⟨_,o,ho,_⟩:=I.ok.zcd.mem hb;exact absurd (IP (IN ho) (IH I.sz h)) (OI _)
def Inv.cne(I:Inv X aa σ H s):∀ x c,X.env.cells.lookup x=some c->c≠X.env.locals:=λx c e z=>by obtain⟨v,o,ho,hd⟩:=I.cell x c e;obtain⟨m,⟨o',es,ep,ho',hd',_⟩,_⟩:=I.loc;rw[z,ho']at ho;cases ho;rw[hd']at hd;cases hd
theorem Inv.zcd(I:Inv X aa σ H s):s.heap.FunFrames X.base X.outer:=by
 have all:∀(l:List Env),(∀ b∈frs l,b∈X.fs)->X.s₀.heap.FunFrames X.base l->s.heap.FunFrames X.base l:=by
  intro l
  induction l with
  |nil=>intro _ _;trivial
  |cons env r ih=>intro hs hl;obtain⟨hk,⟨L,o,hf,hn,ho,hd⟩,hr⟩:=hl;have hL:L∈X.fs:=hs L (by unfold frs;rw[N1,hf];exact Ir);obtain⟨sl,e⟩:=I.base.slot L o ho (I.ok.frf L hL) hL λz=>I.ok.exfs L z hL;exact⟨hk,⟨L,_,hf,hn,e,hd⟩,ih (λb hb=>hs b (by unfold frs;rw[N1,hf];exact Im _ hb)) hr⟩
 exact all X.outer (λ_ hb=>hb) I.ok.zcd
theorem Inv.stack(I:Inv X aa σ H s):s.heap.FunFrames X.base X.stack:=by
 rcases I.ok.stk with e | ⟨e,hf⟩
 .rw[e];exact I.zcd
 .rw[e];obtain⟨m,hn,_⟩:=I.loc;refine .cons (by rw[I.ok.kind];decide) hf hn ?_ I.zcd;exact Heap.get?_none_of_le (IH I.ok.bsz I.ok.above)
def Inv.zeJ(I:Inv X aa σ H s):∀ b∈frs X.stack,b∈X.env.locals::X.fs:=λb hb=>by
 rcases I.ok.stk with e | ⟨e,hf⟩
 .rw[e]at hb;exact Im _ hb
 .rw[e]at hb;unfold frs at hb;rw[N1,hf]at hb;exact hb
def Inv.zeM(I:Inv X aa σ H s):∀ b∈frs X.stack,H b=none:=λb hb=>by
 rcases IE.mp (I.zeJ b hb)with e | hb
 .rw[e];exact I.free
 .obtain⟨_,o,ho,_⟩:=I.ok.zcd.mem hb;exact I.base.free b o ho (I.ok.frf b hb) λz=>I.ok.exfs b z hb
def Inv.step{g' : Array GenState}{d' : Drawn}(I:Inv X aa σ H s)(hch:∀ b∈ch,(b∈X.ex\/X.s₀.heap.objs.size<=b)/\b≠X.env.locals/\(∀ x c,X.env.cells.lookup x=some c->c≠b)/\∀ p∈X.pn++aa,p.1≠b)(keep:∀ b o,b≠X.env.locals->b∉X.fs->b∉ch->s.heap.get? b=some o->H b=none->h'.get? b=some o)(slot:∀ b o,b≠X.env.locals->b∈X.fs->b∉ch->s.heap.get? b=some o->H b=none->∃ sl,h'.get? b=some {o with slots:=sl})(free:∀ b o,b∉ch->s.heap.get? b=some o->H b=none->H' b=none)(there:∀ b o,b∉ch->s.heap.get? b=some o->∃ o',h'.get? b=some o')(tups:∀ b xs,H b=some (.tup xs)->H' b=some (.tup xs))(frzs:∀ b o u,H b=some (.frz o u)->H' b=some (.frz o u))(tbls:∀ b cr,H b=some (.tbl cr)->H' b=some (.tbl cr))(ns:∀ m,s.heap.Ns X.env.locals m->h'.Ns X.env.locals m)(ab:HOk X.prog X.w H' h')(hg:AllBare g'):
  Inv X aa σ H' {s with heap:=h',gens:=g',drawn:=d',toks:=t'}:=by
 have neL:∀ b o,X.s₀.heap.get? b=some o->b≠X.env.locals:=λb o e=>IX (IP (IN e) I.ok.above);have neC:∀ b o,X.s₀.heap.get? b=some o->b∉X.ex->b∉ch:=λb o e hx hb=>by
  rcases(hch b hb).1 with z | z
  .exact hx z
  .exact absurd (IP (IN e) z) (OI _)
 have cellK:∀ x c,X.env.cells.lookup x=some c->∀ v,s.heap.IsCell c v->h'.IsCell c v:=λx c e v ⟨o,ho,hd⟩=>by
  have nch:c∉ch:=λz=>(hch c z).2.2.1 x c e rfl;by_cases hc:c∈X.fs
  .obtain⟨sl,q⟩:=slot c o (I.cne x c e) hc nch ho (I.freeC x c e);exact⟨_,q,hd⟩
  .exact⟨o,keep c o (I.cne x c e) hc nch ho (I.freeC x c e),hd⟩
 refine⟨I.ok,I.os,hg,⟨λb o e n hb hx=>?_,λb o e n hb hx=>?_,λb o e n hx=>?_,λb o e hx=>?_,λb xs e=>tups b xs (I.base.tups b xs e),λb o xs e=>frzs b o xs (I.base.frzs b o xs e),λb ps e=>?_⟩,?_,λx c e=>?_,?_,λx c e=>?_,λp hp=>?_,ab,I.len⟩
 .exact keep b o (neL b o e) hb (neC b o e hx) (I.base.keep b o e n hb hx) (I.base.free b o e n hx)
 .obtain⟨sl,e1⟩:=I.base.slot b o e n hb hx;obtain⟨sl',e2⟩:=slot b _ (neL b o e) hb (neC b o e hx) e1 (I.base.free b o e n hx);exact⟨sl',e2⟩
 .obtain⟨o',e1⟩:=I.base.there b o e hx;exact free b o' (neC b o e hx) e1 (I.base.free b o e n hx)
 .obtain⟨o',e1⟩:=I.base.there b o e hx;exact there b o' (neC b o e hx) e1
 .exact tbls b ps (I.base.tbls b ps e)
 .obtain⟨m,hn,hl⟩:=I.loc;refine⟨m,ns m hn,λi x v e1 e2 e3=>?_⟩;obtain⟨u,r,l⟩:=hl i x v e1 e2 e3;refine⟨u,r,?_⟩;rcases l with l | ⟨k,c,e,z⟩
  .exact .inl l
  .exact .inr ⟨k,c,e,cellK x c e _ z⟩
 .obtain⟨v,z⟩:=I.cell x c e;exact⟨v,cellK x c e v z⟩
 .obtain⟨m,⟨o,_,_,ho,_⟩,_⟩:=I.loc;exact free _ o (λz=>(hch _ z).2.1 rfl) ho I.free
 .obtain⟨v,o,ho,hd⟩:=I.cell x c e;exact free c o (λz=>(hch c z).2.2.1 x c e rfl) ho (I.freeC x c e)
 .obtain⟨e,n,ne,nf,d⟩:=I.pin p hp;have nch:p.1∉ch:=λz=>(hch p.1 z).2.2.2 p hp rfl;exact⟨keep p.1 p.2 ne nf nch e n,free p.1 p.2 nch e n,ne,nf,d⟩
def Inv.un(I:Inv X aa σ H s)(u:Un X.fs [] H H' s.heap h')(ab:HOk X.prog X.w H' h'):Inv X aa σ H' {s with heap:=h',toks:=t'}:=by
 obtain⟨m,⟨o,es,ep,ho,r⟩,_⟩:=id I.loc;obtain⟨sl,hL⟩:=u.any ho I.free (by simp);exact I.step (g':=s.gens) (d':=s.drawn) (ch:=[]) (λ_ z=>nomatch z) (λb o _ hb _ e n=>u.keep b o e n hb (by simp)) (λb o _ hb _ e n=>u.slot b o e n hb (by simp)) (λb o _ e n=>u.free b o e n (by simp)) (λb o _ e=>u.there b o e (by simp)) u.tups u.frzs u.tbls (λm' hm=>by
  obtain⟨o',es',ep',ho',r'⟩:=hm;rw[ho]at ho';cases ho';exact⟨_,es',ep',hL,r'⟩) ab I.bare
def Inv.call{g' : Array GenState}{d' : Drawn}(I:Inv X aa σ H s)(u:Un (frs X.stack) ch H H' s.heap h')(ab:HOk X.prog X.w H' h')(hg:AllBare g')(hch:∀ b∈ch,(b∈X.ex\/X.s₀.heap.objs.size<=b)/\b≠X.env.locals/\(∀ x c,X.env.cells.lookup x=some c->c≠b)/\∀ p∈X.pn++aa,p.1≠b):
  Inv X aa σ H' {s with heap:=h',gens:=g',drawn:=d',toks:=t'}:=by
 obtain⟨m,⟨o,es,ep,ho,r⟩,_⟩:=id I.loc;obtain⟨sl,hL⟩:=u.any ho I.free λz=>(hch _ z).2.1 rfl;exact I.step (ch:=ch) hch (λb o hL hb hc e n=>u.keep b o e n (λz=>(IE.mp (I.zeJ b z)).elim hL hb) hc) (λb o _ _ hc e n=>u.any e n hc) (λb o hc e n=>u.free b o e n hc) (λb o hc e=>u.there b o e hc) u.tups u.frzs u.tbls (λm' hm=>by
  obtain⟨o',es',ep',ho',r'⟩:=hm;rw[ho]at ho';cases ho';exact⟨_,es',ep',hL,r'⟩) ab hg
def Inv.turned{it:AD}(I:Inv X aa σ H s)(k:∀ b o,b≠it->s.heap.get? b=some o->h'.get? b=some o)(hn:H it=none)(hL:it≠X.env.locals)(h1:it∈X.ex\/X.s₀.heap.objs.size<=it)(h2:∀ x c,X.env.cells.lookup x=some c->c≠it)(h3:∀ p∈X.pn++aa,p.1≠it):Inv X aa σ H {s with heap:=h',toks:=t'}:=by
 have nit:∀ b u,H b=some u->b≠it:=λb u e z=>by rw[z,hn]at e;cases e
 refine I.step (g':=s.gens) (d':=s.drawn) (ch:=[it]) (λb hb=>?_) (λb o _ _ hc e _=>k b o (λz=>hc (by simp[z])) e) (λb o _ _ hc e _=>⟨o.slots,k b o (λz=>hc (by simp[z])) e⟩) (λ_ _ _ _ n=>n)
  (λb o hc e=>⟨o,k b o (λz=>hc (by simp[z])) e⟩) (λ_ _ e=>e) (λ_ _ _ e=>e) (λ_ _ e=>e) (λm hm=>?_) (λb u e=>?_) I.bare
 .have e:b=it:=by simpa using hb
  subst e;exact⟨h1,hL,h2,h3⟩
 .obtain⟨o,es,ep,ho,r⟩:=hm;exact⟨o,es,ep,k _ o (Ne.symm hL) ho,r⟩
 .refine(I.ab b u e).stay (λc v hc q=>k c v ?_ q) (λ_ q=>q) (λ_ _ q=>q) λ_ _ _ q=>q;rcases hc with z | z
  .rw[z];exact nit b u e
  .exact nit c _ z
def Inv.tok(I:Inv X aa σ H s)(t:Nat):Inv X aa σ H {s with toks:=t}:=I.un (h':=s.heap) (t':=t) Un.refl I.ab
theorem Inv.kept(I:Inv X aa σ H s)(k:∀ b u,s.heap.get? b=some u->h'.get? b=some u):Inv X aa σ H {s with heap:=h',toks:=t'}:=I.un (Un.kept k) (I.ab.kept k)
theorem Inv.laid{o:HO}(I:Inv X aa σ H s)(k:∀ b u,s.heap.get? b=some u->h'.get? b=some u)(hp:s.heap.objs.size<=a)(new:Yu X.prog X.w (upd H a o) h' a o):
  Inv X aa σ (upd H a o) {s with heap:=h',toks:=t'}:=I.un (Un.laid k hp (I.ab.fresh hp)) (I.ab.laid k hp new)
theorem Inv.write{x e:AD}{o:HO}(I:Inv X aa σ H s)(mu:Mut (H x))(he:e=x\/H e=some (.own x))(k:∀ b u,b≠e->s.heap.get? b=some u->h'.get? b=some u)(heo:∃ u,h'.get? e=some u)(new:Yu X.prog X.w (upd H x o) h' x o):Inv X aa σ (upd H x o) {s with heap:=h',toks:=t'}:=I.un (Un.write mu he k heo) (I.ab.write mu he k heo new)
def Inv.JL{pins' : List (AD×Obj)}(I:Inv X aa σ H s)(h:∀ p∈pins',s.heap.get? p.1=some p.2/\H p.1=none/\p.1≠X.env.locals/\p.1∉X.fs/\∀ v,p.2.data≠.cell v):Inv X pins' σ H s:=⟨I.ok,I.os,I.bare,I.base,I.loc,I.cell,I.free,I.freeC,λp hp=>(Nz.mp hp).elim (λz=>I.pin p (N3 _ z)) (h p),I.ab,I.len⟩
def zc1{N:List Str}(hN:N.Nodup){j:Nat}(a:N[i]?=some x)(b:N[j]?=some x):i=j:=by obtain⟨h1,e1⟩:=Io.mp a;obtain⟨h2,e2⟩:=Io.mp b;exact(List.getElem_inj hN).mp (e1.trans e2.symm)
def zeu{v:V}{u:Value}(I:Inv X aa σ H s)(hN:X.N.Nodup)(hi:X.N[i]?=some x)(hx:Loc X.env.scope x)(r:RelV v u)(h:∀ s',Inv X aa (σ.set i (some v)) H s' -> (∃ a,SameBut a s.heap s'.heap/\(a=X.env.locals\/X.env.cells.lookup x=some a))->Q () s')(hf:X.fn x=true\/X.env.scope.names.lookup x=some .local:=by first | exact .inl rfl | exact .inr rfl | assumption):wpAny M A (storeName X.env x u) Q E s:=by
 obtain⟨m,hn,hl⟩:=id I.loc;have hcls:(X.env.scope.kind == .class||(X.env.scope.kind == .module&&X.env.locals != X.env.globals))=false:=by rw[I.ok.kind];rfl
 have hiσ:i<σ.length:=by rw[I.len];exact(Io.mp hi).1
 have cne:=I.cne;have tracked:∀{a:AD}{h' : Heap},(∃ o,s.heap.get? a=some o/\H a=none)->SameBut a s.heap h' -> HOk X.prog X.w H h':=λ{a h'} ha hs b ob e=>by
  obtain⟨_,_,hfree⟩:=ha;refine(I.ab b ob e).stay (λc w' hc q=>(hs.2 c ?_).trans q) (λ_ q=>q) (λ_ _ q=>q) λ_ _ _ q=>q;rintro rfl;rcases hc with rfl | hc
  .rw[hfree]at e;cases e
  .rw[hfree]at hc;cases hc
 rcases hx with hk | hk
 .refine wpAny_storeName_local hk hn (λh' hn' hs=>?_) hcls;obtain⟨oL,_,_,hoL,_⟩:=id hn;refine h _ ⟨I.ok,I.os,I.bare,⟨λb o e n hb hx=>?_,λb o e n hb hx=>?_,I.base.free,λb o e hx=>?_,I.base.tups,I.base.frzs,I.base.tbls⟩,⟨_,hn',λj y v' e1 e2 e3=>?_⟩,λy c e=>?_,I.free,I.freeC,λp hp=>?_,tracked ⟨oL,hoL,I.free⟩ hs,by simpa using I.len⟩ ⟨_,hs,.inl rfl⟩
  .exact(hs.2 b (IX (IP (IN e) I.ok.above))).trans (I.base.keep b o e n hb hx)
  .obtain⟨sl,e1⟩:=I.base.slot b o e n hb hx;exact⟨sl,(hs.2 b (IX (IP (IN e) I.ok.above))).trans e1⟩
  .obtain⟨o',e1⟩:=I.base.there b o e hx;exact⟨o',(hs.2 b (IX (IP (IN e) I.ok.above))).trans e1⟩
  .by_cases hj:j=i
   .subst hj;rw[hi]at e1;cases e1;rw[IW hiσ]at e2;cases e2;exact⟨u,r,.inl ⟨hk,by simp⟩⟩
   .rw[IS (Ne.symm hj)]at e2;obtain⟨u',r',q⟩:=hl j y v' e1 e2 e3;refine⟨u',r',?_⟩;rcases q with⟨k,e⟩ | ⟨k,c,e,z⟩
    .refine .inl ⟨k,?_⟩;have:y≠x:=λe=>hj (zc1 hN e1 (e ▸ hi));simp[this,e]
    .exact .inr ⟨k,c,e,z.sameBut hs (cne y c e)⟩
  .obtain⟨w',z⟩:=I.cell y c e;exact⟨w',z.sameBut hs (cne y c e)⟩
  .obtain⟨e,n,ne,nf,d⟩:=I.pin p hp;exact⟨(hs.2 p.1 ne).trans e,n,ne,nf,d⟩
 .have hfn:X.fn x=true:=by
   rcases hf with z | z
   .exact z
   .rw[z]at hk;cases hk
  obtain⟨c,hc⟩:=I.ok.has x (.inl hk);obtain⟨w',z⟩:=I.cell x c hc;refine wpAny_storeName_cell I.ok.kind hk hc z (λh' hc' hs=>?_);obtain⟨oc,hoc,hocd⟩:=id z;refine h {s with heap:=h'} ⟨I.ok,I.os,I.bare,⟨λb o e n hb hx=>?_,λb o e n hb hx=>?_,I.base.free,λb o e hx=>?_,I.base.tups,I.base.frzs,I.base.tbls⟩,⟨m,hn.sameBut hs (Ne.symm (cne x c hc)),λj y v' e1 e2 e3=>?_⟩,λy c' e=>?_,I.free,I.freeC,λp hp=>?_,tracked ⟨oc,hoc,I.freeC x c hc⟩ hs,by simpa using I.len⟩ ⟨c,hs,.inr hc⟩
  .exact(hs.2 b (IX (IP (IN e) (I.ok.cab x c hfn hc)))).trans (I.base.keep b o e n hb hx)
  .obtain⟨sl,e1⟩:=I.base.slot b o e n hb hx;exact⟨sl,(hs.2 b (IX (IP (IN e) (I.ok.cab x c hfn hc)))).trans e1⟩
  .obtain⟨o',e1⟩:=I.base.there b o e hx;exact⟨o',(hs.2 b (IX (IP (IN e) (I.ok.cab x c hfn hc)))).trans e1⟩
  .by_cases hj:j=i
   .subst hj;rw[hi]at e1;cases e1;rw[IW hiσ]at e2;cases e2;exact⟨u,r,.inr ⟨.inl hk,c,hc,hc'⟩⟩
   .rw[IS (Ne.symm hj)]at e2;obtain⟨u',r',q⟩:=hl j y v' e1 e2 e3;refine⟨u',r',?_⟩;rcases q with q | ⟨k,c',e,z'⟩
    .exact .inl q
    .refine .inr ⟨k,c',e,z'.sameBut hs ?_⟩;rintro rfl;exact hj (zc1 hN e1 (I.ok.inj _ _ _ e hc ▸ hi))
  .by_cases hcc:c'=c
   .subst hcc;exact⟨_,hc'⟩
   .obtain⟨w2,z2⟩:=I.cell y c' e;exact⟨w2,z2.sameBut hs hcc⟩
  .obtain⟨e,n,ne,nf,d⟩:=I.pin p hp;refine⟨(hs.2 p.1 ?_).trans e,n,ne,nf,d⟩;intro q;rw[q,hoc]at e;have q' : oc=p.2:=IA e;exact d w' (by rw[← q'];exact hocd)
def VP{v:V}{u:Value}(I:Inv X aa σ H s)(hN:X.N.Nodup)(hi:X.N[i]?=some x)(hx:Loc X.env.scope x)(r:RelV v u)(h:∀ s',Inv X aa (σ.set i (some v)) H s' -> Q () s')(hf:X.fn x=true\/X.env.scope.names.lookup x=some .local:=by first | exact .inl rfl | exact .inr rfl | assumption):wpAny M A (storeName X.env x u) Q E s:=
 zeu I hN hi hx r (λs' I' _=>h s' I') hf
def Inv.call'{s' : SH}(I:Inv X aa σ H s)(ho:s'.os=s.os)(u:Un (frs X.stack) ch H H' s.heap s'.heap)(ab:HOk X.prog X.w H' s'.heap)(hg:AllBare s'.gens)(hch:∀ b∈ch,(b∈X.ex\/X.s₀.heap.objs.size<=b)/\b≠X.env.locals/\(∀ x c,X.env.cells.lookup x=some c->c≠b)/\∀ p∈X.pn++aa,p.1≠b):Inv X aa σ H' s':=by
 obtain⟨h',g',d',t',o'⟩:=s';have e:o'=s.os:=ho;subst e;exact I.call (g':=g') (t':=t') (d':=d') u ab hg hch
end
abbrev XK:=Value->Option AD->Hp->Prop
abbrev St:=List (Option V)
abbrev VK:=V->Hp->Prop
abbrev TE:=St->Hp->VK->Prop
abbrev TT:=St->Hp->(Bool->Hp->Prop)->Prop
abbrev TA:=St->Hp->(List V->Hp->Prop)->Prop
structure Ends where
 nx:St->Hp->Prop
 rt:VK
 bk:St->Hp->Prop:=λ_ _=>False
 ct:St->Hp->Prop:=λ_ _=>False
abbrev TS:=Ends->St->Hp->Prop
def EP(X:Cx)(aa:List (AD×Obj))(σ:St)(Q:VK)(u:Value)(s' : SH):Prop:=∃ v H',Inv X aa σ H' s' /\ RelV v u/\Q v H'
def TP(X:Cx)(aa:List (AD×Obj))(σ:St)(Q:Bool->Hp->Prop)(b:Bool)(s' : SH):Prop:=∃ H',Inv X aa σ H' s' /\ Q b H'
def AP(X:Cx)(aa:List (AD×Obj))(σ:St)(Q:List V->Hp->Prop)(us:List Value)(s' : SH):Prop:=∃ vs H',Inv X aa σ H' s' /\ Vals vs us/\Q vs H'
def SP(X:Cx)(aa:List (AD×Obj))(D:Ends)(f:Flow)(s' : SH):Prop:=
 match f with
 |.next=>∃ σ' H',Inv X aa σ' H' s' /\ D.nx σ' H'
 |.brk=>∃ σ' H',Inv X aa σ' H' s' /\ D.bk σ' H'
 |.cont=>∃ σ' H',Inv X aa σ' H' s' /\ D.ct σ' H'
 |.ret u=>∃ v σ' H',Inv X aa σ' H' s' /\ RelV v u/\D.rt v H'
def PE(X:Cx)(e:Expr)(t:TE):Prop:=∀(aa:List (AD×Obj))(s:SH)(σ:St)(H:Hp)(Q:VK),Inv X aa σ H s->t σ H Q->wpAny (model X.prog X.w) X.A (eval e X.env) (EP X aa σ Q) X.xe s
def PT(X:Cx)(e:Expr)(t:TT):Prop:=∀(aa:List (AD×Obj))(s:SH)(σ:St)(H:Hp)(Q:Bool->Hp->Prop),Inv X aa σ H s->t σ H Q->wpAny (model X.prog X.w) X.A (isTrue e X.env (eval e X.env)) (TP X aa σ Q) X.xe s
def PW(X:Cx)(e:Expr)(t:TT):Prop:=∀(whole:Sem Value)(aa:List (AD×Obj))(s:SH)(σ:St)(H:Hp)(Q:Bool->Hp->Prop),Inv X aa σ H s->t σ H Q->wpAny (model X.prog X.w) X.A (isTrue e X.env whole) (TP X aa σ Q) X.xe s
def PW.pt{X:Cx}{t:TT}(h:PW X e t):PT X e t:=h _
def PA(X:Cx)(es:List Expr)(t:TA):Prop:=∀(pos:Pos)(aa:List (AD×Obj))(s:SH)(σ:St)(H:Hp)(Q:List V->Hp->Prop),Inv X aa σ H s->t σ H Q->wpAny (model X.prog X.w) X.A (spliced (backTo pos (starEach es X.env))) (AP X aa σ Q) X.xe s
def PS(X:Cx)(st:Stmt)(t:TS):Prop:=∀(aa:List (AD×Obj))(s:SH)(σ:St)(H:Hp)(D:Ends),Inv X aa σ H s->t D σ H->wpAny (model X.prog X.w) X.A (exec st X.env) (SP X aa D) X.xe s
def PSs(X:Cx)(st:List Stmt)(t:TS):Prop:=∀(aa:List (AD×Obj))(s:SH)(σ:St)(H:Hp)(D:Ends),Inv X aa σ H s->t D σ H->wpAny (model X.prog X.w) X.A (execs st X.env) (SP X aa D) X.xe s
def thn{α:Type}{t:Sem α}{Q Q' : α->SH->Prop}(h:wpAny M A t Q E s)(hQ:∀ a s,Q a s->Q' a s):wpAny M A t Q' E s:=N0 h hQ λ_ _ x=>x
section
variable {X:Cx}
def JB(i:Nat):TE:=fun σ H Q=>∃ v,σ[i]?=some (some v)/\Q v H
def tC(v:V):TE:=λ_ H Q=>Q v H
def zlV{pos:Pos}(hN:X.N[i]?=some x)(hv:Vis X.env.scope x)(hd:(x==("__debug__" : Str))=false:=by decide)(hcd:(x==("__classdict__" : Str))=false:=by decide):PE X (.Name x pos) (JB i):=by
 intro aa s σ H Q I h;obtain⟨v,e,h⟩:=h;obtain⟨m,hn,hl⟩:=I.loc;obtain⟨u,r,l⟩:=hl i x v hN e hv;have fin:EP X aa σ Q u s:=⟨v,H,I,r,h⟩
 rcases l with⟨hk,hm⟩ | ⟨hk,c,hc,hcell⟩
 .exact wpAny_Name (wpAny_loadName_local I.ok.kind hk hn hm fin) hd
 .rcases hk with hk | hk
  .exact wpAny_Name (wpAny_loadName_cell I.ok.kind hk hc hcell fin) hd
  .exact wpAny_Name (wpAny_loadName_free I.ok.kind hk hc hcell fin hcd) hd
def Zo{i j pos}:PE X (.Constant (.int i) j pos) (tC (.int i)):=λ_ _ _ H _ I h=>wpAny_Constant_int ⟨.int i,H,I.tok _,⟨_,rfl⟩,h⟩
def Jz{b j pos}:PE X (.Constant (.bool b) j pos) (tC (.bl b)):=λ_ _ _ H _ I h=>Constant_bool ⟨.bl b,H,I,rfl,h⟩
def Vx{x j pos}:PE X (.Constant (.str x) j pos) (tC (.str x)):=λ_ _ _ H _ I h=>Calls.Constant_str ⟨.str x,H,I.tok _,⟨_,rfl⟩,h⟩
def Gl(X:Cx)(x:Str):Prop:=X.env.kindOf x=some .globalImplicit
def zfk{σ:St}{H:Hp}{u:Value}{pos:Pos}{Q:Value->SH->Prop}(I:Inv X aa σ H s)(hg:Gl X x)(hm:X.mg x=some u)(h:Q u s)(hd:(x==("__debug__" : Str))=false:=by decide):wpAny (model X.prog X.w) X.A (eval (.Name x pos) X.env) Q E s:=
 Calls.Name_function_global I.ok.kind hg (Calls.loadGlobal_global (by rw[I.ok.glob];exact I.mod.glob.keeps I.bk) hm h) hd
def Wo{σ:St}{H:Hp}{u:Value}{pos:Pos}{Q:Value->SH->Prop}(I:Inv X aa σ H s)(hg:Gl X x)(hm:X.mg x=none)(hv:bootBuiltins x=some u)(h:Q u s)(hn:x≠ "__name__" := by decide)(hd:(x==("__debug__" : Str))=false:=by decide):wpAny (model X.prog X.w) X.A (eval (.Name x pos) X.env) Q E s:=by
 obtain⟨mb,h1,h2⟩:=I.mod.blt;exact Calls.Name_function_global I.ok.kind hg (Calls.loadGlobal_builtin (by rw[I.ok.glob];exact I.mod.glob.keeps I.bk) hm (by rw[I.ok.blt];exact h1.keeps I.bk) ((h2 x hn).trans hv) h) hd
def W8{v:V}{u:Value}{pos:Pos}(hg:Gl X x)(hm:X.mg x=none)(hv:bootBuiltins x=some u)(r:RelV v u)(hn:x≠ "__name__" := by decide)(hd:(x==("__debug__" : Str))=false:=by decide):PE X (.Name x pos) (tC v):=λ_ _ _ H _ I h=>Wo I hg hm hv ⟨v,H,I,r,h⟩ hn hd
variable {a b:Expr}{ta tb:TE}{pos:Pos}
def tB(t:TE):TT:=fun σ H Q=>t σ H λx H1=>∃ c,x = .bl c/\Q c H1
def Xu{t:TE}(h:PE X e t)(he:∀ whole,isTrue e X.env whole=(do let v ← whole;standAt e.pos;holding [v] (truthy v)):=by intro _;rfl):PT X e (tB t):=by intro aa s σ H Q I hw;refine isTrue_plain (thn (h aa s σ H _ I hw) λv s1 ⟨x,H1,I1,r1,q1⟩=>?_) (he _);obtain⟨d,rfl,q⟩:=q1;cases r1;exact Ox ⟨H1,I1,q⟩
variable {tA tB' : TT}{rest:List Expr}
def zmO(t u:TT):TT:=fun σ H Q=>t σ H λc H1=>if c=true then u σ H1 Q else Q false H1
def tOr(t u:TT):TT:=fun σ H Q=>t σ H λc H1=>if c=true then Q true H1 else u σ H1 Q
def zna(t:TT):TT:=fun σ H Q=>t σ H λc H1=>Q (!c) H1
def pw_and1(ha:PT X a tA):PW X (.BoolOp .And [a] pos) tA:=by
 intro wh aa s σ H Q I h;refine isTrue_and (thn (ha aa s σ H Q I h) λc s1 e=>?_);cases c with
 |true=>exact isTrue_and_nil e
 |false=>exact e
def pw_or1(ha:PT X a tA):PW X (.BoolOp .Or [a] pos) tA:=by
 intro wh aa s σ H Q I h;refine isTrue_or (thn (ha aa s σ H Q I h) λc s1 e=>?_);cases c with
 |false=>exact isTrue_or_nil e
 |true=>exact e
def pw_and(ha:PT X a tA)(hb:PW X (.BoolOp .And (b::rest) pos) tB'):PW X (.BoolOp .And (a::b::rest) pos) (zmO tA tB'):=by
 intro wh aa s σ H Q I h;refine isTrue_and (thn (ha aa s σ H _ I h) λc s1 ⟨H1,I1,q1⟩=>?_);cases c with
 |true=>exact hb wh aa s1 σ H1 Q I1 q1
 |false=>exact⟨H1,I1,q1⟩
def pw_or(ha:PT X a tA)(hb:PW X (.BoolOp .Or (b::rest) pos) tB'):PW X (.BoolOp .Or (a::b::rest) pos) (tOr tA tB'):=by
 intro wh aa s σ H Q I h;refine isTrue_or (thn (ha aa s σ H _ I h) λc s1 ⟨H1,I1,q1⟩=>?_);cases c with
 |true=>exact⟨H1,I1,q1⟩
 |false=>exact hb wh aa s1 σ H1 Q I1 q1
def W6(ha:PT X a tA):PT X (.UnaryOp .Not a pos) (zna tA):=by intro aa s σ H Q I h;exact isTrue_not (ha aa s σ H (λc H1=>Q (!c) H1) I h)
def tIf(t:TT)(ta tb:TE):TE:=fun σ H Q=>t σ H λc H1=>if c=true then ta σ H1 Q else tb σ H1 Q
def zhV{c:Expr}(hc:PT X c tA)(ha:PE X a ta)(hb:PE X b tb):PE X (.IfExp c a b pos) (tIf tA ta tb):=by
 intro aa s σ H Q I h;refine wpAny_IfExp (thn (hc aa s σ H _ I h) λd s1 ⟨H1,I1,q1⟩=>?_);cases d with
 |true=>exact ha aa s1 σ H1 Q I1 q1
 |false=>exact hb aa s1 σ H1 Q I1 q1
end
def SqL(K:FG)(H:Hp)(a:AD)(xs:List V):Prop:=
 Rd H a (.lst xs)\/
  ∃(o:Obj)(its:Array Value)(n:Nat),K.lookup a=some o/\o.cls = .type "list" /\ o.dict=none/\o.data = .seq its n/\its.size<=sizeLine/\Vals xs its.toList
def SqT(K:FG)(H:Hp)(a:AD)(xs:List V):Prop:=
 Rd H a (.tup xs)\/
  ∃(o:Obj)(its:Array Value)(n:Nat),K.lookup a=some o/\o.cls = .type "tuple" /\ o.data = .seq its n/\its.size<=sizeLine/\Vals xs its.toList
noncomputable def zoq:Value->Option V
 |.none=>some .non
 |.bool b=>some (.bl b)
 |.int i _=>some (.int i)
 |.str x _=>some (.str x)
 |.bytes b _=>some (.byt b)
 |.float b _=>some (.flt b)
 |.ref a=>some (.ref a)
 |.type n=>some (.ty n)
 |_=>none
def RelV.abs{x:V}{u:Value}(r:RelV x u):zoq u=some x:=by
 cases x with
 |non=>cases r;rfl
 |bl _=>cases r;rfl
 |int _=>obtain⟨t,rfl⟩:=r;rfl
 |str _=>obtain⟨t,rfl⟩:=r;rfl
 |byt _=>obtain⟨t,rfl⟩:=r;rfl
 |flt _=>obtain⟨t,rfl⟩:=r;rfl
 |ref _=>cases r;rfl
 |ty _=>cases r;rfl
def RelV.inj{x y:V}{u:Value}(r:RelV x u)(q:RelV y u):x=y:=IA (r.abs.symm.trans q.abs)
theorem Vals.inj:∀{xs ys:List V}{us:List Value},Vals xs us->Vals ys us->xs=ys
 |_,_,_,.nil,.nil=>rfl
 |_,_,_,.cons r t,.cons r' t' => by rw[r.inj r',Vals.inj t t']
section
variable {X:Cx}{aa:List (AD×Obj)}{σ:St}{H:Hp}{s:SH}{a:AD}{xs ys:List V}
def SqL.of{K:FG}(h:H a=some (.lst xs)):SqL K H a xs:=.inl (.inl h)
def SqT.of{K:FG}(h:H a=some (.tup xs)):SqT K H a xs:=.inl (.inl h)
def Inv.list(I:Inv X aa σ H s)(h:SqL X.K H a xs):∃ its:List Value,Vals xs its/\PlainL s.heap a its.toArray/\xs.length<=sizeLine:=by
 rcases h with h | ⟨o,its,n,hk,hc,hd,hs,hz,r⟩
 .obtain⟨z,its,n,r,e⟩:=h.ok I.ab;exact⟨its,r,⟨_,n,e,rfl,rfl,rfl⟩,z⟩
 .refine⟨its.toList,r,⟨o,n,I.kIn a o hk,hc,hd,by simpa using hs⟩,?_⟩;have e:=r.length;simp only[IQ]at e;omega
def Inv.tuple(I:Inv X aa σ H s)(h:SqT X.K H a xs):∃ its:List Value,Vals xs its/\IsTup s.heap a its.toArray/\xs.length<=sizeLine:=by
 rcases h with h | ⟨o,its,n,hk,hc,hs,hz,r⟩
 .obtain⟨z,its,r,p,_⟩:=h.ok I.ab;exact⟨its,r,p,z⟩
 .refine⟨its.toList,r,⟨o,I.kIn a o hk,hc,n,by simpa using hs⟩,?_⟩;have e:=r.length;simp only[IQ]at e;omega
def Inv.zhT(I:Inv X aa σ H s)(h:SqL X.K H a xs)(h' : SqL X.K H a ys):xs=ys:=by
 obtain⟨its,r,⟨o,n,e,_,_,d⟩,_⟩:=I.list h;obtain⟨its',r',⟨o',n',e',_,_,d'⟩,_⟩:=I.list h';rw[e]at e';cases e';rw[d]at d';injection d' with d1 _;have:its=its':=by simpa using ND Array.toList d1
 subst this;exact r.inj r'
def Inv.zbs(I:Inv X aa σ H s)(h:SqT X.K H a xs)(h' : SqT X.K H a ys):xs=ys:=by
 obtain⟨its,r,⟨o,e,_,n,d⟩,_⟩:=I.tuple h;obtain⟨its',r',⟨o',e',_,n',d'⟩,_⟩:=I.tuple h';rw[e]at e';cases e';rw[d]at d';injection d' with d1 _;have:its=its':=by simpa using ND Array.toList d1
 subst this;exact r.inj r'
end
abbrev Cx.wish(X:Cx)(E:Value->SH->Prop):Cx:={X with xe:=E}
abbrev Cx.nox(X:Cx):Cx:=X.wish λ_ _=>False
theorem Cx.Ok.wish{X:Cx}(ok:X.Ok)(E:Value->SH->Prop):(X.wish E).Ok:=⟨ok.mod,ok.kind,ok.glob,ok.blt,ok.above,ok.inj,ok.has,ok.cab,ok.hd,ok.frames,ok.stk,ok.exf,ok.bs,ok.bsz,ok.noex,ok.exfs,ok.zcd,ok.frf⟩
def Cx.Ok.Vz{X:Cx}(ok:(X.wish E).Ok):X.Ok:=⟨ok.mod,ok.kind,ok.glob,ok.blt,ok.above,ok.inj,ok.has,ok.cab,ok.hd,ok.frames,ok.stk,ok.exf,ok.bs,ok.bsz,ok.noex,ok.exfs,ok.zcd,ok.frf⟩
section
variable {X:Cx}{aa:List (AD×Obj)}{σ:St}{H:Hp}{s:SH}{E:Value->SH->Prop}
theorem Inv.wish(I:Inv X aa σ H s)(E:Value->SH->Prop):Inv (X.wish E) aa σ H s:=⟨I.ok.wish E,I.os,I.bare,I.base,I.loc,I.cell,I.free,I.freeC,I.pin,I.ab,I.len⟩
theorem Inv.Vz(I:Inv (X.wish E) aa σ H s):Inv X aa σ H s:=⟨I.ok.Vz,I.os,I.bare,I.base,I.loc,I.cell,I.free,I.freeC,I.pin,I.ab,I.len⟩
theorem SP.Vz{D:Ends}{f:Flow}{s' : SH}(h:SP (X.wish E) aa D f s'):SP X aa D f s':=by
 cases f with
 |next=>obtain⟨σ',H',I,q⟩:=h;exact⟨σ',H',I.Vz,q⟩
 |brk=>obtain⟨σ',H',I,q⟩:=h;exact⟨σ',H',I.Vz,q⟩
 |cont=>obtain⟨σ',H',I,q⟩:=h;exact⟨σ',H',I.Vz,q⟩
 |ret u=>obtain⟨v,σ',H',I,r,q⟩:=h;exact⟨v,σ',H',I.Vz,r,q⟩
theorem PSs.nox{st:List Stmt}{t:TS}(h:PSs X.nox st t):PSs X st t:=λaa s σ H D I hw=>N0 (h aa s σ H D (I.wish _) hw) (λ_ _ q=>q.Vz) λ_ _ z=>False.elim z
end
section
variable {X:Cx}{st:Stmt}{rest:List Stmt}{t u:TS}{e:Expr}{te:TE}{pos:Pos}
def zl6:TS:=λD σ H=>D.nx σ H
def zku(t u:TS):TS:=λD σ H=>t {D with nx:=u D} σ H
def Z7:PSs X [] zl6:=λ_ _ σ H _ I h=>wpAny_execs_nil ⟨σ,H,I,h⟩
def Zf(h1:PS X st t)(h2:PSs X rest u):PSs X (st::rest) (zku t u):=by
 intro aa s σ H D I h;refine wpAny_execs_cons (thn (h1 aa s σ H {D with nx:=u D} I h) λf s1 q=>?_);cases f with
 |next=>obtain⟨σ',H',I',q⟩:=q;exact h2 aa s1 σ' H' D I' q
 |ret v=>exact q
 |brk=>exact q
 |cont=>exact q
def Zj(h1:PS X st t):PSs X [st] t:=by
 intro aa s σ H D I h;refine wpAny_execs_cons (thn (h1 aa s σ H D I h) λf s1 q=>?_);cases f with
 |next=>exact wpAny_execs_nil q
 |ret v=>exact q
 |brk=>exact q
 |cont=>exact q
def Inv.quiet{σ:St}{H:Hp}(I:Inv X aa σ H s):interactive X.env=false:=by simp[interactive,I.ok.kind]
def zgT(te:TE):TS:=λD σ H=>te σ H λ_ H1=>D.nx σ H1
def WQ(he:PE X e te)(hs:swapsWith e none pos.line X.env=pure false:=by rfl):PS X (.Expr e pos) (zgT te):=by intro aa s σ H D I h;exact wpAny_Expr_any (thn (he aa s σ H _ I h) λv s1 ⟨x,H1,I1,r1,q1⟩=>⟨σ,H1,I1,q1⟩) I.quiet hs
def zkZ(te:TE):TS:=λD σ H=>te σ H D.rt
def ZR(he:PE X e te):PS X (.Return (some e) pos) (zkZ te):=by intro aa s σ H D I h;exact wpAny_Return_some (thn (he aa s σ H _ I h) λv s1 ⟨x,H1,I1,r1,q1⟩=>⟨x,σ,H1,I1,r1,q1⟩)
def zkW(c:TT)(t u:TS):TS:=λD σ H=>c σ H λb H1=>if b=true then t D σ H1 else u D σ H1
def XN{c:Expr}{a b:List Stmt}{tc:TT}(hc:PT X c tc)(ha:PSs X a t)(hb:PSs X b u):PS X (.If c a b pos) (zkW tc t u):=by
 intro aa s σ H D I h;refine wpAny_If (thn (hc aa s σ H _ I h) λd s1 ⟨H1,I1,q1⟩=>?_);cases d with
 |true=>exact ha aa s1 σ H1 D I1 q1
 |false=>exact hb aa s1 σ H1 D I1 q1
end
abbrev TG:=V->St->Hp->(St->Hp->Prop)->Prop
abbrev TGs:=List V->St->Hp->(St->Hp->Prop)->Prop
def PG(X:Cx)(target:Expr)(t:TG):Prop:=
 ∀(aa:List (AD×Obj))(s:SH)(σ:St)(H:Hp)(v:V)(u:Value)(Q:St->Hp->Prop),Inv X aa σ H s->RelV v u->t v σ H Q->
  wpAny (model X.prog X.w) X.A (assign target X.env u) (λ_ s' => ∃ σ' H',Inv X aa σ' H' s' /\ Q σ' H') X.xe s
def PGs(X:Cx)(ts:List Expr)(t:TGs):Prop:=
 ∀(aa:List (AD×Obj))(s:SH)(σ:St)(H:Hp)(vs:List V)(us:List Value)(Q:St->Hp->Prop),Inv X aa σ H s->Vals vs us->t vs σ H Q->
  wpAny (model X.prog X.w) X.A (assignInOrder ((assignEach ts X.env).map (·.2)) us) (λ_ s' => ∃ σ' H',Inv X aa σ' H' s' /\ Q σ' H') X.xe s
abbrev zaE:=V->V->V->Hp->(Hp->Prop)->Prop
def znP(X:Cx)(t:zaE):Prop:=
 ∀(aa:List (AD×Obj))(s:SH)(σ:St)(H:Hp)(o i v:V)(ov iv u:Value)(Q:Hp->Prop),Inv X aa σ H s->RelV o ov->RelV i iv->RelV v u->t o i v H Q->
  wpAny (model X.prog X.w) X.A (setItem ov iv u) (λ_ s' => ∃ H',Inv X aa σ H' s' /\ Q H') X.xe s
section
variable {X:Cx}{pos:Pos}
def Wi(i:Nat):TG:=λv σ H Q=>Q (σ.set i (some v)) H
def Zz(hN:X.N.Nodup)(hi:X.N[i]?=some x)(hx:Loc X.env.scope x)(hf:X.fn x=true\/X.env.scope.names.lookup x=some .local:=by first | exact .inl rfl | exact .inr rfl | assumption):PG X (.Name x pos) (Wi i):=by intro aa s σ H v u Q I r h;exact wpAny_assign_Name (VP I hN hi hx r (λs' I' => ⟨_,H,I',h⟩) hf)
def ziL:TGs:=λvs σ H Q=>vs=[]/\Q σ H
def JC(t:TG)(u:TGs):TGs:=λvs σ H Q=>∃ v r,vs=v::r/\t v σ H fun σ' H' => u r σ' H' Q
def Xv:PGs X [] ziL:=by intro aa s σ H vs us Q I r h;obtain⟨e,h⟩:=h;subst e;cases r;exact assignInOrder_nil ⟨σ,H,I,h⟩
def ZK{es:List Expr}{t:TG}{u:TGs}(h1:PG X e t)(h2:PGs X es u)(hs:(assignEach (e::es) X.env).map (·.2)=assign e X.env::(assignEach es X.env).map (·.2):=by rfl):PGs X (e::es) (JC t u):=by
 intro aa s σ H vs us Q I r h;obtain⟨v,vr,e1,h⟩:=h;subst e1;cases r with
 |cons r rr=>rw[hs];refine assignInOrder_cons (thn (h1 aa s σ H _ _ _ I r h) λ_ s1 ⟨σ1,H1,I1,q1⟩=>?_);exact h2 aa s1 σ1 H1 _ _ Q I1 rr q1
def zkt(K:FG)(n:Nat)(t:TGs):TG:=λv σ H Q=>∃ a xs,v = .ref a/\SqT K H a xs/\xs.length=n/\t xs σ H Q
def Jx{es:List Expr}{t:TGs}{n:Nat}(hc:X.calm=true)(h:PGs X es t)(hn:(assignEach es X.env).length=n:=by rfl)(hst:(assignEach es X.env).findIdx? (·.1)=none:=by rfl):PG X (.Tuple es k pos) (zkt X.K n t):=by
 intro aa s σ H v u Q I r hw;obtain⟨a,xs,e1,hq,hl,hw⟩:=hw;subst e1;cases r;obtain⟨its,rv,ht,hz⟩:=I.tuple hq;refine assign_Tuple_tuple (I.ok.hd hc) ht (by simp[hn,← hl,rv.length]) hst λh' hx=>?_;have I1:Inv X aa σ H {s with heap:=h'}:=I.kept (t':=s.toks) λb o e=>hx b o (IX (IN e)) e;exact h aa _ σ H xs _ Q I1 (by simpa using rv) hw
def znQ(to ti:TE)(t:zaE):TG:=λv σ H Q=>to σ H λo H1=>ti σ H1 λi H2=>t o i v H2 λH3=>Q σ H3
def ziq{o i:Expr}{to ti:TE}{t:zaE}(ho:PE X o to)(hi:PE X i ti)(hs:znP X t)(ha:∀ v,assign (.Subscript o i pos) X.env v=(do
   let ov ← holding [v] (eval o X.env)
   let iv ← holding [v,ov] (eval i X.env)
   standAt pos
   holding [v,ov,iv] (setItem ov iv v)
   release [v,ov,iv] []):=by intro _;rfl):PG X (.Subscript o i pos) (znQ to ti t):=by
 intro aa s σ H v u Q I r h;rw[ha];refine Ia (I9 (thn (ho aa s σ H _ I h) λov s1 ⟨x,H1,I1,r1,q1⟩=>?_));refine Ia (I9 (thn (hi aa s1 σ H1 _ I1 q1) λiv s2 ⟨y,H2,I2,r2,q2⟩=>?_));refine Ia (Dz (Ia (I9 (thn (hs aa s2 σ H2 x y v ov iv u _ I2 r1 r2 r q2) λ_ s3 ⟨H3,I3,q3⟩=>?_))));exact wpAny_release ⟨σ,H3,I3,q3⟩
def zkx(te:TE)(g:TG):TS:=λD σ H=>te σ H λx H1=>g x σ H1 D.nx
def zb7{te:TE}{g:TG}(he:PE X e te)(hg:PG X tg g)(hs:swapsWithSole [tg] e pos.line X.env=pure false:=by rfl)(hw:swappedStores [tg] e X.env=pure none:=by rfl)(h1:(assignEach [tg] X.env).map (·.2)=[assign tg X.env]:=by rfl):PS X (.Assign [tg] e pos) (zkx te g):=by
 intro aa s σ H D I h;refine wpAny_Assign_stores (thn (he aa s σ H _ I h) λv s1 ⟨x,H1,I1,r1,q1⟩=>?_) hs hw;rw[h1];exact thn (hg aa s1 σ H1 x v _ I1 r1 q1) λ_ s2 q=>q
def Zv{te:TE}{pos' : Pos}(hN:X.N.Nodup)(hi:X.N[i]?=some x)(hx:Loc X.env.scope x)(he:PE X e te)(hs:swapsWith e (some (.Name x pos')) pos.line X.env=pure false:=by rfl)(hf:X.fn x=true\/X.env.scope.names.lookup x=some .local:=by first | exact .inl rfl | exact .inr rfl | assumption):
  PS X (.Assign [.Name x pos'] e pos) (zkx te (Wi i)):=by
 intro aa s σ H D I h;refine wpAny_Assign_Name (thn (he aa s σ H _ I h) λv s1 ⟨y,H1,I1,r1,q1⟩=>?_) hs;exact VP I1 hN hi hx r1 (λs2 I2=>⟨_,H1,I2,q1⟩) hf
def zh3(c:TT)(tb:TS):TS:=λD σ H=>∃ W:Nat->St->Hp->Prop,(∃ m,W m σ H)/\∀ m σ H,W m σ H->
 c σ H λb H1=>if b=true then ∃ N:St->Hp->Prop,(∀ σ' H',N σ' H' -> ∃ m',m'<m/\W m' σ' H')/\tb {D with nx:=N,ct:=N,bk:=D.nx} σ H1 else D.nx σ H1
def VV{c:Expr}{tc:TT}{tb:TS}(hp:PassesOwn (model X.prog X.w) X.A X.env X.xe)(hc:PT X c tc)(hb:PSs X body tb):PS X (.While c body [] pos) (zh3 tc tb):=by
 intro aa s σ H D I h;obtain⟨W,⟨m0,w0⟩,turn⟩:=h;refine wpAny_While (codeAny_whileLoop (λn s' => ∃ σ' H',Inv X aa σ' H' s' /\ W n σ' H') ?_ m0 ⟨σ,H,I,w0⟩);rintro n s1 ⟨σ1,H1,I1,w1⟩;refine OU hp (thn (hc aa s1 σ1 H1 _ I1 (turn n σ1 H1 w1)) λb s2 ⟨H2,I2,q2⟩=>?_);cases b with
 |true=>
  obtain⟨N,hN,q2⟩:=q2;rw[Iz rfl];refine OU hp (thn (hb aa s2 σ1 H2 _ I2 q2) λf s3 q3=>?_);cases f with
  |next=>obtain⟨σ3,H3,I3,n3⟩:=q3;obtain⟨m',hm,w3⟩:=hN σ3 H3 n3;exact⟨m',hm,σ3,H3,I3,w3⟩
  |cont=>obtain⟨σ3,H3,I3,n3⟩:=q3;obtain⟨m',hm,w3⟩:=hN σ3 H3 n3;exact⟨m',hm,σ3,H3,I3,w3⟩
  |brk=>exact q3
  |ret v=>exact q3
 |false=>rw[Iq Ii];exact wpAny_execs_nil ⟨σ1,H2,I2,q2⟩
end
structure It where
 go:Nat->Hp->Prop
 yld:Nat->Hp->V->Hp->Prop
 stop:Nat->Hp->Prop
def zdJ(X:Cx)(aa:List (AD×Obj))(H:Hp)(b:AD):Prop:=H b=none/\b≠X.env.locals/\b∉X.fs/\(b∈X.ex\/X.s₀.heap.objs.size<=b)/\(∀ x c,X.env.cells.lookup x=some c->c≠b)/\∀ p∈X.pn++aa,p.1≠b
def Inv.zkA{X:Cx}{σ:St}{H H' : Hp}(I:Inv X aa σ H s)(hb:s.heap.objs.size<=b)(hn:H' b=none):zdJ X aa H' b:=by
 refine⟨hn,ne_of_gt (IP I.lt hb),I.zn4 hb,.inr (IH I.sz hb),λx c e z=>?_,λp hp z=>?_⟩
 .obtain⟨v,q⟩:=I.cell x c e;exact absurd (IP q.lt (by rw[z];exact hb)) (OI _)
 .exact absurd (IP (IN (I.pin p hp).1) (by rw[z];exact hb)) (OI _)
structure zk7(Φ:Cx->Prop)(P:Program)(w:World)(K:FG)(tg:Expr)(J:It)(fp:List AD)(it:AD)(tn:Nat->Heap->Prop):Prop where
 mem:it∈fp
 obj:∀ i h,tn i h->∀ b∈fp,∃ o,h.get? b=some o/\∀ v,o.data≠.cell v
 keep:∀ i h h',tn i h->(∀ b∈fp,∀ o,h.get? b=some o->h'.get? b=some o)->tn i h'
 item:∀(X:Cx),X.prog=P->X.w=w->X.K=K->Φ X->∀(i:Nat)(aa:List (AD×Obj))(s:SH)(σ:St)(H:Hp)(E:Value->SH->Prop),Inv X aa σ H s->(∀ b∈fp,zdJ X aa H b)->tn i s.heap->J.go i H->
  wpAny (model P w) X.A (pyNext (.ref it)) (λr s1=>∃ u,r=some u/\
   wpAny (model P w) X.A (letOwnedTupleGo tg (.ref it) u) (λ_ s2=>∃ x H',Inv X aa σ H' s2/\RelV x u/\J.yld i H x H' /\ tn (i+1) s2.heap/\∀ b∈fp,H' b=none) E s1) E s
 done:∀(X:Cx),X.prog=P->X.w=w->X.K=K->Φ X->∀(i:Nat)(aa:List (AD×Obj))(s:SH)(σ:St)(H:Hp)(E:Value->SH->Prop),Inv X aa σ H s->(∀ b∈fp,zdJ X aa H b)->tn i s.heap->J.stop i H->
  wpAny (model P w) X.A (pyNext (.ref it)) (λr s1=>r=none/\Inv X aa σ H s1) E s
 self:∀(A:Around)(i:Nat)(s:SH)(Q:Value->SH->Prop)(E:Value->SH->Prop),tn i s.heap->Q (.ref it) s->wpAny (model P w) A (pyIter (.ref it)) Q E s
abbrev Turn:=zk7 λX=>X.calm=true
abbrev TI:=St->Hp->(It->Hp->Prop)->Prop
def PIE(X:Cx)(aa:List (AD×Obj))(σ:St)(tg:Expr)(R:It->Hp->Prop)(itv:Value)(s2:SH):Prop:=∃(it:AD)(fp:List AD)(tn:Nat->Heap->Prop)(J:It)(H' : Hp),itv = .ref it/\Inv X aa σ H' s2/\Turn X.prog X.w X.K tg J fp it tn/\tn 0 s2.heap/\(∀ b∈fp,zdJ X aa H' b)/\R J H'
def PI(X:Cx)(tg iter:Expr)(wi:TI):Prop:=
 ∀(aa:List (AD×Obj))(s:SH)(σ:St)(H:Hp)(R:It->Hp->Prop),Inv X aa σ H s->wi σ H R->
  wpAny (model X.prog X.w) X.A (eval iter X.env) (λv s1=>wpAny (model X.prog X.w) X.A (pyIter v) (PIE X aa σ tg R) X.xe s1) X.xe s
def zgF{it:AD}{u:Value}{o:Obj}{n:String}{vs:Array Value}(ho:s.heap.get? it=some o)(hc:o.cls = .type n)(hd:o.data = .fields vs)(hn:["enumerate", "zip", "dict_itemiterator", "dict_reverseitemiterator", "odict_iterator", "itertools.zip_longest", "itertools.pairwise"].contains n=false)(hQ:Q () s):wpAny M A (letOwnedTupleGo tg (.ref it) u) Q E s:=by
 unfold letOwnedTupleGo;cases tg <;> first
  |exact Ic hQ
  |(cases u <;> first
    |exact Ic hQ
    |(refine Ia (wpAny_load ho ?_);rw[hc,hd];show wpAny M A (if(["enumerate", "zip", "dict_itemiterator", "dict_reverseitemiterator", "odict_iterator", "itertools.zip_longest", "itertools.pairwise"].contains n&&vs[0]?==some (rawInt _))=true then _ else _) Q E s;rw[Iq (by intro h;rw[hn,Bool.false_and]at h;cases h)];exact Ic hQ))
noncomputable def Itl(K:FG)(a:AD):It:=⟨λi H=>∃ xs x,SqL K H a xs/\xs[i]?=some x,λi H x H' => H'=H/\∀ xs,SqL K H a xs->xs[i]?=some x,λi H=>∃ xs,SqL K H a xs/\xs.length<=i⟩
noncomputable def Itt(K:FG)(a:AD):It:=⟨λi H=>∃ xs x,SqT K H a xs/\xs[i]?=some x,λi H x H' => H'=H/\∀ xs,SqT K H a xs->xs[i]?=some x,λi H=>∃ xs,SqT K H a xs/\xs.length<=i⟩
noncomputable def Itr(lo:Int)(n:Nat):It:=⟨λi _=>i<n,λi H x H' => H'=H/\x = .int (lo+i),λi _=>n<=i⟩
def zfN{P:Program}{w:World}{K:FG}(a it:AD):Turn P w K tg (Itl K a) [it] it (λi h=>h.IsListIter it a i) where
 mem:=by simp
 obj:=λi h st b hb=>by
  have e:b=it:=by simpa using hb
  subst e;obtain⟨o,e,c,d⟩:=st;exact⟨o,e,λv z=>by rw[d]at z;cases z⟩
 keep:=λi h h' st k=>st.at λo e=>k it (by simp) o e
 item:=by intro X hP hw hK hc i aa s σ H E I hf st hg;subst hP hw hK;obtain⟨xs,x,hq,hx⟩:=hg;obtain⟨its,rv,p,hz⟩:=I.list hq;obtain⟨u,hu,ru⟩:=rv.get hx;obtain⟨f0,f1,f2,f3,f4,f5⟩:=hf it (by simp);refine wpAny_pyNext_list_item st p.isList (x:=u) (by simpa using hu) λh' st' sb=>?_;have I1:Inv X aa σ H {s with heap:=h'}:=I.turned (t':=s.toks) (λb o hb e=>(sb.2 b hb).trans e) f0 f1 f3 f4 f5;obtain⟨o,e,c,d⟩:=id st';exact⟨u,rfl,zgF (s:={s with heap:=h'}) e c d (by decide) ⟨x,H,I1,ru,⟨rfl,λys hy=>by rw[I.zhT hy hq];exact hx⟩,st',λb hb=>(hf b hb).1⟩⟩
 done:=by intro X hP hw hK hc i aa s σ H E I hf st hg;subst hP hw hK;obtain⟨xs,hq,hx⟩:=hg;obtain⟨its,rv,p,hz⟩:=I.list hq;obtain⟨f0,f1,f2,f3,f4,f5⟩:=hf it (by simp);have hl:=rv.length;exact wpAny_pyNext_list_end (I.ok.hd hc) st p.isList (by simp;omega) λh' eb=>⟨rfl,I.turned (t':=s.toks) (λb o hb e=>eb b o hb e) f0 f1 f3 f4 f5⟩
 self:=λ_ _ _ _ _ st h=>wpAny_pyIter_listiter st h
def zdN{P:Program}{w:World}{K:FG}(a it:AD):Turn P w K tg (Itt K a) [it] it (λi h=>h.IsTupleIter it a i) where
 mem:=by simp
 obj:=λi h st b hb=>by
  have e:b=it:=by simpa using hb
  subst e;obtain⟨o,e,c,d⟩:=st;exact⟨o,e,λv z=>by rw[d]at z;cases z⟩
 keep:=λi h h' st k=>st.at λo e=>k it (by simp) o e
 item:=by intro X hP hw hK hc i aa s σ H E I hf st hg;subst hP hw hK;obtain⟨xs,x,hq,hx⟩:=hg;obtain⟨its,rv,p,hz⟩:=I.tuple hq;obtain⟨u,hu,ru⟩:=rv.get hx;obtain⟨f0,f1,f2,f3,f4,f5⟩:=hf it (by simp);refine wpAny_pyNext_tuple_item st (show s.heap.IsTuple a its.toArray from p) (x:=u) (by simpa using hu) λh' st' sb=>?_;have I1:Inv X aa σ H {s with heap:=h'}:=I.turned (t':=s.toks) (λb o hb e=>(sb.2 b hb).trans e) f0 f1 f3 f4 f5;obtain⟨o,e,c,d⟩:=id st';exact⟨u,rfl,zgF (s:={s with heap:=h'}) e c d (by decide) ⟨x,H,I1,ru,⟨rfl,λys hy=>by rw[I.zbs hy hq];exact hx⟩,st',λb hb=>(hf b hb).1⟩⟩
 done:=by intro X hP hw hK hc i aa s σ H E I hf st hg;subst hP hw hK;obtain⟨xs,hq,hx⟩:=hg;obtain⟨its,rv,p,hz⟩:=I.tuple hq;obtain⟨f0,f1,f2,f3,f4,f5⟩:=hf it (by simp);have hl:=rv.length;exact wpAny_pyNext_tuple_end (I.ok.hd hc) st (show s.heap.IsTuple a its.toArray from p) (by simp;omega) λh' eb=>⟨rfl,I.turned (t':=s.toks) (λb o hb e=>eb b o hb e) f0 f1 f3 f4 f5⟩
 self:=λ_ _ _ _ _ st h=>wpAny_pyIter_tupleiter st h
def zdU{P:Program}{w:World}{K:FG}(it:AD)(lo:Int)(n:Nat):Turn P w K tg (Itr lo n) [it] it (λi h=>IsRangeIter h it (lo+(i:Nat)*1) ((n:Int)-(i:Nat)) 1) where
 mem:=by simp
 obj:=λi h st b hb=>by
  have e:b=it:=by simpa using hb
  subst e;exact⟨_,st,λv z=>by
   have z' : Data.fields _=Data.cell v:=z;cases z'⟩
 keep:=λi h h' st k=>k it (by simp) _ st
 item:=by intro X hP hw hK hc i aa s σ H E I hf st hg;subst hP hw hK;obtain⟨f0,f1,f2,f3,f4,f5⟩:=hf it (by simp);have W:=Walks.range (prog:=X.prog) (w:=X.w) (I.ok.hd hc) it lo 1 n;refine W.item i s _ _ hg st λv h' tk hv st' kk=>?_;obtain⟨t,rfl⟩:=hv;have I1:Inv X aa σ H {s with heap:=h',toks:=tk}:=I.turned (λb o hb e=>kk b o (by simpa using hb) e) f0 f1 f3 f4 f5;refine⟨_,rfl,zgF (s:={s with heap:=h',toks:=tk}) (n:= "range_iterator") st' rfl rfl (by decide) ⟨.int (lo+i),H,I1,⟨t,?_⟩,⟨rfl,rfl⟩,st',λb hb=>(hf b hb).1⟩⟩;rw[Int.mul_one]
 done:=by intro X hP hw hK hc i aa s σ H E I hf st hg;subst hP hw hK;obtain⟨f0,f1,f2,f3,f4,f5⟩:=hf it (by simp);exact wpAny_pyNext_range_end (I.ok.hd hc) st (by have:n<=i:=hg;omega) λh' eb=>⟨rfl,I.turned (t':=s.toks) (λb o hb e=>eb b o hb e) f0 f1 f3 f4 f5⟩
 self:=λ_ _ _ _ _ st h=>wpAny_pyIter_rangeiter st h
section
variable {X:Cx}{tg:Expr}
def zk1(K:FG)(tl:TE):TI:=fun σ H R=>tl σ H λx H1=>∃ a,x = .ref a/\(∃ xs,SqL K H1 a xs)/\R (Itl K a) H1
def zm9(K:FG)(tl:TE):TI:=fun σ H R=>tl σ H λx H1=>∃ a,x = .ref a/\(∃ xs,SqT K H1 a xs)/\R (Itt K a) H1
def Xr{l:Expr}{tl:TE}(hl:PE X l tl):PI X tg l (zk1 X.K tl):=by
 intro aa s σ H R I h;refine thn (hl aa s σ H _ I h) λv s1 ⟨x,H1,I1,r1,q1⟩=>?_;obtain⟨a,e,⟨xs,hq⟩,q⟩:=q1;subst e;cases r1;obtain⟨its,rv,p,hz⟩:=I1.list hq;refine wpAny_pyIter_list p.isList ?_;refine⟨s1.heap.objs.size,[s1.heap.objs.size],_,_,H1,rfl,I1.kept (t':=s1.toks) λb o e=>Ig _ e,zfN a _,⟨_,Iu _ rfl,rfl,rfl⟩,λb hb=>?_,q⟩;have e:b=s1.heap.objs.size:=by simpa using hb
 subst e;exact I1.zkA (Ih _) (I1.ab.fresh (Ih _))
def JK{l:Expr}{tl:TE}(hl:PE X l tl):PI X tg l (zm9 X.K tl):=by
 intro aa s σ H R I h;refine thn (hl aa s σ H _ I h) λv s1 ⟨x,H1,I1,r1,q1⟩=>?_;obtain⟨a,e,⟨xs,hq⟩,q⟩:=q1;subst e;cases r1;obtain⟨its,rv,p,hz⟩:=I1.tuple hq;refine OM (show s1.heap.IsTuple a its.toArray from p) ?_;refine⟨s1.heap.objs.size,[s1.heap.objs.size],_,_,H1,rfl,I1.kept (t':=s1.toks) λb o e=>Ig _ e,zdN a _,⟨_,Iu _ rfl,rfl,rfl⟩,λb hb=>?_,q⟩;have e:b=s1.heap.objs.size:=by simpa using hb
 subst e;exact I1.zkA (Ih _) (I1.ab.fresh (Ih _))
def zds{σ:St}{H:Hp}{R:It->Hp->Prop}{lo hi:Int}{t u v:Tok}{tk:Nat}(I:Inv X aa σ H s)(h1:-(2^62)<=lo)(h2:lo<2^62)(h3:-(2^62)<=hi)(h4:hi<2^62)(q:R (Itr lo (hi-lo).toNat) H):wpAny (model X.prog X.w) X.A (pyIter (.ref s.heap.objs.size)) (PIE X aa σ tg R) E {s with heap:=s.heap.push {cls:=.type "range",data:=.fields #[.int lo t,.int hi u,.int 1 v]},toks:=tk}:=by
 refine wpAny_pyIter_range (IsRange.new ..) (small_one h1 h2 h3 h4) ?_;have I1:Inv X aa σ H {s with heap:=s.heap.push {cls:=.type "range",data:=.fields #[.int lo t,.int hi u,.int 1 v]},toks:=tk}:=I.kept λb o e=>Ig _ e;refine⟨(s.heap.push {cls:=.type "range",data:=.fields #[.int lo t,.int hi u,.int 1 v]}).objs.size,[(s.heap.push {cls:=.type "range",data:=.fields #[.int lo t,.int hi u,.int 1 v]}).objs.size],_,_,H,rfl,
  I1.kept (t':=tk) λb o e=>Ig _ e,zdU _ lo (hi-lo).toNat,?_,λb hb=>?_,q⟩
 .have e1:lo+((0:Nat):Int)*1=lo:=by simp
  have e2:(((hi-lo).toNat:Nat):Int)-((0:Nat):Int)=Builtin.Range.rangeSize lo hi 1:=by rw[rangeSize_one];split <;> omega
  show IsRangeIter _ _ (lo+((0:Nat):Int)*1) ((((hi-lo).toNat:Nat):Int)-((0:Nat):Int)) 1;rw[e1,e2];exact Iu _ rfl
 .have e:b=(s.heap.push {cls:=.type "range",data:=.fields #[.int lo t,.int hi u,.int 1 v]}).objs.size:=by simpa using hb
  subst e;exact I1.zkA (Ih _) (I1.ab.fresh (Ih _))
def zhb(ta:TA):TI:=fun σ H R=>ta σ H λvs H1=>∃ j:Int,vs=[.int j]/\-(2^62)<=j/\j<2^62/\R (Itr 0 j.toNat) H1
def zlK(ta:TA):TI:=fun σ H R=>ta σ H λvs H1=>∃ i j:Int,vs=[.int i,.int j]/\(-(2^62)<=i/\i<2^62/\-(2^62)<=j/\j<2^62)/\R (Itr i (j-i).toNat) H1
def XJ{a:Expr}{ta:TA}{p pos:Pos}(hg:Gl X "range")(hm:X.mg "range" = none)(ha:PA X [a] ta)(hs:starEach [a] X.env=[(false,eval a X.env)]:=by rfl):PI X tg (.Call (.Name "range" p) [a] [] pos) (zhb ta):=by
 intro aa s σ H R I h;refine Call_ (Wo I hg hm boot_range (Nm (thn (ha pos aa s σ H _ I h) λus s1 ⟨vs,H1,I1,r1,q1⟩=>?_) hs rfl));obtain⟨j,e,q1,q2,q⟩:=q1;subst e;cases r1 with
 |cons r rr=>cases rr;obtain⟨t,rfl⟩:=r;exact call_range_1 (zds I1 (by omega) (by omega) q1 q2 (by simpa using q))
def zf4{a b:Expr}{ta:TA}{p pos:Pos}(hg:Gl X "range")(hm:X.mg "range" = none)(ha:PA X [a,b] ta)(hs:starEach [a,b] X.env=[(false,eval a X.env),(false,eval b X.env)]:=by rfl)(hs2:starEach [b] X.env=[(false,eval b X.env)]:=by rfl):
  PI X tg (.Call (.Name "range" p) [a,b] [] pos) (zlK ta):=by
 intro aa s σ H R I h;refine Call_ (Wo I hg hm boot_range (Nm (thn (ha pos aa s σ H _ I h) λus s1 ⟨vs,H1,I1,r1,q1⟩=>?_) (by rw[hs,hs2]) (by rw[hs2];rfl)));obtain⟨i,j,e,⟨q1,q2,q3,q4⟩,q⟩:=q1;subst e;cases r1 with
 |cons r rr=>
  cases rr with
  |cons r' rr=>cases rr;obtain⟨t,rfl⟩:=r;obtain⟨t',rfl⟩:=r';exact call_range_2 (zds I1 q1 q2 q3 q4 q)
def znw(wi:TI)(g:TG)(tb:TS):TS:=λD σ H=>wi σ H λJ H1=>∃ W:Nat->Nat->St->Hp->Prop,(∃ m,W 0 m σ H1)/\∀ i m σ H,W i m σ H->
 (J.stop i H/\D.nx σ H)\/(J.go i H/\∃ N:St->Hp->Prop,(∀ σ' H',N σ' H' -> ∃ m',m'<m/\W (i+1) m' σ' H')/\∀ x H',J.yld i H x H' -> g x σ H' fun σ2 H2=>tb {D with nx:=N,ct:=N,bk:=D.nx} σ2 H2)
noncomputable def Vv(fp:List AD)(h:Heap):List (AD×Obj):=fp.filterMap λb=>(h.get? b).map λo=>(b,o)
def Vm{o:Obj}(hb:b∈fp)(e:h.get? b=some o):(b,o)∈Vv fp h:=List.mem_filterMap.mpr ⟨b,hb,by rw[e];rfl⟩
def zbl{p:AD×Obj}(hp:p∈Vv fp h):p.1∈fp/\h.get? p.1=some p.2:=by
 obtain⟨b,hb,e⟩:=List.mem_filterMap.mp hp;cases q:h.get? b with
 |none=>rw[q]at e;cases e
 |some o=>rw[q]at e;have e' : (b,o)=p:=IA e;subst e';exact⟨hb,q⟩
def Inv.pinned{σ:St}{H:Hp}(I:Inv X aa σ H s)(hf:∀ b∈fp,zdJ X aa H b)(ho:∀ b∈fp,∃ o,s.heap.get? b=some o/\∀ v,o.data≠.cell v):Inv X (aa++Vv fp s.heap) σ H s:=
 I.JL λp hp=>(Nz.mp hp).elim (λz=>I.pin p (IG _ z)) λz=>by obtain⟨hb,e⟩:=zbl z;obtain⟨f0,f1,f2,_⟩:=hf p.1 hb;obtain⟨o,e',d⟩:=ho p.1 hb;rw[e]at e';cases e';exact⟨e,f0,f1,f2,d⟩
def Inv.J4{pl:List (AD×Obj)}{σ:St}{H:Hp}(I:Inv X (aa++pl) σ H s):Inv X aa σ H s:=I.JL λp hp=>I.pin p (IG _ (N3 _ hp))
def Xa{iter:Expr}{wi:TI}{g:TG}{tb:TS}{pos:Pos}(hp:PassesOwn (model X.prog X.w) X.A X.env X.xe)(hc:X.calm=true)(hi:PI X tg iter wi)(hg:PG X tg g)(hb:PSs X body tb)(hs:∀ x,foldedSetIterable iter X.env x=pure x:=by intro _;rfl):PS X (.For tg iter body [] pos) (znw wi g tb):=by
 intro aa s σ H D I h;refine wpAny_For (thn (hi aa s σ H _ I h) λv s1 h1=>thn h1 λitv s2 h2=>?_) hs;obtain⟨it,fp,tn,J,H2,e,I2,T,st2,f2,W,⟨m0,w0⟩,turn⟩:=h2;subst e;have stat:∀{H' : Hp},(∀ b∈fp,H' b=none)->∀ b∈fp,zdJ X aa H' b:=λhn b hb=>⟨hn b hb,(f2 b hb).2⟩
 refine codeAny_forLoop_any (λn s' => ∃ i σ' H',Inv X aa σ' H' s' /\ tn i s'.heap/\(∀ b∈fp,H' b=none)/\W i n σ' H') ?_ m0 ⟨0,σ,H2,I2,st2,λb hb=>(f2 b hb).1,w0⟩;rintro n s3 ⟨i,σ3,H3,I3,st3,fr3,w3⟩;rcases turn i n σ3 H3 w3 with⟨stop,qn⟩ | ⟨go,N,hN,step⟩
 .refine OU hp (thn (T.done X rfl rfl rfl hc i aa s3 σ3 H3 X.xe I3 (stat fr3) st3 stop) λr s4 ⟨hr,I4⟩=>?_);subst hr;exact wpAny_execs_nil ⟨σ3,H3,I4,qn⟩
 .refine OU hp (thn (T.item X rfl rfl rfl hc i aa s3 σ3 H3 X.xe I3 (stat fr3) st3 go) λr s4 ⟨u,hr,h4⟩=>?_);subst hr;refine OU hp (thn h4 λ_ s5 ⟨x,H5,I5,r5,y5,st5,fr5⟩=>?_);have I5':=I5.pinned (stat fr5) (T.obj _ _ st5);refine OU hp (thn (hg _ s5 σ3 H5 x u _ I5' r5 (step x H5 y5)) λ_ s6 ⟨σ6,H6,I6,q6⟩=>?_);refine OU hp (thn (hb _ s6 σ6 H6 _ I6 q6) λf s7 q7=>?_);have again:∀{σ7:St}{H7:Hp},Inv X (aa++Vv fp s5.heap) σ7 H7 s7->N σ7 H7->∃ m,m<n/\∃ i σ' H',Inv X aa σ' H' s7/\tn i s7.heap/\(∀ b∈fp,H' b=none)/\W i m σ' H':=λ{σ7 H7} I7 n7=>by obtain⟨m',hm,w7⟩:=hN σ7 H7 n7;refine⟨m',hm,i+1,σ7,H7,I7.J4,T.keep _ _ _ st5 λb hb o e=>(I7.pin (b,o) (IG _ (IG _ (Vm hb e)))).1,λb hb=>?_,w7⟩;obtain⟨o,e,d⟩:=T.obj _ _ st5 b hb;exact(I7.pin (b,o) (IG _ (IG _ (Vm hb e)))).2.1
  cases f with
  |next=>obtain⟨σ7,H7,I7,n7⟩:=q7;exact again I7 n7
  |cont=>obtain⟨σ7,H7,I7,n7⟩:=q7;exact again I7 n7
  |brk=>obtain⟨σ7,H7,I7,q7⟩:=q7;exact⟨σ7,H7,I7.J4,q7⟩
  |ret v=>obtain⟨x7,σ7,H7,I7,r7,q7⟩:=q7;exact⟨x7,σ7,H7,I7.J4,r7,q7⟩
end
abbrev R2:=V->V->Hp->VK->Prop
def OpR(X:Cx)(f:Value->Value->Sem Value)(r:R2):Prop:=
 ∀(aa:List (AD×Obj))(s:SH)(σ:St)(H:Hp)(x y:V)(v u:Value)(Q:VK),Inv X aa σ H s->RelV x v->RelV y u->r x y H Q->
  wpAny (model X.prog X.w) X.A (f v u) (EP X aa σ Q) X.xe s
def UnR(X:Cx)(f:Value->Sem Value)(r:V->Hp->VK->Prop):Prop:=
 ∀(aa:List (AD×Obj))(s:SH)(σ:St)(H:Hp)(x:V)(v:Value)(Q:VK),Inv X aa σ H s->RelV x v->r x H Q->
  wpAny (model X.prog X.w) X.A (f v) (EP X aa σ Q) X.xe s
def Jk(X:Cx)(f:Value)(r:List V->Hp->VK->Prop):Prop:=
 ∀(aa:List (AD×Obj))(s:SH)(σ:St)(H:Hp)(xs:List V)(us:List Value)(Q:VK),Inv X aa σ H s->Vals xs us->r xs H Q->
  wpAny (model X.prog X.w) X.A (call f us) (EP X aa σ Q) X.xe s
def tOp(r:R2)(ta tb:TE):TE:=fun σ H Q=>ta σ H λx H1=>tb σ H1 λy H2=>r x y H2 Q
def tUn(r:V->Hp->VK->Prop)(ta:TE):TE:=fun σ H Q=>ta σ H λx H1=>r x H1 Q
def rI(C:Int->Int->Prop)(g:Int->Int->V):R2:=λx y H Q=>∃ i j,x = .int i/\y = .int j/\C i j/\Q (g i j) H
def rI0(g:Int->Int->V):R2:=λx y H Q=>∃ i j,x = .int i/\y = .int j/\Q (g i j) H
def rU(g:Int->V):V->Hp->VK->Prop:=λx H Q=>∃ i,x = .int i/\Q (g i) H
section
variable {X:Cx}{a b c:Expr}{ta tb tc:TE}{pos:Pos}
def zng(ha:PE X a ta)(hb:PE X b tb){σ:St}{H:Hp}{R:V->V->Hp->Prop}(I:Inv X aa σ H s)(h:ta σ H λx H1=>tb σ H1 λy H2=>R x y H2){Q:Value->SH->Prop}{f:Value->Value->Sem Value}(hf:∀ v u s2 x y H2,Inv X aa σ H2 s2->RelV x v->RelV y u->R x y H2->wpAny (model X.prog X.w) X.A (f v u) Q X.xe s2):
  wpAny (model X.prog X.w) X.A (eval a X.env) (λv s₁=>wpAny (model X.prog X.w) X.A (eval b X.env) (λu s₂=>wpAny (model X.prog X.w) X.A (f v u) Q X.xe s₂) X.xe s₁) X.xe s:=by
 refine thn (ha aa s σ H _ I h) λv s1 ⟨x,H1,I1,r1,q1⟩=>?_;refine thn (hb aa s1 σ H1 _ I1 q1) λu s2 ⟨y,H2,I2,r2,q2⟩=>?_;exact hf v u s2 x y H2 I2 r1 r2 q2
def ZZ{op:Operator}{r:R2}(ho:OpR X (binaryOp op) r)(ha:PE X a ta)(hb:PE X b tb):PE X (.BinOp a op b pos) (tOp r ta tb):=by intro aa s σ H Q I h;exact wpAny_BinOp (zng ha hb I h λv u s2 x y H2 I2 rx ry q=>ho aa s2 σ H2 x y v u Q I2 rx ry q)
def znC{op:UnaryOp}{r:V->Hp->VK->Prop}(ho:UnR X (unaryOp op) r)(ha:PE X a ta):PE X (.UnaryOp op a pos) (tUn r ta):=by intro aa s σ H Q I h;exact UnaryOp_ (thn (ha aa s σ H _ I h) λv s1 ⟨x,H1,I1,r1,q1⟩=>ho aa s1 σ H1 x v Q I1 r1 q1)
def opI{f:Value->Value->Sem Value}{C:Int->Int->Prop}{g:Int->Int->Int}(rule:∀(i j:Int)(t u:Tok)(s:SH)(Q:Value->SH->Prop)(E:Value->SH->Prop),C i j->Q (.int (g i j) s.toks) {s with toks:=s.toks+1}->wpAny (model X.prog X.w) X.A (f (.int i t) (.int j u)) Q E s):
  OpR X f (rI C λi j=>.int (g i j)):=by
 intro aa s σ H x y v u Q I rx ry h;obtain⟨i,j,rfl,rfl,hc,q⟩:=h;obtain⟨t,rfl⟩:=rx;obtain⟨t',rfl⟩:=ry;exact rule i j t t' s _ _ hc ⟨.int (g i j),H,I.tok _,⟨_,rfl⟩,q⟩
def zmG{f:Value->Value->Sem Value}{g:Int->Int->Int}(rule:∀(i j:Int)(t u:Tok)(s:SH)(Q:Value->SH->Prop)(E:Value->SH->Prop),Q (.int (g i j) s.toks) {s with toks:=s.toks+1}->wpAny (model X.prog X.w) X.A (f (.int i t) (.int j u)) Q E s):
  OpR X f (rI0 λi j=>.int (g i j)):=by
 intro aa s σ H x y v u Q I rx ry h;obtain⟨i,j,rfl,rfl,q⟩:=h;obtain⟨t,rfl⟩:=rx;obtain⟨t',rfl⟩:=ry;exact rule i j t t' s _ _ ⟨.int (g i j),H,I.tok _,⟨_,rfl⟩,q⟩
def zmP{f:Value->Value->Sem Value}{g:Int->Int->Bool}(rule:∀(i j:Int)(t u:Tok)(s:SH)(Q:Value->SH->Prop)(E:Value->SH->Prop),Q (.bool (g i j)) s->wpAny (model X.prog X.w) X.A (f (.int i t) (.int j u)) Q E s):
  OpR X f (rI0 λi j=>.bl (g i j)):=by
 intro aa s σ H x y v u Q I rx ry h;obtain⟨i,j,rfl,rfl,q⟩:=h;obtain⟨t,rfl⟩:=rx;obtain⟨t',rfl⟩:=ry;exact rule i j t t' s _ _ ⟨.bl (g i j),H,I,rfl,q⟩
def zm5(i j:Int):Prop:=0<=j/\j<=1000000/\i.natAbs<2^64
def zeb(k:Nat):(0:Int)<=2^k:=by rw[two_pow_cast];exact Int.natCast_nonneg _
def Qi:OpR X (binaryOp .Add) (rI0 λi j=>.int (i+j)):=zmG λ_ _ _ _ _ _ _ q=>add_int q
def zez:OpR X (binaryOp .Sub) (rI0 λi j=>.int (i-j)):=zmG λ_ _ _ _ _ _ _ q=>sub_int q
def JT:OpR X (binaryOp .Mod) (rI (λ_ j=>0<j) λi j=>.int (i % j)):=opI λi j _ _ _ _ _ hc q=>by have h1:(0:Int)<j:=hc;exact mod_int' (by omega) (by rw[Int.fmod_eq_emod_of_nonneg i (by omega)];exact q)
def zlj:OpR X (binaryOp .LShift) (rI zm5 λi j=>.int (i*2^j.toNat)):=opI λ_ _ _ _ _ _ _ hc q=>lshift_int_small hc.1 hc.2.1 hc.2.2 q
def zdf:OpR X (binaryOp .RShift) (rI (λ_ j=>0<=j) λi j=>.int (i / 2^j.toNat)):=opI λi j _ _ _ _ _ hc q=>rshift_int hc (by rw[Int.fdiv_eq_ediv_of_nonneg i (zeb _)];exact q)
def zdb:OpR X (binaryOp .BitAnd) (rI0 λi j=>.int (Builtin.bitAnd i j)):=zmG λ_ _ _ _ _ _ _ q=>and_int q
def zls:OpR X (binaryOp .BitOr) (rI0 λi j=>.int (Builtin.bitOr i j)):=zmG λ_ _ _ _ _ _ _ q=>or_int q
def unI{f:Value->Sem Value}{g:Int->Int}(rule:∀(i:Int)(t:Tok)(s:SH)(Q:Value->SH->Prop)(E:Value->SH->Prop),Q (.int (g i) s.toks) {s with toks:=s.toks+1}->wpAny (model X.prog X.w) X.A (f (.int i t)) Q E s):
  UnR X f (rU λi=>.int (g i)):=by
 intro aa s σ H x v Q I rx h;obtain⟨i,rfl,q⟩:=h;obtain⟨t,rfl⟩:=rx;exact rule i t s _ _ ⟨.int (g i),H,I.tok _,⟨_,rfl⟩,q⟩
def zk8:UnR X (unaryOp .USub) (rU λi=>.int (-i)):=unI λ_ _ _ _ _ q=>neg_int q
end
noncomputable def zn1:V->V->Bool
 |.non,.non=>true | .non,.int _=>true | .int _,.non=>true | .non,.bl _=>true | .bl _,.non=>true | .non,.str _=>true | .str _,.non=>true
 |.int _,.int _=>true | .bl _,.bl _=>true | .str _,.str _=>true | .byt _,.byt _=>true
 |.int _,.str _=>true | .str _,.int _=>true | .bl _,.str _=>true | .str _,.bl _=>true
 |_,_=>false
def rEq:R2:=λx y H Q=>zn1 x y=true/\Q (.bl (decide (x=y))) H
def rNe:R2:=λx y H Q=>zn1 x y=true/\Q (.bl (!decide (x=y))) H
def ze4{i j:Int}:decide (V.int i=V.int j)=(i==j):=by rw[N4];simp
def zil{i j:Bool}:decide (V.bl i=V.bl j)=(i==j):=by rw[N4];simp
def zex{i j:Str}:decide (V.str i=V.str j)=(i==j):=by rw[N4];simp
def zft{i j:Array UInt8}:decide (V.byt i=V.byt j)=(i.toList==j.toList):=by rw[N4];cases i;cases j;simp
section
variable {X:Cx}{a b c:Expr}{ta tb tc:TE}{pos:Pos}
def Ye{σ:St}{H:Hp}{Q:VK}{k k' : Bool}(I:Inv X aa σ H s)(q:Q (.bl k) H)(e:k=k'):EP X aa σ Q (.bool k') s:=by subst e;exact⟨.bl k,H,I,rfl,q⟩
def JP:OpR X (compareOp .Eq) rEq:=by
 intro aa s σ H x y v u Q I rx ry h;obtain⟨hs,q⟩:=h;cases x with
 |non=>
  cases rx;cases y with
  |non=>cases ry;exact PySem.EqNone.eq_none_none (Ye I q (by simp))
  |bl j=>cases ry;exact PySem.EqNone.eq_none_bool (Ye I q (by simp))
  |int j=>obtain⟨t',rfl⟩:=ry;exact PySem.EqNone.eq_none_int (Ye I q (by simp))
  |str j=>obtain⟨t',rfl⟩:=ry;exact PySem.EqNone.eq_none_str (Ye I q (by simp))
  |_=>exact absurd (show false=true from hs) Ii
 |bl i=>
  cases rx;cases y with
  |non=>cases ry;exact PySem.EqNone.eq_bool_none (Ye I q (by simp))
  |bl j=>cases ry;exact eq_bool (Ye I q zil)
  |str j=>obtain⟨t',rfl⟩:=ry;exact PySem.EqMixed.eq_bool_str (Ye I q (by simp))
  |_=>exact absurd (show false=true from hs) Ii
 |int i=>
  obtain⟨t,rfl⟩:=rx;cases y with
  |non=>cases ry;exact PySem.EqNone.eq_int_none (Ye I q (by simp))
  |int j=>obtain⟨t',rfl⟩:=ry;exact eq_int (Ye I q ze4)
  |str j=>obtain⟨t',rfl⟩:=ry;exact PySem.EqMixed.eq_int_str (Ye I q (by simp))
  |_=>exact absurd (show false=true from hs) Ii
 |str i=>
  obtain⟨t,rfl⟩:=rx;cases y with
  |non=>cases ry;exact PySem.EqNone.eq_str_none (Ye I q (by simp))
  |bl j=>cases ry;exact PySem.EqMixed.eq_str_bool (Ye I q (by simp))
  |int j=>obtain⟨t',rfl⟩:=ry;exact PySem.EqMixed.eq_str_int (Ye I q (by simp))
  |str j=>obtain⟨t',rfl⟩:=ry;exact eq_str (Ye I q zex)
  |_=>exact absurd (show false=true from hs) Ii
 |byt i=>
  obtain⟨t,rfl⟩:=rx;cases y with
  |byt j=>obtain⟨t',rfl⟩:=ry;exact PySem.W.eq_bytes (Ye I q zft)
  |_=>exact absurd (show false=true from hs) Ii
 |_=>cases y <;> exact absurd (show false=true from hs) Ii
def zeD:OpR X (compareOp .NotEq) rNe:=by
 intro aa s σ H x y v u Q I rx ry h;obtain⟨hs,q⟩:=h;cases x with
 |non=>
  cases rx;cases y with
  |non=>cases ry;exact PySem.EqNone.ne_none_none (Ye I q (by simp))
  |bl j=>cases ry;exact PySem.EqNone.ne_none_bool (Ye I q (by simp))
  |int j=>obtain⟨t',rfl⟩:=ry;exact PySem.EqNone.ne_none_int (Ye I q (by simp))
  |str j=>obtain⟨t',rfl⟩:=ry;exact PySem.EqNone.ne_none_str (Ye I q (by simp))
  |_=>exact absurd (show false=true from hs) Ii
 |bl i=>
  cases rx;cases y with
  |non=>cases ry;exact PySem.EqNone.ne_bool_none (Ye I q (by simp))
  |bl j=>cases ry;exact ne_bool (Ye I q (ND not zil))
  |str j=>obtain⟨t',rfl⟩:=ry;exact PySem.EqMixed.ne_bool_str (Ye I q (by simp))
  |_=>exact absurd (show false=true from hs) Ii
 |int i=>
  obtain⟨t,rfl⟩:=rx;cases y with
  |non=>cases ry;exact PySem.EqNone.ne_int_none (Ye I q (by simp))
  |int j=>obtain⟨t',rfl⟩:=ry;exact ne_int (Ye I q (ND not ze4))
  |str j=>obtain⟨t',rfl⟩:=ry;exact PySem.EqMixed.ne_int_str (Ye I q (by simp))
  |_=>exact absurd (show false=true from hs) Ii
 |str i=>
  obtain⟨t,rfl⟩:=rx;cases y with
  |non=>cases ry;exact PySem.EqNone.ne_str_none (Ye I q (by simp))
  |bl j=>cases ry;exact PySem.EqMixed.ne_str_bool (Ye I q (by simp))
  |int j=>obtain⟨t',rfl⟩:=ry;exact PySem.EqMixed.ne_str_int (Ye I q (by simp))
  |str j=>obtain⟨t',rfl⟩:=ry;exact ne_str (Ye I q (ND not zex))
  |_=>exact absurd (show false=true from hs) Ii
 |byt i=>
  obtain⟨t,rfl⟩:=rx;cases y with
  |byt j=>obtain⟨t',rfl⟩:=ry;exact PySem.W.ne_bytes (Ye I q (ND not zft))
  |_=>exact absurd (show false=true from hs) Ii
 |_=>cases y <;> exact absurd (show false=true from hs) Ii
def zd2:OpR X (compareOp .Lt) (rI0 λi j=>.bl (decide (i<j))):=zmP λ_ _ _ _ _ _ _ q=>lt_int q
def zkY:OpR X (compareOp .LtE) (rI0 λi j=>.bl (decide (i<=j))):=zmP λ_ _ _ _ _ _ _ q=>le_int q
def zg4:OpR X (compareOp .Gt) (rI0 λi j=>.bl (decide (j<i))):=zmP λ_ _ _ _ _ _ _ q=>gt_int q
def znh:OpR X (compareOp .GtE) (rI0 λi j=>.bl (decide (j<=i))):=zmP λ_ _ _ _ _ _ _ q=>ge_int q
def ZQ(b:Expr)(h:op≠.In:=by decide)(h2:op≠.NotIn:=by decide):behindInMarks op b=false:=by
 have e1:(op==CmpOp.In)=false:=by cases op <;> first | rfl | exact absurd rfl h
 have e2:(op==CmpOp.NotIn)=false:=by cases op <;> first | rfl | exact absurd rfl h2
 cases b <;> simp[behindInMarks,e1,e2]
def Jo{r:R2}(ho:OpR X (compareOp op) r)(ha:PE X a ta)(hb:PE X b tb)(hm:behindInMarks op b=false):PE X (.Compare a [op] [b] pos) (tOp r ta tb):=by intro aa s σ H Q I h;exact wpAny_Compare1 (zng ha hb I h λv u s2 x y H2 I2 rx ry q=>ho aa s2 σ H2 x y v u Q I2 rx ry q) hm
def zg1(t:TE):TT:=fun σ H Q=>t σ H λx H' => ∃ k,x = .bl k/\Q k H'
def Zw{r:R2}(ho:OpR X (compareOp op) r)(ha:PE X a ta)(hb:PE X b tb)(hm:behindInMarks op b=false):PT X (.Compare a [op] [b] pos) (zg1 (tOp r ta tb)):=by
 intro aa s σ H Q I h;refine wpAny_isTrue_Compare1 (thn (ha aa s σ H _ I h) λv s1 ⟨x,H1,I1,r1,q1⟩=>thn (hb aa s1 σ H1 _ I1 q1) λu s2 ⟨y,H2,I2,r2,q2⟩=>
  thn (ho aa s2 σ H2 x y v u _ I2 r1 r2 q2) λc s3 ⟨z,H3,I3,r3,k,e,q3⟩=>?_) hm
 subst e;cases r3;exact Ox ⟨H3,I3,q3⟩
def zdh:(sizeLine:Nat)<2^63:=by rw[sizeLine_eq];decide
def vals1{x:V}(r:Vals [x] us):∃ u,us=[u]/\RelV x u:=by
 cases r with
 |cons r1 r2=>cases r2;exact⟨_,rfl,r1⟩
def vals2{x y:V}(r:Vals [x,y] us):∃ u w',us=[u,w']/\RelV x u/\RelV y w':=by
 cases r with
 |cons r1 r2=>
  cases r2 with
  |cons r3 r4=>cases r4;exact⟨_,_,rfl,r1,r3⟩
def zbQ(hc:X.calm=true):Jk X (.builtin "max") (λxs H Q=>∃ i j,xs=[.int i,.int j]/\Q (.int (if j>i then j else i)) H):=by
 intro aa s σ H xs us Q I r h;obtain⟨i,j,rfl,q⟩:=h;obtain⟨u,w',rfl,⟨t,rfl⟩,⟨t',rfl⟩⟩:=vals2 r;refine max_two_ints (I.ok.hd hc) λh' tk k=>⟨_,H,I.kept k,?_,q⟩
 by_cases hj:j>i
 .rw[Iz hj,Iz hj];exact⟨_,rfl⟩
 .rw[Iq hj,Iq hj];exact⟨_,rfl⟩
def Uh:Jk X (.type "int") (λxs H Q=>(∃ i,xs=[.int i]/\Q (.int i) H)\/∃ k,xs=[.bl k]/\Q (.int (if k then 1 else 0)) H):=by
 intro aa s σ H xs us Q I r h;rcases h with⟨i,rfl,q⟩ | ⟨k,rfl,q⟩
 .obtain⟨u,rfl,t,rfl⟩:=vals1 r;exact call_int_int ⟨.int i,H,I,⟨_,rfl⟩,q⟩
 .obtain⟨u,rfl,r1⟩:=vals1 r;cases r1;exact call_int_bool ⟨.int (if k then 1 else 0),H,I.tok _,⟨_,rfl⟩,q⟩
end
structure zj0(h:Heap)(x dx C:AD)(mA:Str->Option Value):Prop where
 obj:h.get? x=some (instObj C dx)
 ns:h.Ns1 dx mA
 ne:dx≠x
def zfV{dx:AD}{mA:Str->Option Value}(n:h.Ns1 dx mA):∃ od,h.get? dx=some od/\∀ name,lookIn name od=some (mA name):=by
 obtain⟨o,es,ep,ho,hd,hk,_,hm⟩:=n;refine⟨o,ho,λname=>?_⟩;have e:=hm name;unfold nsFind findBy at e;rw[← Array.find?_toList]at e;unfold lookIn;rw[hd];dsimp only;split
 .rename_i y q
  rw[q]at e;exact ND some e
 .rename_i q
  rw[q]at e;have a:es.toList.any (·.refKey)=false:=by rw[List.any_eq_false];intro y hy;obtain⟨z,t,hkey⟩:=hk y (mem_toList_iff.mp hy);simp[DictEntry.refKey,hkey]
  have a' : ¬ es.toList.any (·.refKey)=true:=by rw[a];exact Ii
  rw[Iq a'];exact ND some e
def zj0.look{x dx:AD}{mA:Str->Option Value}(I:zj0 h x dx C mA):∃ od,PySem.W.InstAt h x (instObj C dx) C (some od)/\∀ name,lookIn name od=some (mA name):=
 let ⟨od,ho,hl⟩:=zfV I.ns
 ⟨od,⟨I.obj,rfl,rfl,ho⟩,hl⟩
section
variable {prog:Program}{w:World}{A:Around}{E:Value->SH->Prop}{s:SH}{K:FG}{x dx C f:AD}{mA:Str->Option Value}{name:Str}{v:Value}
def ziO{expr:Bool}{Q:Value->SH->Prop}(X:K.In s.heap)(I:zj0 s.heap x dx C mA)(hg:plainGet K C name=true)(hh:hasDictIn K C=true)(ha:findIn K (.ref C) name=some none)(hv:mA name=some v)(hv' : handedIn v=true)(h:Q v {s with toks:=s.toks+1}):
  wpAny (model prog w) A (getAttr (.ref x) name expr) Q E s:=by
 obtain⟨od,J,hl⟩:=I.look;exact PySem.W.get_value X J (plainGet_of hg).1 (PySem.W.findObj_own hh ha rfl (by rw[hl,hv])) hv' h
def zgV{Q:Value×List Value->SH->Prop}(X:K.In s.heap)(I:zj0 s.heap x dx C mA)(hg:plainGet K C name=true)(hf:findIn K (.ref C) name=some (some (.ref f)))(ht:PySem.W.isFn K (.ref f)=true)(hv:mA name=none)(h:Q (.ref f,[.ref x]) s):
  wpAny (model prog w) A (getMethod (.ref x) name pl) Q E s:=by
 obtain⟨od,J,hl⟩:=I.look;exact PySem.W.method_fn X J (plainGet_of hg).1 (plainGet_of hg).2 hf (Oz.mp ht) (by show(lookIn name od).map (·.isSome)=some false;rw[hl,hv];rfl) h
def zjE{ns:List Str}(X:K.In s.heap)(I:zj0 s.heap x dx C mA)(hs:findIn K (.ref C) "__setattr__" = some (some (.builtin "object.__setattr__")))(hp:plainOver K C=true)(ht:takerIn K C name=some none)(hh:hasDictIn K C=true)(hw:PySem.Within mA ns)(hsz:ns.length<=sizeLine)(h:∀ h',zj0 h' x dx C (λy=>if y=name then some v else mA y)->SameBut dx s.heap h' -> Q () {s with heap:=h',toks:=s.toks+2}):
  wpAny (model prog w) A (setAttr (.ref x) name v) Q E s:=by
 obtain⟨od,J,hl⟩:=I.look;refine PySem.W.set_plain X J hs (PySem.W.osa_open (s:={s with toks:=s.toks+1}) (r:=none) X J hp ht λb=>?_);obtain⟨cd,hc,hd'⟩:=PySem.W.any_some hh;have hx:s.heap.get? x=some ⟨.ref C,some dx,.plain,#[]⟩:=I.obj;refine Ia (Ic (Ia (Ia (wpAny_loadPart hx (Ia (Looks.here (s:={s with toks:=s.toks+1}) (PySem.W.looks_clsIn X hc) ?_))))));rw[hd'];refine Ic (a:=some dx) (Ia (Ic (Ia ?_)));refine wpAny_nsSet1 (s:={s with toks:=s.toks+1}) I.ns λh' hn2 hs2=>?_;obtain⟨oD,esD,epD,hoD,hdD,hcD⟩:=hn2.count (PySem.Within.cons name v hw);refine Ia (wpAny_lookBehind hoD (by rw[hdD];exact pastItsLine_dict (IH hcD (by rw[IL];omega))) ?_);exact Ic (h _ ⟨(hs2.2 _ (Ne.symm I.ne)).trans I.obj,hn2,I.ne⟩ hs2)
def zhP{R:Result->SH->Prop}{vs:List Value}(X:K.In s.heap)(hm:makesIn K C=true)(hi:findIn K (.ref C) "__init__" = some (some (.ref f)))(hf:PySem.W.typeIn K (.ref f)=some (.type "function"))(h:codeAny (model prog w) (A.under (.builtin "type.__call__" ⟨.ref C::vs,kw⟩)) (.call (.ref f) ⟨.ref (s.heap.objs.size+1)::vs,kw⟩) (PySem.W.InitBack (s.heap.objs.size+1) R)
   {s with heap:=(s.heap.push emptyDict).push (instObj C s.heap.objs.size)}):
  codeAny (model prog w) A (.call (.ref C) ⟨vs,kw⟩) R s:=by
 obtain⟨hh,g,d,t,os⟩:=s;exact PySem.W.make_core (PySem.W.makes_of X hm) (PySem.W.looks_findIn X hi) (λself=>PySem.W.bind_fn X self hf) (.inl rfl) h
end
noncomputable def zce(f:Str)(v:V):List (Str×V)->List (Str×V)
 |[]=>[(f,v)]
 |(g,x)::r=>if g=f then(g,v)::r else(g,x)::zce f v r
theorem U6(f g:Str)(v:V):∀ fs:List (Str×V),(zce f v fs).lookup g=if g=f then some v else fs.lookup g
 |[]=>by
  show List.lookup g [(f,v)]=_;by_cases h:g=f
  .have hb:(g==f)=true:=Oz.mpr h;simp only[List.lookup,hb,Iz h]
  .have hb:(g==f)=false:=NF.mpr h;simp only[List.lookup,hb,Iq h]
 |(k,x)::r=>by
  have ih:=U6 f g v r;rw[show zce f v ((k,x)::r)=(if k=f then(k,v)::r else(k,x)::zce f v r)from rfl];by_cases hk:k=f
  .rw[Iz hk];by_cases h:g=k
   .have hb:(g==k)=true:=Oz.mpr h;simp only[List.lookup,hb,Iz (h.trans hk)]
   .have hb:(g==k)=false:=NF.mpr h;simp only[List.lookup,hb,Iq (λe:g=f=>h (e.trans hk.symm))]
  .rw[Iq hk];by_cases h:g=k
   .have hb:(g==k)=true:=Oz.mpr h;simp only[List.lookup,hb,Iq (λe:g=f=>hk (h.symm.trans e))]
   .have hb:(g==k)=false:=NF.mpr h;simp only[List.lookup,hb];exact ih
theorem Uz(f:Str)(v:V):∀ fs:List (Str×V),f∈(zce f v fs).map (·.1)/\∀ g,g∈fs.map (·.1)->g∈(zce f v fs).map (·.1)
 |[]=>⟨by simp[zce],λg h=>by simp at h⟩
 |(k,x)::r=>by
  obtain⟨i1,i2⟩:=Uz f v r;rw[show zce f v ((k,x)::r)=(if k=f then(k,v)::r else(k,x)::zce f v r)from rfl];by_cases hk:k=f
  .rw[Iz hk];subst hk;exact⟨by simp,λg h=>by simpa using h⟩
  .rw[Iq hk];refine⟨?_,λg h=>?_⟩
   .rw[Nt];exact Im _ i1
   .rw[Nt]at h ⊢;rcases IE.mp h with e | e
    .exact IE.mpr (.inl e)
    .exact Im _ (i2 g e)
theorem UW(f:Str)(v:V):∀ fs:List (Str×V),(zce f v fs).length<=fs.length+1
 |[]=>by simp[zce]
 |(k,x)::r=>by
  have ih:=UW f v r;rw[show zce f v ((k,x)::r)=(if k=f then(k,v)::r else(k,x)::zce f v r)from rfl];by_cases hk:k=f
  .rw[Iz hk,IL,IL];omega
  .rw[Iq hk,IL,IL];omega
def zgw.some_of{v:V}{o:Option Value}(r:zgw (some v) o):∃ u,o=some u/\RelV v u:=by
 cases o with
 |none=>exact(show False from r).elim
 |some u=>exact⟨u,rfl,r⟩
def zgw.none_of{o:Option Value}(r:zgw none o):o=none:=by
 cases o with
 |none=>rfl
 |some u=>exact(show False from r).elim
def zeA{v:V}{u:Value}(r:RelV v u):handedIn u=true:=by
 cases v with
 |non=>cases(show u=Value.none from r);rfl
 |bl b=>cases(show u=Value.bool b from r);rfl
 |int i=>obtain⟨t,e⟩:=(show ∃ t,u=Value.int i t from r);cases e;rfl
 |str x=>obtain⟨t,e⟩:=(show ∃ t,u=Value.str x t from r);cases e;rfl
 |byt b=>obtain⟨t,e⟩:=(show ∃ t,u=Value.bytes b t from r);cases e;rfl
 |flt b=>obtain⟨t,e⟩:=(show ∃ t,u=Value.float b t from r);cases e;rfl
 |ref a=>cases(show u=Value.ref a from r);rfl
 |ty n=>cases(show u=Value.type n from r);rfl
section
variable {P:Program}{w:World}{H H' : Hp}{h h' : Heap}{a C dx:AD}{fs fs' : List (Str×V)}
def zaS(ab:HOk P w H h)(e:H a=some (.ins C dx fs)):∃ mA,zj0 h a dx C mA/\(∀ f,zgw (fs.lookup f) (mA f))/\PySem.Within mA (fs.map (·.1))/\fs.length<=1000/\H dx=some (.own a):=by
 obtain⟨d,z,ne,ob,mA,n,r,q⟩:=(show Yu P w H h a (.ins C dx fs)from ab a _ e)
 exact⟨mA,⟨ob,n,ne⟩,r,q,z,d⟩
end
structure Cls(K:FG)(C:AD):Prop where
 pg:plainGet K C Str.empty=true
 hd:hasDictIn K C=true
 po:plainOver K C=true
 sa:findIn K (.ref C) "__setattr__" = some (some (.builtin "object.__setattr__"))
def Cls.get{K:FG}(c:Cls K C)(f:Str):plainGet K C f=true:=c.pg
def W7(K:FG)(C:AD)(f:Str):Prop:=findIn K (.ref C) f=some none
def W7.taker{K:FG}{f:Str}(n:W7 K C f):takerIn K C f=some none:=by unfold takerIn;rw[show findIn K (.ref C) f=some none from n];rfl
structure Meth(K:FG)(C:AD)(m:Str)(f:AD):Prop where
 at_:findIn K (.ref C) m=some (some (.ref f))
 fn:PySem.W.isFn K (.ref f)=true
 kp:keepIn K (.ref f)=true
section
variable {X:Cx}{aa:List (AD×Obj)}{σ:St}{H:Hp}{s:SH}{a C dx:AD}{fs:List (Str×V)}{f:Str}{v:V}{A:Around}{E:Value->SH->Prop}
def zd8{b:Bool}{Q:Value->SH->Prop}(I:Inv X aa σ H s)(e:H a=some (.ins C dx fs))(c:Cls X.K C)(n:W7 X.K C f)(l:fs.lookup f=some v)(h:∀ u s',Inv X aa σ H s' -> RelV v u->Q u s'):wpAny (model X.prog X.w) A (getAttr (.ref a) f b) Q E s:=by
 obtain⟨mA,O,r,_,_,_⟩:=zaS I.ab e;obtain⟨u,hu,ru⟩:=zgw.some_of (v:=v) (o:=mA f) (by rw[← l];exact r f);exact ziO I.kIn O (c.get f) c.hd n hu (zeA ru) (h u _ (I.tok _) ru)
def zdP{m:Str}{g:AD}{Q:Value×List Value->SH->Prop}(I:Inv X aa σ H s)(e:H a=some (.ins C dx fs))(c:Cls X.K C)(k:Meth X.K C m g)(l:fs.lookup m=none)(h:Q (.ref g,[.ref a]) s):wpAny (model X.prog X.w) A (getMethod (.ref a) m pl) Q E s:=by
 obtain⟨mA,O,r,_,_,_⟩:=zaS I.ab e;have hn:mA m=none:=zgw.none_of (by rw[← l];exact r m);exact zgV I.kIn O (c.get m) k.at_ k.fn hn h
def zdO{y:V}{u:Value}(I:Inv X aa σ H s)(e:H a=some (.ins C dx fs))(c:Cls X.K C)(n:W7 X.K C f)(hl:fs.length<1000)(ry:RelV y u)(h:∀ s',Inv X aa σ (upd H a (.ins C dx (zce f y fs))) s' -> Q () s'):wpAny (model X.prog X.w) A (setAttr (.ref a) f u) Q E s:=by
 obtain⟨mA,O,r,wi,_,ho⟩:=zaS I.ab e;have hz:(fs.map (·.1)).length<=sizeLine:=by rw[Ie,sizeLine_eq];omega
 refine zjE I.kIn O c.sa c.po n.taker c.hd wi hz λh' O' sb=>h _ ?_;have hd:∃ o,h'.get? dx=some o:=let ⟨o,_,_,e',_⟩:=O'.ns;⟨o,e'⟩;refine I.write (x:=a) (e:=dx) (by rw[e];exact True.intro) (.inr ho) (λb q hb z=>(sb.2 b hb).trans z) hd ?_;refine⟨by rw[Zk O.ne];exact ho,?_,O.ne,O'.obj,_,O'.ns,λg=>?_,λg hg=>?_⟩
 .have:=UW f y fs;omega
 .show zgw ((zce f y fs).lookup g) (if g=f then some u else mA g);rw[U6];by_cases q:g=f
  .rw[Iz q,Iz q];exact ry
  .rw[Iq q,Iq q];exact r g
 .by_cases q:g=f
  .rw[q];exact(Uz f y fs).1
  .refine(Uz f y fs).2 g (wi g λz=>hg ?_);show(if g=f then some u else mA g)=none;rw[Iq q];exact z
def Inv.made(I:Inv X aa σ H s):Inv X aa σ (upd (upd H s.heap.objs.size (.own (s.heap.objs.size+1))) (s.heap.objs.size+1) (.ins C s.heap.objs.size []))
  {s with heap:=(s.heap.push emptyDict).push (instObj C s.heap.objs.size)}:=by
 have e1:(s.heap.push emptyDict).get? s.heap.objs.size=some emptyDict:=Iu s.heap rfl;have e2:((s.heap.push emptyDict).push (instObj C s.heap.objs.size)).get? (s.heap.objs.size+1)=some (instObj C s.heap.objs.size):=by
  have:=Iu (s.heap.push emptyDict) (o:=instObj C s.heap.objs.size) rfl
  rwa [NH]at this
 have e3:(s.heap.push emptyDict).Ns s.heap.objs.size (λ_=>none):=⟨emptyDict,#[],_,e1,rfl,(λe he=>absurd he (by simp)),λ_=>rfl⟩
 have I1:=I.laid (a:=s.heap.objs.size) (o:=.own (s.heap.objs.size+1)) (h':=s.heap.push emptyDict) (t':=s.toks) (λb u q=>Ig _ q) (Ih _) ⟨_,e1⟩;refine I1.laid (a:=s.heap.objs.size+1) (o:=.ins C s.heap.objs.size []) (t':=s.toks) (λb u q=>Ig _ q) (O5 (NH _ _)) ?_;have ne:s.heap.objs.size≠s.heap.objs.size+1:=IX (OB _);refine⟨by rw[Zk ne,Zi],NN _,ne,e2,λ_=>none,(Heap.Ns1.of_empty e3).at λo q=>Ig _ q,λ_=>True.intro,λy hy=>absurd rfl hy⟩
def zjq{prog:Program}{w:World}{env:Env}{f:Str}{pos:Pos}{Q:Value->SH->Prop}(hb:attributeBase e f env (eval e env)=eval e env)(h:wpAny (model prog w) A (eval e env) (λo s₁=>wpAny (model prog w) A (getAttr o f true) Q E s₁) E s):wpAny (model prog w) A (eval (.Attribute e f pos) env) Q E s:=
 Attribute_any_ h (by rw[arm_eval_Attribute,hb])
end
def ziB(K:FG)(ta:TE)(f:Str):TE:=fun σ H Q=>ta σ H λx H1=>∃ a C dx fs v,x = .ref a/\H1 a=some (.ins C dx fs)/\Cls K C/\W7 K C f/\fs.lookup f=some v/\Q v H1
def znV(K:FG)(ta tv:TE)(f:Str):TS:=λD σ H=>tv σ H λy H1=>ta σ H1 λx H2=>∃ a C dx fs,x = .ref a/\H2 a=some (.ins C dx fs)/\Cls K C/\W7 K C f/\fs.length<1000/\
 D.nx σ (upd H2 a (.ins C dx (zce f y fs)))
section
variable {X:Cx}{o e value:Expr}{f:Str}{pos pos' tpos:Pos}{ta tv:TE}
def zlw(he:PE X e ta)(hb:attributeBase e f X.env (eval e X.env)=eval e X.env):PE X (.Attribute e f pos) (ziB X.K ta f):=by intro aa s σ H Q I h;refine zjq hb (thn (he aa s σ H _ I h) λu s1 ⟨x,H1,I1,rx,a,C,dx,fs,v,ex,ea,c,n,l,q⟩=>?_);subst ex;obtain rfl:u=Value.ref a:=rx;exact zd8 I1 ea c n l λu' s2 I2 ru=>⟨v,H1,I2,ru,q⟩
def zmq(ha:PE X o ta)(hv:PE X value tv)(hs:swapsWith value (some (.Attribute o f pos')) pos.line X.env=pure false):PS X (.Assign [.Attribute o f pos'] value pos) (znV X.K ta tv f):=by intro aa s σ H D I h;refine plainObj_wpAny_Assign_Attribute (thn (hv aa s σ H _ I h) λu s1 ⟨y,H1,I1,ry,q⟩=>thn (ha aa s1 σ H1 _ I1 q) λov s2 ⟨x,H2,I2,rx,a,C,dx,fs,ex,ea,c,n,l,q2⟩=>?_) hs;subst ex;obtain rfl:ov=Value.ref a:=rx;exact zdO I2 ea c n l ry λs3 I3=>⟨σ,_,I3,q2⟩
end
section
variable {X:Cx}{aa:List (AD×Obj)}{σ:St}{H:Hp}{s:SH}{A:Around}{E:Value->SH->Prop}{Q:Value->SH->Prop}{c:Value}{b:Bool}
inductive zee(K:FG)(H:Hp):V->Value->Prop where
 |non:zee K H .non (.type "NoneType")
 |bl (x:Bool):zee K H (.bl x) (.type "bool")
 |int (i:Int):zee K H (.int i) (.type "int")
 |str (x:Str):zee K H (.str x) (.type "str")
 |flt (x:UInt64):zee K H (.flt x) (.type "float")
 |lst {a:AD}{xs:List V}(e:H a=some (.lst xs)):zee K H (.ref a) (.type "list")
 |frz {a:AD}{o:Obj}{xs:List V}(e:H a=some (.frz o (.lst xs))):zee K H (.ref a) (.type "list")
 |tup {a:AD}{xs:List V}(e:H a=some (.tup xs)):zee K H (.ref a) (.type "tuple")
 |dK {a:AD}{kvs:List (Key×V)}(e:H a=some (.dK kvs)):zee K H (.ref a) (.type "dict")
 |dT {a:AD}{kvs:List (List Key×V)}(e:H a=some (.dT kvs)):zee K H (.ref a) (.type "dict")
 |ins {a C dx:AD}{fs:List (Str×V)}(e:H a=some (.ins C dx fs)) (cl:Cls K C) (ha:findIn K (.ref C) "__class__" = some (some (.builtin "object.__class__")))
   (hn:PySem.W.specialIn K (.builtin "object.__class__") "__get__" = some (some (.builtin "getset_descriptor.__get__"))) (htk:PySem.W.takesIn K (.builtin "object.__class__")=some true)
   (hm:PySem.W.mroIn K C (.type "object")=some true):zee K H (.ref a) (.ref C)
def QD{x:V}{u t:Value}(I:Inv X aa σ H s)(rx:RelV x u)(ty:zee X.K H x t)(e:kitOne X.K t c=some b)(h:∀ tk,Q (.bool b) {s with toks:=tk}):
  wpAny (model X.prog X.w) A (call (.builtin "isinstance") [u,c]) Q E s:=by
 cases ty with
 |non=>cases(show u=Value.none from rx);exact DC PySem.W.kitx_none I.kIn True.intro e (λz=>nomatch z) h
 |bl y=>cases(show u=Value.bool y from rx);exact DC PySem.W.kitx_bool I.kIn True.intro e (λz=>nomatch z) h
 |int i=>obtain⟨t,q⟩:=(show ∃ t,u=Value.int i t from rx);cases q;exact DC PySem.W.kitx_int I.kIn True.intro e (λz=>nomatch z) h
 |str y=>obtain⟨t,q⟩:=(show ∃ t,u=Value.str y t from rx);cases q;exact DC PySem.W.kitx_str I.kIn True.intro e (λz=>nomatch z) h
 |flt y=>obtain⟨t,q⟩:=(show ∃ t,u=Value.float y t from rx);cases q;exact DC PySem.W.kitx_float I.kIn True.intro e (λz=>nomatch z) h
 |@lst a xs ea=>
  cases(show u=Value.ref a from rx);obtain⟨_,_,n,_,h1⟩:=(show Yu X.prog X.w H s.heap a (.lst xs)from I.ab a _ ea)
  exact DC kitx_list I.kIn ⟨_,h1,rfl⟩ e (λz=>nomatch z) h
 |@frz a ob xs ea=>
  cases(show u=Value.ref a from rx);obtain⟨_,_,_,n,_,h1⟩:=(show Yu X.prog X.w H s.heap a (.frz ob (.lst xs))from I.ab a _ ea)
  exact DC kitx_list I.kIn ⟨_,h1,rfl⟩ e (λz=>nomatch z) h
 |@tup a xs ea=>
  cases(show u=Value.ref a from rx);obtain⟨_,_,_,p,_⟩:=(show Yu X.prog X.w H s.heap a (.tup xs)from I.ab a _ ea)
  obtain⟨o,h1,h2,_⟩:=p;exact DC kitx_tuple I.kIn ⟨o,h1,h2⟩ e (λz=>nomatch z) h
 |@dK a kvs ea=>
  cases(show u=Value.ref a from rx);obtain⟨_,_,vs,_,p⟩:=(show Yu X.prog X.w H s.heap a (.dK kvs)from I.ab a _ ea)
  obtain⟨o,es,ep,h1,h2,_⟩:=p;exact DC kitx_dict I.kIn ⟨o,h1,h2.1⟩ e (λz=>nomatch z) h
 |@dT a kvs ea=>
  cases(show u=Value.ref a from rx);obtain⟨_,_,xs,_,o,es,ep,h1,h2,_⟩:=(show Yu X.prog X.w H s.heap a (.dT kvs)from I.ab a _ ea)
  exact DC kitx_dict I.kIn ⟨o,h1,h2.1⟩ e (λz=>nomatch z) h
 |@ins a C dx fs ea cl ha hn htk hm=>cases(show u=Value.ref a from rx);obtain⟨mA,O,_⟩:=zaS I.ab ea;obtain⟨od,J,_⟩:=O.look;exact DC (PySem.W.kitx_own (cl.get _) cl.hd ha hn htk hm) I.kIn J e (λz=>nomatch z) h
end
structure Wt(k:Nat)(A:Around):Prop where
 hd:A.handled=none
 dp:A.depth+2*k+5<recursionLimit
 un:A.units+16*k+200<cLine
def Wt.mono{j:Nat}(r:Wt k A)(h:j<=k):Wt j A:=⟨r.hd,by have:=r.dp;omega,by have:=r.un;omega⟩
theorem Wt.deeper(r:Wt (k+1) A)(env:Env):Wt k (A.deeper env):=⟨r.hd,by have:=r.dp;show A.depth+1+2*k+5<_;omega,by have:=r.un;show A.units+3+16*k+200<_;omega⟩
theorem Wt.in1(r:Wt (k+1) A):Wt k A.in1:=⟨r.hd,by have:=r.dp;show A.depth+2*k+5<_;omega,by have:=r.un;show A.units+1+16*k+200<_;omega⟩
def zd1 :(A.under (.builtin "type.__call__" ⟨.ref C::us,kw⟩)).depth=A.depth+1:=by first | rfl | simp[Around.under,Code.weight,Code.isCreation,Code.isGuard,Code.isCaller,Code.frames,Code.isFrame,guardIds]
def zdX :(A.under (.builtin "type.__call__" ⟨.ref C::us,kw⟩)).units=A.units+1:=by first | rfl | simp[Around.under,Code.cUnits,Code.frames,Code.isFrame]
def Wt.make(r:Wt (k+1) A)(C:AD)(us:List Value)(kw:List (Str×Value)):Wt k (A.under (.builtin "type.__call__" ⟨.ref C::us,kw⟩)):=⟨r.hd,by have:=r.dp;rw[zd1];omega,by have:=r.un;rw[zdX];omega⟩
theorem Wt.depth(r:Wt k A):A.depth<recursionLimit:=by have:=r.dp;omega
theorem Wt.units(r:Wt k A):A.units+64<cLine:=by have:=r.un;omega
def V5:TA:=λ_ H Q=>Q [] H
def YQ(ta:TE)(tr:TA):TA:=fun σ H Q=>ta σ H λx H1=>tr σ H1 λxs H2=>Q (x::xs) H2
section
variable {X:Cx}{e:Expr}{es:List Expr}{te:TE}{t:TA}{pos:Pos}
def Ze:PA X [] V5:=λ_ _ _ _ H Q I h=>spliced_nil ⟨[],H,I,.nil,h⟩
def Za(ha:PE X e te)(hr:PA X es t)(hs:starEach (e::es) X.env=(false,eval e X.env)::starEach es X.env:=by rfl):PA X (e::es) (YQ te t):=by intro pos aa s σ H Q I h;rw[hs];show wpAny _ _ (spliced ((false,eval e X.env)::backTo pos (starEach es X.env))) _ _ s;refine Dw (thn (ha aa s σ H _ I h) λu s1 ⟨x,H1,I1,r1,q1⟩=>?_);exact thn (hr pos aa s1 σ H1 _ I1 q1) λus s2 ⟨xs,H2,I2,r2,q2⟩=>⟨x::xs,H2,I2,.cons r1 r2,q2⟩
def zmN(t:TA):TE:=fun σ H Q=>t σ H λxs H1=>xs.length<=sizeLine/\∀ p,H1 p=none->Q (.ref p) (upd H1 p (.tup xs))
def zmL(t:TA):TE:=fun σ H Q=>t σ H λxs H1=>xs.length<=sizeLine/\∀ p,H1 p=none->Q (.ref p) (upd H1 p (.lst xs))
def YD{x1}(h:PA X es t):PE X (.Tuple es x1 pos) (zmN t):=by intro aa s σ H Q I hq;refine wpAny_Tuple_spliced (thn (h pos aa s σ H _ I hq) λus s1 ⟨xs,H1,I1,r,z,q⟩=>⟨by rw[← r.length];exact z,?_⟩);have hf:H1 s1.heap.objs.size=none:=I1.ab.fresh (Ih _);refine⟨.ref s1.heap.objs.size,upd H1 s1.heap.objs.size (.tup xs),I1.laid (t':=s1.toks) (λb u e=>Ig _ e) (Ih _) ?_,rfl,q _ hf⟩;exact⟨z,us,r,⟨_,Iu _ rfl,rfl,_,rfl⟩,_,Iu _ rfl,rfl⟩
def Yl(h:PA X es t):PE X (.List es pos) (zmL t):=by intro aa s σ H Q I hq;refine wpAny_List_spliced (thn (h pos aa s σ H _ I hq) λus s1 ⟨xs,H1,I1,r,z,q⟩=>⟨by rw[← r.length];exact z,?_⟩);have hf:H1 s1.heap.objs.size=none:=I1.ab.fresh (Ih _);refine⟨.ref s1.heap.objs.size,upd H1 s1.heap.objs.size (.lst xs),I1.laid (t':=s1.toks) (λb u e=>Ig _ e) (Ih _) ?_,rfl,q _ hf⟩;exact⟨z,us,0,r,Iu _ rfl⟩
end
abbrev Sp:=List V->Hp->VK->XK->Prop
abbrev CXT:=List Env->Hp->SH->XK->Value->SH->Prop
structure zgy(P:Program)(w:World)(K:FG)(mg:Str->Option Value)(base:Heap)(A:Around)(outer:List Env)(s:SH)(H:Hp):Prop where
 frames:A.frames=some outer
 mod:Mod K mg base
 bs:∀ b o,base.get? b=some o->s.heap.get? b=some o/\H b=none
 bsz:base.objs.size<=s.heap.objs.size
 zcd:s.heap.FunFrames base outer
 frf:∀ b∈frs outer,H b=none
 ab:HOk P w H s.heap
 bare:AllBare s.gens
def CE(outer:List Env)(P:Program)(w:World)(H:Hp)(s:SH)(Q:VK)(u:Value)(s' : SH):Prop:=∃ v H',s'.os=s.os/\AllBare s'.gens/\Un (frs outer) [] H H' s.heap s'.heap/\HOk P w H' s'.heap/\RelV v u/\Q v H'
def CR(CX:CXT)(outer:List Env)(P:Program)(w:World)(H:Hp)(s:SH)(Q:VK)(E:XK)(r:Result)(s' : SH):Prop:=
 match r with
 |.ok (.ret u)=>CE outer P w H s Q u s'
 |.ok _=>False
 |.error e=>CX outer H s E e s'
structure Wb(P:Program)(w:World)(K:FG)(mg:Str->Option Value)(base:Heap)(CX:CXT)(k:Nat)(f:AD)(fd:FuncData)(ps:List Str)(sp:Sp):Prop where
 len:∀ vs H Q E,sp vs H Q E->vs.length=ps.length
 run:∀(A:Around)(outer:List Env)(s:SH)(H:Hp)(args:Args)(us:List Value)(vs:List V)(Q:VK)(E:XK),Wt k A->zgy P w K mg base A outer s H->BindsTo s fd args (ps.zip us)->Vals vs us->sp vs H Q E->
  codeAny (model P w) A (.call (.ref f) args) (CR CX outer P w H s Q E) s
theorem Wb.mono{P:Program}{w:World}{K:FG}{mg:Str->Option Value}{base:Heap}{CX:CXT}{j:Nat}{sp:Sp}(F:Wb P w K mg base CX j f fd ps sp)(h:j<=k):
  Wb P w K mg base CX k f fd ps sp:=⟨F.len,λA outer s H args us vs Q E hr=>F.run A outer s H args us vs Q E (hr.mono h)⟩
def Wb.imp{P:Program}{w:World}{K:FG}{mg:Str->Option Value}{base:Heap}{CX:CXT}{sp sp' : Sp}(F:Wb P w K mg base CX k f fd ps sp)(h:∀ vs H Q E,sp' vs H Q E->sp vs H Q E):Wb P w K mg base CX k f fd ps sp' :=
 ⟨λvs H Q E q=>F.len vs H Q E (h _ _ _ _ q),λA outer s H args us vs Q E hr he hb hv hs=>F.run A outer s H args us vs Q E hr he hb hv (h _ _ _ _ hs)⟩
def zgy.make{P:Program}{w:World}{K:FG}{mg:Str->Option Value}{base:Heap}{H:Hp}(e:zgy P w K mg base A outer s H)(C:AD)(us:List Value)(kw:List (Str×Value)):
  zgy P w K mg base (A.under (.builtin "type.__call__" ⟨.ref C::us,kw⟩)) outer s H:=⟨by first | exact e.frames | (simpa [Around.under,Code.envs,Code.isFrame,pushEnvs]using e.frames),e.mod,e.bs,e.bsz,e.zcd,e.frf,e.ab,e.bare⟩
section
variable {X:Cx}{aa:List (AD×Obj)}{σ:St}{H:Hp}{s s' : SH}
def Inv.env0(I:Inv X aa σ H s):zgy X.prog X.w X.K X.mg X.base X.A X.stack s H:=⟨I.ok.frames,I.ok.mod,I.bs,IH I.ok.bsz I.sz,I.stack,I.zeM,I.ab,I.bare⟩
def Inv.after{Q:VK}{u:Value}(I:Inv X aa σ H s)(h:CE X.stack X.prog X.w H s Q u s'):EP X aa σ Q u s':=by obtain⟨v,H',os,bare,un,ab,r,q⟩:=h;obtain⟨hh,g,d,t,os'⟩:=s';obtain rfl:os'=s.os:=os;exact⟨v,H',I.call (h':=hh) (g':=g) (d':=d) (t':=t) (ch:=[]) un ab bare (λb z=>absurd z (by simp)),r,q⟩
end
def Vn(sp:Sp)(dvs:List V)(E:XK)(t:TA):TE:=fun σ H Q=>t σ H λvs H1=>sp (vs++dvs) H1 Q E
def zje(C:AD)(m:Str)(sp:Sp)(dvs:List V)(E:XK)(ta:TE)(t:TA):TE:=fun σ H Q=>ta σ H λx H1=>∃ a dx fs,x = .ref a/\H1 a=some (.ins C dx fs)/\fs.lookup m=none/\
 t σ H1 λvs H2=>sp (x::(vs++dvs)) H2 Q E
def zkU(C:AD)(sp:Sp)(dvs:List V)(E:XK)(t:TA):TE:=fun σ H Q=>t σ H λvs H1=>∀ x dx,H1 x=none->H1 dx=none->dx≠x->
 sp (.ref x::(vs++dvs)) (upd (upd H1 dx (.own x)) x (.ins C dx [])) (λv H2=>v = .non/\Q (.ref x) H2) E
def Binds(K:FG)(fd:FuncData)(ps:List Str)(ds:List Value):Prop:=∀(s:SH)(us:List Value),K.In s.heap->(us++ds).length=ps.length->BindsTo s fd ⟨us,[]⟩ (ps.zip (us++ds))
def Binds.all{K:FG}(h:∀ us:List Value,us.length=ps.length->bindArgs fd ⟨us,[]⟩=pure (ps.zip us)):Binds K fd ps []:=λs us _ hl=>by rw[Nx]at hl ⊢;exact .of_eq (h us hl)
def zat(CX:CXT)(X:Cx)(E:XK):Prop:=∀(aa:List (AD×Obj))(σ:St)(H:Hp)(s:SH)(e:Value)(s' : SH),Inv X aa σ H s->CX X.stack H s E e s' -> X.xe e s'
section
variable {X:Cx}{CX:CXT}{k:Nat}{f C:AD}{fd:FuncData}{ps:List Str}{sp:Sp}{dvs:List V}{ds:List Value}{E:XK}{x m:Str}{p pos apos:Pos}{e o:Expr}{es:List Expr}{ta:TE}{t:TA}
def zig{σ:St}{H:Hp}{Q:VK}{vs:List V}(F:Wb X.prog X.w X.K X.mg X.base CX k f fd ps sp)(hr:Wt k X.A)(hb:Binds X.K fd ps ds)(hd:Vals dvs ds)(hx:zat CX X E)(I:Inv X aa σ H s)(r:Vals vs us)(h:sp (vs++dvs) H Q E):wpAny (model X.prog X.w) X.A (call (.ref f) us) (EP X aa σ Q) X.xe s:=by
 have r2:Vals (vs++dvs) (us++ds):=r.append hd;have hl:(us++ds).length=ps.length:=by rw[← r2.length];exact F.len _ _ _ _ h
 refine wpAny_call (OC (F.run X.A X.stack s H ⟨us,[]⟩ (us++ds) (vs++dvs) Q E hr I.env0 (hb s us I.kIn hl) r2 h) λr s' hq=>?_);cases r with
 |error e=>exact hx aa σ H s e s' I hq
 |ok fl=>
  cases fl with
  |ret u=>exact I.after hq
  |next=>exact False.elim hq
  |brk=>exact False.elim hq
  |cont=>exact False.elim hq
def zfn(F:Wb X.prog X.w X.K X.mg X.base CX k f fd ps sp)(hr:Wt k X.A)(hg:Gl X x)(hm:X.mg x=some (.ref f))(hk:keepIn X.K (.ref f)=true)(hb:Binds X.K fd ps ds)(hd:Vals dvs ds)(hx:zat CX X E)(ha:PA X (e::es) t)(hdb:(x==("__debug__" : Str))=false:=by decide)(he:starEach (e::es) X.env=(false,eval e X.env)::starEach es X.env:=by rfl)(hpl:(backTo pos (starEach es X.env)).any (·.1)=false:=by rfl):
  PE X (.Call (.Name x p) (e::es) [] pos) (Vn sp dvs E t):=by
 intro aa s σ H Q I h;refine Nr (zfk I hg hm ?_ hdb);refine callWith_K (h₀:=X.base) I.ok.mod.kin hk (thn (ha pos aa s σ H _ I h) λus s1 ⟨vs,H1,I1,r,q⟩=>⟨I1.kIn,?_⟩) he hpl;exact zig F hr hb hd hx I1 r q
def Qq(he:PE X o ta)(c:Cls X.K C)(hm:Meth X.K C m f)(F:Wb X.prog X.w X.K X.mg X.base CX k f fd ps sp)(hr:Wt k X.A)(hb:Binds X.K fd ps ds)(hd:Vals dvs ds)(hx:zat CX X E)(ha:PA X (e::es) t)(hst:starEach (e::es) X.env=(false,eval e X.env)::starEach es X.env:=by rfl)(hpl:(backTo pos (starEach es X.env)).any (·.1)=false:=by rfl)(ht:eval (.Call (.Attribute o m apos) (e::es) [] pos) X.env=(do
   let ov ← eval o X.env
   standAt apos.atName
   let (f,first) ← holding [ov] (getMethod ov m pl)
   callWith pos f first (backTo pos (starEach (e::es) X.env)) (backToKw pos (keywordEach [] X.env))):=by rfl):
  PE X (.Call (.Attribute o m apos) (e::es) [] pos) (zje C m sp dvs E ta t):=by
 intro aa s σ H Q I h;refine PySem.W.methodCall_KW (pl:=pl) (thn (he aa s σ H _ I h) λu s1 ⟨x,H1,I1,rx,a,dx,fs,ex,ea,l,q⟩=>?_) ht;subst ex;obtain rfl:u=Value.ref a:=rx;refine zdP I1 ea c hm l ?_;refine callWith_K (first:=[.ref a]) (h₀:=X.base) I.ok.mod.kin hm.kp (thn (ha pos aa s1 σ H1 _ I1 q) λus s2 ⟨vs,H2,I2,r,q2⟩=>⟨I2.kIn,?_⟩) hst hpl;exact zig (us:=.ref a::us) (vs:=.ref a::vs) F hr hb hd hx I2 (.cons rfl r) q2
structure Mk(K:FG)(C f:AD):Prop where
 makes:makesIn K C=true
 init:findIn K (.ref C) "__init__" = some (some (.ref f))
 fn:PySem.W.isFn K (.ref f)=true
 kp:keepIn K (.ref C)=true
def zhZ{σ:St}{H:Hp}{Q:VK}{vs:List V}(M:Mk X.K C f)(F:Wb X.prog X.w X.K X.mg X.base CX k f fd ps sp)(hr:Wt (k+1) X.A)(hb:Binds X.K fd ps ds)(hd:Vals dvs ds)(hx:zat CX X E)(I:Inv X aa σ H s)(r:Vals vs us)(h:∀ x dx,H x=none->H dx=none->dx≠x->sp (.ref x::(vs++dvs)) (upd (upd H dx (.own x)) x (.ins C dx [])) (λv H2=>v = .non/\Q (.ref x) H2) E):
  wpAny (model X.prog X.w) X.A (call (.ref C) us) (EP X aa σ Q) X.xe s:=by
 have hq:=h (s.heap.objs.size+1) s.heap.objs.size (I.ab.fresh (le_succ _)) (I.ab.fresh (Ih _)) (IX (OB _));have I2:=Inv.made (C:=C) I;have r2:Vals (V.ref (s.heap.objs.size+1)::(vs++dvs)) (Value.ref (s.heap.objs.size+1)::(us++ds)):=.cons rfl (r.append hd);have hl:(Value.ref (s.heap.objs.size+1)::us++ds).length=ps.length:=by have e:=r2.length;rw[F.len _ _ _ _ hq]at e;exact e.symm
 refine wpAny_call (zhP (f:=f) I.kIn M.makes M.init (Oz.mp M.fn) (OC (F.run _ X.stack _ _ ⟨Value.ref (s.heap.objs.size+1)::us,[]⟩ (Value.ref (s.heap.objs.size+1)::(us++ds)) _ _ E (hr.make C us [])
  (I2.env0.make C us []) (hb _ (Value.ref (s.heap.objs.size+1)::us) I2.kIn hl) r2 hq) λr s' hq' => ?_))
 cases r with
 |error e=>exact hx aa σ _ _ e s' I2 hq'
 |ok fl=>
  cases fl with
  |ret u=>obtain⟨v,H',I3,rv,ev,q3⟩:=I2.after hq';subst ev;exact⟨rv,⟨V.ref (s.heap.objs.size+1),H',I3,rfl,q3⟩⟩
  |next=>exact False.elim hq'
  |brk=>exact False.elim hq'
  |cont=>exact False.elim hq'
def zhD(M:Mk X.K C f)(F:Wb X.prog X.w X.K X.mg X.base CX k f fd ps sp)(hr:Wt (k+1) X.A)(hg:Gl X x)(hm:X.mg x=some (.ref C))(hb:Binds X.K fd ps ds)(hd:Vals dvs ds)(hx:zat CX X E)(hdb:(x==("__debug__" : Str))=false:=by decide):PE X (.Call (.Name x p) [] [] pos) (zkU C sp dvs E V5):=by
 intro aa s σ H Q I h;refine Nr (zfk I hg hm ?_ hdb);exact PySem.W.callWith_K0 I.kIn M.kp (zhZ (us:=[]) M F hr hb hd hx I .nil h)
end
def PK(X:Cx)(kws:List Keyword)(t:TA):Prop:=∀(pos:Pos)(aa:List (AD×Obj))(s:SH)(σ:St)(H:Hp)(Q:List V->Hp->Prop),Inv X aa σ H s->t σ H Q->wpAny (model X.prog X.w) X.A (evalAll ((backToKw pos (keywordEach kws X.env)).map (·.2))) (AP X aa σ Q) X.xe s
section
variable {X:Cx}{CX:CXT}{k:Nat}{f C:AD}{fd:FuncData}{ps ks:List Str}{sp:Sp}{E:XK}{x m:Str}{p pos apos kpos:Pos}{e o:Expr}{es:List Expr}{kws:List Keyword}{te ta:TE}{t tk:TA}{nm:Option Str}
def zh2:PK X [] V5:=λ_ _ _ _ H Q I h=>wpAny_evalAll_nil ⟨[],H,I,.nil,h⟩
def zeq(ha:PE X e te)(hr:PK X kws t):PK X (⟨nm,e,kpos⟩::kws) (YQ te t):=by intro pos aa s σ H Q I h;show wpAny _ _ (evalAll ((do let v ← eval e X.env;standAt pos;pure v)::(backToKw pos (keywordEach kws X.env)).map (·.2))) _ _ s;refine wpAny_evalAll_cons (Ia (thn (ha aa s σ H _ I h) λu s1 ⟨x,H1,I1,r1,q1⟩=>Ia (Dz (Ic ?_))));exact thn (hr pos aa s1 σ H1 _ I1 q1) λus s2 ⟨xs,H2,I2,r2,q2⟩=>⟨x::xs,H2,I2,.cons r1 r2,q2⟩
variable {g:List Value->List Value->List Value}{gV:List V->List V->List V}
end
structure ZD(N P:List Str)(sc:Scope):Prop where
 kind:sc.kind = .function
 co:sc.isCoroutine=false
 gen:sc.isGenerator=false
 nd:N.Nodup
 pre:N.take P.length=P
 par:∀ x∈P,sc.names.lookup x=some .local\/sc.names.lookup x=some .cell
 nofree:∀ y∈sc.names,y.2≠.free
theorem zb2 :∀{binds:List (Str×Value)}{m:Str->Option Value},(∀ v,(x,v)∉binds)->bindL kindOf binds m x=m x
 |[],_,_=>rfl
 |(n,v)::r,m,h=>by
  unfold bindL;rw[zb2 λw hw=>h w (Im _ hw)];split
  .have:x≠n:=by rintro rfl;exact h v Ir
   simp[this]
  .rfl
theorem zbG :∀{binds:List (Str×Value)}{m:Str->Option Value},(∀ v,(x,v)∉binds)->bindC kindOf binds m x=m x
 |[],_,_=>rfl
 |(n,v)::r,m,h=>by
  unfold bindC;rw[zbG λw hw=>h w (Im _ hw)];split
  .rfl
  .have:x≠n:=by rintro rfl;exact h v Ir
   simp[this]
theorem zbW{v:Value}:∀{P:List Str}{vs:List Value}{i:Nat}{m:Str->Option Value},P.Nodup->P[i]?=some x->vs[i]?=some v->kindOf x=some .local->
  bindL kindOf (P.zip vs) m x=some v
 |[],_,_,_,_,h,_,_=>by simp at h
 |_::_,[],_,_,_,_,h,_=>by simp at h
 |p::P,w::vs,0,m,nd,h1,h2,hk=>by simp at h1 h2;subst h1;subst h2;show bindL kindOf ((p,w)::P.zip vs) m p=_;unfold bindL;rw[zb2 λv hv=>(NT.mp nd).1 (of_mem_zip hv).1,Iz hk];simp
 |p::P,w::vs,i+1,m,nd,h1,h2,hk=>by show bindL kindOf ((p,w)::P.zip vs) m x=_;unfold bindL;exact zbW (i:=i) (NT.mp nd).2 (by simpa using h1) (by simpa using h2) hk
theorem zbn{v:Value}:∀{P:List Str}{vs:List Value}{i:Nat}{m:Str->Option Value},P.Nodup->P[i]?=some x->vs[i]?=some v->kindOf x≠some .local->
  bindC kindOf (P.zip vs) m x=some v
 |[],_,_,_,_,h,_,_=>by simp at h
 |_::_,[],_,_,_,_,h,_=>by simp at h
 |p::P,w::vs,0,m,nd,h1,h2,hk=>by simp at h1 h2;subst h1;subst h2;show bindC kindOf ((p,w)::P.zip vs) m p=_;unfold bindC;rw[zbG λv hv=>(NT.mp nd).1 (of_mem_zip hv).1,Iq hk];simp
 |p::P,w::vs,i+1,m,nd,h1,h2,hk=>by show bindC kindOf ((p,w)::P.zip vs) m x=_;unfold bindC;exact zbn (i:=i) (NT.mp nd).2 (by simpa using h1) (by simpa using h2) hk
noncomputable def start(N:List Str)(vs:List V):St:=vs.map some++List.replicate (N.length-vs.length) none
noncomputable def zca(CX:CXT)(P:Program)(w:World)(K:FG)(mg:Str->Option Value)(base:Heap)(N:List Str)(qual:Str)(scope:Scope)(f:AD)(cd:Value)(A:Around)(outer:List Env)(s:SH)(H:Hp)(E:XK):Cx where
 prog:=P
 w:=w
 K:=K
 mg:=mg
 base:=base
 A:=A.deeper (envOfC qual scope s.heap.objs.size f cd)
 N:=N
 s₀:=s
 H₀:=H
 env:=envOfC qual scope s.heap.objs.size f cd
 outer:=outer
 stack:=envOfC qual scope s.heap.objs.size f cd::outer
 ex:=[]
 calm:=true
 fn:=λ_=>true
 pn:=[]
 xe:=λe s' => wpAny (model P w) (A.deeper (envOfC qual scope s.heap.objs.size f cd)) (leaving (envOfC qual scope s.heap.objs.size f cd) e) (λ_ s'' => CX outer H s E e s'') (λe' s'' => CX outer H s E e' s'') s'
def zc4{sc:Scope}{n:Nat}(h:sc.names.lookup x=some .cell):∃ c,(cellsFrom n sc.names []).lookup x=some c:=by have q:=PySem.W.cellsFrom_some sc.names n [] (.inl h);exact Dm.mp q
def zfa{CX:CXT}{P:Program}{w:World}{K:FG}{mg:Str->Option Value}{base:Heap}{N:List Str}{qual:Str}{cd:Value}{s1:SH}{H:Hp}{E:XK}{vs:List V}(S:ZD N ps scope)(hd:A.handled=none)(e0:zgy P w K mg base A outer s H)(hl:vs.length=ps.length)(r:Vals vs us)(x:InCallC s s.heap.objs.size (bindL (envOfC qual scope s.heap.objs.size f cd).kindOf (ps.zip us) λ_=>none) (cellsFrom (s.heap.objs.size+1) scope.names []) (bindC (envOfC qual scope s.heap.objs.size f cd).kindOf (ps.zip us) λ_=>none) s1):
  Inv (zca CX P w K mg base N qual scope f cd A outer s H E) [] (start N vs) H s1:=by
 have hpl:ps.length<=N.length:=by have:=ND List.length S.pre;rw[OE]at this;omega
 obtain⟨h1,tk,rfl,hk⟩:=x.done;have noA:∀ b:AD,b∉(zca CX P w K mg base N qual scope f cd A outer s H E).ex:=λb z=>absurd (show b∈([]:List AD)from z) (by simp);refine⟨⟨e0.mod,S.kind,rfl,rfl,Ih _,λy z c h1 h2=>?_,λy hy=>?_,λy c _ h=>?_,λ_=>hd,Around.frames_deeper e0.frames,.inr ⟨rfl,rfl⟩,λb z=>absurd z (noA b),e0.bs,e0.bsz,λb _ _=>noA b,λb z=>absurd z (noA b),e0.zcd,e0.frf⟩,
  rfl,e0.bare,Un.kept hk,⟨_,x.toInCall.ns,λi y v h1 h2 h3=>?_⟩,λy c h=>⟨_,x.cell y c h⟩,e0.ab.fresh (Ih _),λy c h=>?_,λp hp=>absurd (show p∈([]:List (AD×Obj))from hp) (by simp),e0.ab.kept hk,?_⟩
 .exact name_of_addr x.apart (NG h1) (NG h2)
 .have hy:scope.names.lookup y=some .cell\/scope.names.lookup y=some .free:=hy;rcases hy with hy | hy
  .exact zc4 hy
  .exact absurd rfl (S.nofree _ (NG hy))
 .exact Op (x.above y c (NG h))
 .have hi:i<vs.length:=by
   unfold start at h2;by_cases hi:i<vs.length
   .exact hi
   .rw[Ni (by simpa using hi)]at h2;rw[List.getElem?_replicate]at h2;split at h2 <;> cases h2
  have ha:vs[i]?=some v:=by
   unfold start at h2;rw[Ng (by simpa using hi),Ik]at h2;cases e:vs[i]? with
   |none=>rw[e]at h2;cases h2
   |some a=>rw[e]at h2;cases h2;rfl
  obtain⟨u,hu,rv⟩:=r.get ha;have hp:ps[i]?=some y:=by rw[← S.pre,List.getElem?_take_of_lt (by omega)];exact h1
  have ndP:ps.Nodup:=by rw[← S.pre];exact S.nd.sublist (List.take_sublist _ _)
  refine⟨u,rv,?_⟩;rcases S.par y (IM hp)with k | k
  .exact .inl ⟨k,zbW ndP hp hu k⟩
  .obtain⟨c,e⟩:=zc4 (n:=s.heap.objs.size+1) k;refine .inr ⟨.inl k,c,e,?_⟩;have q:=x.cell y c e;rw[zbn ndP hp hu (by show scope.names.lookup y≠_;rw[k];decide)]at q;exact q
 .exact e0.ab.fresh (Op (x.above y c (NG h)))
 .unfold start;show _=N.length;rw[Il,Ie,Nl];omega
def zmm{CX:CXT}{P:Program}{w:World}{K:FG}{mg:Str->Option Value}{base:Heap}{name qual:Str}{params:Arguments}{dV kV doc pm cdv ct oc:Value}{an od:Option AD}{osl:Array (Option Value)}{N ps:List Str}{sp:Sp}(lk:K.lookup f=some ⟨oc,od,.func (PySem.W.fnOf name qual params body scope dV kV doc pm an cdv ct),osl⟩)(hcd:codeIn K cdv qual=true)(S:ZD N ps scope)(len:∀ vs H Q E,sp vs H Q E->vs.length=ps.length)(hbody:∀(A:Around)(outer:List Env)(s:SH)(H:Hp)(vs:List V)(Q:VK)(E:XK),Wt k (A.deeper (envOfC qual scope s.heap.objs.size f cdv))->sp vs H Q E->
   ∃ t,PSs (zca CX P w K mg base N qual scope f cdv A outer s H E) body t/\t {nx:=λ_ H' => Q .non H',rt:=Q} (start N vs) H):
  Wb P w K mg base CX (k+1) f (PySem.W.fnOf name qual params body scope dV kV doc pm an cdv ct) ps sp:=by
 refine⟨len,λA outer s H args us vs Q E hr e0 hb r hsp=>?_⟩;have hl:=len _ _ _ _ hsp;have KX:K.In s.heap:=e0.mod.kin.keeps λb o e=>(e0.bs b o e).1;have lim:s.heap.NoLimit:=e0.mod.nolimit.keeps λb o e=>(e0.bs b o e).1;have hkind:∀ y∈ps.zip us,scope.names.lookup y.1=some .local\/(scope.names.lookup y.1=some .cell/\((cellsFrom (s.heap.objs.size+1) scope.names []).lookup y.1).isSome=true):=λ⟨n,v⟩ hy=>by
  rcases S.par n (of_mem_zip hy).1 with q | q
  .exact .inl q
  .exact .inr ⟨q,PySem.W.cellsFrom_some _ _ _ (.inl q)⟩
 refine codeAny_call_function hr.depth (KX _ _ lk) rfl S.co S.gen rfl (PySem.W.codeRec_of KX hcd) (hb _ _ _ _ ?_);refine wpAny_newFunctionEnv_cells S.kind hkind λenv he s1 x=>?_;subst he;refine⟨lim.keeps x.toInCall.keep,codeAny_func ?_⟩;obtain⟨t,ht,hq⟩:=hbody A outer s H vs Q E (hr.deeper _) hsp;have I:Inv (zca CX P w K mg base N qual scope f cdv A outer s H E) [] (start N vs) H s1:=zfa S hr.hd e0 hl r x;refine N0 (ht [] s1 (start N vs) H _ I hq) (λfl s' hs=>?_) λe s' hs=>hs;have fin:∀{σ' : St}{H' : Hp}{v:V}{u:Value},Inv (zca CX P w K mg base N qual scope f cdv A outer s H E) [] σ' H' s' -> RelV v u->Q v H' -> CE outer P w H s Q u s' :=λ{σ' H' v u} J rv q=>⟨v,H',J.os,J.bare,J.base,J.ab,rv,q⟩
 cases fl with
 |ret u=>obtain⟨v,σ',H',J,rv,q⟩:=hs;exact fin J rv q
 |next=>obtain⟨σ',H',J,q⟩:=hs;exact fin (v:=V.non) (u:=Value.none) J rfl q
 |brk=>obtain⟨_,_,_,q⟩:=hs;exact False.elim q
 |cont=>obtain⟨_,_,_,q⟩:=hs;exact False.elim q
section
variable {X:Cx}{x:Str}{p pos:Pos}{e:Expr}{es:List Expr}{t:TA}{id T:String}{r:List V->Hp->VK->Prop}
def tCB(r:List V->Hp->VK->Prop)(t:TA):TE:=fun σ H Q=>t σ H λvs H1=>r vs H1 Q
def ZF(hc:Jk X (.builtin id) r)(hg:Gl X x)(hm:X.mg x=none)(hv:bootBuiltins x=some (.builtin id))(ha:PA X (e::es) t)(hn:x≠ "__name__" := by decide)(hdb:(x==("__debug__" : Str))=false:=by decide)(he:starEach (e::es) X.env=(false,eval e X.env)::starEach es X.env:=by rfl)(hpl:(backTo pos (starEach es X.env)).any (·.1)=false:=by rfl):PE X (.Call (.Name x p) (e::es) [] pos) (tCB r t):=by
 intro aa s σ H Q I h;refine Nr (Wo I hg hm hv ?_ hn hdb);exact PyProof.Rows.callWith_builtin1 (thn (ha pos aa s σ H _ I h) λus s1 ⟨vs,H1,I1,r1,q1⟩=>hc aa s1 σ H1 vs us Q I1 r1 q1) he hpl
def Z6(hc:Jk X (.type T) r)(hg:Gl X x)(hm:X.mg x=none)(hv:bootBuiltins x=some (.type T))(ha:PA X (e::es) t)(hn:x≠ "__name__" := by decide)(hdb:(x==("__debug__" : Str))=false:=by decide)(he:starEach (e::es) X.env=(false,eval e X.env)::starEach es X.env:=by rfl)(hpl:(backTo pos (starEach es X.env)).any (·.1)=false:=by rfl):PE X (.Call (.Name x p) (e::es) [] pos) (tCB r t):=by
 intro aa s σ H Q I h;refine Nr (Wo I hg hm hv ?_ hn hdb);exact Nm (thn (ha pos aa s σ H _ I h) λus s1 ⟨vs,H1,I1,r1,q1⟩=>hc aa s1 σ H1 vs us Q I1 r1 q1) he hpl
end
end L2
namespace HT
open PySem PyProof.Rows
section
variable {prog:Program}{w:World}{A:Around}{E:Value->SH->Prop}{s:SH}
def zfz{t b:AD}{vs ws:List Value}{Q:Value->SH->Prop}(ht:IsTup s.heap t vs.toArray)(hb:IsTup s.heap b ws.toArray)(hv:vs≠[])(h1:ws=[]->Q (.ref t) s)(h2:ws≠[]->Q (.ref s.heap.objs.size) {s with heap:=s.heap.push {cls:=.type "tuple",data:=.seq (vs++ws).toArray}})(hsz:vs.length+ws.length<=sizeLine):wpAny (model prog w) A (binaryOp .Add (.ref t) (.ref b)) Q E s:=by
 obtain⟨⟨cls,dd,data,sl⟩,ho,hc,n,hd⟩:=id ht;obtain⟨⟨cls2,dd2,data2,sl2⟩,ho2,hc2,n2,hd2⟩:=id hb;simp only at hc hd hc2 hd2;subst hc hd hc2 hd2;have e:vs.toArray++ws.toArray=(vs++ws).toArray:=by simp
 by_cases hw:ws=[]
 .exact concat_meets ⟨_,ho,rfl⟩ ⟨_,ho2,rfl⟩ noFill_tuple_add seq_tuple_add PySem.F.slot_tuple_add PySem.F.entry_tuple_add (PySem.F.args_tuple_add_2 _ _)
   (tuple_addW1 t b vs.toArray ws.toArray n n2 dd dd2 sl sl2 (by simpa using hv) (by simp[hw])) ⟨ho,ho2,h1 hw⟩
 .refine concat_meets ⟨_,ho,rfl⟩ ⟨_,ho2,rfl⟩ noFill_tuple_add seq_tuple_add PySem.F.slot_tuple_add PySem.F.entry_tuple_add (PySem.F.args_tuple_add_2 _ _)
   (tuple_addW2 t b vs.toArray ws.toArray n n2 dd dd2 sl sl2 (by simpa using hv) (by simpa using hw) (by rw[ID,ID];exact hsz)) ⟨ho,ho2,?_⟩
  rw[e];exact h2 hw
noncomputable def sIx(n d:Nat):Option Int->Nat
 |none=>d
 |some v=>if v<0 then(v+(n:Int)).toNat else min v.toNat n
def zl3(n d:Nat)(hd:d<=n)(o:Option Int):sIx n d o<=n:=by
 cases o with
 |none=>exact hd
 |some v=>
  show(if v<0 then(v+(n:Int)).toNat else min v.toNat n)<=n;by_cases hv:v<0
  .rw[Iz hv];omega
  .rw[Iq hv];exact Nat.min_le_right _ _
def zfR(v:Int)(n d:Nat):(if v<0 then max (v+(n:Int)) 0 else min v (n:Int))=((sIx n d (some v):Nat):Int):=by
 show(if v<0 then max (v+(n:Int)) 0 else min v (n:Int))=(((if v<0 then(v+(n:Int)).toNat else min v.toNat n):Nat):Int)
 by_cases hv:v<0
 .simp only[Iz hv];omega
 .simp only[Iq hv];omega
def zdG(lo hi:Option Int)(n:Nat):Builtin.Slice.sliceAdjust lo hi 1 (n:Int)=(((sIx n 0 lo:Nat):Int),((sIx n n hi:Nat):Int)):=by
 have h1:¬ ((1:Int)<0):=by omega
 unfold Builtin.Slice.sliceAdjust;simp only[h1,IY];refine DA ?_ ?_
 .cases lo with
  |none=>rfl
  |some v=>exact zfR v n 0
 .cases hi with
  |none=>rfl
  |some v=>exact zfR v n n
def zdW(i j:Nat):Builtin.Slice.slicePlaces (i:Int) (j:Int) 1=j-i:=by
 unfold Builtin.Slice.slicePlaces;have h1:(1:Int)>0:=by omega
 simp only[h1,Om,Int.ediv_one];split <;> omega
def zax{v:Value}{o:Option Int}{Q:Option Int->SH->Prop}(p:IsPart v o)(h:Q o s):wpAny (model prog w) A (Builtin.Slice.slicePartIndex v) Q E s:=by
 cases p with
 |none=>exact slicePart_none h
 |int i t=>exact slicePart_int h
def Jy{sl:AD}{vl vu:Value}{lo hi:Option Int}{n:Nat}{Q:Int×Int×Nat->SH->Prop}(hs:s.heap.IsSliceOf sl vl vu .none)(pl:IsPart vl lo)(pu:IsPart vu hi)(h:Q (((sIx n 0 lo:Nat):Int),1,sIx n n hi-sIx n 0 lo) s):wpAny (model prog w) A (Builtin.Slice.sliceApplied (.ref sl) (pure (n:Int))) Q E s:=by
 obtain⟨os,hos,hcs,hds⟩:=id hs;unfold Builtin.Slice.sliceApplied Builtin.Slice.sliceFields;refine Ia (Ia (Dp hos hds (x:=vl) rfl (Ia (Dp hos hds (x:=vu) rfl (Ia (Dp hos hds (x:=.none) rfl (Ic ?_)))))));refine Ia (slicePart_none ?_);show wpAny _ _ (if((1:Int)==0)=true then _ else _) _ _ s;rw[Iq (by decide)];refine Ia (zax pl (Ia (zax pu (Ia (Ic ?_)))));show wpAny _ _ (match Builtin.Slice.sliceAdjust lo hi 1 (n:Int)with | (lo,hi)=>pure (lo,(1:Int),Builtin.Slice.slicePlaces lo hi 1)) _ _ s;rw[zdG lo hi n];show wpAny _ _ (pure (((sIx n 0 lo:Nat):Int),(1:Int),Builtin.Slice.slicePlaces ((sIx n 0 lo:Nat):Int) ((sIx n n hi:Nat):Int) 1)) _ _ s;rw[zdW];exact Ic h
def zgY(xs:Array Value)(i k:Nat):((List.range k).filterMap λ(m:Nat)=>xs[((i:Int)+(m:Int)*1).toNat]?).toArray=((xs.toList.drop i).take k).toArray:=by
 have e:(λ(m:Nat)=>xs[((i:Int)+(m:Int)*1).toNat]?)=λm=>xs[i+m]?:=by
  funext m;have:((i:Int)+(m:Int)*1).toNat=i+m:=by omega
  rw[this]
 rw[e];have:=pick_run xs i k;rw[List.filterMap_map]at this;have e2:((λx=>xs[x]?)∘λx=>i+x)=λm=>xs[i+m]?:=rfl;rw[e2]at this;rw[this]
def Vj{t sl:AD}{items:Array Value}{vl vu:Value}{lo hi:Option Int}{Q:Value->SH->Prop}(ht:IsTup s.heap t items)(hs:s.heap.IsSliceOf sl vl vu .none)(pl:IsPart vl lo)(pu:IsPart vu hi)(hw:¬ (sIx items.size 0 lo=0/\sIx items.size items.size hi=items.size))(h:Q (.ref s.heap.objs.size) {s with heap:=s.heap.push {cls:=.type "tuple",data:=.seq ((items.toList.drop (sIx items.size 0 lo)).take (sIx items.size items.size hi-sIx items.size 0 lo)).toArray}})(hsz:items.size<=sizeLine):wpAny (model prog w) A (getItem (.ref t) (.ref sl)) Q E s:=by
 have htake:sizeOk (.seq ((items.toList.drop (sIx items.size 0 lo)).take (sIx items.size items.size hi-sIx items.size 0 lo)).toArray):=by show((items.toList.drop (sIx items.size 0 lo)).take (sIx items.size items.size hi-sIx items.size 0 lo)).toArray.size<=sizeLine;rw[ID,OE,length_drop,IQ];omega
 have hj:sIx items.size items.size hi<=items.size:=zl3 _ _ (Ih _) hi;obtain⟨os,hos,hcs,hds⟩:=id hs;have hTs:s.TypeIs (.ref sl) "slice" := ⟨os,hos,hcs⟩
 unfold getItem
 try with_reducible refine I9 ?_
 first | refine Ia (Ic ?_) | skip
 refine Ia (wpAny_sequenceKey ht.typeIs (by decide) ?_);refine Ia (Ny (name:=Str.ofString "__getitem__") ht.typeIs Oi
  (Nn Oi ht.typeIs entry_tuple_getitem ?_ (args_tuple_getitem _ _)))
 show wpAny _ _ (Builtin.Tuple.tupleItemsOf (.ref t) >>= _) _ _ s;refine Ia (tupleItemsOf_ ht ?_);refine Ia (Db hTs ?_);rw[Iz (by decide)];refine Ia (Jy hs pl pu ?_);have hno:¬ ((((sIx items.size 0 lo:Nat):Int)==0&&(1:Int)==1&&(sIx items.size items.size hi-sIx items.size 0 lo)==items.size)=true):=by intro q;rw[NR,NR]at q;have q1:((sIx items.size 0 lo:Nat):Int)=0:=eq_of_beq q.1.1;have q2:sIx items.size items.size hi-sIx items.size 0 lo=items.size:=eq_of_beq q.2;exact hw ⟨by omega,by omega⟩
 show wpAny _ _ (if(((sIx items.size 0 lo:Nat):Int)==0&&(1:Int)==1&&(sIx items.size items.size hi-sIx items.size 0 lo)==items.size)=true then _ else _) _ _ s;rw[Iq hno,zgY]
 first
  |exact Ia (m:=Builtin.Tuple.tupleExact _) (Na (Ic ⟨_,rfl,Ic h⟩) htake)
  |exact Ia (m:=Builtin.Tuple.tupleExact _) (Na (Ia (Ic (Ic ⟨_,rfl,Ic h⟩))) htake)
  |exact Ia (Ia (m:=Builtin.Tuple.tupleExact _) (Na (Ic (Ic ⟨_,rfl,Ic h⟩)) htake))
  |exact Ia (Ia (m:=Builtin.Tuple.tupleExact _) (Na (Ic ⟨_,rfl,Ic h⟩) htake))
end
end HT
namespace L2
open PySem PySem.Spec PyProof.Rows
variable {xs:List V}{α:Type}{aa:List (AD×Obj)}{its:List Value}
abbrev TO:=St->Hp->(Option Int->Hp->Prop)->Prop
def PO(X:Cx)(e:Option Expr)(t:TO):Prop:=
 ∀(aa:List (AD×Obj))(s:SH)(σ:St)(H:Hp)(Q:Option Int->Hp->Prop),Inv X aa σ H s->t σ H Q->
  wpAny (model X.prog X.w) X.A (evalPart e X.env) (λu s' => ∃ o H',Inv X aa σ H' s' /\ IsPart u o/\Q o H') X.xe s
def zei:TO:=λ_ H Q=>Q none H
def zkJ(t:TE):TO:=fun σ H Q=>t σ H λx H1=>∃ i,x = .int i/\Q (some i) H1
def intsAre_of{ns:List Int}:∀{us:List Value},Vals (ns.map V.int) us->IntsAre us ns:=by
 induction ns with
 |nil=>intro us r;rw[map_nil]at r;cases r;exact .nil
 |cons n ns ih=>
  intro us r;rw[Nt]at r;cases r with
  |cons r1 r2=>obtain⟨t,e⟩:=r1;subst e;exact .cons n t (ih r2)
section
variable {X:Cx}{e:Expr}{te:TE}{lo hi:Option Expr}{tl th:TO}{pos p2:Pos}
def zeH:PO X none zei:=by intro aa s σ H Q I h;rw[evalPart_none];exact Ic ⟨none,H,I,.none,h⟩
def zfu(h:PE X e te):PO X (some e) (zkJ te):=by intro aa s σ H Q I hw;rw[evalPart_some];refine thn (h aa s σ H _ I hw) λu s1 ⟨x,H1,I1,r1,q1⟩=>?_;obtain⟨i,rfl,q⟩:=q1;obtain⟨t,rfl⟩:=r1;exact⟨some i,H1,I1,.int i t,q⟩
def SlR(X:Cx)(r:V->Option Int->Option Int->Hp->VK->Prop):Prop:=
 ∀(aa:List (AD×Obj))(s:SH)(σ:St)(H:Hp)(x:V)(v vl vu:Value)(lo hi:Option Int)(sl:AD)(Q:VK),Inv X aa σ H s->RelV x v->s.heap.IsSliceOf sl vl vu .none->IsPart vl lo->IsPart vu hi->r x lo hi H Q->
  ∃ T id,typeLookup (.type T) "__getitem__" = pure (some (.builtin id))/\s.TypeIs v T/\wpAny (model X.prog X.w) X.A (getItem v (.ref sl)) (EP X aa σ Q) X.xe s
def tSl(r:V->Option Int->Option Int->Hp->VK->Prop)(te:TE)(tl th:TO):TE:=fun σ H Q=>te σ H λx H1=>tl σ H1 λl H2=>th σ H2 λu H3=>r x l u H3 Q
def zdn{r:V->Option Int->Option Int->Hp->VK->Prop}(hr:SlR X r)(he:PE X e te)(hl:PO X lo tl)(hu:PO X hi th):PE X (.Subscript e (.Slice lo hi none p2) pos) (tSl r te tl th):=by intro aa s σ H Q I h;refine Subscript_ (thn (he aa s σ H _ I h) λv s1 ⟨x,H1,I1,r1,q1⟩=>?_);refine wpAny_Slice (thn (hl aa s1 σ H1 _ I1 q1) λvl s2 ⟨l,H2,I2,pl,q2⟩=>thn (hu aa s2 σ H2 _ I2 q2) λvu s3 ⟨u,H3,I3,pu,q3⟩=>?_);rw[evalPart_none];refine Ic ?_;have I4:Inv X aa σ H3 {s3 with heap:=s3.heap.push {cls:=.type "slice",data:=.fields #[vl,vu,.none]}}:=I3.kept (t':=s3.toks) λb ob q=>Ig _ q;obtain⟨T,id,hT,ht,hg⟩:=hr aa {s3 with heap:=s3.heap.push {cls:=.type "slice",data:=.fields #[vl,vu,.none]}} σ H3 x v vl vu l u s3.heap.objs.size Q I4 r1 (Heap.IsSliceOf.new ..) pl pu q3;show wpAny (model X.prog X.w) X.A (subscriptTail e (.Slice lo hi none p2) v (.ref s3.heap.objs.size)) (EP X aa σ Q) X.xe {s3 with heap:=s3.heap.push {cls:=.type "slice",data:=.fields #[vl,vu,.none]}};exact tail_any (ops:=[.ref s3.heap.objs.size,v]) ht hT hg (by with_unfolding_all rfl)
noncomputable def zeL(xs:List V)(lo hi:Option Int):List V:=(xs.drop (HT.sIx xs.length 0 lo)).take (HT.sIx xs.length xs.length hi-HT.sIx xs.length 0 lo)
def Ux(xs:List V)(lo hi:Option Int):(zeL xs lo hi).length<=xs.length:=by unfold zeL;rw[OE,length_drop];omega
def zol(K:FG):V->Option Int->Option Int->Hp->VK->Prop:=λx lo hi H Q=>∃ a xs,x = .ref a/\SqT K H a xs/\
 ¬ (HT.sIx xs.length 0 lo=0/\HT.sIx xs.length xs.length hi=xs.length)/\∀ p,H p=none->Q (.ref p) (upd H p (.tup (zeL xs lo hi)))
def zkI:SlR X (zol X.K):=by
 intro aa s σ H x v vl vu lo hi sl Q I rx hs pl pu h;obtain⟨a,xs,rfl,hx,hw,q⟩:=h;cases rx;obtain⟨its,r,ht,hz⟩:=I.tuple hx;have hlen:its.toArray.size=xs.length:=by rw[ID];exact r.length.symm
 refine⟨"tuple",_,PyProof.Rows.slot_tuple_getitem.lookup,ht.typeIs,?_⟩;refine HT.Vj ht hs pl pu (by rw[hlen];exact hw) ?_ (by rw[hlen];exact hz);rw[hlen];refine⟨.ref s.heap.objs.size,_,I.laid (t':=s.toks) (o:=.tup (zeL xs lo hi)) (λb ob q=>Ig _ q) (Ih _) ?_,rfl,q _ (I.ab.fresh (Ih _))⟩;exact⟨IH (Ux xs lo hi) hz,_,(r.drop (HT.sIx xs.length 0 lo)).take (HT.sIx xs.length xs.length hi-HT.sIx xs.length 0 lo),IsTup.new _ _,_,Iu _ rfl,rfl⟩
def zni(K:FG):R2:=λx y H Q=>∃ a b xs ys,x = .ref a/\y = .ref b/\SqT K H a xs/\SqT K H b ys/\xs≠[]/\xs.length+ys.length<=sizeLine/\
 (ys=[]->Q (.ref a) H)/\(ys≠[]->∀ p,H p=none->Q (.ref p) (upd H p (.tup (xs++ys))))
def Vals.JX{us:List Value}(r:Vals xs us):us=[]↔xs=[]:=by
 cases r with
 |nil=>simp
 |cons _ _=>simp
def zks:OpR X (binaryOp .Add) (zni X.K):=by intro aa s σ H x y v u Q I rx ry h;obtain⟨a,b,xs,ys,rfl,rfl,ha,hb,hx,hz,q1,q2⟩:=h;cases rx;cases ry;obtain⟨its,r1,p1,_⟩:=I.tuple ha;obtain⟨its2,r2,p2,_⟩:=I.tuple hb;refine HT.zfz p1 p2 (λz=>hx (r1.JX.mp z)) (λz=>⟨.ref a,H,I,rfl,q1 (r2.JX.mp z)⟩) (λz=>?_) (by rw[← r1.length,← r2.length];exact hz);refine⟨.ref s.heap.objs.size,_,I.laid (t':=s.toks) (o:=.tup (xs++ys)) (λb ob q=>Ig _ q) (Ih _) ?_,rfl,q2 (λw=>z (r2.JX.mpr w)) _ (I.ab.fresh (Ih _))⟩;exact⟨by rw[Il];exact hz,_,r1.append r2,IsTup.new _ _,_,Iu _ rfl,rfl⟩
end
noncomputable def ixN(n:Nat)(i:Int):Option Nat:=if 0<=i then(if i<n then some i.toNat else none)else if -(n:Int)<=i then some (i+n).toNat else none
noncomputable def atI{α:Type}(xs:List α)(i:Int):Option α:=(ixN xs.length i).bind λj=>xs[j]?
def zcn{n:Nat}{i:Int}{j:Nat}(h:ixN n i=some j):seqIndex? i n=some j/\j<n/\-(n:Int)<=i/\i<n:=by
 unfold ixN at h;by_cases h0:0<=i
 .rw[Iz h0]at h;by_cases h1:i<n
  .rw[Iz h1]at h;have e:i.toNat=j:=IA h;exact⟨by rw[seqIndex_of h0 h1,e],by omega,by omega,h1⟩
  .rw[Iq h1]at h;cases h
 .rw[Iq h0]at h;by_cases h1:-(n:Int)<=i
  .rw[Iz h1]at h;have e:(i+n).toNat=j:=IA h;exact⟨by rw[seqIndex_neg (by omega) h1,e],by omega,h1,by omega⟩
  .rw[Iq h1]at h;cases h
def zfF{xs:List α}{i:Int}{v:α}(h:atI xs i=some v):∃ j,seqIndex? i xs.length=some j/\xs[j]?=some v/\j<xs.length/\-(xs.length:Int)<=i/\i<xs.length:=by
 unfold atI at h;cases e:ixN xs.length i with
 |none=>rw[e]at h;cases h
 |some j=>rw[e]at h;obtain⟨h1,h2,h3,h4⟩:=zcn e;exact⟨j,h1,h,h2,h3,h4⟩
def zjL(b:Expr):Prop:=∀ o i,subscripted b false o i=operate [o,i] (getItem o i)
def IxR(X:Cx)(r:R2):Prop:=
 ∀(value slice:Expr)(aa:List (AD×Obj))(s:SH)(σ:St)(H:Hp)(x y:V)(v u:Value)(Q:VK),Inv X aa σ H s->RelV x v->RelV y u->r x y H Q->
  subscripted slice false v u=operate [v,u] (getItem v u)->wpAny (model X.prog X.w) X.A (subscriptTail value slice v u) (EP X aa σ Q) X.xe s
def MtR(X:Cx)(id:String)(r:V->List V->Hp->VK->Prop):Prop:=
 ∀(aa:List (AD×Obj))(s:SH)(σ:St)(H:Hp)(x:V)(xs:List V)(v:Value)(us:List Value)(Q:VK),Inv X aa σ H s->RelV x v->Vals xs us->r x xs H Q->
  wpAny (model X.prog X.w) X.A (call (.builtin id) (v::us)) (EP X aa σ Q) X.xe s
section
variable {X:Cx}{a b:Expr}{ta tb:TE}{pos:Pos}
def Yp{r:R2}(hr:IxR X r)(ha:PE X a ta)(hb:PE X b tb)(hs:zjL b):PE X (.Subscript a b pos) (tOp r ta tb):=by intro aa s σ H Q I h;exact Subscript_ (zng ha hb I h λv u s2 x y H2 I2 rx ry q=>hr a b aa s2 σ H2 x y v u Q I2 rx ry q (hs _ _))
def zmj(K:FG):R2:=λx y H Q=>∃ p xs i v,x = .ref p/\y = .int i/\SqL K H p xs/\atI xs i=some v/\Q v H
def zkz(K:FG):R2:=λx y H Q=>∃ p xs i v,x = .ref p/\y = .int i/\SqT K H p xs/\atI xs i=some v/\Q v H
def zjM:IxR X (zmj X.K):=by
 intro value slice aa s σ H x y v u Q I rx ry h hs;obtain⟨p,xs,i,z,rfl,rfl,hq,he,q⟩:=h;cases rx;obtain⟨t,rfl⟩:=ry;obtain⟨its,r,pl,hz⟩:=I.list hq;obtain⟨j,h1,h2,h3,h4,h5⟩:=zfF he;obtain⟨w,ew,rw'⟩:=r.get h2;have hl:=r.length;have hn:=zdh;have fin:EP X aa σ Q w s:=⟨z,H,I,rw',q⟩
 by_cases h0:0<=i
 .have hj:i.toNat=j:=by rw[seqIndex_of h0 h5]at h1;exact IA h1
  exact item_listR pl.isList h0 (by omega) (by rw[hj];simpa using ew) fin hs
 .have hj:(i+(its.toArray.size:Int)).toNat=j:=by rw[seqIndex_neg (by omega) h4]at h1;rw[ID,← hl];exact IA h1
  exact subscriptTail_builtinR (x:=w) pl.isList.typeIs slot_list_getitem.lookup
   (wpAny_getItem_list_neg (Q:=λr s' => r=w/\EP X aa σ Q r s') pl.isList (by omega) (by rw[ID] <;> omega) (by omega) (by rw[hj];simpa using ew) ⟨rfl,fin⟩) hs
def zkG:IxR X (zkz X.K):=by
 intro value slice aa s σ H x y v u Q I rx ry h hs;obtain⟨p,xs,i,z,rfl,rfl,hq,he,q⟩:=h;cases rx;obtain⟨t,rfl⟩:=ry;obtain⟨its,r,pl,hz⟩:=I.tuple hq;obtain⟨j,h1,h2,h3,h4,h5⟩:=zfF he;obtain⟨w,ew,rw'⟩:=r.get h2;have hl:=r.length;have hn:=zdh;have fin:EP X aa σ Q w s:=⟨z,H,I,rw',q⟩
 exact subscriptTail_builtinR (x:=w) pl.typeIs slot_tuple_getitem.lookup
  (getItem_tuple (j:=j) (Q:=λr s' => r=w/\EP X aa σ Q r s') pl (by omega) (by omega) (by rw[ID,← hl];exact h1) (by simpa using ew) ⟨rfl,fin⟩) hs
def zdT(its:List Value)(n j:Nat)(u:Value):Obj.mapSeq (·.setIfInBounds j u) {cls:=.type "list",data:=.seq its.toArray n}={cls:=.type "list",data:=.seq (its.set j u).toArray n}:=by simp[Obj.mapSeq]
theorem Inv.lst{σ:St}{H:Hp}{s:SH}{p:AD}(I:Inv X aa σ H s)(h:H p=some (.lst xs)):
  ∃(its:List Value)(n:Nat),Vals xs its/\s.heap.get? p=some {cls:=.type "list",data:=.seq its.toArray n}/\xs.length<=sizeLine:=by
 obtain⟨z,its,n,r,e⟩:=I.ab p _ h;exact⟨its,n,r,e,z⟩
def Inv.zlb{σ:St}{H:Hp}{s:SH}{p:AD}{ys:List V}{its':List Value}{n n' : Nat}{f:Obj->Obj}(I:Inv X aa σ H s)(h:H p=some (.lst xs))(ho:s.heap.get? p=some {cls:=.type "list",data:=.seq its.toArray n})(hf:f {cls:=.type "list",data:=.seq its.toArray n}={cls:=.type "list",data:=.seq its'.toArray n'})(r:Vals ys its')(hz:ys.length<=sizeLine)(t:Nat):
  Inv X aa σ (upd H p (.lst ys)) {s with heap:=s.heap.update p f,toks:=t}:=by
 have e:(s.heap.update p f).get? p=some {cls:=.type "list",data:=.seq its'.toArray n'}:=by rw[NI f ho (by rw[hf] <;> rfl),hf]
 refine I.write (x:=p) (e:=p) (by rw[h];trivial) (.inl rfl) (λb u hb q=>(Nb _ _ (Ne.symm hb)).trans q) ⟨_,e⟩ ?_;exact⟨hz,its',n',r,e⟩
def zln:V->V->V->Hp->(Hp->Prop)->Prop:=λo i v H Q=>∃ p xs k j,o = .ref p/\i = .int k/\H p=some (.lst xs)/\ixN xs.length k=some j/\Q (upd H p (.lst (xs.set j v)))
def set_list:znP X zln:=by
 intro aa s σ H o i v ov iv u Q I ro ri rv h;obtain⟨p,xs,k,j,rfl,rfl,hp,hj,q⟩:=h;cases ro;obtain⟨t,rfl⟩:=ri;obtain⟨its,n,r,ho,hz⟩:=I.lst hp;obtain⟨h1,h2,h3,h4⟩:=zcn hj;have hl:=r.length;have hn:=zdh;have I' : Inv X aa σ (upd H p (.lst (xs.set j v))) {s with heap:=s.heap.update p (Obj.mapSeq (·.setIfInBounds j u))}:=I.zlb hp ho (zdT its n j u) (r.set rv j) (by rw[Ob];exact hz) s.toks
 by_cases h0:0<=k
 .have hk:k.toNat=j:=by rw[seqIndex_of h0 h4]at h1;exact IA h1
  exact PySem.W.ki_setAt ho h0 (by omega) (by rw[ID,← hl];exact h4) (by rw[hk];exact⟨_,I',q⟩)
 .have hk:(k+(its.toArray.size:Int)).toNat=j:=by rw[seqIndex_neg (by omega) h3]at h1;rw[ID,← hl];exact IA h1
  exact PySem.W.ki_setBack ho (by omega) (by rw[ID,← hl];exact h3) (by omega) (by rw[hk];exact⟨_,I',q⟩)
def zbA(lo hi:Option Int)(n:Nat):(sliceBounds lo hi none n).1=((HT.sIx n 0 lo:Nat):Int)/\(sliceBounds lo hi none n).2.1=((HT.sIx n n hi:Nat):Int)/\(sliceBounds lo hi none n).2.2=1:=by
 refine⟨?_,?_,rfl⟩
 .cases lo with
  |none=>simp[sliceBounds,HT.sIx]
  |some i=>
   simp only[sliceBounds,HT.sIx,Option.getD_none,show(1:Int)>0 by decide,Om];by_cases h:i<0
   .simp only[h,Om] <;> omega
   .simp only[h,IY] <;> omega
 .cases hi with
  |none=>simp[sliceBounds,HT.sIx]
  |some i=>
   simp only[sliceBounds,HT.sIx,Option.getD_none,show(1:Int)>0 by decide,Om];by_cases h:i<0
   .simp only[h,Om] <;> omega
   .simp only[h,IY] <;> omega
def zaM(its:List Value)(lo hi:Option Int):slicePick its.toArray lo hi none=((its.drop (HT.sIx its.length 0 lo)).take (HT.sIx its.length its.length hi-HT.sIx its.length 0 lo)).toArray:=by obtain⟨h1,h2,h3⟩:=zbA lo hi its.toArray.size;unfold slicePick;rw[h1,h2,h3];simp only[sliceRange_one,pick_run,ID] <;> rfl
def zmW(K:FG):V->Option Int->Option Int->Hp->VK->Prop:=λx lo hi H Q=>∃ a xs,x = .ref a/\SqL K H a xs/\∀ p,H p=none->Q (.ref p) (upd H p (.lst (zeL xs lo hi)))
def zkr:SlR X (zmW X.K):=by intro aa s σ H x v vl vu lo hi sl Q I rx hs pl pu h;obtain⟨a,xs,rfl,hx,q⟩:=h;cases rx;obtain⟨its,r,ht,hz⟩:=I.list hx;have hlen:=r.length;refine⟨"list",_,slot_list_getitem.lookup,ht.isList.typeIs,?_⟩;refine wpAny_getItem_list_slice ht.isList hs pl pu .none (by simp) ?_ (by rw[ID] <;> omega);rw[zaM,← hlen];refine⟨.ref s.heap.objs.size,_,I.laid (t':=s.toks) (o:=.lst (zeL xs lo hi)) (λb ob q=>Ig _ q) (Ih _) ?_,rfl,q _ (I.ab.fresh (Ih _))⟩;exact⟨IH (Ux xs lo hi) hz,_,0,(r.drop (HT.sIx xs.length 0 lo)).take (HT.sIx xs.length xs.length hi-HT.sIx xs.length 0 lo),Iu _ rfl⟩
def zb3:Jk X (.builtin "len") (λxs H Q=>∃ p ys,xs=[.ref p]/\(SqL X.K H p ys\/SqT X.K H p ys)/\Q (.int ys.length) H):=by
 intro aa s σ H xs us Q I r h;obtain⟨p,ys,rfl,hq,q⟩:=h;obtain⟨u,rfl,rx⟩:=vals1 r;cases rx;have hn:=zdh;rcases hq with hq | hq
 .obtain⟨its,r',pl,hz⟩:=I.list hq;have hlen:=r'.length;exact Calls.call_len_list pl.isList (by simp only[ID] <;> omega) ⟨.int ys.length,H,I.tok _,⟨s.toks+1,by rw[ID,hlen]⟩,q⟩
 .obtain⟨its,r',pl,hz⟩:=I.tuple hq;have hlen:=r'.length;exact len_tuple pl (by simp only[ID] <;> omega) ⟨.int ys.length,H,I.tok _,⟨s.toks+1,by rw[ID,hlen]⟩,q⟩
def zbw:Jk X (.type "list") (λxs H Q=>∃ p ys,xs=[.ref p]/\(SqL X.K H p ys\/SqT X.K H p ys)/\∀ l,H l=none->Q (.ref l) (upd H l (.lst ys))):=by
 intro aa s σ H xs us Q I r h;obtain⟨p,ys,rfl,hq,q⟩:=h;obtain⟨u,rfl,rx⟩:=vals1 r;cases rx;have fin:∀(its:List Value),Vals ys its->ys.length<=sizeLine->∀(h' : Heap)(c' : Nat),(∀ b o',s.heap.get? b=some o' -> h'.get? b=some o')->
   h'.get? s.heap.objs.size=some {cls:=.type "list",dict:=none,data:=.seq its.toArray c',slots:=#[]}->EP X aa σ Q (.ref s.heap.objs.size) {s with heap:=h'}:=λits r' hz h' c' kp e=>
  ⟨.ref s.heap.objs.size,_,I.laid (t':=s.toks) kp (Ih _) (show Yu X.prog X.w _ h' _ (.lst ys)from⟨hz,its,c',r',e⟩),rfl,q _ (I.ab.fresh (Ih _))⟩
 rcases hq with hq | hq
 .obtain⟨its,r',pl,hz⟩:=I.list hq;have hlen:=r'.length;obtain⟨o,ho,hc,n,hd⟩:=pl.isList;exact call_list_seq p (.inl rfl) ho hc hd (λh' c' kp e=>fin its r' hz h' c' kp e) (by simp only[ID] <;> omega)
 .obtain⟨its,r',pl,hz⟩:=I.tuple hq;have hlen:=r'.length;obtain⟨o,ho,hc,n,hd⟩:=pl;exact call_list_seq p (.inr rfl) ho hc hd (λh' c' kp e=>fin its r' hz h' c' kp e) (by simp only[ID] <;> omega)
def zbc:Jk X (.type "tuple") (λxs H Q=>∃ p ys,xs=[.ref p]/\((SqL X.K H p ys/\∀ l,H l=none->Q (.ref l) (upd H l (.tup ys)))\/(SqT X.K H p ys/\Q (.ref p) H))):=by
 intro aa s σ H xs us Q I r h;obtain⟨p,ys,rfl,h⟩:=h;obtain⟨u,rfl,rx⟩:=vals1 r;cases rx;rcases h with⟨hq,q⟩ | ⟨hq,q⟩
 .obtain⟨its,r',pl,hz⟩:=I.list hq;have hlen:=r'.length;refine call_tuple_list pl.isList (λh' kp=>?_) (by simp only[ID] <;> omega);have I1:Inv X aa σ H {s with heap:=h'}:=I.kept (t':=s.toks) kp;have I2:Inv X aa σ (upd H h'.objs.size (.tup ys)) {s with heap:=h'.push {cls:=.type "tuple",data:=.seq its.toArray}}:=I1.laid (t':=s.toks) (λb o e=>Ig _ e) (Ih _) (show Yu X.prog X.w _ _ _ (.tup ys)from⟨hz,its,r',IsTup.new _ _,_,Iu _ rfl,rfl⟩)
  exact⟨.ref h'.objs.size,_,I2,rfl,q _ (I1.ab.fresh (Ih _))⟩
 .obtain⟨its,r',pl,hz⟩:=I.tuple hq;exact call_tuple_same pl ⟨.ref p,H,I,rfl,q⟩
def tyV(K:FG)(T:String)(x:V)(H:Hp):Prop:=match x with
 |.str _=>T = "str"
 |.int _=>T = "int"
 |.ref p=>(T = "list" /\ ∃ xs,SqL K H p xs)\/(T = "tuple" /\ ∃ o,K.lookup p=some o/\o.cls = .type "tuple" /\ o.dict=none)\/
   (T = "dict" /\ ((∃ kvs,H p=some (.dK kvs))\/∃ kvs,H p=some (.dT kvs)))\/(T = "set" /\ ∃ S n,H p=some (.set S n))
 |_=>False
def zlO{σ:St}{H:Hp}{s:SH}{T:String}{x:V}{v:Value}(I:Inv X aa σ H s)(r:RelV x v)(ty:tyV X.K T x H):
  s.TypeIs v T/\∀ a,v = .ref a->∃ ob,s.heap.get? a=some ob/\ob.dict=none:=by
 cases x with
 |str z=>obtain⟨t,rfl⟩:=r;cases(show T = "str" from ty);exact⟨typeIs_str s z t,λ_ e=>nomatch e⟩
 |int i=>obtain⟨t,rfl⟩:=r;cases(show T = "int" from ty);exact⟨typeIs_int s i t,λ_ e=>nomatch e⟩
 |ref p=>
  cases r;rcases ty with⟨rfl,xs,hq⟩ | ⟨rfl,o,hk,hc,hd⟩ | ⟨rfl,hk⟩ | ⟨rfl,S,n,hk⟩
  .obtain⟨its,_,pl,_⟩:=I.list hq;refine⟨pl.isList.typeIs,λa e=>?_⟩;cases e;obtain⟨o,n,e,c,hd,_⟩:=pl;exact⟨o,e,hd⟩
  .refine⟨⟨o,I.kIn p o hk,hc⟩,λa e=>?_⟩;cases e;exact⟨o,I.kIn _ o hk,hd⟩
  .have z:∃ o,s.heap.get? p=some o/\o.ExactDict:=by
    rcases hk with⟨kvs,hk⟩ | ⟨kvs,hk⟩
    .obtain⟨_,_,_,_,o,_,_,e,ex,_⟩:=I.ab p _ hk;exact⟨o,e,ex⟩
    .obtain⟨_,_,_,_,o,_,_,e,ex,_⟩:=I.ab p _ hk;exact⟨o,e,ex⟩
   obtain⟨o,e,ex⟩:=z;refine⟨⟨o,e,ex.1⟩,λa e2=>?_⟩;cases e2;exact⟨o,e,ex.2.1⟩
  .obtain⟨o,_,_,_,e,ex,_⟩:=I.ab p _ hk;refine⟨⟨o,e,ex.1⟩,λa e2=>?_⟩;cases e2;exact⟨o,e,ex.2.1⟩
 |_=>exact False.elim ty
def tBM(K:FG)(T:String)(r:V->List V->Hp->VK->Prop)(to:TE)(t:TA):TE:=fun σ H Q=>to σ H λx H1=>tyV K T x H1/\t σ H1 λxs H2=>r x xs H2 Q
variable {o e:Expr}{es:List Expr}{to:TE}{t:TA}{name:Str}{apos cpos:Pos}{T id:String}{r:V->List V->Hp->VK->Prop}
def zam(pa:PlainAttrs T)(slot:Slot T name id)(hty:typeOf (.builtin id)=pure (.type "method_descriptor"))(hm:MtR X id r)(ho:PE X o to)(ha:PA X (e::es) t)(hbase:attributeBase o name X.env (eval o X.env)=eval o X.env:=by rfl)(hfew:((backTo cpos (starEach (e::es) X.env)).all (λx=>!x.1)&&(backToKw cpos (keywordEach [] X.env)).all (λx=>x.1.isSome)
   && decide ((e::es).length+([]:List Keyword).length+(if([]:List Keyword).isEmpty then 0 else 1)<30))=true:=by rfl)(hline:(apos.endLine==cpos.line)=true:=by rfl)(hs:starEach (e::es) X.env=(false,eval e X.env)::starEach es X.env:=by rfl)(hplain:(backTo cpos (starEach es X.env)).any (·.1)=false:=by rfl):
  PE X (.Call (.Attribute o name apos) (e::es) [] cpos) (tBM X.K T r to t):=by
 intro aa s σ H Q I h;refine wpAny_Call_method_late hbase hfew hline rfl (thn (ho aa s σ H _ I h) λv s1 ⟨x,H1,I1,r1,ty,q1⟩=>?_);obtain⟨h1,h2⟩:=zlO I1 r1 ty;refine⟨T,id,pa,slot,hty,h1,h2,?_⟩;have hA:=ha cpos aa s1 σ H1 _ I1 q1;rw[hs]at hA ⊢;refine Calls.callWith_builtin (by show(false||(backTo cpos (starEach es X.env)).any (·.1))=false;rw[hplain] <;> rfl) (Calls.evalArgs_plain ?_);exact thn hA λus s2 ⟨vs,H2,I2,r2,q2⟩=>hm aa s2 σ H2 x vs v us Q I2 r1 r2 q2
end
def MtM(X:Cx)(id:String)(r:V->List V->Hp->VK->Prop):Prop:=
 ∀(aa:List (AD×Obj))(s:SH)(σ:St)(H:Hp)(x:V)(xs:List V)(v:Value)(us:List Value)(Q:VK),Inv X aa σ H s->RelV x v->Vals xs us->r x xs H Q->
  wpAny (model X.prog X.w) X.A (call (.builtin id) (v::us)) (EP X aa σ Q) X.xe s
theorem Vals.one:∀{x:V}{us:List Value},Vals [x] us->∃ u,us=[u]/\RelV x u
 |_,_,.cons r .nil=>⟨_,rfl,r⟩
theorem Vals.eraseIdx:∀{xs:List V}{us:List Value}(i:Nat),Vals xs us->Vals (xs.eraseIdx i) (us.eraseIdx i)
 |_,_,_,.nil=>.nil
 |_,_,0,.cons _ t=>t
 |_,_,i+1,.cons r t=>.cons r (Vals.eraseIdx i t)
theorem Vals.rep{us:List Value}(h:Vals xs us):∀ k:Nat,Vals (List.replicate k xs).flatten (List.replicate k us).flatten
 |0=>.nil
 |k+1=>by rw[Oq,Oq,Dc,Dc];exact Vals.append h (Vals.rep h k)
theorem zbZ :∀(l:List α)(i:Nat),(l.eraseIdx i).length<=l.length
 |[],_=>Ih _
 |_::_,0=>le_succ _
 |_::r,i+1=>Nat.succ_le_succ (zbZ r i)
theorem foldl_rep(its:List Value):∀(k:Nat)(acc:List Value),
  List.foldl (λx1 x2=>x1++x2) acc.toArray (List.replicate k its.toArray)=(acc++(List.replicate k its).flatten).toArray
 |0,acc=>by simp
 |k+1,acc=>by
  have e:acc.toArray++its.toArray=(acc++its).toArray:=by simp
  have e2:(acc++its)++(List.replicate k its).flatten=acc++(List.replicate (k+1) its).flatten:=by rw[Oq,Dc,OD]
  rw[← e2,← foldl_rep its k (acc++its),← e,Oq,Dd]
section
variable {X:Cx}{aa:List (AD×Obj)}{σ:St}{H:Hp}{s:SH}{l b:AD}{xs ys zs:List V}
def Inv.zmu{its':List Value}{n:Nat}{f:Array Value->Array Value}{t' : Nat}(I:Inv X aa σ H s)(hH:H l=some (.lst xs))(e:s.heap.get? l=some {cls:=.type "list",data:=.seq its.toArray n})(hf:f its.toArray=its'.toArray)(hv:Vals ys its')(hz:ys.length<=sizeLine):
  Inv X aa σ (upd H l (.lst ys)) {s with heap:=s.heap.update l (Obj.mapSeq f),toks:=t'}:=by
 have q:=PySem.IsL.update e f;rw[hf]at q;refine I.write (x:=l) (e:=l) (by rw[hH];exact trivial) (.inl rfl) (λb' u hb hu=>(Nb s.heap (Obj.mapSeq f) (Ne.symm hb)).trans hu) ⟨_,q⟩ ?_;exact⟨hz,its',_,hv,q⟩
def Inv.zns{t' : Nat}(I:Inv X aa σ H s)(hv:Vals ys its)(hz:ys.length<=sizeLine):
  Inv X aa σ (upd H s.heap.objs.size (.lst ys)) {s with heap:=s.heap.push {cls:=.type "list",data:=.seq its.toArray},toks:=t'}:=
 I.laid (λ_ _ q=>Ig _ q) (Ih _) ⟨hz,its,0,hv,Iu _ rfl⟩
theorem Inv.fresh(I:Inv X aa σ H s):H s.heap.objs.size=none:=I.ab.fresh (Ih _)
def Inv.zhG(I:Inv X aa σ H s)(hH:H l=some (.lst xs)):xs.length<=sizeLine/\∃(its:List Value)(n:Nat),Vals xs its/\xs.length=its.length/\s.heap.get? l=some {cls:=.type "list",data:=.seq its.toArray n}:=by obtain⟨z,its,n,r,e⟩:=I.ab l _ hH;exact⟨z,its,n,r,r.length,e⟩
def zc5{n:Nat}(h:n<=sizeLine):Builtin.List.listTooLong n=false:=by unfold Builtin.List.listTooLong;exact Ip (by omega)
end
section
variable {X:Cx}
def zej:V->List V->Hp->VK->Prop:=λx vs H Q=>∃ l xs y,x = .ref l/\vs=[y]/\H l=some (.lst xs)/\xs.length<sizeLine/\Q .non (upd H l (.lst (xs++[y])))
def XH:MtM X "list.append" zej:=by intro aa s σ H x vs v us Q I rx rv h;obtain⟨l,xs,y,rfl,rfl,hH,hz,q⟩:=h;cases rx;obtain⟨u,rfl,ru⟩:=rv.one;obtain⟨z,its,n,r,hl,e⟩:=I.zhG hH;refine ON F.slot_list_append ⟨_,e,rfl⟩ F.entry_list_append (F.args_list_append_2 _ _) (PySem.list_append l its.toArray n u (by rw[ID];omega)) ⟨e,?_⟩;refine⟨.non,_,I.zmu (its':=its++[u]) hH e (by simp) (r.append (.cons ru .nil)) ?_,rfl,q⟩;rw[Il,List.length_singleton];omega
def zfD:V->List V->Hp->VK->Prop:=λx vs H Q=>∃ l b xs zs,x = .ref l/\vs=[.ref b]/\H l=some (.lst xs)/\H b=some (.lst zs)/\xs.length+zs.length<=sizeLine/\Q .non (upd H l (.lst (xs++zs)))
def ze5:MtM X "list.extend" zfD:=by
 intro aa s σ H x vs v us Q I rx rv h;obtain⟨l,b,xs,zs,rfl,rfl,hH,hB,hz,q⟩:=h;cases rx;obtain⟨u,rfl,ru⟩:=rv.one;cases ru;obtain⟨z,its,n,r,hl,e⟩:=I.zhG hH;obtain⟨z2,its2,n2,r2,hl2,e2⟩:=I.zhG hB;have hsz:its.toArray.size+its2.toArray.size<=sizeLine:=by rw[ID,ID];omega
 have hlong:¬ (!its.toArray.isEmpty&&Builtin.List.listTooLong (its.toArray.size+its2.toArray.size))=true:=by rw[zc5 hsz,Dq];exact Ii
 refine ON F.slot_list_extend ⟨_,e,rfl⟩ F.entry_list_extend (F.args_list_extend_2 _ _)
  (AutoSeq1.list_extend_list_list_0 l its.toArray n b its2.toArray n2 hlong (by rw[ID];omega) (by omega)) ⟨e,e2,?_⟩
 refine⟨.non,_,I.zmu (its':=its++its2) hH e (by simp) (r.append r2) ?_,rfl,q⟩;rw[Il];omega
def zh7:V->List V->Hp->VK->Prop:=λx vs H Q=>∃ l xs i k y,x = .ref l/\vs=[.int i]/\H l=some (.lst xs)/\-(2^63)<=i/\i<2^63/\seqIndex? i xs.length=some k/\xs[k]?=some y/\Q y (upd H l (.lst (xs.eraseIdx k)))
def zhs:MtM X "list.pop" zh7:=by
 intro aa s σ H x vs v us Q I rx rv h;obtain⟨l,xs,i,k,y,rfl,rfl,hH,h1,h2,hk,hy,q⟩:=h;cases rx;obtain⟨u,rfl,ru⟩:=rv.one;obtain⟨t,rfl⟩:=ru;obtain⟨z,its,n,r,hl,e⟩:=I.zhG hH;obtain⟨w,hw,rw'⟩:=r.get hy;refine ON F.slot_list_pop ⟨_,e,rfl⟩ F.entry_list_pop (F.args_list_pop_2 _ _)
  (MeetsSeq.list_pop_at l its.toArray n i t k w (fitsIndex_both h1 h2) (by rw[ID,← hl];exact hk) (by rw[← NU];exact hw) (by rw[ID];omega)) ⟨e,?_⟩
 refine⟨y,_,I.zmu (its':=its.eraseIdx k) hH e ?_ (r.eraseIdx k) ?_,rw',q⟩
 .show its.toArray.eraseIdxIfInBounds k=(its.eraseIdx k).toArray;rw[List.eraseIdxIfInBounds_toArray]
 .have:=zbZ xs k;omega
def zm1:R2:=λx y H Q=>∃ l b xs zs,x = .ref l/\y = .ref b/\H l=some (.lst xs)/\H b=some (.lst zs)/\xs.length+zs.length<=sizeLine/\∀ p,H p=none->Q (.ref p) (upd H p (.lst (xs++zs)))
def Jw:OpR X (binaryOp .Add) zm1:=by
 intro aa s σ H x y v u Q I rx ry h;obtain⟨l,b,xs,zs,rfl,rfl,hH,hB,hz,q⟩:=h;cases rx;cases ry;obtain⟨z,its,n,r,hl,e⟩:=I.zhG hH;obtain⟨z2,its2,n2,r2,hl2,e2⟩:=I.zhG hB;refine PySem.P.add_list e e2 ?_ (by rw[ID,ID];omega);have ea:its.toArray++its2.toArray=(its++its2).toArray:=by simp
 rw[ea];exact⟨.ref _,_,I.zns (t':=s.toks) (r.append r2) (by rw[Il];omega),rfl,q _ I.fresh⟩
def znu:R2:=λx y H Q=>∃ l k xs,x = .ref l/\y = .int k/\H l=some (.lst xs)/\-(2^63)<=k/\k<2^63/\xs.length*k.toNat<=sizeLine/\
 ∀ p,H p=none->Q (.ref p) (upd H p (.lst (List.replicate k.toNat xs).flatten))
def len_rep(xs:List α)(k:Nat):(List.replicate k xs).flatten.length=k*xs.length:=by
 induction k with
 |zero=>simp
 |succ k ih=>rw[Oq,Dc,Il,ih,Dr,Nat.add_comm]
def zkQ:OpR X (binaryOp .Mult) znu:=by
 intro aa s σ H x y v u Q I rx ry h;obtain⟨l,k,xs,rfl,rfl,hH,h1,h2,hz,q⟩:=h;cases rx;obtain⟨t,rfl⟩:=ry;obtain⟨z,its,n,r,hl,e⟩:=I.zhG hH;have hlen:its.toArray.size*k.toNat<=sizeLine:=by rw[ID,← hl];exact hz
 have hcap:¬ its.toArray.size*k.toNat>(2^63-1) / 8:=by
  have:(sizeLine:Nat)<=(2^63-1) / 8:=by decide
  omega
 have hfit:¬ (!Builtin.List.listFitsIndex k)=true:=by rw[fitsIndex_both h1 h2];exact Ii
 have hlong:¬ Builtin.List.listTooLong (its.toArray.size*k.toNat)=true:=by rw[zc5 hlen];exact Ii
 have hnew:List.foldl (λx1 x2=>x1++x2) #[] (List.replicate (if its.toArray.isEmpty=true then 0 else k.toNat) its.toArray)=(List.replicate k.toNat its).flatten.toArray:=by
  have f0:∀ m:Nat,List.foldl (λx1 x2=>x1++x2) #[] (List.replicate m its.toArray)=(List.replicate m its).flatten.toArray:=λm=>by have:=foldl_rep its m [];rw[nil_append]at this;exact this
  rw[f0];cases its with
  |nil=>simp
  |cons a r' => rw[Iq (by simp)]
 refine wpAny_binaryOp_repeat_ref (T:= "list") (U:= "int") (by decide) ⟨_,e,rfl⟩ (λs' => typeIs_int s' k t) noFill_list_mul F.fills_int_mul F.slot_int_rmul repeat_list F.slot_int_index.lookup
  (ON F.slot_int_rmul (typeIs_int s k t) F.entry_int_rmul (F.args_int_rmul_2 _ _) (int___rmul___int_list k t l its.toArray n)
   ⟨e,rfl,⟨_,e,rfl⟩,ON F.slot_list_mul ⟨_,e,rfl⟩ F.entry_list_mul (F.args_list_mul_2 _ _) (AutoListH.list___mul___list_int_3 l its.toArray n k t hfit hcap hlong) ⟨e,?_⟩⟩)
 rw[hnew];exact⟨.ref _,_,I.zns (t':=s.toks) (r.rep k.toNat) (by rw[len_rep,mul_comm];exact hz),rfl,q _ I.fresh⟩
end
section
variable {prog:Program}{w:World}{A:Around}{E:Value->SH->Prop}{s:SH}
set_option maxRecDepth 100000 in
end
end L2
namespace Att
open PySem PySem.W PySem.Calls PyProof.Rows
def V9{P:Params}{h:Heap}:∀(ns:List Int)(vs:List Value),WellAll P h vs (ns.map WData.int)->IntsAre vs ns:=by
 intro ns
 induction ns with
 |nil=>intro vs w;rw[map_nil]at w;cases w;exact .nil
 |cons n ns ih=>
  intro vs w;rw[Nt]at w;cases w with
  |cons a b=>cases a;exact .cons _ _ (ih _ b)
def zgl{l:OpenLaw}{n:Nat}(hn:l.most=some n){P:Params}{h:Heap}{args:List WData}{vals:List Value}(hpre:l.row.toRowW.claim.pre args=true)(hwl:WellAll P h vals args):
  ∃ a vs ns,vals=[Value.ref a]/\args=[WData.list (ns.map WData.int)]/\h.get? a=some {cls:=.type "list",data:=.seq vs.toArray}/\IntsAre vs ns/\ns.length<=n:=by
 have hsh:WShape.hasAll [] args [.list .int]=true:=(pre_splitW hpre).1;have hc:l.pre.holds [] {args:=args}=true:=(pre_splitW hpre).2;obtain⟨d,r,rfl,h1,h2⟩:=hasAllW_cons hsh;obtain rfl:=hasAllW_nil h2;obtain⟨xs,rfl,h3⟩:=hasW_list h1;obtain⟨ns,rfl⟩:=items_int h3;have hlen:ns.length<=n:=by
  unfold OpenLaw.pre at hc;have h4:(WTm.not (.lt (.lit (.int (n:Int))) (.len (.arg 0)))).holds [] {args:=[.list (ns.map .int)]}=true:=by have h4:=(holds_andW hc).1;rw[hn]at h4;exact h4
  have h5:=condW_of h4 (w_not (w_lt w_lit (w_len_list (w_arg rfl))));rw[Ie]at h5;refine Nat.le_of_not_lt λq=>?_;have q' : (n:Int)<((ns.length:Nat):Int):=by omega
  first
   |(rw[Iw q']at h5;exact absurd h5 (by decide))
   |(simp at h5;omega)
 cases hwl with
 |cons w1 w2=>
  cases w2;cases w1 with
  |list ho hall=>exact⟨_,_,ns,rfl,rfl,ho,V9 ns _ hall,hlen⟩
def zgj(l:OpenLaw)(args:List WData):l.row.toRowW.claim.post args (.bool true) args=true:=
 postW_of (r:=l.row.toRowW) (X:=(true==true))
  (show WShape.has [] (.bool true) .bool=true by first | rfl | decide | simp[WShape.has,WShape.arms,WShape.armsAll])
  (show(WTm.eq .res (.lit (.bool true))).value [] {args:=args,res:=some (.bool true),after:=args}=some (.bool (true==true))from w_eq_bool (w_res rfl) w_lit) rfl
def zcJ{l:OpenLaw}{n:Nat}{q:Program}{loose:List Str}{XP:(Str->Option Value)->Heap->Prop}{YP:World->Heap->Prop}{d:DefRec}(hn:l.most=some n)(hdf:d.params.defaults=[])(call:∀(w:World)(s₀ s₁:SH)(mg mb:Str->Option Value)(fa:AD)(o:Obj)(pm cd doc:Value)(a:AD)(vs:List Value)(ns:List Int),
   Ground q loose [] XP w s₀ mg mb s₁.heap->YP w s₁.heap->
   s₁.heap.get? fa=some o->o.data = .func (docDef d.name d.params d.body d.scope pm cd doc)->s₁.heap.CodeRec cd d.name->mg d.name=some (.ref fa)->
   s₁.heap.get? a=some {cls:=.type "list",data:=.seq vs.toArray}->IntsAre vs ns->ns.length<=n->s₁.gens = #[]->
   codeAny (model l.prog w) callerA (.call (.ref fa) ⟨[.ref a],[]⟩) (λr s' => r = .ok (.ret (.bool true))/\OldK s₁.heap s'.heap/\s'.os=s₁.os/\AllBare s'.gens) s₁):
  WalkO q loose XP YP l.row.toRowW d [] (λf vs=>PySem.call f vs):=by
 intro w s₀ s₁ mg mb G Y fa o pm cd doc dV kV ho hd hcd hD hmg hg args vals as hpre hlay hrd hwl hlo;obtain rfl:dV = .none:=Dflts.none hD hdf;obtain rfl:kV = .none:=Dflts.noKw hD;obtain⟨a,vs,ns,rfl,rfl,hobj,hints,hlen⟩:=zgl hn hpre hwl;refine enter_call (OC (call w s₀ s₁ mg mb fa o pm cd doc a vs ns G Y ho (fd_plain hd) hcd hmg hobj hints hlen hg) λr s' hq=>?_);obtain⟨rfl,h2,h3,h4⟩:=hq;exact⟨.inl ⟨.bool true,.bool true,[],rfl,λ_=>rfl,.bool true,zgj l _,λ_=>⟨List.Pairwise.nil,λ_ hm=>(nomatch hm)⟩⟩,h2,h3,h4⟩
end Att
namespace L2
open PySem PySem.Spec PyProof.Rows
variable {X:Cx}{x qual y:Str}{st:Stmt}{f a:AD}{fd:FuncData}{ps:List Str}{k:Nat}{sp:Sp}{H H' G G':Hp}{xs:List V}{i b:Int}{h:Heap}{p px:Pos}{env:Env}{scope sc:Scope}{c:Bool}{js:List Nat}{fp:List AD}{t:TA}{elt iter:Expr}{ifs es as:List Expr}{tt:TT}{te:TE}{Q:Value->SH->Prop}{ds:List PD}{d:PD}{v:V}{o:HO}{α β:Type}{items:Array Value}{params:Arguments}{us vs:List Value}{ρ:Keyed->Int}
theorem zbO:∀{vs:List Value}{ns:List Int},IntsAre vs ns->Vals (ns.map V.int) vs
 |_,_,.nil=>.nil
 |_,_,.cons n t h=>.cons ⟨t,rfl⟩ (zbO h)
noncomputable def Xj(s:Stmt):Arguments:=match s with
 |.FunctionDef _ a _ _ _ _ _ _ _ _=>a
 |_=>{posonlyargs:=[],args:=[],vararg:=none,kwonlyargs:=[],kw_defaults:=[],kwarg:=none,defaults:=[]}
noncomputable def Z0(s:Stmt):List Stmt:=match s with
 |.FunctionDef _ _ b _ _ _ _ _ _ _=>b
 |_=>[]
noncomputable def Zg(s:Stmt):Scope:=match s with
 |.FunctionDef _ _ _ _ _ _ sc _ _ _=>sc
 |_=>{kind:=.function,names:=[],isGenerator:=false,isCoroutine:=false}
abbrev CX0:CXT:=λ_ _ _ _ _ _=>False
abbrev E0:XK:=λ_ _ _=>False
def zal :zat CX0 X E0:=λ_ _ _ _ _ _ _ h=>h.elim
structure Fun(K:FG)(x qual:Str)(st:Stmt)(f:AD)(fd:FuncData):Prop where
 ex:∃(oc:Value)(od:Option AD)(kV doc pm:Value)(an:Option AD)(cdv ct:Value)(osl:Array (Option Value)),
  fd=PySem.W.fnOf x qual (Xj st) (Z0 st) (Zg st) .none kV doc pm an cdv ct/\K.lookup f=some ⟨oc,od,.func fd,osl⟩/\codeIn K cdv qual=true
 kp:keepIn K (.ref f)=true
section
variable {P:Program}{w:World}{K:FG}{mg:Str->Option Value}{base:Heap}
def Fun.ok{N:List Str}(F:Fun K x qual st f fd)(S:ZD N ps (Zg st))(len:∀ vs H Q E,sp vs H Q E->vs.length=ps.length)(hbody:∀(cdv:Value)(A:Around)(outer:List Env)(s:SH)(H:Hp)(vs:List V)(Q:VK)(E:XK),Wt k (A.deeper (envOfC qual (Zg st) s.heap.objs.size f cdv))->sp vs H Q E->
   ∃ t,PSs (zca CX0 P w K mg base N qual (Zg st) f cdv A outer s H E).nox (Z0 st) t/\t {nx:=λ_ H' => Q .non H',rt:=Q} (start N vs) H):Wb P w K mg base CX0 (k+1) f fd ps sp:=by
 obtain⟨oc,od,kV,doc,pm,an,cdv,ct,osl,rfl,lk,hcd⟩:=F.ex;refine zmm lk hcd S len λA outer s H vs Q E hr hsp=>?_;obtain⟨t,h,q⟩:=hbody cdv A outer s H vs Q E hr hsp;exact⟨t,h.nox,q⟩
def Fun.binds(F:Fun K x qual st f fd)(h:∀(kV doc pm:Value)(an:Option AD)(cdv ct:Value)(us:List Value),us.length=ps.length->bindArgs (PySem.W.fnOf x qual (Xj st) (Z0 st) (Zg st) .none kV doc pm an cdv ct) ⟨us,[]⟩=pure (ps.zip us)):Binds K fd ps []:=by
 obtain⟨oc,od,kV,doc,pm,an,cdv,ct,osl,rfl,lk,hcd⟩:=F.ex;exact .all (h kV doc pm an cdv ct)
def WY{oc:Value}{od an:Option AD}{osl:Array (Option Value)}{kV doc pm cdv ct:Value}(l:K.lookup f=some ⟨oc,od,.func (PySem.W.fnOf x qual (Xj st) (Z0 st) (Zg st) .none kV doc pm an cdv ct),osl⟩)(c:codeIn K cdv qual=true)(k:keepIn K (.ref f)=true):Fun K x qual st f (PySem.W.fnOf x qual (Xj st) (Z0 st) (Zg st) .none kV doc pm an cdv ct):=⟨⟨oc,od,kV,doc,pm,an,cdv,ct,osl,rfl,l,c⟩,k⟩
end
section
variable {X:Cx}
def pv(i:Nat){pos:Pos}(hN:X.N[i]?=some x:=by rfl)(hv:Vis X.env.scope x:=by first | exact Or.inl rfl | exact Or.inr (Or.inl rfl) | exact Or.inr (Or.inr rfl))(hd:(x==("__debug__" : Str))=false:=by decide)(hcd:(x==("__classdict__" : Str))=false:=by decide):PE X (.Name x pos) (JB i):=zlV hN hv hd hcd
end
def Zr(H H' : Hp):Prop:=∀ b o,H b=some o->H' b=some o
def Zr.refl(H:Hp):Zr H H:=λ_ _ h=>h
def Zr.trans{H1 H2:Hp}(a:Zr H H1)(b:Zr H1 H2):Zr H H2:=λc o h=>b c o (a c o h)
def Zr.free(e:Zr H H'){l:AD}(h:H' l=Option.none):H l=Option.none:=by
 cases q:H l with
 |none=>rfl
 |some o=>rw[e l o q]at h;cases h
def Zr.seq{K:FG}(e:Zr H H')(h:SqL K H a xs):SqL K H' a xs:=by
 rcases h with(h | ⟨o,h⟩) | h
 .exact .inl (.inl (e _ _ h))
 .exact .inl (.inr ⟨o,e _ _ h⟩)
 .exact .inr h
section
variable {X:Cx}
def zgU(i j:Int):Prop:=i.natAbs<2^4000/\j.natAbs<2^4000
def zgU.ok{j:Int}(h:zgU i j):IntMulOk i j:=IntMulOk.of_le (m:=4000) (n:=4000) (intBits_le_iff.mpr h.1) (intBits_le_iff.mpr h.2) (by decide)
def Vr:OpR X (binaryOp .Mult) (rI zgU λi j=>.int (i*j)):=opI λ_ _ _ _ _ _ _ hc q=>mul_int q hc.ok
def znd(i j:Int):Prop:=j≠0/\j.natAbs<2^4000
def zom{j:Int}(h:znd i j):Builtin.divisionGoesByPylong i j=false:=by
 refine PyProof.noPylong_of_log2 ?_;have h0:j.natAbs≠0:=by have:=h.1;omega
 have:=(Nat.log2_lt h0).mpr h.2;omega
def zno(i j:Int):Prop:=0<j/\j.natAbs<2^4000
def zg2:OpR X (binaryOp .FloorDiv) (rI zno λi j=>.int (i / j)):=opI λi j _ _ _ _ _ hc q=>by refine floordiv_int (by have:=hc.1;omega) ?_ (.inl (zom ⟨by have:=hc.1;omega,hc.2⟩));rw[Int.fdiv_eq_ediv_of_nonneg i (by have:=hc.1;omega)];exact q
def zhQ(hc:X.calm=true):Jk X (.builtin "sum") (λxs H Q=>∃(p:AD)(ns:List Int),xs=[.ref p]/\SqL X.K H p (ns.map V.int)/\Q (.int ns.sum) H):=by
 intro aa s σ H xs us Q I r h;obtain⟨p,ns,rfl,hq,q⟩:=h;obtain⟨u,rfl,r1⟩:=vals1 r;cases r1;obtain⟨its,rv,pl,hz⟩:=I.list hq;have hi:IntsAre its ns:=intsAre_of rv;have hl:s.heap.IsList p its.toArray:=by obtain⟨o,n,e,c,_,d⟩:=pl;exact⟨o,e,c,n,d⟩
 obtain⟨xs,hx⟩:=hi.allInts.items;have hl' : s.heap.IsList p (intItems xs):=hx ▸ hl;refine sum_intListG (I.ok.hd hc) hl' λh' tk t' hk=>?_;have e1:ns=xs.toList.map (·.1):=by rw[← nums_intItems,← hx];exact(show numsOf its.toArray.toList=ns from hi.numsOf).symm
 have e2:preSum (numAt xs) xs.size=ns.sum:=by rw[preSum_eq,List.take_of_length_le (by simp),e1]
 rw[e2];exact⟨.int ns.sum,H,I.kept hk,⟨_,rfl⟩,q⟩
def plainIs{p:AD}{its:Array Value}(pl:PlainL h p its):h.IsList p its:=by obtain⟨o,n,e,c,_,d⟩:=pl;exact⟨o,e,c,n,d⟩
end
noncomputable def zaa(env:Env):List (Str×NameKind)->List (Str×AD)->List (Str×AD)
 |[],acc=>acc
 |(n,k)::r,acc=>zaa env r (if(k==NameKind.free)=true then(n,(env.cells.lookup n).getD 0)::acc else acc)
def zdV :∀(names:List (Str×NameKind))(acc:List (Str×AD)),(∀ p∈names,p.2 = .free->∃ c,env.cells.lookup p.1=some c)->
  (forIn names acc λ(x:Str×NameKind)(cs:List (Str×AD))=>(match x with
   |(name,kind)=>if(kind==NameKind.free)=true then(do let __do_lift ← cellOf env name;pure (ForInStep.yield ((name,__do_lift)::cs)))else pure (ForInStep.yield cs):Sem (ForInStep (List (Str×AD)))))=pure (zaa env names acc):=by
 intro names
 induction names with
 |nil=>intro acc _;rfl
 |cons p r ih=>
  intro acc h;obtain⟨n,k⟩:=p;rw[List.forIn_cons];have hr:=λacc=>ih acc λq hq=>h q (Im _ hq);by_cases hk:k = .free
  .subst hk;obtain⟨c,hc⟩:=h (n,.free) Ir rfl;have e:cellOf env n=pure c:=by unfold cellOf;rw[hc]
   simp only[O6,Om,e,pure_bind];rw[hr];simp only[zaa,O6,Om,hc,getD_some]
  .have hb:(k==NameKind.free)=false:=by simpa using hk
   simp only[hb,IF,IY,pure_bind];rw[hr];simp only[zaa,hb,IF,IY]
def Xo(h:∀ p∈scope.names,p.2 = .free->∃ c,env.cells.lookup p.1=some c):closureFor scope env=pure (zaa env scope.names []):=by unfold closureFor;have e:=zdV (env:=env) scope.names [] h;simp only[e,pure_bind]
theorem za7{c:AD}:∀{names:List (Str×NameKind)}{acc:List (Str×AD)},(∀ p∈names,p.2 = .free->∃ c,env.cells.lookup p.1=some c)->(∀ y c,acc.lookup y=some c->env.cells.lookup y=some c)->
  (zaa env names acc).lookup y=some c->env.cells.lookup y=some c
 |[],_,_,ha,e=>ha _ _ e
 |(n,k)::r,acc,h,ha,e=>by
  refine za7 (names:=r) (λp hp=>h p (Im _ hp)) (λy c q=>?_) e;by_cases hk:(k==NameKind.free)=true
  .rw[Iz hk]at q;obtain⟨c',hc'⟩:=h (n,k) Ir (by simpa using hk);rw[DD]at q;cases hy:y==n with
   |true=>
    rw[hy]at q;have hy' : y=n:=by simpa using hy
    subst hy';rw[hc']at q;cases q;exact hc'
   |false=>rw[hy]at q;exact ha y c q
  .rw[Iq hk]at q;exact ha y c q
theorem zcQ :∀{names:List (Str×NameKind)}{acc:List (Str×AD)},(acc.lookup y).isSome=true->((zaa env names acc).lookup y).isSome=true
 |[],_,h=>h
 |(n,k)::r,acc,h=>by
  refine zcQ (names:=r) ?_;split
  .rw[DD];split
   .rfl
   .exact h
  .exact h
theorem QT :∀{names:List (Str×NameKind)}{acc:List (Str×AD)},(y,NameKind.free)∈names->((zaa env names acc).lookup y).isSome=true
 |(n,k)::r,acc,h=>by
  rcases IE.mp h with e | h
  .cases e;refine zcQ (names:=r) ?_;rw[Iz (by simp),DD];simp
  .exact QT (names:=r) h
abbrev YG(X:Cx)(scope:Scope)(Nc:List Str)(C:AD)(s0:SH)(H0:Hp)(ex:List AD):Cx:={X with N:=Nc,s₀:=s0,H₀:=H0,env:=compEnvC scope (zaa X.env scope.names []) C X.env,outer:=X.stack,ex:=ex,fn:=λ_=>false,pn:=[],xe:=λ_ _=>False}
structure YZ(fr sc:Scope)(xs cap:List Str):Prop where
 kind:sc.kind = .function
 cell:∀ p∈sc.names,p.2≠.cell
 names:∀ p∈sc.names,p.2 = .local->sc.names.lookup p.1=some .local
 free:∀ p∈sc.names,p.2 = .free->fr.names.lookup p.1=some .cell
 caps:∀ y∈cap,(y,NameKind.free)∈sc.names
 noboth:∀ y∈cap,sc.names.lookup y≠some .local
structure W3(fr sc:Scope)(x:Str)(cap:List Str):Prop where
 kind:sc.kind = .function
 cell:∀ p∈sc.names,p.2≠.cell
 names:∀ p∈sc.names,p.2 = .local->sc.names.lookup p.1=some .local
 tgt:sc.names.lookup x=some .local
 free:∀ p∈sc.names,p.2 = .free->fr.names.lookup p.1=some .cell
 caps:∀ y∈cap,(y,NameKind.free)∈sc.names
 nd:(x::cap).Nodup
 noboth:∀ y∈cap,sc.names.lookup y≠some .local
def UV{k:NameKind}(h:(y,k)∈(relabel sc env).names):∃ k',(y,k')∈sc.names/\(k=k' \/ (k' = .free/\k = .cell)):=by
 unfold relabel at h;obtain⟨⟨n,k'⟩,hm,e⟩:=IB.mp h;by_cases hc:(k'==NameKind.free&&env.scope.kind == .function&&env.kindOf n==some .cell)=true
 .have e:(n,NameKind.cell)=(y,k):=by simpa [hc]using e
  cases e;refine⟨k',hm,.inr ⟨?_,rfl⟩⟩;rw[NR,NR]at hc;simpa using hc.1.1
 .have e:(n,k')=(y,k):=by simpa [hc]using e
  cases e;exact⟨k,hm,.inl rfl⟩
section
variable {X:Cx}{aa:List (AD×Obj)}{σ:St}{H:Hp}{s:SH}{sc:Scope}{xs cap:List Str}
theorem YZ.cells(S:YZ X.env.scope sc xs cap)(ok:X.Ok):∀ p∈sc.names,p.2 = .free->∃ c,X.env.cells.lookup p.1=some c:=λp hp e=>ok.has p.1 (.inl (S.free p hp e))
def YZ.sub(S:YZ X.env.scope sc xs cap)(ok:X.Ok){c:AD}(h:(zaa X.env sc.names []).lookup y=some c):X.env.cells.lookup y=some c:=za7 (S.cells ok) (λ_ _ z=>by simp at z) h
def zeZ{b:AD}(h:a<b):a≠b:=IX h
def znI{b:AD}(h:b<a):a≠b:=ne_of_gt h
noncomputable def QL(σ:St)(js:List Nat):St:=js.map λj=>(σ[j]?).join
def zfy(S:YZ X.env.scope sc xs cap)(hjs:js.map (λj=>X.N[j]?)=cap.map some)(I:Inv X aa σ H s)(hf:∀ b∈fp,zdJ X aa H b)(hlt:∀ b∈fp,b<s.heap.objs.size){h1:Heap}{tk:Nat}{D C:AD}{oD:Obj}{m:Str->Option Value}(hD:D=s.heap.objs.size)(hC:C=s.heap.objs.size+1)(keep:∀ b o,s.heap.get? b=some o->h1.get? b=some o)(hoD:h1.get? D=some oD)(hnc:∀ v,oD.data≠.cell v)(hns:h1.Ns C m):
  Inv (YG X sc (xs++cap) C s H fp) [(D,oD)] (xs.map (λ_=>none)++QL σ js) H {s with heap:=h1,toks:=tk}:=by
 subst hD hC;have lenJ:js.length=cap.length:=by have:=ND List.length hjs;simpa using this
 have ok:=I.ok;refine⟨⟨ok.mod,S.kind,ok.glob,ok.blt,?_,λy z c h1 h2=>ok.inj y z c (S.sub ok h1) (S.sub ok h2),λy hy=>?_,(λy c h=>noConfusion h),ok.hd,ok.frames,.inl rfl,λb hb=>⟨?_,λy c e=>(hf b hb).2.2.2.2.1 y c (S.sub ok e)⟩,I.bs,IH ok.bsz I.sz,λb o e hb=>?_,λb hb hb' => ?_,I.stack,I.zeM⟩,
  rfl,I.bare,Un.kept keep,⟨m,hns,λi y v e1 e2 e3=>?_⟩,λy c e=>?_,I.ab.fresh (le_succ _),λy c e=>I.freeC y c (S.sub ok e),λp hp=>?_,I.ab.kept keep,?_⟩
 .exact le_succ _
 .have hy' : ∃ k,(y,k)∈(relabel sc X.env).names/\(k = .cell\/k = .free):=by
   rcases hy with hy | hy
   .exact⟨_,NG hy,.inl rfl⟩
   .exact⟨_,NG hy,.inr rfl⟩
  obtain⟨k,hm,hk⟩:=hy';obtain⟨k',hm',hk'⟩:=UV hm;have hfree:k' = .free:=by
   rcases hk' with e | ⟨e,_⟩
   .subst e;rcases hk with e | e
    .exact absurd e (S.cell _ hm')
    .exact e
   .exact e
  subst hfree;exact Dm.mp (QT hm')
 .exact zeZ (NO (hlt b hb))
 .obtain⟨_,_,_,z,_⟩:=hf b hb;rcases z with z | z
  .exact ok.noex b o e z
  .have:=IN (ok.bs b o e).1;exact absurd (IP this z) (OI _)
 .obtain⟨_,z1,z2,_⟩:=hf b hb;rcases IE.mp (I.zeJ b hb')with z | z
  .exact z1 z
  .exact z2 z
 .have e2:(xs.map (λ_=>(none:Option V))++QL σ js)[i]?=some (some v):=e2;have e1:(xs++cap)[i]?=some y:=e1;by_cases hi:i<xs.length
  .rw[Ng (by rw[Ie];exact hi),Ik,Ib hi]at e2;cases e2
  .obtain⟨i,rfl⟩:∃ i',i=xs.length+i':=⟨i-xs.length,by omega⟩
   rw[Ni (by rw[Ie];omega),Ie,Nat.add_sub_cancel_left]at e2;rw[Ni (by omega),Nat.add_sub_cancel_left]at e1;have e1':=e1;have e2':=e2;have hy:y∈cap:=IM e1';unfold QL at e2';rw[Ik]at e2';cases ej:js[i]? with
   |none=>rw[ej]at e2';cases e2'
   |some j=>
    rw[ej]at e2';have e2'' : (σ[j]?).join=some v:=IA e2';have eN:X.N[j]?=some y:=by have:=ND (λl=>l[i]?) hjs;simp only[Ik,ej,e1',map_some]at this;exact IA this
    have eσ:σ[j]?=some (some v):=by
     cases q:σ[j]? with
     |none=>rw[q]at e2'';cases e2''
     |some w' =>
      rw[q]at e2'';have:w'=some v:=by simpa using e2''
      rw[this]
    have kc:X.env.scope.names.lookup y=some .cell:=S.free (y,.free) (S.caps y hy) rfl;obtain⟨m0,hn0,hl0⟩:=I.loc;obtain⟨u,ru,lk⟩:=hl0 j y v eN eσ (.inr (.inl kc));refine⟨u,ru,?_⟩;rcases lk with⟨k,_⟩ | ⟨_,c,ec,hc⟩
    .have k' : X.env.scope.names.lookup y=some .local:=k;rw[kc]at k';cases k'
    .obtain⟨c',hc'⟩:=Dm.mp (QT (env:=X.env) (acc:=[]) (S.caps y hy));have hcc:c'=c:=IA ((S.sub ok hc').symm.trans ec);subst hcc;refine .inr ⟨?_,c',hc',?_⟩
     .rcases e3 with e3 | e3 | e3
      .exfalso;have hm:=NG e3;obtain⟨k',hm',hk'⟩:=UV hm;rcases hk' with e | ⟨_,e⟩
       .subst e;exact S.noboth y hy (S.names _ hm' rfl)
       .cases e
      .exact .inl e3
      .exact .inr e3
     .obtain⟨o,ho,hd⟩:=hc;exact⟨o,keep _ o ho,hd⟩
 .obtain⟨v,o,ho,hd⟩:=I.cell y c (S.sub ok e);exact⟨v,o,keep _ o ho,hd⟩
 .have hp' : p=(s.heap.objs.size,oD):=by simpa using hp
  subst hp';refine⟨hoD,I.ab.fresh (Ih _),zeZ (OB _),λhb=>?_,hnc⟩;obtain⟨_,o,ho,_⟩:=I.stack.mem hb;exact OI _ (IN ho)
 .show(xs.map (λ_=>(none:Option V))++QL σ js).length=(xs++cap).length;unfold QL;simp[lenJ]
def QQ(S:YZ X.env.scope sc xs cap)(I:Inv X aa σ H s)(hf:∀ b∈fp,zdJ X aa H b){D C:AD}{pn' : List (AD×Obj)}{σ' : St}{s' : SH}{ys:List V}{its:List Value}{h' : Heap}(hD:D=s.heap.objs.size)(hC:C=s.heap.objs.size+1)(J:Inv (YG X sc (xs++cap) C s H fp) pn' σ' H' s')(hnD:H' D=none)(hoD:s'.heap.get? D=some {cls:=.type "list",data:=.seq its.toArray k})(rv:Vals ys its)(hz:ys.length<=sizeLine)(hs:SameBut C s'.heap h'):Inv X aa σ (upd H' D (.lst ys)) {s' with heap:=h'}:=by
 subst hD hC;have base:Un (frs X.stack) fp H H' s.heap s'.heap:=J.base;have hnC:H' (s.heap.objs.size+1)=none:=J.free;have neC:∀{b:AD}{o:Obj},s.heap.get? b=some o->b≠s.heap.objs.size+1:=λe=>zeZ (NO (IN e));have neD:∀{b:AD}{o:Obj},s.heap.get? b=some o->b≠s.heap.objs.size:=λe=>zeZ (IN e);have neDH:∀{b:AD}{o:HO},H b=some o->b≠s.heap.objs.size:=λe=>zeZ (I.ab.lt e);refine I.call' (s':={s' with heap:=h'}) (ch:=fp) J.os ⟨λb o e n hb hx=>?_,λb o e n hb hx=>?_,λb o e n hx=>?_,λb o e hx=>?_,λb xs e=>?_,λb o u e=>?_,λb ps e=>?_⟩ (λb u e=>?_) J.bare λb hb=>?_
 .exact(hs.2 b (neC e)).trans (base.keep b o e n hb hx)
 .obtain⟨sl,q⟩:=base.slot b o e n hb hx;exact⟨sl,(hs.2 b (neC e)).trans q⟩
 .rw[Zk (neD e)];exact base.free b o e n hx
 .obtain⟨o',q⟩:=base.there b o e hx;exact⟨o',(hs.2 b (neC e)).trans q⟩
 .rw[Zk (neDH e)];exact base.tups b xs e
 .rw[Zk (neDH e)];exact base.frzs b o u e
 .rw[Zk (neDH e)];exact base.tbls b ps e
 .by_cases hb:b=s.heap.objs.size
  .subst hb;rw[Zi]at e;cases e;exact⟨hz,its,k,rv,(hs.2 _ (zeZ (OB _))).trans hoD⟩
  .rw[Zk hb]at e;have J' : Yu X.prog X.w H' s'.heap b u:=J.ab b u e;refine J'.stay (λc v hc q=>(hs.2 c ?_).trans q) (λc q=>?_) (λc xs q=>?_) λc o u q=>?_
   .rintro rfl;rcases hc with rfl | hc
    .rw[hnC]at e;cases e
    .rw[hnC]at hc;cases hc
   .rw[Zk (ZC q hnD)];exact q
   .rw[Zk (ZC q hnD)];exact q
   .rw[Zk (ZC q hnD)];exact q
 .obtain⟨_,z1,_,z3,z4,z5⟩:=hf b hb;exact⟨z3,z1,z4,z5⟩
end
section
variable {X:Cx}{aa:List (AD×Obj)}{σ:St}{H:Hp}{s:SH}{sc:Scope}{x:Str}{cap:List Str}
def PIf(X:Cx)(ifs:List Expr)(t:TT):Prop:=
 ∀(aa:List (AD×Obj))(s:SH)(σ:St)(H:Hp)(Q:Bool->Hp->Prop),Inv X aa σ H s->t σ H Q->
  wpAny (model X.prog X.w) X.A (forIn ifs true λc r=>if r=true then do let ok ← isTrue c X.env (eval c X.env);pure (ForInStep.yield ok)else pure (ForInStep.yield r)) (TP X aa σ Q) X.xe s
def zgI:TT:=λ_ H Q=>Q true H
def Vq :PIf X [] zgI:=λ_ _ _ H _ I h=>wpAny_tests_nil ⟨H,I,h⟩
def Wr{c:Expr}{t:TT}(h:PT X c t):PIf X [c] t:=λaa s σ H Q I q=>wpAny_tests_one (h aa s σ H Q I q)
end
section
variable {prog:Program}{w:World}{A:Around}{R:Result->SH->Prop}{s:SH}
def zdI{target:Expr}{pos:Pos}{it acc:Value}(J:Nat->SH->Prop)(turn:∀ n s,J n s->wpAny (model prog w) A (pyNext it) (λr s₁=>match r with
   |none=>R (.ok .next) s₁
   |some v=>wpAny (model prog w) A (letOwnedTupleGo target it v) (λ_ s₂=>wpAny (model prog w) A (assign target env v) (λ_ s₃=>
     wpAny (model prog w) A (forIn ifs true λc r=>if r=true then do let ok ← isTrue c env (eval c env);pure (ForInStep.yield ok)else pure (ForInStep.yield r)) (λok s₄=>
      if ok=true then wpAny (model prog w) A (eval elt env) (λx s₅=>
       wpAny (model prog w) A (call (.builtin "list.append") [acc,x]) (λ_ s₆=>∃ m,m<n/\J m s₆) (λ_ _=>False) s₅) (λ_ _=>False) s₄
      else ∃ m,m<n/\J m s₄) (λ_ _=>False) s₃) (λ_ _=>False) s₂) (λ_ _=>False) s₁) (λ_ _=>False) s)(n:Nat)(h:J n s):codeAny (model prog w) A (.compLoop (.ListComp elt [⟨target,iter,ifs,0⟩] scope pos) 0 it acc env) R s:=by
 refine codeAny_loop rfl J (λn s hJ=>?_) n h;show wpAny _ A ((compTurn (.ListComp elt [⟨target,iter,ifs,0⟩] scope pos) 0 it acc env).onRaise (λx=>do noteFrame x env;theTreesLotGoes x)) _ _ s;refine wpAny_noted ?_;rw[compTurn_list];refine Ia (Dz (Ia (N0 (turn n s hJ) (λr s₁ h₁=>?_) λ_ _ z=>z.elim)));cases r with
 |none=>exact Ic h₁
 |some v=>
  refine Ia (N0 h₁ (λ_ s₂ h₂=>?_) λ_ _ z=>z.elim);refine Ia (N0 h₂ (λ_ s₃ h₃=>Ia (N0 h₃ (λok s₄ h₄=>?_) λ_ _ z=>z.elim)) λ_ _ z=>z.elim);cases ok with
  |false=>exact Ic ⟨rfl,h₄⟩
  |true=>exact Ia (Ia (N0 h₄ (λx s₅ h₅=>Ia (N0 h₅ (λ_ s₆ h₆=>Ic (Ic ⟨rfl,h₆⟩)) λ_ _ z=>z.elim)) λ_ _ z=>z.elim))
end
section
variable {X:Cx}{aa:List (AD×Obj)}{σ:St}{H:Hp}{s:SH}{sc:Scope}{x:Str}{cap:List Str}
def LCw(J:It)(js:List Nat)(σ:St)(tt:TT)(te:TE)(Q:VK)(W:Nat->Nat->List V->Hp->Prop):Prop:=
 ∀ i m ys H,W i m ys H->ys.length<sizeLine/\
  ((J.stop i H/\∀ p,H p=none->Q (.ref p) (upd H p (.lst ys)))\/
   (J.go i H/\∀ x H',J.yld i H x H' -> tt (some x::QL σ js) H' λb H2=>if b=true then te (some x::QL σ js) H2 λv H3=>∃ m',m'<m/\W (i+1) m' (ys++[v]) H3 else ∃ m',m'<m/\W (i+1) m' ys H2))
def tLC(wi:TI)(js:List Nat)(tt:TT)(te:TE):TE:=fun σ H Q=>wi σ H λJ H1=>∃ W:Nat->Nat->List V->Hp->Prop,(∃ m,W 0 m [] H1)/\LCw J js σ tt te Q W
def zne(n:Nat)(J:It)(js:List Nat)(σ:St)(g:TG)(tt:TT)(te:TE)(Q:VK)(W:Nat->Nat->List V->Hp->Prop):Prop:=
 ∀ i m ys H,W i m ys H->ys.length<sizeLine/\
  ((J.stop i H/\∀ p,H p=none->Q (.ref p) (upd H p (.lst ys)))\/
   (J.go i H/\∀ x H',J.yld i H x H' -> ∀ ws:List (Option V),ws.length=n->g x (ws++QL σ js) H' fun σ2 H2=>∃ ws',σ2=ws'++QL σ js/\ws'.length=n/\tt σ2 H2 λb H3=>if b=true then te σ2 H3 λv H4=>∃ m',m'<m/\W (i+1) m' (ys++[v]) H4 else ∃ m',m'<m/\W (i+1) m' ys H3))
end
section
variable {X:Cx}{aa:List (AD×Obj)}{σ:St}{H:Hp}{s:SH}{sc:Scope}{xs cap:List Str}
def QH{Φ:Cx->Prop}(S:YZ X.env.scope sc xs cap)(hjs:js.map (λj=>X.N[j]?)=cap.map some)(hc:∀ C s0 H0 ex,Φ (YG X sc (xs++cap) C s0 H0 ex)){pos:Pos}{tg:Expr}{g:TG}(hg:∀ C s0 H0 ex,PG (YG X sc (xs++cap) C s0 H0 ex) tg g){fp:List AD}(hb:∀ C,PIf (YG X sc (xs++cap) C s H fp) ifs tt/\PE (YG X sc (xs++cap) C s H fp) elt te)(I:Inv X aa σ H s){J:It}{it:AD}{tn:Nat->Heap->Prop}(T:zk7 Φ X.prog X.w X.K tg J fp it tn)(st:tn 0 s.heap)(hf:∀ b∈fp,zdJ X aa H b){Q:VK}{W:Nat->Nat->List V->Hp->Prop}(w0:∃ m,W 0 m [] H)(turn:zne xs.length J js σ g tt te Q W){RR:Value->AD->Result->SH->Prop}{E:Value->SH->Prop}(hR:∀ D C s' σ' H' ys its k,D=s.heap.objs.size->C=s.heap.objs.size+1->Inv (YG X sc (xs++cap) C s H fp) [(D,{cls:=.type "list",data:=.seq its.toArray k})] σ' H' s' -> Vals ys its->ys.length<=sizeLine->(∀ p,H' p=none->Q (.ref p) (upd H' p (.lst ys)))->RR (.ref D) C (.ok .next) s'):
  wpAny (model X.prog X.w) X.A (newList []) (λacc s₃=>wpAny (model X.prog X.w) X.A (newFunctionEnv sc X.env.globals (zaa X.env sc.names []) [] X.env.qual none .none (some X.env)) (λcenv s₄=>
   codeAny (model X.prog X.w) X.A (.compStart (.ListComp elt [⟨tg,iter,ifs,0⟩] sc pos) 0 (.ref it) acc {cenv with scope:=relabel sc X.env}) (RR acc cenv.locals) s₄) E s₃) E s:=by
 refine Na (wpAny_newFunctionEnv S.cell (by intro y hy;simp at hy) (λh₁ hns₁ hsb₁=>?_) S.kind);dsimp only at hns₁ hsb₁ ⊢;have hlt:∀ b∈fp,b<s.heap.objs.size:=λb hb' => by obtain⟨o,e,_⟩:=T.obj 0 _ st b hb';exact IN e
 generalize hH2:s.heap.push {cls:=.type "list",dict:=none,data:=.seq ([]:List Value).toArray}=H2 at hns₁ hsb₁ ⊢;have hC:H2.objs.size=s.heap.objs.size+1:=by rw[← hH2,NH]
 have old:∀ b o,s.heap.get? b=some o->h₁.get? b=some o:=λb o e=>hsb₁.extBut b o (by rw[hC];exact zeZ (NO (IN e))) (Ig _ (hH2 ▸ Ig _ e))
 have hacc:h₁.get? s.heap.objs.size=some {cls:=.type "list",data:=.seq ([]:List Value).toArray}:=hsb₁.extBut _ _ (by rw[hC];exact zeZ (OB _)) (Ig _ (hH2 ▸ Iu _ rfl))
 have st₁:tn 0 h₁:=T.keep _ _ _ st λb _ o e=>old b o e;obtain⟨m0,w0⟩:=w0;rw[hC]at hns₁ hsb₁ ⊢;generalize hCe:s.heap.objs.size+1=C at hns₁ hsb₁ hR ⊢;generalize hDe:s.heap.objs.size=D at hacc hR ⊢;have hDe':=hDe.symm;have hC' : C=s.heap.objs.size+1:=hCe.symm;have ltD:∀{b:AD},b<s.heap.objs.size->b≠D:=λh=>by rw[← hDe];exact zeZ h
 have loop:∀ s₃:SH,s₃={s with heap:=h₁,toks:=s.toks+([]:List (Str×Value)).length}->
   codeAny (model X.prog X.w) X.A (.compLoop (.ListComp elt [⟨tg,iter,ifs,0⟩] sc pos) 0 (.ref it) (.ref D) (compEnvC sc (zaa X.env sc.names []) C X.env)) (RR (.ref D) C) s₃:=by
  rintro s₃ rfl;have I0:Inv (YG X sc (xs++cap) C s H fp) [(D,{cls:=.type "list",data:=.seq ([]:List Value).toArray})] (xs.map (λ_=>none)++QL σ js) H {s with heap:=h₁,toks:=s.toks+([]:List (Str×Value)).length}:=zfy S hjs I hf hlt hDe' hC' old hacc (λv z=>by cases z) hns₁
  have fpD:∀ b∈fp,b≠D:=λb hb' => ltD (hlt b hb');refine zdI (λn s' => ∃ i ws H' ys its k,ws.length=xs.length/\Inv (YG X sc (xs++cap) C s H fp) [(D,{cls:=.type "list",data:=.seq its.toArray k})] (ws++QL σ js) H' s' /\ tn i s'.heap/\(∀ b∈fp,H' b=none)/\Vals ys its/\W i n ys H')
   ?_ m0 ⟨0,xs.map (λ_=>none),H,[],[],0,Ie _,I0,st₁,λb hb' => (hf b hb').1,.nil,w0⟩
  rintro n s3 ⟨i,ws,H3,ys,its,k,hws,I3,st3,fr3,rv,w3⟩;obtain⟨hlen,hor⟩:=turn i n ys H3 w3;have stat:∀{H' : Hp}{o:Obj},(∀ b∈fp,H' b=none)->∀ b∈fp,zdJ (YG X sc (xs++cap) C s H fp) [(D,o)] H' b:=λ{H' o} hn b hb' =>
   ⟨hn b hb',(I3.ok.exf b hb').1,I3.ok.exfs b hb',.inl hb',(I3.ok.exf b hb').2,λp hp=>by
    have hp' : p=(D,o):=by simpa using hp
    rw[hp'];exact Ne.symm (fpD b hb')⟩
  rcases hor with⟨stop,qn⟩ | ⟨go,step⟩
  .refine thn (T.done (YG X sc (xs++cap) C s H fp) rfl rfl rfl (hc _ _ _ _) i _ s3 _ H3 _ I3 (stat fr3) st3 stop) λr s4 ⟨hr,I4⟩=>?_;subst hr;exact hR D C s4 _ H3 ys its k rfl rfl I4 rv (Op hlen) qn
  .refine thn (T.item (YG X sc (xs++cap) C s H fp) rfl rfl rfl (hc _ _ _ _) i _ s3 _ H3 _ I3 (stat fr3) st3 go) λr s4 ⟨u,hr,h4⟩=>?_;subst hr;refine thn h4 λ_ s5 ⟨xv,H5,I5,r5,y5,st5,fr5⟩=>?_;have I5':=I5.pinned (stat fr5) (T.obj _ _ st5);refine thn (hg C s H fp _ s5 _ H5 xv u _ I5' r5 (step xv H5 y5 ws hws)) λ_ s6 ⟨σ6,H6,I6,ws',e6,hws',q6⟩=>?_;subst e6;refine thn ((hb C).1 _ s6 _ H6 _ I6 q6) λok s7 ⟨H7,I7,q7⟩=>?_;have fin:∀{s8:SH}{H8:Hp}{σ8:St},Inv (YG X sc (xs++cap) C s H fp) ([(D,{cls:=.type "list",data:=.seq its.toArray k})]++Vv fp s5.heap) σ8 H8 s8->tn (i+1) s8.heap/\(∀ b∈fp,H8 b=none)/\s8.heap.get? D=some {cls:=.type "list",data:=.seq its.toArray k}/\H8 D=none/\D≠C:=λ{s8 H8 σ8} I8=>by
    have pinD:=I8.pin (D,{cls:=.type "list",data:=.seq its.toArray k}) (IG _ (N3 _ (Ij.mpr rfl)));have pinF:∀ b∈fp,∀ o,s5.heap.get? b=some o->s8.heap.get? b=some o/\H8 b=none:=λb hb' o e=>
     have z:=I8.pin (b,o) (IG _ (IG _ (Vm hb' e)))
     ⟨z.1,z.2.1⟩
    refine⟨T.keep _ _ _ st5 λb hb' o e=>(pinF b hb' o e).1,λb hb' => ?_,pinD.1,pinD.2.1,pinD.2.2.1⟩;obtain⟨o,e,_⟩:=T.obj _ _ st5 b hb';exact(pinF b hb' o e).2
   cases ok with
   |false=>rw[Iq Ii]at q7 ⊢;obtain⟨m',hm,w7⟩:=q7;obtain⟨f1,f2,_⟩:=fin I7;exact⟨m',hm,i+1,ws',H7,ys,its,k,hws',I7.J4,f1,f2,rv,w7⟩
   |true=>
    rw[Iz rfl]at q7 ⊢;refine thn ((hb C).2 _ s7 _ H7 _ I7 q7) λu8 s8 ⟨v,H8,I8,r8,q8⟩=>?_;obtain⟨f1,f2,f3,f4,f5⟩:=fin I8;obtain⟨m',hm,w8⟩:=q8;have rv' : Vals (ys++[v]) (its++[u8]):=rv.append (.cons r8 .nil);refine wpAny_list_append_plain ⟨k,f3⟩ (λh9 hl9 hs9=>?_) (by rw[ID,← rv.length];exact Op hlen);obtain⟨k9,e9⟩:=hl9;have e9' : h9.get? D=some {cls:=.type "list",data:=.seq (its++[u8]).toArray k9}:=by rw[e9];simp
    have In:Inv (YG X sc (xs++cap) C s H fp) (Vv fp s5.heap) (ws'++QL σ js) H8 s8:=I8.JL λp hp=>I8.pin p (IG _ (IG _ hp));have It' : Inv (YG X sc (xs++cap) C s H fp) (Vv fp s5.heap) (ws'++QL σ js) H8 {s8 with heap:=h9}:=
     In.turned (it:=D) (h':=h9) (t':=s8.toks) (λb o hb' e=>hs9.extBut b o hb' e) f4 f5 (.inr (O5 hDe)) (λy c e z=>by
      obtain⟨v',o,ho,_⟩:=I.cell y c (S.sub I.ok e);exact ltD (IN ho) z) λp hp z=>by
      have hp' : p∈Vv fp s5.heap:=by simpa using hp
      exact fpD p.1 (zbl hp').1 z
    refine⟨m',hm,i+1,ws',H8,ys++[v],its++[u8],k9,hws',It'.JL λp hp=>?_,T.keep _ _ _ f1 λb hb' o e=>hs9.extBut b o (fpD b hb') e,f2,rv',w8⟩;have hp' : p=(D,{cls:=.type "list",data:=.seq (its++[u8]).toArray k9}):=by simpa using hp
    subst hp';refine⟨e9',f4,f5,λhb' => ?_,λv z=>by cases z⟩;obtain⟨_,o,ho,_⟩:=I.stack.mem hb';exact ltD (IN ho) rfl
 exact codeAny_compStart_list (loop _ rfl) (T.self X.A 0 _ _ _ st₁ (loop _ rfl))
def zkV{J:It}{Q:VK}{W:Nat->Nat->List V->Hp->Prop}(h:LCw J js σ tt te Q W):zne 1 J js σ (Wi 0) tt te Q W:=λi m ys H w=>by
 obtain⟨a,b⟩:=h i m ys H w;refine⟨a,b.imp id λ⟨go,st⟩=>⟨go,λx H' y ws hw=>?_⟩⟩
 match ws,hw with
 |[v],_=>exact⟨[some x],rfl,rfl,st x H' y⟩
end
section
variable {X:Cx}{aa:List (AD×Obj)}{σ:St}{H:Hp}{s:SH}{sc:Scope}{x:Str}{cap:List Str}
def W3.n{fr:Scope}(S:W3 fr sc x cap):YZ fr sc [x] cap:=⟨S.kind,S.cell,S.names,S.free,S.caps,S.noboth⟩
def W3.pg(S:W3 X.env.scope sc x cap)(C:AD)(s0:SH)(H0:Hp)(ex:List AD):PG (YG X sc ([x]++cap) C s0 H0 ex) (.Name x px) (Wi 0):=Zz S.nd rfl (.inl (Os S.tgt)) (.inr (Os S.tgt))
def zaT(S:W3 X.env.scope sc x cap)(hjs:js.map (λj=>X.N[j]?)=cap.map some)(hc:X.calm=true)(hxe:∀ e s,¬ X.xe e s){pos:Pos}{wi:TI}(hi:PI X (.Name x px) iter wi)(hb:∀ C s0 H0 ex,PIf (YG X sc (x::cap) C s0 H0 ex) ifs tt/\PE (YG X sc (x::cap) C s0 H0 ex) elt te)(hs:∀ x,foldedSetIterable iter X.env x=pure x:=by intro _;rfl):PE X (.ListComp elt [⟨.Name x px,iter,ifs,0⟩] sc pos) (tLC wi js tt te):=by
 intro aa s σ H Q I h;rw[eval_ListComp];refine OZ (use:=none) rfl hs (Xo (S.n.cells I.ok)) S.kind S.names (thn (hi aa s σ H _ I h) λxv s₁ h₁=>thn h₁ λitv s₂ h₂=>?_);obtain⟨it,fp,tn,J,H2,e,I2,T,st2,f2,W,w0,turn⟩:=h₂;subst e;refine QH (xs:=[x]) (Q:=Q) (RR:=λacc C=>compPost (model X.prog X.w) X.A X.xe none (EP X aa σ Q) acc C) S.n hjs (λ_ _ _ _=>hc) S.pg (λC=>hb C _ _ _) I2 T st2 f2 w0 (zkV turn) ?_;intro D C s' σ' H' ys its k hD hC J' rv hz q;obtain⟨m,hn,_⟩:=J'.loc;have pinD:=J'.pin (D,{cls:=.type "list",data:=.seq its.toArray k}) (IG _ (Ij.mpr rfl));exact⟨m,hn,λh' hs' => ⟨.ref D,_,QQ (xs:=[x]) S.n I2 f2 hD hC J' pinD.2.1 pinD.1 rv hz hs',rfl,q D pinD.2.1⟩⟩
def zop(i:Nat)(wi:TI)(js:List Nat)(tt:TT)(te:TE):TS:=λD σ H=>tLC wi js tt te σ H λv H' => D.nx (σ.set i (some v)) H'
def znD(S:W3 X.env.scope sc x cap)(hjs:js.map (λj=>X.N[j]?)=cap.map some)(hc:X.calm=true)(hxe:∀ e s,¬ X.xe e s){pos py spos:Pos}{wi:TI}{i:Nat}(hN:X.N.Nodup)(hi' : X.N[i]?=some y)(hy:X.env.scope.names.lookup y=some .local)(hi:PI X (.Name x px) iter wi)(hb:∀ C s0 H0 ex,PIf (YG X sc (x::cap) C s0 H0 ex) ifs tt/\PE (YG X sc (x::cap) C s0 H0 ex) elt te)(hsw:swapsWith (.ListComp elt [⟨.Name x px,iter,ifs,0⟩] sc pos) (some (.Name y py)) spos.line X.env=pure true:=by rfl)(hs:∀ x,foldedSetIterable iter X.env x=pure x:=by intro _;rfl):PS X (.Assign [.Name y py] (.ListComp elt [⟨.Name x px,iter,ifs,0⟩] sc pos) spos) (zop i wi js tt te):=by
 intro aa s σ H D0 I h;rw[exec_Assign_Name_used _ _ _ _ hsw];refine Ia (Dz (Ia ?_));show wpAny _ X.A (do let _ ← comprehension (.ListComp elt [⟨.Name x px,iter,ifs,0⟩] sc pos) sc X.env _ (newList []) false (eval iter X.env) (some (assign (.Name y py) X.env))) _ _ s;refine Ia (N0 (OZ (use:=some (assign (.Name y py) X.env)) (Q:=λ_ s' => SP X aa D0 .next s') rfl hs (Xo (S.n.cells I.ok)) S.kind S.names
  (thn (hi aa s σ H _ I h) λxv s₁ h₁=>thn h₁ λitv s₂ h₂=>?_)) (λ_ s' hq=>Ic (Ic hq)) λ_ _ e=>e)
 obtain⟨it,fp,tn,J,H2,e,I2,T,st2,f2,W,w0,turn⟩:=h₂;subst e;refine QH (xs:=[x]) (Q:=λv H' => D0.nx (σ.set i (some v)) H') (RR:=λacc C=>compPost (model X.prog X.w) X.A X.xe (some (assign (.Name y py) X.env)) (λ_ s' => SP X aa D0 .next s') acc C) S.n hjs (λ_ _ _ _=>hc) S.pg (λC=>hb C _ _ _) I2 T st2 f2 w0 (zkV turn) ?_;intro D C s' σ' H' ys its k hD hC J' rv hz q;have gtC:∀{b:AD},b<s₂.heap.objs.size->b≠C:=λh=>by rw[hC];exact zeZ (NO h)
 have pinD:=J'.pin (D,{cls:=.type "list",data:=.seq its.toArray k}) (IG _ (Ij.mpr rfl));obtain⟨m,hn,_⟩:=id J'.loc;have hn:s'.heap.Ns C m:=hn;obtain⟨oC,es,ep,hoC,hdC,rest⟩:=id hn;have hCn:C∉X.fs/\C≠X.env.locals:=by
  constructor
  .intro hb';obtain⟨_,o,ho,_⟩:=I2.zcd.mem hb';exact gtC (IN ho) rfl
  .exact λz=>gtC I2.lt z.symm
 have I3:Inv X aa σ (upd H' D (.lst ys)) s':=QQ (xs:=[x]) (h':=s'.heap) S.n I2 f2 hD hC J' pinD.2.1 pinD.1 rv hz (.refl ..);have hDC:C≠D:=by rw[hC,hD];exact znI (OB _)
 have hH'C:H' C=none:=J'.free;have I4:Inv X [(C,oC)] σ (upd H' D (.lst ys)) s':=I3.JL λp hp=>by
  have hp' : p=(C,oC):=by simpa using hp
  subst hp';exact⟨hoC,by rw[Zk hDC];exact hH'C,hCn.2,hCn.1,λv z=>by rw[hdC]at z;cases z⟩
 have I5:Inv X (aa++[(C,oC)]) σ (upd H' D (.lst ys)) s':=I3.JL λp hp=>by
  rcases Nz.mp hp with hp | hp
  .exact I3.pin p (IG _ hp)
  .exact I4.pin p (IG _ hp)
 show wpAny _ X.A (assign (.Name y py) X.env (.ref D)) _ _ _;refine wpAny_assign_Name (VP I5 hN hi' (.inl hy) (v:=.ref D) rfl (λs6 I6=>?_) (.inr hy));have pinC:=I6.pin (C,oC) (IG _ (IG _ (Ij.mpr rfl)));refine⟨m,⟨oC,es,ep,pinC.1,hdC,rest⟩,λh' hs' => ⟨_,_,?_,q D pinD.2.1⟩⟩;refine I6.J4.turned (it:=C) (h':=h') (t':=s6.toks) (λb o hb' e=>hs'.extBut b o hb' e) pinC.2.1 hCn.2 (.inr ?_) (λy' c e z=>?_) λp hp z=>?_
 .rw[hC];exact Nat.le_succ_of_le I2.sz
 .obtain⟨v',o,ho,_⟩:=I2.cell y' c e;exact gtC (IN ho) z
 .exact gtC (IN (I2.pin p hp).1) z
end
section
variable {X:Cx}
def zhx(hc:X.calm=true):Jk X (.builtin "all") (λxs H Q=>∃(p:AD)(bs:List Bool),xs=[.ref p]/\SqL X.K H p (bs.map V.bl)/\Q (.bl (bs.all id)) H):=by
 intro aa s σ H xs us Q I r h;obtain⟨p,bs,rfl,hq,q⟩:=h;obtain⟨u,rfl,r1⟩:=vals1 r;cases r1;obtain⟨its,rv,pl,hz⟩:=I.list hq;have hl:=plainIs pl;have hlt:p<s.heap.objs.size:=by obtain⟨_,e,_⟩:=hl;exact IN e
 have hlen:its.length=bs.length:=by rw[← rv.length,Ie]
 refine call_all_walk (wpAny_pyIter_list hl ?_);refine⟨s.heap.objs.size,[s.heap.objs.size,p],[s.heap.objs.size],its.toArray.size,_,_,λi=>(bs[i]?).getD true,rfl,Walks.list (A:=X.A.in1) (I.ok.hd hc) _ p (IX hlt) its.toArray,
  ⟨⟨_,Iu _ rfl,rfl,rfl⟩,hl.push _⟩,λi v s' Q' E' hP hQ=>?_,λh' tk hk=>?_⟩
 .have hP' : its[i]?=some v:=by simpa using hP
  have hi:i<bs.length:=by rw[← hlen];exact(Io.mp hP').1
  obtain⟨u,hu,ru⟩:=rv.get (i:=i) (x:=V.bl bs[i]) (by rw[Ik,Ib hi];rfl);rw[hP']at hu;cases hu;cases(show v=Value.bool bs[i]from ru);simp only[Ib hi,getD_some]at hQ;exact Ox hQ
 .have e:((List.range its.toArray.size).all λi=>(bs[i]?).getD true)=bs.all id:=by rw[ID,hlen];exact PyProof.Rows.LSm.range_all bs
  rw[e];exact⟨.bl (bs.all id),H,I.kept λb o e=>hk b o (λhm=>by rw[Ij.mp hm]at e;exact OI _ (IN e)) (Ig _ e),rfl,q⟩
end
mutual
def Dat(K:FG)(G:Hp):V->PD->Prop
 |v,.none=>v = .non
 |v,.bool b=>v = .bl b
 |v,.int i=>v = .int i
 |v,.str x=>v = .str x
 |v,.list ds=>∃ p xs,v = .ref p/\G p=some (.lst xs)/\ZX K G xs ds
 |v,.tuple ds=>∃ p xs,v = .ref p/\SqT K G p xs/\ZX K G xs ds
 |_,.dict _=>False
def ZX(K:FG)(G:Hp):List V->List PD->Prop
 |xs,[]=>xs=[]
 |xs,d::ds=>∃ y ys,xs=y::ys/\Dat K G y d/\ZX K G ys ds
end
def Zr.tup{K:FG}(e:Zr H H')(h:SqT K H a xs):SqT K H' a xs:=by
 rcases h with(h | ⟨o,h⟩) | h
 .exact .inl (.inl (e _ _ h))
 .exact .inl (.inr ⟨o,e _ _ h⟩)
 .exact .inr h
section
variable {K:FG}{G G' : Hp}
def Zy(i:Int):Dat K G (.int i) (.int i):=by unfold Dat;rfl
def zcD(x:Str):Dat K G (.str x) (.str x):=by unfold Dat;rfl
def Yr(b:Bool):Dat K G (.bl b) (.bool b):=by unfold Dat;rfl
def Qu:Dat K G .non .none:=by unfold Dat;rfl
def XQ{p:AD}(h:SqT K G p xs)(r:ZX K G xs ds):Dat K G (.ref p) (.tuple ds):=by unfold Dat;exact⟨p,xs,rfl,h,r⟩
def Y8{p:AD}(h:G p=some (.lst xs))(r:ZX K G xs ds):Dat K G (.ref p) (.list ds):=by unfold Dat;exact⟨p,xs,rfl,h,r⟩
def Yi:ZX K G [] []:=by unfold ZX;rfl
def Z4{x:V}(h:Dat K G x d)(r:ZX K G xs ds):ZX K G (x::xs) (d::ds):=by unfold ZX;exact⟨x,xs,rfl,h,r⟩
theorem Dat.int(h:Dat K G v (.int i)):v = .int i:=by unfold Dat at h;exact h
theorem Dat.str(h:Dat K G v (.str x)):v = .str x:=by unfold Dat at h;exact h
theorem Dat.bl{x:Bool}(h:Dat K G v (.bool x)):v = .bl x:=by unfold Dat at h;exact h
theorem Dat.non(h:Dat K G v .none):v = .non:=by unfold Dat at h;exact h
def Dat.tup(h:Dat K G v (.tuple ds)):∃ p xs,v = .ref p/\SqT K G p xs/\ZX K G xs ds:=by unfold Dat at h;exact h
theorem Dat.lst(h:Dat K G v (.list ds)):∃ p xs,v = .ref p/\G p=some (.lst xs)/\ZX K G xs ds:=by unfold Dat at h;exact h
def ZX.nil(h:ZX K G xs []):xs=[]:=by unfold ZX at h;exact h
def ZX.cons(h:ZX K G xs (d::ds)):∃ y ys,xs=y::ys/\Dat K G y d/\ZX K G ys ds:=by unfold ZX at h;exact h
theorem ZX.length:∀{ds:List PD}{xs:List V},ZX K G xs ds->xs.length=ds.length
 |[],_,h=>by rw[h.nil];rfl
 |d::ds,_,h=>by obtain⟨y,ys,rfl,_,r⟩:=h.cons;show ys.length+1=ds.length+1;rw[r.length]
theorem ZX.get:∀{ds:List PD}{xs:List V}{i:Nat}{d:PD},ZX K G xs ds->ds[i]?=some d->∃ x,xs[i]?=some x/\Dat K G x d
 |[],_,_,_,_,e=>by simp at e
 |d::ds,_,0,_,h,e=>by obtain⟨y,ys,rfl,hd,r⟩:=h.cons;simp at e;subst e;exact⟨y,rfl,hd⟩
 |d::ds,_,i+1,d',h,e=>by obtain⟨y,ys,rfl,hd,r⟩:=h.cons;obtain⟨x,h1,h2⟩:=ZX.get (i:=i) (d:=d') r (by simpa using e);exact⟨x,by simpa using h1,h2⟩
def ZX.zoj{i:Nat}{x:V}(h:ZX K G xs ds)(e:xs[i]?=some x):∃ d,ds[i]?=some d/\Dat K G x d:=by have hl:=h.length;have hi:i<xs.length:=(Io.mp e).1;obtain⟨y,h1,h2⟩:=h.get (Ib (show i<ds.length by omega));rw[e]at h1;cases h1;exact⟨_,Ib (by omega),h2⟩
theorem Xe:∀{ds es:List PD}{xs ys:List V},ZX K G xs ds->ZX K G ys es->ZX K G (xs++ys) (ds++es)
 |[],_,_,_,h,r=>by rw[h.nil];exact r
 |d::ds,_,_,_,h,r=>by obtain⟨y,ys,rfl,hd,r'⟩:=h.cons;exact Z4 hd (Xe r' r)
def Ur{x:V}(h:ZX K G xs ds)(r:Dat K G x d):ZX K G (xs++[x]) (ds++[d]):=Xe h (Z4 r Yi)
theorem UL:∀{ds:List PD}{xs:List V}(n:Nat),ZX K G xs ds->ZX K G (xs.take n) (ds.take n)
 |_,_,0,_=>Yi
 |[],_,n+1,h=>by rw[h.nil];exact Yi
 |d::ds,_,n+1,h=>by obtain⟨y,ys,rfl,hd,r⟩:=h.cons;exact Z4 hd (UL n r)
theorem Us:∀{ds:List PD}{xs:List V}(n:Nat),ZX K G xs ds->ZX K G (xs.drop n) (ds.drop n)
 |_,_,0,h=>h
 |[],_,n+1,h=>by rw[h.nil];exact Yi
 |d::ds,_,n+1,h=>by obtain⟨y,ys,rfl,hd,r⟩:=h.cons;exact Us n r
theorem zdu:∀{ds:List PD}{xs:List V}{x:V}{d:PD}(n:Nat),ZX K G xs ds->Dat K G x d->ZX K G (xs.set n x) (ds.set n d)
 |[],_,_,_,_,h,_=>by rw[h.nil];exact Yi
 |d::ds,_,_,_,0,h,e=>by obtain⟨y,ys,rfl,hd,r⟩:=h.cons;exact Z4 e r
 |d::ds,_,_,_,n+1,h,e=>by obtain⟨y,ys,rfl,hd,r⟩:=h.cons;exact Z4 hd (zdu n r e)
theorem zaq:∀{ds:List PD}{xs:List V}(n:Nat),ZX K G xs ds->ZX K G (xs.eraseIdx n) (ds.eraseIdx n)
 |[],_,_,h=>by rw[h.nil];exact Yi
 |d::ds,_,0,h=>by obtain⟨y,ys,rfl,hd,r⟩:=h.cons;exact r
 |d::ds,_,n+1,h=>by obtain⟨y,ys,rfl,hd,r⟩:=h.cons;exact Z4 hd (zaq n r)
theorem zby:∀ ns:List Int,ZX K G (ns.map V.int) (ns.map PyData.int)
 |[]=>Yi
 |n::ns=>Z4 (Zy n) (zby ns)
theorem ZX.ints:∀{ns:List Int}{xs:List V},ZX K G xs (ns.map PyData.int)->xs=ns.map V.int
 |[],_,h=>h.nil
 |n::ns,_,h=>by obtain⟨y,ys,rfl,hd,r⟩:=h.cons;rw[hd.int,ZX.ints r];rfl
end
mutual
theorem Dat.same{K:FG}(e:Zr G G'):∀{d:PD}{v:V},Dat K G v d->Dat K G' v d
 |.none,_,h=>by rw[h.non];exact Qu
 |.bool b,_,h=>by rw[h.bl];exact Yr b
 |.int i,_,h=>by rw[h.int];exact Zy i
 |.str x,_,h=>by rw[h.str];exact zcD x
 |.list ds,_,h=>by obtain⟨p,xs,rfl,h1,h2⟩:=h.lst;exact Y8 (e _ _ h1) (ZX.same e h2)
 |.tuple ds,_,h=>by obtain⟨p,xs,rfl,h1,h2⟩:=h.tup;exact XQ (e.tup h1) (ZX.same e h2)
 |.dict _,_,h=>by unfold Dat at h;exact h.elim
theorem ZX.same{K:FG}(e:Zr G G'):∀{ds:List PD}{xs:List V},ZX K G xs ds->ZX K G' xs ds
 |[],_,h=>by rw[h.nil];exact Yi
 |d::ds,_,h=>by obtain⟨y,ys,rfl,hd,r⟩:=h.cons;exact Z4 (Dat.same e hd) (ZX.same e r)
end
section
variable {X:Cx}{aa:List (AD×Obj)}{σ:St}{H G:Hp}{s:SH}
mutual
theorem Dat.reads(I:Inv X aa σ H s)(e:Zr G H):∀{d:PD}{v:V}{u:Value},Dat X.K G v d->RelV v u->∃ as,Reads s.heap u d as
 |.none,_,u,h,r=>by rw[h.non]at r;cases(show u=Value.none from r);exact⟨_,.none⟩
 |.bool b,_,u,h,r=>by rw[h.bl]at r;cases(show u=Value.bool b from r);exact⟨_,.bool b⟩
 |.int i,_,u,h,r=>by
  rw[h.int]at r;obtain⟨t,q⟩:=(show ∃ t,u=Value.int i t from r)
  subst q;exact⟨_,.int i t⟩
 |.str x,_,u,h,r=>by
  rw[h.str]at r;obtain⟨t,q⟩:=(show ∃ t,u=Value.str x t from r)
  subst q;exact⟨_,.str x t⟩
 |.list ds,_,u,h,r=>by obtain⟨p,xs,rfl,h1,h2⟩:=h.lst;cases(show u=Value.ref p from r);obtain⟨its,rv,⟨o,n,e1,c,_,d1⟩,_⟩:=I.list (SqL.of (e _ _ h1));obtain⟨as,ra⟩:=ZX.reads I e h2 rv;exact⟨_,Reads.list e1 c d1 (by simpa using ra)⟩
 |.tuple ds,_,u,h,r=>by obtain⟨p,xs,rfl,h1,h2⟩:=h.tup;cases(show u=Value.ref p from r);obtain⟨its,rv,⟨o,e1,c,n,d1⟩,_⟩:=I.tuple (e.tup h1);obtain⟨as,ra⟩:=ZX.reads I e h2 rv;exact⟨_,Reads.tuple e1 c d1 (by simpa using ra)⟩
 |.dict _,_,_,h,_=>by unfold Dat at h;exact h.elim
theorem ZX.reads(I:Inv X aa σ H s)(e:Zr G H):∀{ds:List PD}{xs:List V}{us:List Value},ZX X.K G xs ds->Vals xs us->∃ as,ReadsAll s.heap us ds as
 |[],_,us,h,r=>by rw[h.nil]at r;cases r;exact⟨_,.nil⟩
 |d::ds,_,us,h,r=>by
  obtain⟨y,ys,rfl,hd,hr⟩:=h.cons;cases r with
  |cons r1 r2=>obtain⟨as,ra⟩:=Dat.reads I e hd r1;obtain⟨bs,rb⟩:=ZX.reads I e hr r2;exact⟨_,.cons ra rb⟩
end
end
mutual
noncomputable def noBool:PD->Bool
 |.bool _=>false
 |.dict _=>false
 |.list xs=>Wm xs
 |.tuple xs=>Wm xs
 |.none | .int _ | .str _=>true
noncomputable def Wm:List PD->Bool
 |[]=>true
 |x::xs=>noBool x&&Wm xs
end
mutual
theorem zcM:∀ a b:PD,noBool a=true->noBool b=true->SeqAt.noMix a b=true
 |.list xs,.list ys,h,k=>by rw[SeqAt.noMix];exact U0 xs ys (by simpa [noBool]using h) (by simpa [noBool]using k)
 |.tuple xs,.tuple ys,h,k=>by rw[SeqAt.noMix];exact U0 xs ys (by simpa [noBool]using h) (by simpa [noBool]using k)
 |.bool _,_,h,_=>by simp[noBool]at h
 |.dict _,_,h,_=>by simp[noBool]at h
 |.none,.bool _,_,k | .int _,.bool _,_,k | .str _,.bool _,_,k | .list _,.bool _,_,k | .tuple _,.bool _,_,k=>by simp[noBool]at k
 |.none,.dict _,_,k | .int _,.dict _,_,k | .str _,.dict _,_,k | .list _,.dict _,_,k | .tuple _,.dict _,_,k=>by simp[noBool]at k
 |.none,.none,_,_ | .none,.int _,_,_ | .none,.str _,_,_ | .none,.list _,_,_ | .none,.tuple _,_,_=>by simp[SeqAt.noMix]
 |.int _,.none,_,_ | .int _,.int _,_,_ | .int _,.str _,_,_ | .int _,.list _,_,_ | .int _,.tuple _,_,_=>by simp[SeqAt.noMix]
 |.str _,.none,_,_ | .str _,.int _,_,_ | .str _,.str _,_,_ | .str _,.list _,_,_ | .str _,.tuple _,_,_=>by simp[SeqAt.noMix]
 |.list _,.none,_,_ | .list _,.int _,_,_ | .list _,.str _,_,_ | .list _,.tuple _,_,_=>by simp[SeqAt.noMix]
 |.tuple _,.none,_,_ | .tuple _,.int _,_,_ | .tuple _,.str _,_,_ | .tuple _,.list _,_,_=>by simp[SeqAt.noMix]
theorem U0:∀ a b:List PD,Wm a=true->Wm b=true->SeqAt.noMixAll a b=true
 |[],[],_,_ | [],_::_,_,_ | _::_,[],_,_=>by simp[SeqAt.noMixAll]
 |x::xs,y::ys,h,k=>by
  have h' : noBool x=true/\Wm xs=true:=by simpa [Wm]using h
  have k' : noBool y=true/\Wm ys=true:=by simpa [Wm]using k
  rw[SeqAt.noMixAll,zcM x y h'.1 k'.1,U0 xs ys h'.2 k'.2];rfl
end
structure Pl(n:Nat)(d:PD):Prop where
 lay:d.canLay0=true
 dep:d.depth<=n
 nb:noBool d=true
def Pl.mono{n m:Nat}(h:Pl n d)(k:n<=m):Pl m d:=⟨h.lay,IH h.dep k,h.nb⟩
theorem Pl.shaped{n:Nat}(h:Pl n d)(k:n<=64):SeqAt.shaped d=true:=by show(PyData.canLay0 d&&decide (PyData.depth d<=64))=true;rw[NR];exact⟨h.lay,Iw (IH h.dep k)⟩
def Pl.mix{n:Nat}{a b:PD}(h:Pl n a)(k:Pl n b):SeqAt.noMix a b=true:=zcM a b h.nb k.nb
mutual
theorem zbe:∀{a b:PD},PySem.Spec.same a b=true->a=b
 |.none,b,h=>by cases b <;> first | rfl | simp[PySem.Spec.same]at h
 |.bool x,b,h=>by cases b <;> simp[PySem.Spec.same]at h <;> rw[h]
 |.int x,b,h=>by cases b <;> simp[PySem.Spec.same]at h <;> rw[h]
 |.str x,b,h=>by cases b <;> simp[PySem.Spec.same]at h <;> rw[h]
 |.list x,b,h=>by
  cases b <;> simp[PySem.Spec.same]at h
  rw[Vb h]
 |.tuple x,b,h=>by
  cases b <;> simp[PySem.Spec.same]at h
  rw[Vb h]
 |.dict x,b,h=>by
  cases b <;> simp[PySem.Spec.same]at h
  rw[Vu h]
theorem Vb:∀{a b:List PD},sameAll a b=true->a=b
 |[],[],_=>rfl
 |[],_::_,h=>by simp[sameAll]at h
 |_::_,[],h=>by simp[sameAll]at h
 |x::xs,y::ys,h=>by
  have h' : PySem.Spec.same x y=true/\sameAll xs ys=true:=by simpa [sameAll]using h
  rw[zbe h'.1,Vb h'.2]
theorem Vu:∀{a b:List (PD×PD)},samePairs a b=true->a=b
 |[],[],_=>rfl
 |[],_::_,h=>by simp[samePairs]at h
 |_::_,[],h=>by simp[samePairs]at h
 |(x,z)::xs,(y,w)::ys,h=>by
  have h' : (PySem.Spec.same x y=true/\PySem.Spec.same z w=true)/\samePairs xs ys=true:=by simpa [samePairs]using h
  rw[zbe h'.1.1,zbe h'.1.2,Vu h'.2]
end
def zga{a b:PD}(h:a≠b):PySem.Spec.same a b=false:=by
 cases e:PySem.Spec.same a b with
 |false=>rfl
 |true=>exact absurd (zbe e) h
section
variable {X:Cx}
def zkv(K:FG)(g:Bool->Bool):R2:=λx y H Q=>∃(G:Hp)(a b:PD),Zr G H/\Dat K G x a/\Dat K G y b/\(SeqAt.shaped a=true/\SeqAt.shaped b=true/\SeqAt.noMix a b=true)/\Q (.bl (g (PySem.Spec.same a b))) H
def zmh(hu:X.A.units+64<cLine):OpR X (compareOp .Eq) (zkv X.K λb=>b):=by intro aa s σ H x y v u Q I rx ry h;obtain⟨G,a,b,e,ha,hb,⟨sa,sb,nm⟩,q⟩:=h;obtain⟨as,ra⟩:=Dat.reads I e ha rx;obtain⟨bs,rb⟩:=Dat.reads I e hb ry;exact eq_dataH_same ra rb sa sb hu nm ⟨.bl (PySem.Spec.same a b),H,I,rfl,q⟩
def zkE(hu:X.A.units+64<cLine):OpR X (compareOp .NotEq) (zkv X.K λb=>!b):=by intro aa s σ H x y v u Q I rx ry h;obtain⟨G,a,b,e,ha,hb,⟨sa,sb,nm⟩,q⟩:=h;obtain⟨as,ra⟩:=Dat.reads I e ha rx;obtain⟨bs,rb⟩:=Dat.reads I e hb ry;exact ne_dataH_same ra rb sa sb hu nm ⟨.bl (!PySem.Spec.same a b),H,I,rfl,q⟩
end
def VF(i:Int){n:Nat}:Pl n (.int i):=⟨by unfold PyData.canLay0;rfl,by unfold PyData.depth;omega,by unfold noBool;rfl⟩
theorem Jh:∀{ds:List PD},(∀ d∈ds,d.canLay0=true)->PyData.canLayAll0 ds=true
 |[],_=>rfl
 |d::ds,h=>by unfold PyData.canLayAll0;rw[h d (by simp),Jh λe he=>h e (by simp[he])];rfl
theorem Qw:∀{ds:List PD}{n:Nat},(∀ d∈ds,d.depth<=n)->PyData.depthAll ds<=n
 |[],_,_=>by unfold PyData.depthAll;omega
 |d::ds,n,h=>by have h1:=h d (by simp);have h2:=Qw (ds:=ds) (n:=n) λe he=>h e (by simp[he]);unfold PyData.depthAll;omega
theorem Vk:∀{ds:List PD},(∀ d∈ds,noBool d=true)->Wm ds=true
 |[],_=>rfl
 |d::ds,h=>by unfold Wm;rw[h d (by simp),Vk λe he=>h e (by simp[he])];rfl
def zc3{n:Nat}(h:∀ d∈ds,Pl n d):Pl (n+1) (.tuple ds):=by
 refine⟨?_,?_,?_⟩
 .unfold PyData.canLay0;exact Jh λd hd=>(h d hd).lay
 .have:=Qw λd hd=>(h d hd).dep;unfold PyData.depth;omega
 .unfold noBool;exact Vk λd hd=>(h d hd).nb
def JM{n:Nat}(h:∀ d∈ds,Pl n d):Pl (n+1) (.list ds):=by
 refine⟨?_,?_,?_⟩
 .unfold PyData.canLay0;exact Jh λd hd=>(h d hd).lay
 .have:=Qw λd hd=>(h d hd).dep;unfold PyData.depth;omega
 .unfold noBool;exact Vk λd hd=>(h d hd).nb
structure YW(G H G' H' : Hp):Prop where
 gg:Zr G G'
 gh:Zr G' H'
 hh:Zr H H'
 fr:∀ b o,G' b=some o->G b=some o\/H b=none
theorem YW.refl(s:Zr G H):YW G H G H:=⟨Zr.refl _,s,Zr.refl _,λ_ _ h=>.inl h⟩
theorem YW.trans{G1 H1 G2 H2:Hp}(a:YW G H G1 H1)(b:YW G1 H1 G2 H2):YW G H G2 H2:=
 ⟨a.gg.trans b.gg,b.gh,a.hh.trans b.hh,λx o h=>by
  rcases b.fr x o h with h | h
  .exact a.fr x o h
  .exact .inr (a.hh.free h)⟩
def Yh{p:AD}(s:Zr G H)(hp:H p=none):YW G H (upd G p o) (upd H p o):=by
 have hg:G p=none:=s.free hp;refine⟨λb u e=>?_,λb u e=>?_,λb u e=>?_,λb u e=>?_⟩
 .rw[Zk (ZC e hg)];exact e
 .by_cases h:b=p
  .subst h;rw[Zi]at e ⊢;exact e
  .rw[Zk h]at e ⊢;exact s b u e
 .rw[Zk (ZC e hp)];exact e
 .by_cases h:b=p
  .subst h;exact .inr hp
  .rw[Zk h]at e;exact .inl e
def Qm(s:Zr G H)(h:Zr H H'):YW G H G H':=⟨Zr.refl _,s.trans h,h,λ_ _ e=>.inl e⟩
def YW.out(a:YW G H G' H'){p:AD}(hp:H p=some o)(hg:G p=none):G' p=none:=by
 cases e:G' p with
 |none=>rfl
 |some u=>
  rcases a.fr p u e with h | h
  .rw[hg]at h;cases h
  .rw[hp]at h;cases h
def Ev(K:FG)(t:TE)(σ:St)(G:Hp)(d:PD):Prop:=∀ G1 H,Zr G G1->Zr G1 H->∀ Q:VK,(∀ v G' H',YW G1 H G' H' -> Dat K G' v d->Q v H')->t σ H Q
def EvT(t:TT)(σ:St)(G:Hp)(b:Bool):Prop:=∀ G1 H,Zr G G1->Zr G1 H->∀ Q:Bool->Hp->Prop,(∀ G' H',YW G1 H G' H' -> Q b H')->t σ H Q
def EvA(K:FG)(t:TA)(σ:St)(G:Hp)(ds:List PD):Prop:=∀ G1 H,Zr G G1->Zr G1 H->∀ Q:List V->Hp->Prop,(∀ vs G' H',YW G1 H G' H' -> ZX K G' vs ds->Q vs H')->t σ H Q
section
variable {K:FG}{σ:St}{G:Hp}{ta tb tc:TE}{a b d:PD}
def Ev.mono{t:TE}(h:Ev K t σ G d)(s:Zr G G'):Ev K t σ G' d:=λG1 H s1 s2 Q k=>h G1 H (s.trans s1) s2 Q k
def Ev.use{t:TE}{Q:VK}(h:Ev K t σ G d)(s:Zr G H)(k:∀ v G' H',YW G H G' H' -> Dat K G' v d->Q v H'):t σ H Q:=h G H (Zr.refl _) s Q k
def zih{i:Nat}(h:σ[i]?=some (some v))(hd:Dat K G v d):Ev K (JB i) σ G d:=λG1 H s1 s2 Q k=>⟨v,h,k v G1 H (YW.refl s2) (hd.same s1)⟩
def zbi(hd:Dat K G v d):Ev K (tC v) σ G d:=λG1 H s1 s2 Q k=>k v G1 H (YW.refl s2) (hd.same s1)
def zl5 :Ev K (tC (.int i)) σ G (.int i):=zbi (Zy i)
def zlZ :Ev K (tC (.str x)) σ G (.str x):=zbi (zcD x)
def zmS{x:Bool}:Ev K (tC (.bl x)) σ G (.bool x):=zbi (Yr x)
def QB{r:R2}(ha:Ev K ta σ G a)(hb:Ev K tb σ G b)(hr:∀ G1 H x y (Q:VK),Zr G G1->Zr G1 H->Dat K G1 x a->Dat K G1 y b->(∀ v G' H',YW G1 H G' H' -> Dat K G' v d->Q v H')->r x y H Q):Ev K (tOp r ta tb) σ G d:=
 λG1 H s1 s2 Q k=>ha G1 H s1 s2 _ λx G2 H2 g2 hx=>hb G2 H2 (s1.trans g2.gg) g2.gh _ λy G3 H3 g3 hy=>hr G3 H3 x y Q ((s1.trans g2.gg).trans g3.gg) g3.gh (hx.same g3.gg) hy λv G' H' g hv=>k v G' H' ((g2.trans g3).trans g) hv
def zhU{g:Int->Int->V}{j:Int}(ha:Ev K ta σ G (.int i))(hb:Ev K tb σ G (.int j))(hg:Dat K G (g i j) d):Ev K (tOp (rI0 g) ta tb) σ G d:=
 QB ha hb λG1 H x y Q s1 s2 hx hy k=>by rw[hx.int,hy.int];exact⟨i,j,rfl,rfl,k _ G1 H (YW.refl s2) (hg.same s1)⟩
def zjf{C:Int->Int->Prop}{g:Int->Int->V}{j:Int}(ha:Ev K ta σ G (.int i))(hb:Ev K tb σ G (.int j))(hc:C i j)(hg:Dat K G (g i j) d):Ev K (tOp (rI C g) ta tb) σ G d:=
 QB ha hb λG1 H x y Q s1 s2 hx hy k=>by rw[hx.int,hy.int];exact⟨i,j,rfl,rfl,hc,k _ G1 H (YW.refl s2) (hg.same s1)⟩
def zlv{n:Nat}(ha:Ev K ta σ G (.tuple ds))(hb:Ev K tb σ G (.int i))(hn:ixN ds.length i=some n)(hd:ds[n]?=some d):Ev K (tOp (zkz K) ta tb) σ G d:=
 QB ha hb λG1 H x y Q s1 s2 hx hy k=>by obtain⟨p,xs,rfl,hp,hxs⟩:=hx.tup;obtain⟨z,hz,hzd⟩:=hxs.get hd;rw[hy.int];exact⟨p,xs,i,z,rfl,rfl,s2.tup hp,by unfold atI;rw[hxs.length,hn];exact hz,k z G1 H (YW.refl s2) hzd⟩
def zlg{n:Nat}(ha:Ev K ta σ G (.list ds))(hb:Ev K tb σ G (.int i))(hn:ixN ds.length i=some n)(hd:ds[n]?=some d):Ev K (tOp (zmj K) ta tb) σ G d:=
 QB ha hb λG1 H x y Q s1 s2 hx hy k=>by obtain⟨p,xs,rfl,hp,hxs⟩:=hx.lst;obtain⟨z,hz,hzd⟩:=hxs.get hd;rw[hy.int];exact⟨p,xs,i,z,rfl,rfl,SqL.of (s2 _ _ hp),by unfold atI;rw[hxs.length,hn];exact hz,k z G1 H (YW.refl s2) hzd⟩
def zlX{g:Bool->Bool}{n:Nat}(ha:Ev K ta σ G a)(hb:Ev K tb σ G b)(pa:Pl n a)(pb:Pl n b)(hn:n<=64):Ev K (tOp (zkv K g) ta tb) σ G (.bool (g (PySem.Spec.same a b))):=QB ha hb λG1 H x y Q s1 s2 hx hy k=>⟨G1,a,b,s2,hx,hy,⟨pa.shaped hn,pb.shaped hn,pa.mix pb⟩,k _ G1 H (YW.refl s2) (Yr _)⟩
def zj3:EvA K V5 σ G []:=λG1 H s1 s2 Q k=>k [] G1 H (YW.refl s2) Yi
def zgM(ha:Ev K ta σ G a)(hb:EvA K t σ G ds):EvA K (YQ ta t) σ G (a::ds):=λG1 H s1 s2 Q k=>ha G1 H s1 s2 _ λx G2 H2 g2 hx=>hb G2 H2 (s1.trans g2.gg) g2.gh _ λys G3 H3 g3 hy=>k (x::ys) G3 H3 (g2.trans g3) (Z4 (hx.same g3.gg) hy)
def zmx(h:EvA K t σ G ds)(hl:ds.length<=sizeLine):Ev K (zmN t) σ G (.tuple ds):=
 λG1 H s1 s2 Q k=>h G1 H s1 s2 _ λvs G2 H2 g2 hv=>⟨by rw[hv.length];exact hl,λp hp=>by
  have g:=Yh (o:=.tup vs) g2.gh hp;exact k _ _ _ (g2.trans g) (XQ (SqT.of Zi) (hv.same g.gg))⟩
def zld(h:EvA K t σ G ds)(hl:ds.length<=sizeLine):Ev K (zmL t) σ G (.list ds):=
 λG1 H s1 s2 Q k=>h G1 H s1 s2 _ λvs G2 H2 g2 hv=>⟨by rw[hv.length];exact hl,λp hp=>by
  have g:=Yh (o:=.lst vs) g2.gh hp;exact k _ _ _ (g2.trans g) (Y8 Zi (hv.same g.gg))⟩
def za6{r:List V->Hp->VK->Prop}(h:EvA K t σ G ds)(hr:∀ G1 H xs (Q:VK),Zr G G1->Zr G1 H->ZX K G1 xs ds->(∀ v G' H',YW G1 H G' H' -> Dat K G' v d->Q v H')->r xs H Q):Ev K (tCB r t) σ G d:=λG1 H s1 s2 Q k=>h G1 H s1 s2 _ λvs G2 H2 g2 hv=>hr G2 H2 vs Q (s1.trans g2.gg) g2.gh hv λv G' H' g hd=>k v G' H' (g2.trans g) hd
def zjg(h:EvA K t σ G [.list ds]):Ev K (tCB (λxs H Q=>∃ p ys,xs=[.ref p]/\(SqL K H p ys\/SqT K H p ys)/\Q (.int ys.length) H) t) σ G (.int ds.length):=
 za6 h λG1 H xs Q s1 s2 hx k=>by obtain⟨y,ys,rfl,hy,r⟩:=hx.cons;rw[r.nil];obtain⟨p,zs,rfl,hp,hz⟩:=hy.lst;refine⟨p,zs,rfl,.inl (SqL.of (s2 _ _ hp)),?_⟩;rw[hz.length];exact k _ G1 H (YW.refl s2) (Zy _)
def zj4(h:EvA K t σ G [.tuple ds]):Ev K (tCB (λxs H Q=>∃ p ys,xs=[.ref p]/\(SqL K H p ys\/SqT K H p ys)/\Q (.int ys.length) H) t) σ G (.int ds.length):=
 za6 h λG1 H xs Q s1 s2 hx k=>by obtain⟨y,ys,rfl,hy,r⟩:=hx.cons;rw[r.nil];obtain⟨p,zs,rfl,hp,hz⟩:=hy.tup;refine⟨p,zs,rfl,.inr (s2.tup hp),?_⟩;rw[hz.length];exact k _ G1 H (YW.refl s2) (Zy _)
def zeV(h:EvA K t σ G [.list ds]):Ev K (tCB (λxs H Q=>∃ p ys,xs=[.ref p]/\((SqL K H p ys/\∀ l,H l=none->Q (.ref l) (upd H l (.tup ys)))\/(SqT K H p ys/\Q (.ref p) H))) t) σ G (.tuple ds):=
 za6 h λG1 H xs Q s1 s2 hx k=>by obtain⟨y,ys,rfl,hy,r⟩:=hx.cons;rw[r.nil];obtain⟨p,zs,rfl,hp,hz⟩:=hy.lst;refine⟨p,zs,rfl,.inl ⟨SqL.of (s2 _ _ hp),λl hl=>?_⟩⟩;have g:=Yh (o:=.tup zs) s2 hl;exact k _ _ _ g (XQ (SqT.of Zi) (hz.same g.gg))
def zg8{t:TE}(h:Ev K t σ G (.bool c)):EvT (zg1 t) σ G c:=λG1 H s1 s2 Q k=>h G1 H s1 s2 _ λv G' H' g hv=>⟨c,hv.bl,k G' H' g⟩
def zm4{t:TE}(h:Ev K t σ G (.bool c)):EvT (tB t) σ G c:=λG1 H s1 s2 Q k=>h G1 H s1 s2 _ λv G' H' g hv=>⟨c,hv.bl,k G' H' g⟩
def ziT{t:TT}(h:EvT t σ G c):EvT (zna t) σ G (!c):=λG1 H s1 s2 Q k=>h G1 H s1 s2 _ λG' H' g=>k G' H' g
def zlx{t u:TT}{e:Bool}(h:EvT t σ G c)(h' : c=false->EvT u σ G e):EvT (tOr t u) σ G (c||e):=λG1 H s1 s2 Q k=>h G1 H s1 s2 _ λG' H' g=>by
 cases c with
 |true=>rw[Iz rfl];exact k G' H' g
 |false=>rw[Iq Ii];exact h' rfl G' H' (s1.trans g.gg) g.gh _ λG2 H2 g2=>k G2 H2 (g.trans g2)
def zjo{t u:TT}{e:Bool}(h:EvT t σ G c)(h' : c=true->EvT u σ G e):EvT (zmO t u) σ G (c&&e):=λG1 H s1 s2 Q k=>h G1 H s1 s2 _ λG' H' g=>by
 cases c with
 |false=>rw[Iq Ii];exact k G' H' g
 |true=>rw[Iz rfl];exact h' rfl G' H' (s1.trans g.gg) g.gh _ λG2 H2 g2=>k G2 H2 (g.trans g2)
def zm8{t:TE}{e:PD}(h:Ev K t σ G d)(q:d=e):Ev K t σ G e:=q ▸ h
def zkR{t:TT}(h:EvT t σ G c)(h1:c=true->Ev K ta σ G d)(h2:c=false->Ev K tb σ G d):Ev K (tIf t ta tb) σ G d:=λG1 H s1 s2 Q k=>h G1 H s1 s2 _ λG' H' g=>by
 cases c with
 |true=>rw[Iz rfl];exact h1 rfl G' H' (s1.trans g.gg) g.gh _ λv G2 H2 g2 hv=>k v G2 H2 (g.trans g2) hv
 |false=>rw[Iq Ii];exact h2 rfl G' H' (s1.trans g.gg) g.gh _ λv G2 H2 g2 hv=>k v G2 H2 (g.trans g2) hv
def spP(K:FG)(R:List PD->PD->Prop):Sp:=λvs H Q _=>∃(G:Hp)(ds:List PD)(d:PD),Zr G H/\ZX K G vs ds/\R ds d/\∀ v G' H',YW G H G' H' -> Dat K G' v d->Q v H'
def ziK{R:List PD->PD->Prop}{E:XK}(h:EvA K t σ G ds)(hR:R ds d):Ev K (Vn (spP K R) [] E t) σ G d:=
 λG1 H s1 s2 Q k=>h G1 H s1 s2 _ λvs G2 H2 g2 hv=>by refine⟨G2,ds,d,g2.gh,?_,hR,λv G' H' g hd=>k v G' H' (g2.trans g) hd⟩;rw[Nx];exact hv
def zho:EvT zgI σ G true:=λG1 H s1 s2 Q k=>k G1 H (YW.refl s2)
end
section
variable {K:FG}{σ:St}{G H:Hp}{te:TE}{d:PD}{D:Ends}
theorem Vo(f:α->β):∀ l:List α,l.filterMap (λx=>some (f x))=l.map f
 |[]=>rfl
 |x::l=>by rw[N1,Nt,Vo f l]
theorem zb9:∀ ns:List Nat,ZX K G (ns.map λn=>V.int (n:Nat)) (ns.map λn=>PyData.int (n:Nat))
 |[]=>Yi
 |n::ns=>Z4 (Zy _) (zb9 ns)
def Wq{n i:Nat}(h:i<n):ixN n (i:Int)=some i:=by unfold ixN;rw[Iz (by omega),Iz (by omega)];simp
end
section
variable {K:FG}{σ:St}{G H:Hp}{ta tb:TE}
def zlm{j:Int}(ha:Ev K ta σ G (.int i))(hb:Ev K tb σ G (.int j)):Ev K (tOp rNe ta tb) σ G (.bool (!decide (i=j))):=
 QB ha hb λG1 H x y Q s1 s2 hx hy k=>by
  rw[hx.int,hy.int];refine⟨rfl,?_⟩;have e:decide (V.int i=V.int j)=decide (i=j):=by
   by_cases h:i=j
   .rw[Iw h,Iw (by rw[h])]
   .rw[Ip h,Ip λz=>h (by injection z)]
  rw[e];exact k _ G1 H (YW.refl s2) (Yr _)
def zh5{j:Int}(ha:Ev K ta σ G (.int i))(hb:Ev K tb σ G (.int j)):Ev K (tOp rEq ta tb) σ G (.bool (decide (i=j))):=
 QB ha hb λG1 H x y Q s1 s2 hx hy k=>by
  rw[hx.int,hy.int];refine⟨rfl,?_⟩;have e:decide (V.int i=V.int j)=decide (i=j):=by
   by_cases h:i=j
   .rw[Iw h,Iw (by rw[h])]
   .rw[Ip h,Ip λz=>h (by injection z)]
  rw[e];exact k _ G1 H (YW.refl s2) (Yr _)
def zg0{d:AD}(s:Zr G H)(n:G d=none):Zr G (upd H d o):=λb u e=>by rw[Zk (ZC e n)];exact s b u e
end
section
variable {X:Cx}{aa:List (AD×Obj)}{σ:St}{H:Hp}{s:SH}{h' : Heap}
def Inv.zhp{t' : Nat}{T:AD}(I:Inv X aa σ H s)(k:∀ b u,b∉fp->s.heap.get? b=some u->h'.get? b=some u)(hf:∀ b∈fp,zdJ X aa H b)(hT:s.heap.objs.size<=T)(new:Yu X.prog X.w (upd H T o) h' T o):Inv X aa σ (upd H T o) {s with heap:=h',toks:=t'}:=by
 have nfp:∀ b u,H b=some u->b∉fp:=λb u e z=>by rw[(hf b z).1]at e;cases e
 have nT:∀ b u,H b=some u->b≠T:=λb u e=>IX (IP (I.ab.lt e) hT);have nT' : ∀ b u,s.heap.get? b=some u->b≠T:=λb u e=>IX (IP (IN e) hT);refine I.step (g':=s.gens) (d':=s.drawn) (ch:=fp) (λb hb=>?_) (λb u _ _ hc e _=>k b u hc e) (λb u _ _ hc e _=>⟨u.slots,k b u hc e⟩) (λb u _ e n=>by rw[Zk (nT' b u e)];exact n)
  (λb u hc e=>⟨u,k b u hc e⟩) (λb xs e=>by rw[Zk (nT b _ e)];exact e) (λb u v e=>by rw[Zk (nT b _ e)];exact e) (λb cr e=>by rw[Zk (nT b _ e)];exact e) (λm hm=>?_) (λb u e=>?_) I.bare
 .obtain⟨f0,f1,f2,f3,f4,f5⟩:=hf b hb;exact⟨f3,f1,f4,f5⟩
 .obtain⟨ob,es,ep,ho,r⟩:=hm;exact⟨ob,es,ep,k _ ob (λz=>(hf _ z).2.1 rfl) ho,r⟩
 .by_cases hb:b=T
  .subst hb;rw[Zi]at e;cases e;exact new
  .rw[Zk hb]at e;refine(I.ab b u e).stay (λc v hc q=>k c v ?_ q) (λc q=>by rw[Zk (nT c _ q)];exact q) (λc xs q=>by rw[Zk (nT c _ q)];exact q) λc o u q=>by rw[Zk (nT c _ q)];exact q
   rcases hc with z | z
   .rw[z];exact nfp b u e
   .exact nfp c _ z
def Inv.turns{t' : Nat}(I:Inv X aa σ H s)(k:∀ b u,b∉fp->s.heap.get? b=some u->h'.get? b=some u)(hf:∀ b∈fp,zdJ X aa H b):Inv X aa σ H {s with heap:=h',toks:=t'}:=by
 have nfp:∀ b u,H b=some u->b∉fp:=λb u e z=>by rw[(hf b z).1]at e;cases e
 refine I.step (g':=s.gens) (d':=s.drawn) (ch:=fp) (λb hb=>?_) (λb u _ _ hc e _=>k b u hc e) (λb u _ _ hc e _=>⟨u.slots,k b u hc e⟩) (λb u _ e n=>n)
  (λb u hc e=>⟨u,k b u hc e⟩) (λb xs e=>e) (λb u v e=>e) (λ_ _ e=>e) (λm hm=>?_) (λb u e=>?_) I.bare
 .obtain⟨f0,f1,f2,f3,f4,f5⟩:=hf b hb;exact⟨f3,f1,f4,f5⟩
 .obtain⟨ob,es,ep,ho,r⟩:=hm;exact⟨ob,es,ep,k _ ob (λz=>(hf _ z).2.1 rfl) ho,r⟩
 .refine(I.ab b u e).stay (λc v hc q=>k c v ?_ q) (λc q=>q) (λc xs q=>q) λc o u q=>q;rcases hc with z | z
  .rw[z];exact nfp b u e
  .exact nfp c _ z
end
section
variable {prog:Program}{w:World}{A:Around}{E:Value->SH->Prop}{s:SH}
def zea{it t:AD}{i:Nat}{x:Value}(q1:s.heap.IsTupleIter it t i)(q2:s.heap.IsTuple t items)(q3:items[i]?=some x)(k:∀ h',h'.IsTupleIter it t (i+1)->SameBut it s.heap h' -> Q x {s with heap:=h'}):wpAny (model prog w) A (Builtin.SmallTypes.nextOf (.ref it)) Q E s:=by
 obtain⟨oi,e1,e2,e3⟩:=id q1;obtain⟨ot,e4,_,nt,e5⟩:=q2;unfold Builtin.SmallTypes.nextOf;refine Ia (Ny (name:=Str.ofString "__next__") q1.typeIs OO (Nn OO q1.typeIs F.entry_tuple_iterator_next ?_ (F.args_tuple_iterator_next_1 _)));show wpAny (model prog w) _ (field (.ref it) 0 >>= _) _ _ s;refine Ia (Dp e1 e3 (x:=.ref t) rfl ?_);rw[Iq (show ¬ ((Value.ref t==Value.none)=true)from Ii)];refine Ia (Dp e1 e3 (x:=.int i 0) rfl ?_);refine Ia (Oc e4 e5 ?_);simp only[NP,q3];refine Ia (O7 e1 e3 (by simp) (Ic ⟨x,rfl,Ic (k _ ⟨_,NI _ e1 (Dj (NS e3 _)),(Obj.cls_mapFields ..).trans e2,by rw[NS e3];simp[rawInt]⟩ (Ot ..))⟩))
def Qg{it t:AD}{i:Nat}(q0:A.handled=none)(q1:s.heap.IsTupleIter it t i)(q2:s.heap.IsTuple t items)(q3:items[i]?=none)(k:∀ h' e,ExtBut it s.heap h' -> (∃ o,h'.get? e=some o/\o.cls = .type "StopIteration")->E (.ref e) {s with heap:=h'}):wpAny (model prog w) A (Builtin.SmallTypes.nextOf (.ref it)) Q E s:=by
 obtain⟨oi,e1,e2,e3⟩:=id q1;obtain⟨ot,e4,_,nt,e5⟩:=q2;unfold Builtin.SmallTypes.nextOf;refine Ia (Ny (name:=Str.ofString "__next__") q1.typeIs OO (Nn OO q1.typeIs F.entry_tuple_iterator_next ?_ (F.args_tuple_iterator_next_1 _)));show wpAny (model prog w) _ (field (.ref it) 0 >>= _) _ _ s;refine Ia (Dp e1 e3 (x:=.ref t) rfl ?_);rw[Iq (show ¬ ((Value.ref t==Value.none)=true)from Ii)];refine Ia (Dp e1 e3 (x:=.int i 0) rfl ?_);refine Ia (Oc e4 e5 ?_);simp only[NP,q3];refine Ia (Da (Ia (O7 e1 e3 (by simp) (Ia ?_))));simp only[newExc,newTuple];refine Ia (Na (Ia (m:=firstArgMember _ _) (wpAny_of_eq (a:=Value.none) (by first | rfl | (simp only[firstArgMember];rfl)) (Na ?_ (by size_fits)))) (by size_fits));simp only[raiseNew];refine Ia (wpAny_handled (?_:wpAny _ _ _ _ _ _))
 first | rw[show A.in1.handled=none from q0] | rw[q0]
 exact Ia (Ic (wpAny_throw (k _ _ (((Ot ..).extBut.push _).push _) ⟨_,Iu _ rfl,rfl⟩)))
def zf0(hh:A.handled=none)(it l:AD)(hne:l≠it)(items:Array Value):
  Draws prog w A it [it,l] items.size (λi v=>items[i]?=some v) (λi h=>h.IsTupleIter it l i/\h.IsTuple l items) where
 live:=λ_ _ st=>let ⟨o,ho,_⟩:=st.1;⟨o,ho⟩
 frame:=λ_ _ _ st hk=>⟨let ⟨o,ho,r⟩:=st.1;⟨o,hk it (by simp) o ho,r⟩,let ⟨o,ho,r⟩:=st.2;⟨o,hk l (by simp) o ho,r⟩⟩
 item:=λi s Q E hi st hQ=>zea st.1 st.2 (x:=items[i]) (by simp[hi]) λh' hit' hs' => hQ _ h' s.toks (by simp[hi]) ⟨hit',let ⟨o,ho,r⟩:=st.2;⟨o,(hs'.2 l hne).trans ho,r⟩⟩ hs'
 done:=λs Q E st hE=>Qg hh st.1 st.2 (by simp) hE
end
noncomputable def zn0(K:FG)(a:AD):It:=⟨λi H=>∃ xs x,SqT K H a xs/\xs[i]?=some x,λi H v H' => ∃ p x,H p=none/\v = .ref p/\H'=upd H p (.tup [.int i,x])/\∀ xs,SqT K H a xs->xs[i]?=some x,λi H=>∃ xs,SqT K H a xs/\xs.length<=i⟩
def zdd{b:AD}{o u:Obj}(e:h.get? a=some o)(e' : h.get? b=some u)(n:o.cls≠u.cls):a≠b:=by rintro rfl;rw[e]at e';cases e';exact n rfl
def zd4{P:Program}{w:World}{K:FG}{elts:List Expr}{tk:Nat}{tpos:Pos}(a e it:AD):Turn P w K (.Tuple elts tk tpos) (zn0 K a) [e,it] e (λi h=>(∃ old,IsEnum h e it i old)/\h.IsTupleIter it a i) where
 mem:=by simp
 obj:=λi h st b hb=>by
  obtain⟨⟨old,he⟩,o,ho,hc,hd⟩:=st;rcases IE.mp hb with rfl | hb
  .exact⟨_,he,λv z=>by cases z⟩
  .have eb:b=it:=by simpa using hb
   subst eb;exact⟨o,ho,λv z=>by rw[hd]at z;cases z⟩
 keep:=λi h h' st k=>by obtain⟨⟨old,he⟩,o,ho,r⟩:=st;exact⟨⟨old,k e (by simp) _ he⟩,o,k it (by simp) o ho,r⟩
 item:=by
  intro X hP hw hK hc i aa s σ H E I hf st hg;subst hP hw hK;obtain⟨xs,x,hq,hx⟩:=hg;obtain⟨its,rv,p,hz⟩:=I.tuple hq;obtain⟨u,hu,ru⟩:=rv.get hx;obtain⟨⟨old,he⟩,hit⟩:=st;obtain⟨oi,hoi,hci,hdi⟩:=id hit;obtain⟨ot,hot,hct,nt,hdt⟩:=id p;have hei:e≠it:=zdd he hoi (by rw[hci];show Value.type "enumerate" ≠ Value.type "tuple_iterator";decide);have hea:e≠a:=zdd he hot (by rw[hct];show Value.type "enumerate" ≠ Value.type "tuple";decide);have hai:a≠it:=zdd hot hoi (by rw[hci,hct];decide);have hlt:i<its.toArray.size:=by have:=(Io.mp hu).1;simpa using this
  refine wpAny_pyNext_enum_itemD (zf0 (show X.A.in1.handled=none from I.ok.hd hc) it a hai its.toArray) he ⟨hit,p⟩ hlt hei (by simp[hei,hea]) λx' h' tk' hP ho hs' hT hsz hk=>?_;have ex:x'=u:=by
   have hP' : its.toArray[i]?=some x':=hP;have:its[i]?=some x':=by simpa using hP'
   rw[hu]at this;exact(IA this).symm
  subst ex;refine⟨_,rfl,wpAny_letOwnedTupleGo_enum ho λh2 he2 hs2=>?_⟩;have het:e≠s.heap.objs.size:=IX (IN he);have new:Yu X.prog X.w (upd H s.heap.objs.size (.tup [.int i,x])) h2 s.heap.objs.size (.tup [.int i,x]):=⟨by show 2<=sizeLine;decide,[.int i tk',x'],.cons ⟨tk',rfl⟩ (.cons ru .nil),⟨_,(hs2.2 _ (Ne.symm het)).trans hT,rfl,_,rfl⟩,_,(hs2.2 _ (Ne.symm het)).trans hT,rfl⟩
  have kk:∀ b o,b∉[e,it]->s.heap.get? b=some o->h2.get? b=some o:=λb o hb q=>by have h1:b≠e:=λz=>hb (by simp[z]);have h2' : b≠it:=λz=>hb (by simp[z]);exact(hs2.2 b h1).trans (hk b o h1 h2' q)
  have fresh:=I.ab.fresh (Ih s.heap.objs.size);refine⟨.ref s.heap.objs.size,_,I.zhp (t':=tk'+1) kk hf (Ih _) new,rfl,⟨_,x,fresh,rfl,rfl,λys hy=>by rw[I.zbs hy hq];exact hx⟩,⟨⟨_,he2⟩,?_⟩,λb hb=>?_⟩
  .obtain⟨o3,g1,g2,g3⟩:=hs'.1;exact⟨o3,(hs2.2 it (Ne.symm hei)).trans g1,g2,g3⟩
  .have hb' : b≠s.heap.objs.size:=by
    rcases IE.mp hb with rfl | hb
    .exact het
    .rw[Ij.mp hb];exact IX (IN hoi)
   rw[Zk hb'];exact(hf b hb).1
 done:=by
  intro X hP hw hK hc i aa s σ H E I hf st hg;subst hP hw hK;obtain⟨xs,hq,hx⟩:=hg;obtain⟨its,rv,p,hz⟩:=I.tuple hq;obtain⟨⟨old,he⟩,hit⟩:=st;obtain⟨oi,hoi,hci,hdi⟩:=id hit;obtain⟨ot,hot,hct,nt,hdt⟩:=id p;have hai:a≠it:=zdd hot hoi (by rw[hci,hct];decide);have hl:=rv.length;unfold pyNext;have hTy:s.TypeIs (.ref e) "enumerate" := ⟨_,he,rfl⟩
  refine Ia (O0 (Ny (name:=Str.ofString "__next__") hTy F.slot_enumerate_next (Nn F.slot_enumerate_next hTy F.entry_enumerate_next ?_ (F.args_enumerate_next_1 _))));show wpAny (model X.prog X.w) X.A.in1 (field (.ref e) 2 >>= _) _ _ s;refine Ia (Dp he rfl (x:=.ref it) rfl (Ia (Qg (I.ok.hd hc) hit p (by simp;omega) λh' y g1 g2=>?_)));obtain⟨o,ho,hcl⟩:=g2;refine Ia (N8 (T:= "StopIteration") (b:=true) ⟨o,ho,hcl⟩ isSubtype_stop (Ic ?_));exact⟨rfl,I.turns (t':=s.toks) (λb u hb q=>g1 b u (λz=>hb (by simp[z])) q) hf⟩
 self:=λ_ _ _ _ _ st h=>by obtain⟨⟨old,he⟩,_⟩:=st;exact wpAny_pyIter_enum he h
def zgk(l:AD)(items:Array Value)(n:Nat)(dct:Option AD)(sl:Array (Option Value)):
  Meets (Builtin.«enumerate.__new__» ⟨[.type "enumerate",.ref l],[]⟩) (λ_ R s=>s.heap.get? l=some {cls:=.type "tuple",dict:=dct,data:=.seq items n,slots:=sl}/\
   R (.ok (.ret (.ref (s.heap.push {cls:=.type "tuple_iterator",data:=.fields #[.ref l,.int 0 0]}).objs.size)))
    {s with heap:=(s.heap.push {cls:=.type "tuple_iterator",data:=.fields #[.ref l,.int 0 0]}).push {cls:=.type "enumerate",data:=.fields #[.none,.bool false,.ref s.heap.objs.size,rawInt 0,.none,.none]}}):=
 .of_wp λprog w A R s h=>by
  obtain⟨hp,g,d,tk,os⟩:=s;obtain⟨q1,h⟩:=h;have q0:=sub_enumerate;have q2:Heap.IsTuple (Shared.heap ⟨hp,g,d,tk,os⟩) l items:=⟨_,q1,rfl,n,rfl⟩
  wp_walk using IV q1
  refine wpAny_stack_any λst0=>Ic ?_;split
  .rename_i c0 _ _ _ _ _
   cases(c0==Value.type "enumerate") <;> (wp_walk using IV q1,OM q2;exact⟨_,rfl,h⟩)
  .wp_walk using IV q1,OM q2
   exact⟨_,rfl,h⟩
section
variable {prog:Program}{w:World}{A:Around}{E:Value->SH->Prop}{s:SH}
def zec{l:AD}(q2:s.heap.IsTuple l items)(h:∀ h',IsEnum h' (s.heap.objs.size+1) s.heap.objs.size 0 .none->h'.IsTupleIter s.heap.objs.size l 0->(∀ b o,s.heap.get? b=some o->h'.get? b=some o)->Q (.ref (s.heap.objs.size+1)) {s with heap:=h'}):
  wpAny (model prog w) A (call (.type "enumerate") [.ref l]) Q E s:=by
 obtain⟨⟨c,dct,dt,sl⟩,q1,e1,n,e2⟩:=q2
 replace e1:c = .type "tuple" := e1
 replace e2:dt = .seq items n:=e2
 subst e1 e2;refine callType_new F.called_enumerate (by decide) (F.typeCall_enumerate_1 _) (F.newCall_enumerate_1 _) (λobj=>F.args_object_init_2 obj _) F.entry_enumerate_new (zgk l items n dct sl) ⟨q1,?_⟩;have z1:(s.heap.push {cls:=.type "tuple_iterator",data:=.fields #[.ref l,.int 0 0]}).objs.size=s.heap.objs.size+1:=NH ..;show _/\_;rw[z1];have q3:IsEnum ((s.heap.push {cls:=.type "tuple_iterator",data:=.fields #[.ref l,.int 0 0]}).push {cls:=.type "enumerate",data:=.fields #[.none,.bool false,.ref s.heap.objs.size,rawInt 0,.none,.none]}) (s.heap.objs.size+1) s.heap.objs.size 0 .none:=by have:=Iu (s.heap.push {cls:=.type "tuple_iterator",data:=.fields #[.ref l,.int 0 0]}) (o:={cls:=.type "enumerate",data:=.fields #[.none,.bool false,.ref s.heap.objs.size,rawInt 0,.none,.none]}) rfl;rw[z1]at this;exact this
 exact⟨⟨_,q3,rfl⟩,h _ q3 ⟨_,Ig _ (Iu _ rfl),rfl,rfl⟩ λb o x=>Ig _ (Ig _ x)⟩
end
section
variable {X:Cx}
def zn3(K:FG)(ta:TA):TI:=fun σ H R=>ta σ H λvs H1=>∃ a,vs=[.ref a]/\(∃ xs,SqT K H1 a xs)/\R (zn0 K a) H1
def zel:bootBuiltins "enumerate" = some (.type "enumerate"):=by decide +kernel
def zaL{a:Expr}{ta:TA}{pos:Pos}{elts:List Expr}{tk:Nat}{tpos:Pos}(hg:Gl X "enumerate")(hm:X.mg "enumerate" = none)(ha:PA X [a] ta)(hs:starEach [a] X.env=[(false,eval a X.env)]:=by rfl):PI X (.Tuple elts tk tpos) (.Call (.Name "enumerate" p) [a] [] pos) (zn3 X.K ta):=by
 intro aa s σ H R I h;refine Call_ (Wo I hg hm zel (Nm (thn (ha pos aa s σ H _ I h) λus s1 ⟨vs,H1,I1,r1,q1⟩=>?_) hs rfl));obtain⟨l,e,⟨xs,hq⟩,q⟩:=q1;subst e;obtain⟨u,rfl,r⟩:=Vals.one r1;cases(show u=Value.ref l from r);obtain⟨its,rv,pt,hz⟩:=I1.tuple hq;refine zec (show s1.heap.IsTuple l its.toArray from pt) λh' he hi hk=>?_;refine wpAny_pyIter_enum he ⟨s1.heap.objs.size+1,[s1.heap.objs.size+1,s1.heap.objs.size],_,_,H1,rfl,I1.kept (t':=s1.toks) hk,zd4 l _ _,⟨⟨_,he⟩,hi⟩,λb hb=>?_,q⟩;have hb' : s1.heap.objs.size<=b:=by
  rcases IE.mp hb with rfl | hb
  .exact le_succ _
  .rw[Ij.mp hb];exact Ih _
 exact I1.zkA hb' (I1.ab.fresh hb')
def QC:bootBuiltins "list" = some (.type "list"):=by decide +kernel
end
section
variable {X:Cx}{K:FG}
def ZW(e:X.K=K):IxR X (zkz K):=by subst e;exact zkG
def Ji(e:X.K=K):IxR X (zmj K):=by subst e;exact zjM
def zg5(e:X.K=K):SlR X (zmW K):=by subst e;exact zkr
def za8(e:X.K=K)(hu:X.A.units+64<cLine):OpR X (compareOp .Eq) (zkv K λb=>b):=by subst e;exact zmh hu
def UJ(e:X.K=K)(hu:X.A.units+64<cLine):OpR X (compareOp .NotEq) (zkv K λb=>!b):=by subst e;exact zkE hu
def Yj(e:X.K=K):Jk X (.builtin "len") (λxs H Q=>∃ p ys,xs=[.ref p]/\(SqL K H p ys\/SqT K H p ys)/\Q (.int ys.length) H):=by subst e;exact zb3
def YM(e:X.K=K):Jk X (.type "tuple") (λxs H Q=>∃ p ys,xs=[.ref p]/\((SqL K H p ys/\∀ l,H l=none->Q (.ref l) (upd H l (.tup ys)))\/(SqT K H p ys/\Q (.ref p) H))):=by subst e;exact zbc
end
def Ja{a:Expr}{op:Operator}{b:Expr}:starEach (.BinOp a op b p::es) env=(false,eval (.BinOp a op b p) env)::starEach es env:=rfl
def Xf{a:Expr}{g:List Comprehension}:starEach (.ListComp a g sc p::es) env=(false,eval (.ListComp a g sc p) env)::starEach es env:=rfl
def Vf{a:Expr}{ops:List CmpOp}{cs:List Expr}:starEach (.Compare a ops cs p::es) env=(false,eval (.Compare a ops cs p) env)::starEach es env:=rfl
def Yg{f:Expr}{kw:List Keyword}:starEach (.Call f as kw p::es) env=(false,eval (.Call f as kw p) env)::starEach es env:=rfl
def Yb{c:Const}:starEach (.Constant c k p::es) env=(false,eval (.Constant c k p) env)::starEach es env:=rfl
def ZL{a b:Expr}:starEach (.Subscript a b p::es) env=(false,eval (.Subscript a b p) env)::starEach es env:=rfl
def Zd{n:Str}:starEach (.Name n p::es) env=(false,eval (.Name n p) env)::starEach es env:=rfl
def Jp :starEach (.Tuple as k p::es) env=(false,eval (.Tuple as k p) env)::starEach es env:=rfl
def zko{ks:List (Option Expr)}:starEach (.Dict ks as p::es) env=(false,eval (.Dict ks as p) env)::starEach es env:=rfl
section
variable {X:Cx}
def zlU(ta:TA):TE:=fun σ H Q=>ta σ H λvs H1=>∃ j:Int,vs=[.int j]/\0<=j/\j.toNat<=2^24/\∀ l,H1 l=none->Q (.ref l) (upd H1 l (.lst ((List.range j.toNat).map λ(i:Nat)=>V.int i)))
def zeB{a:Expr}{ta:TA}{p1 p2 q1 q2:Pos}(hc:X.calm=true)(hg1:Gl X "list")(hm1:X.mg "list" = none)(hg2:Gl X "range")(hm2:X.mg "range" = none)(ha:PA X [a] ta)(hs1:starEach [.Call (.Name "range" p2) [a] [] q2] X.env=[(false,eval (.Call (.Name "range" p2) [a] [] q2) X.env)]:=by rfl)(hs2:starEach [a] X.env=[(false,eval a X.env)]:=by rfl):
  PE X (.Call (.Name "list" p1) [.Call (.Name "range" p2) [a] [] q2] [] q1) (zlU ta):=by
 intro aa s σ H Q I h;refine Nr (Wo I hg1 hm1 QC (Nm ?_ hs1 rfl));rw[hs1];show wpAny _ _ (spliced [(false,eval (.Call (.Name "range" p2) [a] [] q2) X.env)]) _ _ s;refine Dw (Nr (Wo I hg2 hm2 boot_range (Nm (thn (ha q2 aa s σ H _ I h) λus s1 ⟨vs,H1,I1,r1,q1⟩=>?_) hs2 rfl)));obtain⟨j,e,j0,j1,q⟩:=q1;subst e;obtain⟨u,rfl,r⟩:=Vals.one r1;obtain⟨t,rfl⟩:=r;refine call_range_1 (spliced_nil ?_);have hsz:∀ o:Obj,(s1.heap.push o).objs.size=s1.heap.objs.size+1:=λo=>NH ..;refine call_list_range (n:=j.toNat) (I.ok.hd hc) (IsRange.new ..) (small_one (by omega) (by omega) (by omega) (by omega)) (by rw[rangeSize_one];split <;> omega) j1 λh' tk acc c' hk hS hacc=>?_;dsimp only at hk hS;rw[hsz]at hS ⊢;have hold:∀ b o,s1.heap.get? b=some o->h'.get? b=some o:=λb o e=>hk b o (Ig _ e);have hv:Vals ((List.range j.toNat).map λ(i:Nat)=>V.int i) acc.toList:=by
  obtain⟨z1,z2⟩:=hacc;have key:∀(n:Nat)(l:List Value),l.length=n->(∀ i v,l[i]?=some v->∃ t,v=Value.int (i:Nat) t)->Vals ((List.range n).map λ(i:Nat)=>V.int i) l:=by
   intro n
   induction n with
   |zero=>intro l hl _;cases l with
    |nil=>exact .nil
    |cons _ _=>cases hl
   |succ n ih=>
    intro l hl hi;have e1:l=l.dropLast++[l[n]'(by omega)]:=by
     have hne:l≠[]:=by intro z;subst z;cases hl
     have:=(List.dropLast_concat_getLast hne).symm;rw[List.getLast_eq_getElem]at this;simpa [hl]using this
    rw[e1,OP,Nk];refine Vals.append (ih l.dropLast (by simp[hl]) λi v hv=>?_) ?_
    .refine hi i v ?_;have hlt:=(Io.mp hv).1;rw[List.getElem?_dropLast]at hv;split at hv
     .exact hv
     .cases hv
    .obtain⟨t,e⟩:=hi n (l[n]'(by omega)) (Ib (by omega));exact .cons ⟨t,e⟩ .nil
  refine key j.toNat acc.toList (by simp[z1]) λi v hv=>?_;obtain⟨t,e⟩:=z2 i v (by simpa using hv);exact⟨t,by rw[e];simp⟩
 have hn:=I1.ab.fresh (le_succ s1.heap.objs.size);have z24:(2:Nat)^24<=sizeLine:=by decide
 exact⟨.ref (s1.heap.objs.size+1),_,I1.laid (h':=h') (t':=tk) (o:=.lst ((List.range j.toNat).map λ(i:Nat)=>V.int i)) hold (le_succ _) ⟨by simp;omega,acc.toList,c',hv,hS⟩,rfl,q _ hn⟩
end
noncomputable def tyN:PD->String
 |.none=> "NoneType"
 |.bool _=> "bool"
 |.int _=> "int"
 |.str _=> "str"
 |.list _=> "list"
 |.tuple _=> "tuple"
 |.dict _=> "dict"
def zm6(K:FG):List V->Hp->VK->Prop:=λxs H Q=>∃ G x d n b,xs=[x,.ty n]/\Zr G H/\Dat K G x d/\kitOne K (.type (tyN d)) (.type n)=some b/\Q (.bl b) H
def X5{K:FG}(eK:X.K=K):Jk X (.builtin "isinstance") (zm6 K):=by
 subst eK;intro aa s σ H xs us Q I r h;obtain⟨G,x,d,n,b,rfl,sg,hd,e,q⟩:=h;obtain⟨u,w',rfl,rx,ry⟩:=vals2 r;cases(show w'=Value.type n from ry);have fin:∀ tk,EP X aa σ Q (.bool b) {s with toks:=tk}:=λtk=>⟨.bl b,H,I.tok _,rfl,q⟩
 cases d with
 |none=>rw[hd.non]at rx;exact QD I rx .non e fin
 |bool y=>rw[hd.bl]at rx;exact QD I rx (.bl y) e fin
 |int i=>rw[hd.int]at rx;exact QD I rx (.int i) e fin
 |str y=>rw[hd.str]at rx;exact QD I rx (.str y) e fin
 |list ds=>obtain⟨p,ys,rfl,hp,_⟩:=hd.lst;cases(show u=Value.ref p from rx);obtain⟨its,_,⟨o,n',e1,c,_⟩,_⟩:=I.list (SqL.of (sg _ _ hp));exact DC kitx_list I.kIn ⟨o,e1,c⟩ e (λz=>nomatch z) fin
 |tuple ds=>obtain⟨p,ys,rfl,hp,_⟩:=hd.tup;cases(show u=Value.ref p from rx);obtain⟨its,_,⟨o,e1,c,_⟩,_⟩:=I.tuple (sg.tup hp);exact DC kitx_tuple I.kIn ⟨o,e1,c⟩ e (λz=>nomatch z) fin
 |dict _=>unfold Dat at hd;exact hd.elim
def zmo{K:FG}{σ:St}{ta:TE}{n:String}{b:Bool}(ha:Ev K ta σ G d)(e:kitOne K (.type (tyN d)) (.type n)=some b):Ev K (tCB (zm6 K) (YQ ta (YQ (tC (.ty n)) V5))) σ G (.bool b):=λG1 H s1 s2 Q k=>ha G1 H s1 s2 _ λx G2 H2 g2 hx=>⟨G2,x,d,n,b,rfl,g2.gh,hx,e,k _ G2 H2 g2 (Yr b)⟩
def zct:fillsNumberSlot (.type "tuple") "mul" = pure false:=PySem.fillsNumberSlot_seq (id:= "tuple.__mul__") (r:=some (.builtin "tuple.__rmul__")) F.slot_tuple_mul.lookup (by decide +kernel) F.slot_tuple_rmul.lookup (by decide +kernel)
def zkd:seqRepeat? (.type "tuple")=pure (some (.builtin "tuple.__mul__")):=by unfold seqRepeat?;rw[PySem.seqSlot_of (T:= "tuple") (name:= "__mul__") (id:= "tuple.__mul__") F.slot_tuple_mul.lookup (by decide +kernel),PySem.seqSlot_of (T:= "tuple") (name:= "__rmul__") (id:= "tuple.__rmul__") F.slot_tuple_rmul.lookup (by decide +kernel)];rfl
def zbI(a:Int)(t:Tok)(l:AD)(items:Array Value)(n:Nat)(dct:Option AD)(sl:Array (Option Value)):
  Meets (Builtin.«int.__rmul__» ⟨[.int a t,.ref l],[]⟩) (λ_ R s=>s.heap.get? l=some {cls:=.type "tuple",dict:=dct,data:=.seq items n,slots:=sl}/\R (.ok (.ret Value.notImplemented)) s):=
 .of_wp λprog w A R s h=>by obtain⟨hp,g,d,tk,os⟩:=s;obtain⟨q1,h⟩:=h;wp_walk;exact⟨_,rfl,h⟩
def ze6(l:AD)(items:Array Value)(n:Nat)(t:Tok)(dct:Option AD)(sl:Array (Option Value)):
  Meets (Builtin.«tuple.__mul__» ⟨[.ref l,.int 1 t],[]⟩) (λ_ R s=>s.heap.get? l=some {cls:=.type "tuple",dict:=dct,data:=.seq items n,slots:=sl}/\R (.ok (.ret (Value.ref l))) s):=
 .of_wp λprog w A R s h=>by
  obtain⟨hp,g,d,tk,os⟩:=s;obtain⟨q1,h⟩:=h
  wp_walk using IV q1
  exact⟨_,rfl,h⟩
theorem zbH(a:Array Value):∀(k:Nat)(acc:Array Value),(List.foldl (λx1 x2=>x1++x2) acc (List.replicate k a)).size=acc.size+k*a.size
 |0,acc=>by simp
 |k+1,acc=>by rw[Oq,Dd,zbH a k,Array.size_append,Dr];omega
def zfZ(l:AD)(items:Array Value)(n:Nat)(x:Int)(t:Tok)(dct:Option AD)(sl:Array (Option Value))(h2:2<=x)(h3:x<=1000)(he:items.isEmpty=false)(hz:items.size<=1000):
  Meets (Builtin.«tuple.__mul__» ⟨[.ref l,.int x t],[]⟩) (λ_ R s=>s.heap.get? l=some {cls:=.type "tuple",dict:=dct,data:=.seq items n,slots:=sl}/\
   R (.ok (.ret (Value.ref s.heap.objs.size))) {s with heap:=s.heap.push {cls:=.type "tuple",data:=.seq ((List.replicate x.toNat items).foldl (· ++ ·) #[])}}):=
 .of_wp λprog w A R s h=>by
  obtain⟨hp,g,d,tk,os⟩:=s;obtain⟨q1,h⟩:=h;have b1:(decide (x < -(2^63))||decide (x ≥ 2^63))=false:=by rw[Ip (by omega),Ip (by omega)];rfl
  have b2:(items.isEmpty||x==1)=false:=by rw[he,Bool.false_or];exact NF.mpr (by omega)
  have b3:(decide (x<=0)||items.isEmpty)=false:=by rw[he,Ip (by omega)];rfl
  have hs:items.size*x.toNat<=1000*1000:=OQ hz (by omega);have hs' : ((items.size:Nat):Int)*x=((items.size*x.toNat:Nat):Int):=by rw[Int.natCast_mul];congr 1;omega
  have b4:decide (((items.size:Nat):Int)*x>(2^63-1) / 8)=false:=Ip (by rw[hs'];omega)
  wp_walk using IV q1
  rw[Iq (by rw[b1];exact Ii)]
  wp_walk using IV q1
  rw[Iq (by rw[b2];exact Ii)]
  wp_walk using IV q1
  rw[Iq (by rw[b3];exact Ii)]
  wp_walk using IV q1
  rw[Iq (De b4)]
  wp_walk using IV q1
  have zl:(1000:Nat)*1000<=sizeLine:=by decide
  have b5:Builtin.Tuple.tupleTooMany (((items.size:Nat):Int)*x)=false:=by unfold Builtin.Tuple.tupleTooMany;exact Ip (by rw[hs'];omega)
  rw[Iq (by rw[b5];exact Ii)]
  wp_walk using IV q1
  rw[Iq (show ¬ (List.foldl (λx1 x2=>x1++x2) #[] (List.replicate x.toNat items)).size>sizeLine by rw[zbH];simp;rw[mul_comm];omega)]
  wp_walk
  exact⟨_,rfl,h⟩
section
variable {prog:Program}{w:World}{A:Around}{E:Value->SH->Prop}{s:SH}
def zcI{Q:List Value->SH->Prop}{r:AD}{a c:Int}{t u v:Tok}{n:Nat}(hh:A.handled=none)(hr:IsRange s.heap r a b c t u v)(hsmall:Builtin.Range.small a b c=true)(hn:Builtin.Range.rangeSize a b c=n)(hlen:n<=2^24)(hQ:∀(h' : Heap)(tk:Nat)(acc:Array Value),(∀ b o,s.heap.get? b=some o->h'.get? b=some o)->ItemsOf (λi v=>∃ t,v = .int (a+i*c) t) acc n->Q acc.toList {s with heap:=h',toks:=tk}):wpAny (model prog w) A (collect (.ref r)) Q E s:=by
 have e1:=F.entry_proto_collect;have e2:=F.entry_list_iadd;have p1:=F.plain_proto_collect;have p2:=F.plain_list_iadd;unfold collect;refine Ia (wpAny_runValue (Nu e1 ?_));rw[NV p1 _];show wpAny _ A.in1 (newList [] >>= λz=>again (.builtin "list.__iadd__" ⟨[z,.ref r],[]⟩)) _ _ s;refine Ia (Na (Ic ⟨NW p2 _,Nu e2 ?_⟩));rw[NV p2 _];show wpAny (model prog w) A.in1 (Builtin.List.listExtendWith (.ref s.heap.objs.size) (.ref r) (.ref s.heap.objs.size)) _ _ _;have hS:(s.heap.push {cls:=.type "list",data:=.seq ([]:List Value).toArray}).get? s.heap.objs.size=some {cls:=.type "list",data:=.seq #[] 0}:=Iu _ rfl
 have fin' : ∀(h' : Heap)(tk:Nat)(acc:Array Value)(c' : Nat),(∀ b o,s.heap.get? b=some o->h'.get? b=some o)->h'.get? s.heap.objs.size=some {cls:=.type "list",dict:=none,data:=.seq acc c',slots:=#[]}->ItemsOf (λi v=>∃ t,v = .int (a+i*c) t) acc n->
   wpAny (model prog w) A (match Value.ref s.heap.objs.size with
   |Value.ref a=>do
    match (← load a).data with
     |Data.seq xs _=>pure xs.toList | _=>unsupported "internal:collect"
   |_=>unsupported "internal:collect") Q E {s with heap:=h',toks:=tk}:=λh' tk acc c' hk hS' hacc=>by
  show wpAny (model prog w) A (load s.heap.objs.size >>= _) Q E _;exact Ia (wpAny_load hS' (Ic (hQ h' tk acc hk hacc)))
 refine N0 (wpAny_extend_range (A:=A) (R:=λrs s' => ∃(h' : Heap)(tk:Nat)(acc:Array Value)(c' : Nat),rs = .ok (.ret (.ref s.heap.objs.size))/\s'={s with heap:=h',toks:=tk}/\(∀ b o,s.heap.get? b=some o->h'.get? b=some o)/\h'.get? s.heap.objs.size=some {cls:=.type "list",dict:=none,data:=.seq acc c',slots:=#[]}/\ItemsOf (λi v=>∃ t,v = .int (a+i*c) t) acc n)
  (s:={s with heap:=s.heap.push {cls:=.type "list",data:=.seq ([]:List Value).toArray}}) hh (Ig _ hr) hsmall hn hlen _ _ 0 hS λh' tk acc' c' hk hS' hacc=>⟨h',tk,acc',c',rfl,rfl,λb o e=>hk b o (IX (IN e)) (Ig _ e),hS',hacc⟩) (λfin s' h=>?_) (λe s' h=>?_)
 .cases fin with
  |done f=>obtain⟨h',tk,acc,c',e,rfl,k1,k2,k3⟩:=h;cases e;exact fin' h' tk acc c' k1 k2 k3
  |again cc=>exact⟨h.1,OC h.2 λrs s'' hr' => by
    obtain⟨h',tk,acc,c',rfl,rfl,k1,k2,k3⟩:=hr';exact fin' h' tk acc c' k1 k2 k3⟩
 .obtain⟨_,_,_,_,z,_⟩:=h;cases z
end
def zgQ{lo:Int}{n:Nat}{acc:Array Value}(h:ItemsOf (λi v=>∃ t,v = .int (lo+i*1) t) acc n):Vals ((List.range n).map λ(i:Nat)=>V.int (lo+i)) acc.toList:=by
 obtain⟨z1,z2⟩:=h;have key:∀(n:Nat)(l:List Value),l.length=n->(∀(i:Nat) v,l[i]?=some v->∃ t,v=Value.int (lo+i) t)->Vals ((List.range n).map λ(i:Nat)=>V.int (lo+i)) l:=by
  intro n
  induction n with
  |zero=>intro l hl _;cases l with
   |nil=>exact .nil
   |cons _ _=>cases hl
  |succ n ih=>
   intro l hl hi;have e1:l=l.dropLast++[l[n]'(by omega)]:=by
    have hne:l≠[]:=by intro z;subst z;cases hl
    have:=(List.dropLast_concat_getLast hne).symm;rw[List.getLast_eq_getElem]at this;simpa [hl]using this
   rw[e1,OP,Nk];refine Vals.append (ih l.dropLast (by simp[hl]) λi v hv=>?_) ?_
   .refine hi i v ?_;rw[List.getElem?_dropLast]at hv;split at hv
    .exact hv
    .cases hv
   .obtain⟨t,e⟩:=hi n (l[n]'(by omega)) (Ib (by omega));exact .cons ⟨t,e⟩ .nil
 refine key n acc.toList (by simp[z1]) λi v hv=>?_;obtain⟨t,e⟩:=z2 i v (by simpa using hv);exact⟨t,by rw[e];congr 1;omega⟩
structure XC(fr sc:Scope)(ps cap:List Str):Prop where
 kind:sc.kind = .function
 co:sc.isCoroutine=false
 gen:sc.isGenerator=false
 cell:∀ p∈sc.names,p.2≠.cell
 par:∀ y∈ps,sc.names.lookup y=some .local
 free:∀ p∈sc.names,p.2 = .free->fr.names.lookup p.1=some .cell
 caps:∀ y∈cap,(y,NameKind.free)∈sc.names
 capl:∀ y∈cap,sc.names.lookup y=some .free
 nd:(ps++cap).Nodup
def zcq(H:Hp)(f:AD)(q:Str)(params:Arguments)(body:Expr)(sc:Scope)(cl:List (Str×AD)):Prop:=∃(pm ctv:Value)(c' : AD)(oc:Obj),H f=some (.frz (kla_obj "<lambda>" q params body sc cl pm c' ctv) (.own f))/\H c'=some (.frz oc (.own c'))/\zfi oc q
structure CellsAre(s:SH)(H:Hp)(cl:List (Str×AD))(cap:List Str)(vals:St):Prop where
 inj:∀ x y c,cl.lookup x=some c->cl.lookup y=some c->x=y
 isc:∀ x c,cl.lookup x=some c->(∃ v,s.heap.IsCell c v)/\H c=none
 val:∀(i:Nat)(y:Str)(v:V),cap[i]?=some y->vals[i]?=some (some v)->∃ c u,cl.lookup y=some c/\s.heap.IsCell c (some u)/\RelV v u
def zcK{P:Program}{w:World}{c:AD}{oc:Obj}{q:Str}(ok:HOk P w H h)(e:H c=some (.frz oc (.own c)))(hc:zfi oc q):h.CodeRec (.ref c) q:=by obtain⟨e1,_⟩:=ok c _ e;obtain⟨vs,t,d1,d2⟩:=hc;exact⟨c,oc,vs,t,rfl,e1,d1,d2⟩
def zcq.same{q:Str}{body:Expr}{cl:List (Str×AD)}(L:zcq H f q params body sc cl)(k:∀ b o u,H b=some (.frz o u)->H' b=some (.frz o u)):zcq H' f q params body sc cl:=let ⟨pm,ctv,c',oc,h1,h2,h3⟩:=L;⟨pm,ctv,c',oc,k _ _ _ h1,k _ _ _ h2,h3⟩
theorem lookup_mem{u:α}:∀{l:List (Str×α)},(l.map (·.1)).Nodup->(y,u)∈l->l.lookup y=some u
 |[],_,h=>by simp at h
 |(z,v)::l,nd,h=>by
  rw[DD];rw[Nt,NT]at nd;rcases IE.mp h with e | h
  .cases e;simp
  .have:y≠z:=λe=>nd.1 (e ▸ Ds (f:=(·.1)) h);have hb:(y==z)=false:=by simpa using this
   rw[hb];exact lookup_mem nd.2 h
theorem zfQ :∀(l:List α)(m:List β),(l.zip m).map (·.1)=l.take m.length
 |[],_=>by simp
 |_::_,[]=>by simp
 |a::l,b::m=>by rw[zip_cons_cons,Nt,IL,List.take_succ_cons,zfQ l m]
def zdD{us:List α}{i:Nat}{u:α}(nd:ps.Nodup)(hp:ps[i]?=some y)(hu:us[i]?=some u):(ps.zip us).reverse.lookup y=some u:=by
 refine lookup_mem ?_ ?_
 .rw[List.map_reverse];refine(List.reverse_perm _).nodup_iff.mpr ?_;rw[zfQ];exact nd.sublist (List.take_sublist _ _)
 .rw[List.mem_reverse];refine IM (i:=i) ?_;rw[Oj];exact⟨hp,hu⟩
noncomputable def zfs(P:Program)(w:World)(K:FG)(mg:Str->Option Value)(base:Heap)(N:List Str)(q:Str)(sc:Scope)(f c' : AD)(cl:List (Str×AD))(A:Around)(outer:List Env)(s:SH)(H:Hp):Cx where
 prog:=P
 w:=w
 K:=K
 mg:=mg
 base:=base
 A:=A.deeper (PySem.W.envX q sc s.heap.objs.size f (.ref c') cl)
 N:=N
 s₀:=s
 H₀:=H
 env:=PySem.W.envX q sc s.heap.objs.size f (.ref c') cl
 outer:=outer
 stack:=PySem.W.envX q sc s.heap.objs.size f (.ref c') cl::outer
 ex:=[]
 calm:=true
 fn:=λ_=>false
 pn:=[]
 xe:=λ_ _=>False
section
variable {P:Program}{w:World}{K:FG}{mg:Str->Option Value}{base:Heap}{A:Around}{outer:List Env}{s:SH}{H:Hp}{f:AD}{q:Str}{params:Arguments}{body:Expr}{fr sc:Scope}{cl:List (Str×AD)}{ps cap:List Str}
def ziM{c' : AD}{vs:List V}{vals:St}{h₁:Heap}{tk:Nat}(S:XC fr sc ps cap)(hcap:∀ y,sc.names.lookup y=some .free->∃ c,cl.lookup y=some c)(hd:A.handled=none)(e0:zgy P w K mg base A outer s H)(hl:vs.length=ps.length)(hv:vals.length=cap.length)(r:Vals vs us)(C:CellsAre s H cl cap vals)(hns:h₁.Ns s.heap.objs.size (λx=>(ps.zip us).reverse.lookup x))(hk:∀ b o,s.heap.get? b=some o->h₁.get? b=some o):
  Inv (zfs P w K mg base (ps++cap) q sc f c' cl A outer s H) [] (vs.map some++vals) H {s with heap:=h₁,toks:=tk}:=by
 have noA:∀ b:AD,b∉(zfs P w K mg base (ps++cap) q sc f c' cl A outer s H).ex:=λb z=>absurd (show b∈([]:List AD)from z) (by simp);have ndp:ps.Nodup:=(nodup_append.mp S.nd).1;refine⟨⟨e0.mod,S.kind,rfl,rfl,Ih _,C.inj,λy hy=>?_,(λy c h=>noConfusion h),λ_=>hd,Around.frames_deeper e0.frames,.inr ⟨rfl,rfl⟩,λb z=>absurd z (noA b),e0.bs,e0.bsz,λb _ _=>noA b,λb z=>absurd z (noA b),e0.zcd,e0.frf⟩,
  rfl,e0.bare,Un.kept hk,⟨_,hns,λi y v h1 h2 h3=>?_⟩,λy c h=>?_,e0.ab.fresh (Ih _),λy c h=>(C.isc y c h).2,λp hp=>absurd (show p∈([]:List (AD×Obj))from hp) (by simp),e0.ab.kept hk,?_⟩
 .have hy:sc.names.lookup y=some .cell\/sc.names.lookup y=some .free:=hy;rcases hy with hy | hy
  .exact absurd rfl (S.cell _ (NG hy))
  .exact hcap y hy
 .by_cases hi:i<ps.length
  .have hp:ps[i]?=some y:=by have:(ps++cap)[i]?=some y:=h1;rw[Ng hi]at this;exact this
   have ha:vs[i]?=some v:=by
    rw[Ng (by rw[Ie];omega),Ik]at h2;cases e:vs[i]? with
    |none=>rw[e]at h2;cases h2
    |some a=>rw[e]at h2;cases h2;rfl
   obtain⟨u,hu,rv⟩:=r.get ha;refine⟨u,rv,.inl ⟨S.par y (IM hp),?_⟩⟩;exact zdD ndp hp hu
  .have hc:cap[i-ps.length]?=some y:=by have:(ps++cap)[i]?=some y:=h1;rw[Ni (by omega)]at this;exact this
   have ha:vals[i-ps.length]?=some (some v):=by rw[Ni (by rw[Ie];omega),Ie,hl]at h2;exact h2
   obtain⟨c,u,e1,e2,rv⟩:=C.val _ y v hc ha;obtain⟨o,ho,hd'⟩:=e2;exact⟨u,rv,.inr ⟨.inr (S.capl y (IM hc)),c,e1,o,hk _ _ ho,hd'⟩⟩
 .obtain⟨⟨v,o,ho,hd'⟩,_⟩:=C.isc y c h;exact⟨v,o,hk _ _ ho,hd'⟩
 .show(vs.map some++vals).length=(ps++cap).length;rw[Il,Il,Ie,hl,hv]
def zjF{vs:List V}{vals:St}{Q:VK}{E:XK}(S:XC fr sc ps cap)(hcap:∀ y,sc.names.lookup y=some .free->∃ c,cl.lookup y=some c)(hr:Wt (k+1) A)(e0:zgy P w K mg base A outer s H)(L:zcq H f q params body sc cl)(C:CellsAre s H cl cap vals)(hbind:∀(pm ctv:Value)(c' : AD),bindArgs (kla_fn "<lambda>" q params body sc cl pm (.ref c') ctv) ⟨us,[]⟩=pure (ps.zip us))(hl:vs.length=ps.length)(hv:vals.length=cap.length)(r:Vals vs us)(hbody:∀ c',Wt k (A.deeper (PySem.W.envX q sc s.heap.objs.size f (.ref c') cl))->PE (zfs P w K mg base (ps++cap) q sc f c' cl A outer s H) body te)(hq:te (vs.map some++vals) H Q):
  codeAny (model P w) A (.call (.ref f) ⟨us,[]⟩) (CR CX0 outer P w H s Q E) s:=by
 obtain⟨pm,ctv,c',oc,h1,h2,h3⟩:=L;obtain⟨ho,_⟩:=e0.ab f _ h1;have lim:s.heap.NoLimit:=e0.mod.nolimit.keeps λb o e=>(e0.bs b o e).1;refine PySem.W.kla_callFunE hr.depth ho rfl S.co S.gen rfl (zcK e0.ab h2 h3) ?_;rw[hbind pm ctv c'];refine Ic (wpAny_newFunctionEnv S.cell (λy hy=>S.par y.1 (of_mem_zip hy).1) (λh₁ hns hsb=>⟨lim.fresh _ hsb,?_⟩) S.kind);have old1:∀ b u,s.heap.get? b=some u->h₁.get? b=some u:=λb u e=>hsb.extBut b u (IX (IN e)) (Ig _ e)
 have I:=ziM (tk:=s.toks+(ps.zip us).length) (f:=f) (q:=q) (c':=c') S hcap hr.hd e0 hl hv r C hns old1;refine PySem.W.kla_codeExpr (N0 (hbody c' (hr.deeper _) [] _ _ H Q I hq) (λv s' hs=>?_) λe s' z=>z.elim);obtain⟨x,H',J,rv,q'⟩:=hs;exact⟨x,H',J.os,J.bare,J.base,J.ab,rv,q'⟩
end
def BM(mg:Str->Option Value)(h:Heap):Prop:=∃ bm ob,mg "__builtins__" = some (.ref bm)/\bm≠builtinsNs/\h.get? bm=some ob/\ob.cls = .type "module" /\ ob.dict=some builtinsNs/\ob.data = .plain
def zdF{pos pos' : Pos}{c v:Value}:∀(l:List Value),TriplesOk l->codeAmong pos' (l++[rawInt pos.line,rawInt pos.col,c])=some v->codeAmong pos' l=some v\/(pos'.line=pos.line/\pos'.col=pos.col/\v=c):=by
 intro l h
 fun_induction TriplesOk l
  with
 |case1=>
  intro e;simp only[nil_append,rawInt,codeAmong]at e;split at e
  .rename_i hc
   simp at hc;cases e;exact .inr ⟨by omega,by omega,rfl⟩
  .cases e
 |case2 a t b u x rest ih=>
  intro e;simp only[List.cons_append,codeAmong]at e ⊢;split at e
  .rename_i hc;rw[Iz hc];exact .inl e
  .rename_i hc;rw[Iq hc];exact ih h e
 |case3 l z1 z2=>exact False.elim h
section
variable {X:Cx}{aa:List (AD×Obj)}{σ:St}{H:Hp}{s:SH}{sc:Scope}{ps cap:List Str}{P c:AD}{cr:Nat->Nat->Option Str}{q:Str}{params:Arguments}{body:Expr}{pos:Pos}
theorem XC.cells(S:XC X.env.scope sc ps cap)(ok:X.Ok):∀ p∈sc.names,p.2 = .free->∃ c,X.env.cells.lookup p.1=some c:=λp hp e=>ok.has p.1 (.inl (S.free p hp e))
def XC.sub(S:XC X.env.scope sc ps cap)(ok:X.Ok){c:AD}(h:(zaa X.env sc.names []).lookup y=some c):X.env.cells.lookup y=some c:=za7 (S.cells ok) (λ_ _ z=>by simp at z) h
def Inv.zhC(I:Inv X aa σ H s)(S:XC X.env.scope sc ps cap)(hjs:js.map (λj=>X.N[j]?)=cap.map some):CellsAre s H (zaa X.env sc.names []) cap (QL σ js):=by
 have ok:=I.ok;refine⟨λx y c h1 h2=>ok.inj x y c (S.sub ok h1) (S.sub ok h2),λx c h=>⟨I.cell x c (S.sub ok h),I.freeC x c (S.sub ok h)⟩,λi y v e1 e2=>?_⟩;have hy:y∈cap:=IM e1;unfold QL at e2;rw[Ik]at e2;cases ej:js[i]? with
 |none=>rw[ej]at e2;cases e2
 |some j=>
  rw[ej]at e2;have e2'' : (σ[j]?).join=some v:=IA e2;have eN:X.N[j]?=some y:=by have:=ND (λl=>l[i]?) hjs;simp only[Ik,ej,e1,map_some]at this;exact IA this
  have eσ:σ[j]?=some (some v):=by
   cases z:σ[j]? with
   |none=>rw[z]at e2'';cases e2''
   |some w' =>
    rw[z]at e2'';have:w'=some v:=by simpa using e2''
    rw[this]
  have kc:X.env.scope.names.lookup y=some .cell:=S.free (y,.free) (S.caps y hy) rfl;obtain⟨m0,hn0,hl0⟩:=I.loc;obtain⟨u,ru,lk⟩:=hl0 j y v eN eσ (.inr (.inl kc));rcases lk with⟨k,_⟩ | ⟨_,c,ec,hc⟩
  .have k' : X.env.scope.names.lookup y=some .local:=k;rw[kc]at k';cases k'
  .obtain⟨c',hc'⟩:=Dm.mp (QT (env:=X.env) (acc:=[]) (S.caps y hy));have hcc:c'=c:=IA ((S.sub ok hc').symm.trans ec);subst hcc;exact⟨c',u,hc',hc,ru⟩
def zos(P:AD)(cr:Nat->Nat->Option Str)(q:Str)(params:Arguments)(body:Expr)(sc:Scope)(cl:List (Str×AD)):TE:=fun σ H Q=>H P=some (.tbl cr)/\∀ f H',H f=none->Zr H H' -> zcq H' f q params body sc cl->Q (.ref f) H'
def zlL(S:XC X.env.scope sc ps cap)(hcode:X.env.code = .ref c)(C:CodeHd X.base c P)(hbm:BM X.mg X.base)(hq:q=X.env.qual ++ "<lambda>")(hcr:cr pos.line pos.col=some q)(hdef:defaultsOf params X.env=([],[]):=by rfl):
  PE X (.Lambda params body sc pos) (zos P cr q params body sc (zaa X.env sc.names [])):=by
 intro aa s σ H Q I h;obtain⟨hP,h⟩:=h;refine PySem.W.kla_eval hdef ?_;rw[← hq];obtain⟨tb,hget,ht3,hcodes⟩:=I.ab P _ hP;have hg:s.heap.Ns mainGlobals X.mg:=I.mod.glob.keeps I.bk;have hgP:mainGlobals≠P:=λz=>by obtain⟨o,es,ep,e,hd,_⟩:=hg;rw[z,hget]at e;cases e;cases hd
 have hb:s.heap.BuiltinsAt X.mg P:=by
  obtain⟨bm,ob,b1,b2,b3,b4,b5,b6⟩:=hbm;have e:=I.bk _ _ b3;refine⟨bm,ob,b1,b2,λz=>?_,λz=>?_,e,b4,b5,b6⟩
  .obtain⟨o,es,ep,e',hd,_⟩:=hg;rw[← z,e]at e';cases e';rw[b6]at hd;cases hd
  .rw[z,hget]at e;cases e;cases b4
 have hcl:closureFor sc X.env=pure (zaa X.env sc.names []):=Xo (S.cells I.ok);cases hf:codeAmong pos tb.toList with
 |some cv=>obtain⟨c',oc,q',rfl,e2,e3,e4⟩:=hcodes pos cv hf;rw[hcr]at e2;cases e2;refine PySem.W.kla_makeFunctionHit hcl I.ok.glob hg hcode (C.keeps I.bk) hget ht3 hf hb λctv h' tk hk hsz=>?_;have hfr:H h'.objs.size=none:=I.ab.fresh hsz;refine⟨.ref h'.objs.size,upd H h'.objs.size (.frz (kla_obj "<lambda>" q params body sc (zaa X.env sc.names []) ((X.mg "__name__").getD .none) c' ctv) (.own h'.objs.size)),I.laid (t':=tk) (λb u e=>Ig _ (hk b u e)) hsz ⟨Iu _ rfl,_,Iu _ rfl⟩,rfl,h _ _ hfr (λb u e=>by rw[Zk (ZC e hfr)];exact e) ⟨_,_,c',oc,Zi,?_,e4⟩⟩;rw[Zk (ZC e3 hfr)];exact e3
 |none=>
  refine PySem.W.kla_makeFunction hcl I.ok.glob hg hcode (C.keeps I.bk) hget ht3 hf hgP hb λc' ctv h' tk hx hge hlt hrec htb=>?_;obtain⟨c2,oc,vs,tt,e2,hoc,hd,hv⟩:=hrec;cases e2;have hcn:H c'=none:=I.ab.fresh hge;have hsz:s.heap.objs.size<=h'.objs.size:=Op (Nat.lt_of_le_of_lt hge hlt);have hfr:H h'.objs.size=none:=I.ab.fresh hsz;have hcf:c' ≠ h'.objs.size:=IX hlt;have hPc:P≠c':=ZC hP hcn;have hPf:P≠h'.objs.size:=ZC hP hfr;have sm:∀ b u,H b=some u->upd (upd H c' (.frz oc (.own c'))) h'.objs.size (.frz (kla_obj "<lambda>" q params body sc (zaa X.env sc.names []) ((X.mg "__name__").getD .none) c' ctv) (.own h'.objs.size)) b=some u:=λb u e=>by rw[Zk (ZC e hfr),Zk (ZC e hcn)];exact e
  have cc:upd (upd H c' (.frz oc (.own c'))) h'.objs.size (.frz (kla_obj "<lambda>" q params body sc (zaa X.env sc.names []) ((X.mg "__name__").getD .none) c' ctv) (.own h'.objs.size)) c'=some (.frz oc (.own c')):=by rw[Zk hcf,Zi]
  have hk:∀ b o,b≠P->s.heap.get? b=some o->(h'.push (kla_obj "<lambda>" q params body sc (zaa X.env sc.names []) ((X.mg "__name__").getD .none) c' ctv)).get? b=some o:=λb o hb e=>Ig _ (hx b o hb e);refine⟨.ref h'.objs.size,_,I.un (t':=tk) ⟨λb o e n _ _=>hk b o (λz=>by rw[z,hP]at n;cases n) e,λb o e n _ _=>⟨o.slots,hk b o (λz=>by rw[z,hP]at n;cases n) e⟩,λb o e n _=>?_,λb o e _=>?_,λb xs e=>sm b _ e,λb o u e=>sm b _ e,λb r e=>sm b _ e⟩ ?_,rfl,h _ _ hfr sm ⟨_,_,c',oc,Zi,cc,vs,tt,hd,hv⟩⟩
  .have h1:b≠c':=IX (IP (IN e) hge);have h2:b≠h'.objs.size:=IX (IP (IN e) hsz);rw[Zk h2,Zk h1];exact n
  .by_cases hb:b=P
   .subst hb;exact⟨_,Ig _ htb⟩
   .exact⟨o,hk b o hb e⟩
  .intro b u e;by_cases h1:b=h'.objs.size
   .subst h1;rw[Zi]at e;cases e;exact⟨Iu _ rfl,_,Iu _ rfl⟩
   .by_cases h2:b=c'
    .subst h2;rw[cc]at e;cases e;exact⟨Ig _ hoc,_,Ig _ hoc⟩
    .rw[Zk h1,Zk h2]at e;by_cases h3:b=P
     .subst h3;rw[hP]at e;cases e;refine⟨_,Ig _ htb,?_,λpos' v e=>?_⟩
      .rw[Array.toList_append];exact TriplesOk_snoc _ _ _ _ ht3
      .rw[Array.toList_append]at e;rcases zdF (pos:=pos) tb.toList ht3 e with e | ⟨e1,e2,rfl⟩
       .obtain⟨d,od,q',z1,z2,z3,z4⟩:=hcodes pos' v e;exact⟨d,od,q',z1,z2,sm _ _ z3,z4⟩
       .exact⟨c',oc,q,rfl,by rw[e1,e2];exact hcr,cc,vs,tt,hd,hv⟩
     .refine(I.ab b u e).stay (λd v hd' e' => hk d v ?_ e') (λd e' => sm d _ e') (λd xs e' => sm d _ e') λd o' u' e' => sm d _ e';rintro rfl;rcases hd' with z | z
      .exact h3 z.symm
      .rw[hP]at z;cases z
end
section
variable {P:Program}{w:World}{K:FG}{mg:Str->Option Value}{base:Heap}
def Fun.okC{N:List Str}(F:Fun K x qual st f fd)(S:ZD N ps (Zg st))(len:∀ vs H Q E,sp vs H Q E->vs.length=ps.length)(hbody:∀(cdv:Value)(A:Around)(outer:List Env)(s:SH)(H:Hp)(vs:List V)(Q:VK)(E:XK),cdv=fd.code->Wt k (A.deeper (envOfC qual (Zg st) s.heap.objs.size f cdv))->sp vs H Q E->
   ∃ t,PSs (zca CX0 P w K mg base N qual (Zg st) f cdv A outer s H E).nox (Z0 st) t/\t {nx:=λ_ H' => Q .non H',rt:=Q} (start N vs) H):Wb P w K mg base CX0 (k+1) f fd ps sp:=by
 obtain⟨oc,od,kV,doc,pm,an,cdv,ct,osl,rfl,lk,hcd⟩:=F.ex;refine zmm lk hcd S len λA outer s H vs Q E hr hsp=>?_;obtain⟨t,h,q⟩:=hbody cdv A outer s H vs Q E rfl hr hsp;exact⟨t,h.nox,q⟩
end
theorem Q4{b:β}:∀{l:List (AD×β)},l.lookup a=some b->(a,b)∈l
 |[],h=>by simp at h
 |(z,v)::l,h=>by
  rw[DD]at h;cases hb:a==z with
  |true=>
   rw[hb]at h;have:a=z:=by simpa using hb
   cases h;subst this;exact Ir
  |false=>rw[hb]at h;exact Im _ (Q4 h)
theorem zcP{b:β}:∀{l:List (AD×β)},(l.map (·.1)).Nodup->(a,b)∈l->l.lookup a=some b
 |[],_,h=>by simp at h
 |(z,v)::l,nd,h=>by
  rw[DD];rw[Nt,NT]at nd;rcases IE.mp h with e | h
  .cases e;simp
  .have:a≠z:=λe=>nd.1 (e ▸ Ds (f:=(·.1)) h);have hb:(a==z)=false:=by simpa using this
   rw[hb];exact zcP nd.2 h
structure Bs(K:FG)(mg:Str->Option Value)(base:Heap):Prop where
 kin:K.In base
 bm:BM mg base
abbrev ziG:=List (AD×(Nat->Nat->Option Str))
def zbv(H:Hp)(tabs:ziG):Prop:=∀ p∈tabs,H p.1=some (.tbl p.2)
def zfe{P:Program}{w:World}{K:FG}{mg mb:Str->Option Value}{fa:AD}{s₁:SH}{ns:List Int}(tabs:ziG)(KX:K.In s₁.heap)(hns:s₁.heap.Ns mainGlobals mg)(hb:s₁.heap.Ns builtinsNs mb)(hbb:∀ x:Str,x≠ "__name__" -> mb x=bootBuiltins x)(hlim:s₁.heap.NoLimit)(hg:s₁.gens = #[])(ha:s₁.heap.get? a=some {cls:=.type "list",data:=.seq vs.toArray})(hi:IntsAre vs ns)(hl:ns.length<=sizeLine)(hr:Wt k callerA)(hbm:BM mg s₁.heap)(hT:∀ p∈tabs,s₁.heap.get? p.1=some {cls:=.none,data:=.fields #[]})(hIs:∀ p∈tabs,isCodeTable s₁.heap p.1)(hKt:∀ p∈tabs,K.lookup p.1=none)(hnd:(tabs.map (·.1)).Nodup)(F:∀ base:Heap,K.In base->base.Ns mainGlobals mg->Bs K mg base->Wb P w K mg base CX0 k fa fd [x] sp)(hbind:∀(s:SH)(u:Value),BindsTo s fd ⟨[u],[]⟩ [(x,u)])(hsp:∀ H:Hp,zbv H tabs->SqL K H a (ns.map V.int)->sp [.ref a] H (λv _=>v = .bl true) λ_ _ _=>False):
  codeAny (model P w) callerA (.call (.ref fa) ⟨[.ref a],[]⟩) (λr s' => r = .ok (.ret (.bool true))/\OldK s₁.heap s'.heap/\s'.os=s₁.os/\AllBare s'.gens) s₁:=by
 have rv:=zbO hi;have lenV:=hi.length;have core:∀ H:Hp,zbv H tabs->SqL K H a (ns.map V.int)->HOk P w H s₁.heap->(∀ b,H b≠none->(b=a/\∃ o xs,H b=some (.frz o (.lst xs)))\/∃ p∈tabs,p.1=b)->(H a≠none->K.lookup a=none)->
   codeAny (model P w) callerA (.call (.ref fa) ⟨[.ref a],[]⟩) (λr s' => r = .ok (.ret (.bool true))/\OldK s₁.heap s'.heap/\s'.os=s₁.os/\AllBare s'.gens) s₁:=by
  intro H hTb hS ab hA hK;have base_of:∀{b:AD}{o:Obj},s₁.heap.get? b=some o->H b=none->(zgA s₁.heap H).get? b=some o:=λe n=>zgN e n;have noT:∀{b:AD}{o:Obj},s₁.heap.get? b=some o->(∀ vs n,o.data≠.seq vs n)->(∀ vs,o.data≠.fields vs)->H b=none:=λ{b o} e d1 d2=>by
   cases q:H b with
   |none=>rfl
   |some u=>
    rcases hA b (by rw[q];simp)with⟨e',_⟩ | ⟨p,hp,e'⟩
    .subst e';rw[ha]at e;cases e;exact absurd rfl (d1 _ _)
    .subst e';rw[hT p hp]at e;cases e;exact absurd rfl (d2 _)
  have noA:∀{b:AD}{o:Obj}{es:Array DictEntry}{ep:Nat},s₁.heap.get? b=some o->o.data = .dict es ep->H b=none:=λ{b o es ep} e d=>noT e (λvs n z=>by rw[d]at z;cases z) λvs z=>by rw[d]at z;cases z
  have nsK:∀{b:AD}{m:Str->Option Value},s₁.heap.Ns b m->(zgA s₁.heap H).Ns b m:=λ{b m} ⟨o,es,ep,e,d,r⟩=>⟨o,es,ep,base_of e (noA e d),d,r⟩
  have hKb:K.In (zgA s₁.heap H):=λb o e=>base_of (KX b o e) (by
   cases q:H b with
   |none=>rfl
   |some u=>
    rcases hA b (by rw[q];simp)with⟨e',_⟩ | ⟨p,hp,e'⟩
    .subst e';rw[hK (by rw[q];simp)]at e;cases e
    .subst e';rw[hKt p hp]at e;cases e)
  have hBs:Bs K mg (zgA s₁.heap H):=⟨hKb,by
   obtain⟨bm,ob,b1,b2,b3,b4,b5,b6⟩:=hbm;exact⟨bm,ob,b1,b2,base_of b3 (noT b3 (λvs n z=>by rw[b6]at z;cases z) λvs z=>by rw[b6]at z;cases z),b4,b5,b6⟩⟩
  have hM:Mod K mg (zgA s₁.heap H):=⟨hKb,nsK hns,⟨mb,nsK hb,hbb⟩,let ⟨mc,h1,h2⟩:=hlim;⟨mc,nsK h1,h2⟩⟩
  have e0:zgy P w K mg (zgA s₁.heap H) callerA [] s₁ H:=⟨rfl,hM,λb o e=>zkh e,O5 (ze0 _ _),trivial,λb hb=>absurd (show b∈([]:List AD)from hb) (by simp),ab,.of_eq hg⟩
  refine OC ((F _ hKb (nsK hns) hBs).run callerA [] s₁ H ⟨[.ref a],[]⟩ [.ref a] [.ref a] _ _ hr e0 (hbind s₁ (.ref a)) (.cons rfl .nil) (hsp H hTb hS)) λr s' h=>?_;cases r with
  |error e=>exact False.elim h
  |ok fl=>
   cases fl with
   |next=>exact False.elim h
   |brk=>exact False.elim h
   |cont=>exact False.elim h
   |ret u=>
    obtain⟨v,H',os,bare,un,hok',r',q⟩:=h;have q' : v = .bl true:=q;subst q';obtain rfl:u=Value.bool true:=r';refine⟨rfl,⟨λb o e=>?_,λb o e=>un.there b o e (by simp)⟩,os,bare⟩;cases q:H b with
    |none=>exact .inl (un.keep b o e q (by intro z;exact absurd (show b∈([]:List AD)from z) (by simp)) (by simp))
    |some u=>
     rcases hA b (by rw[q];simp)with⟨e',ob,xs,z⟩ | ⟨p,hp,e'⟩
     .have z2:=un.frzs b ob _ z;obtain⟨e1,_⟩:=ab b _ z;obtain⟨e2,_⟩:=hok' b _ z2;rw[e]at e1;cases e1;exact .inl e2
     .subst e';have z:=un.tbls _ _ (hTb p hp);obtain⟨ps,e1,_⟩:=hok' _ _ z;rw[hT p hp]at e;cases e;exact .inr (.inl ⟨hIs p hp,rfl,#[],ps,rfl,by rw[Array.empty_append];exact e1⟩)
 have hpa:∀ p∈tabs,p.1≠a:=λp hp z=>by have:=hT p hp;rw[z,ha]at this;cases this
 have tl:∀ p∈tabs,tabs.lookup p.1=some p.2:=λp hp=>zcP hnd hp;have okT:∀(H:Hp)(b:AD)(cr:Nat->Nat->Option Str),tabs.lookup b=some cr->Yu P w H s₁.heap b (.tbl cr):=λH b cr e=>⟨#[],hT (b,cr) (Q4 e),trivial,λpos v z=>by cases z⟩
 cases hk:K.lookup a with
 |some o=>
  have e:=KX a o hk;rw[ha]at e;cases e;refine core (λb=>(tabs.lookup b).map HO.tbl) (λp hp=>by show(tabs.lookup p.1).map HO.tbl=_;rw[tl p hp];rfl) (.inr ⟨_,vs.toArray,_,hk,rfl,rfl,rfl,by rw[ID,lenV];exact hl,by simpa using rv⟩) (λb u z=>?_) (λb z=>?_) λz=>?_
  .obtain⟨cr,e1,e2⟩:=Option.map_eq_some_iff.mp z;subst e2;exact okT _ b cr e1
  .replace z:(tabs.lookup b).map HO.tbl≠none:=z
   cases e:tabs.lookup b with
   |none=>rw[e]at z;exact absurd rfl z
   |some cr=>exact .inr ⟨_,Q4 e,rfl⟩
  .replace z:(tabs.lookup a).map HO.tbl≠none:=z
   cases e:tabs.lookup a with
   |none=>rw[e]at z;exact absurd rfl z
   |some cr=>exact absurd rfl (hpa _ (Q4 e))
 |none=>
  refine core (λb=>if b=a then some (.frz {cls:=.type "list",data:=.seq vs.toArray} (.lst (ns.map V.int)))else(tabs.lookup b).map HO.tbl) (λp hp=>?_) (.inl (.inr ⟨{cls:=.type "list",data:=.seq vs.toArray},Iz rfl⟩)) (λb u z=>?_) (λb z=>?_) λ_=>hk
  .show(if p.1=a then _ else(tabs.lookup p.1).map HO.tbl)=_;rw[Iq (hpa p hp),tl p hp];rfl
  .by_cases hb:b=a
   .have z':=(Iz hb).symm.trans z;cases z';subst hb;exact⟨ha,by rw[Ie];exact hl,vs,_,rv,ha⟩
   .have z':=(Iq hb).symm.trans z;obtain⟨cr,e1,e2⟩:=Option.map_eq_some_iff.mp z';subst e2;exact okT _ b cr e1
  .by_cases hb:b=a
   .exact .inl ⟨hb,_,_,Iz hb⟩
   .replace z:(if b=a then _ else(tabs.lookup b).map HO.tbl)≠none:=z
    rw[Iq hb]at z;cases e:tabs.lookup b with
    |none=>rw[e]at z;exact absurd rfl z
    |some cr=>exact .inr ⟨_,Q4 e,rfl⟩
def zhO{l:PySem.W.OpenLaw}{n:Nat}{q:Program}{loose:List Str}{XP:(Str->Option Value)->Heap->Prop}{YP:World->Heap->Prop}{d:DefRec}{K:Params->FG}{sp:World->Sp}(tabs:World->ziG)(hn:l.most=some n)(hn2:n<=sizeLine)(hdf:d.params.defaults=[])(hr:Wt k callerA)(hY:∀(w:World)(h:Heap),YP w h->(K w.params).In h/\∀ p∈tabs w,h.get? p.1=some {cls:=.none,data:=.fields #[]})(F:∀(w:World)(mg:Str->Option Value)(fa:AD)(h:Heap),(K w.params).In h->h.Ns mainGlobals mg->mg d.name=some (.ref fa)->
   ∃ fd:FuncData,(∀(s:SH)(u:Value),BindsTo s fd ⟨[u],[]⟩ [(x,u)])/\((∀ p∈tabs w,(K w.params).lookup p.1=none)/\(∀ p∈tabs w,isCodeTable h p.1)/\((tabs w).map (·.1)).Nodup)/\
    ∀ base:Heap,(K w.params).In base->base.Ns mainGlobals mg->Bs (K w.params) mg base->Wb l.prog w (K w.params) mg base CX0 k fa fd [x] (sp w))(hsp:∀(w:World)(H:Hp)(a:AD)(ns:List Int),ns.length<=n->zbv H (tabs w)->SqL (K w.params) H a (ns.map V.int)->sp w [.ref a] H (λv _=>v = .bl true) λ_ _ _=>False):
  PySem.W.WalkO q loose XP YP l.row.toRowW d [] (λf vs=>PySem.call f vs):=by
 refine Att.zcJ hn hdf λw s₀ s₁ mg mb fa o pm cd doc a vs ns G Y ho hd hcd hmg hobj hints hlen hg=>?_;obtain⟨KX,hT⟩:=hY w _ Y;obtain⟨fd,hb,⟨h1,h2,h3⟩,hF⟩:=F w mg fa _ KX G.T.g hmg;exact zfe (tabs w) KX G.T.g G.T.b G.T.builtins G.T.nolimit hg hobj hints (IH hlen hn2) hr G.T.bmain hT h2 h1 h3 hF hb (λH hO hS=>hsp w H a ns hlen hO hS)
def Uv(K:FG)(tabs:ziG):Sp:=λvs H Q _=>∃(a:AD)(ns:List Int),vs=[.ref a]/\SqL K H a (ns.map V.int)/\ns.length<=63/\zbv H tabs/\∀ H',Q (.bl true) H'
def zgO{K:FG}{c P:AD}(X:K.In h)(e:codeHdIn K c P=true):isCodeTable h P:=by obtain⟨o,vs,file,tf,flags,tg,inF,text,tt,e1,e2,e3,e4,_⟩:=PySem.W.codeHd_of_K X e;exact⟨c,o,vs,e1,e2,e3,e4⟩
theorem zfS:∀{xs:List V}{us:List Value},Vals xs us->∀{i:Nat}{u:Value},us[i]?=some u->∃ x,xs[i]?=some x/\RelV x u
 |_,_,.nil,_,_,e=>by simp at e
 |_,_,.cons r _,0,_,e=>by simp at e;subst e;exact⟨_,rfl,r⟩
 |_,_,.cons _ h,i+1,_,e=>by simpa using zfS h (by simpa using e)
theorem zaD:∀{xs:List V}{us:List Value},xs.length=us.length->(∀(i:Nat) x u,xs[i]?=some x->us[i]?=some u->RelV x u)->Vals xs us
 |[],[],_,_=>.nil
 |x::xs,u::us,hl,h=>.cons (h 0 x u rfl rfl) (zaD (by simpa using hl) λi y v e1 e2=>h (i+1) y v (by simpa using e1) (by simpa using e2))
 |[],_::_,hl,_=>by simp at hl
 |_::_,[],hl,_=>by simp at hl
theorem Vw:∀{ns:List Int}{us:List Value},Vals (ns.map V.int) us->IntsAre us ns
 |[],_,h=>by cases h;exact .nil
 |n::ns,_,h=>by
  cases h with
  |cons r h' =>obtain⟨t,rfl⟩:=r;exact .cons n t (Vw h')
abbrev gV(g:Nat->Int)(n:Nat):List V:=(List.range n).map λi=>V.int (g i)
def zgd{g:Nat->Int}{n i:Nat}{u:Value}(h:Vals (gV g n) us)(e:us[i]?=some u):i<n/\∃ t,u = .int (g i) t:=by
 obtain⟨x,hx,r⟩:=zfS h e;rw[Ik]at hx;have hi:i<n:=by have:=(Io.mp e).1;have hl:=h.length;rw[Ie,Iy]at hl;omega
 rw[Dt hi]at hx;have:V.int (g i)=x:=IA hx;subst this;exact⟨hi,r⟩
section
variable {g:Nat->Int}{n:Nat}{ac items:List Value}
def zhJ(hk:Vals (gV g n) ac)(ha:Vals (gV (λi=>(i:Nat)) n) items){p:Keyed}(h:p∈ac.zip items):∃ m,m<n/\∃ t t',p=(.int (g m) t,.int (m:Nat) t'):=by obtain⟨i,hi⟩:=List.getElem?_of_mem h;rw[Oj]at hi;obtain⟨h1,t,e1⟩:=zgd hk hi.1;obtain⟨_,t',e2⟩:=zgd ha hi.2;exact⟨i,h1,t,t',DA e1 e2⟩
noncomputable def nO(p:Keyed):Nat:=(numOf p.2).toNat
def zie(hk:Vals (gV g n) ac)(ha:Vals (gV (λi=>(i:Nat)) n) items):(ac.zip items).map nO=List.range n:=by
 have l1:=hk.length;have l2:=ha.length;rw[Ie,Iy]at l1 l2;refine Dx λi=>?_;rw[Ik];by_cases h:i<n
 .have e1:ac[i]?=some ac[i]:=Ib (by omega);have e2:items[i]?=some items[i]:=Ib (by omega);have e3:(ac.zip items)[i]?=some (ac[i],items[i]):=by rw[Oj];exact⟨e1,e2⟩
  obtain⟨_,t,e⟩:=zgd ha e2;rw[e3,Dt h];show some (nO (ac[i],items[i]))=some i;unfold nO;rw[e];simp[numOf]
 .rw[IU (by simp;omega),IU (by simp;omega)];rfl
def zkC(hk:Vals (gV g n) ac)(ha:Vals (gV (λi=>(i:Nat)) n) items){xs:Array Keyed}(hp:xs.toList.Perm (ac.zip items))(hu:StbG.Up (λp=>numOf p.1) (λp=>numOf p.2) xs n):
  ∃ out:List Nat,out.Perm (List.range n)/\out.Pairwise (λi j=>g i<g j\/(g i=g j/\i<j))/\Vals (out.map λi=>V.int (i:Nat)) (xs.map (·.2)).toList:=by
 have hsz:xs.size=n:=by have:=hp.length_eq;have l1:=hk.length;have l2:=ha.length;rw[Ie,Iy]at l1 l2;rw[List.length_zip,IQ]at this;omega
 have mem:∀(i:Nat)(p:Keyed),xs[i]?=some p->∃ m,m<n/\∃ t t',p=(.int (g m) t,.int (m:Nat) t'):=λi p e=>zhJ hk ha (hp.mem_iff.mp (by
  have:=Array.mem_of_getElem? e;exact mem_toList_iff.mpr this))
 have hout:∀(i:Nat)(p:Keyed),xs[i]?=some p->StbG.R (λp=>numOf p.1) xs i=g (nO p)/\StbG.R (λp=>numOf p.2) xs i=(nO p:Nat):=λi p e=>by
  obtain⟨m,_,t,t',rfl⟩:=mem i p e;constructor
  .unfold StbG.R;rw[e];simp[numOf,nO]
  .unfold StbG.R;rw[e];simp[numOf,nO]
 have hnd:(xs.toList.map nO).Nodup:=by have:=hp.map nO;rw[zie hk ha]at this;exact this.nodup_iff.mpr OX
 refine⟨xs.toList.map nO,by rw[← zie hk ha];exact hp.map _,?_,?_⟩
 .rw[N9];intro i j hi hj hij;have hj' : j<xs.size:=by simpa using hj
  have e1:xs[i]?=some xs[i]:=Ix (by omega);have e2:xs[j]?=some xs[j]:=Ix hj';obtain⟨a1,a2⟩:=hout i _ e1;obtain⟨b1,b2⟩:=hout j _ e2;have:=hu i j hij (by omega);rw[a1,a2,b1,b2]at this;have q1:(xs.toList.map nO)[i]=nO xs[i]:=by simp
  have q2:(xs.toList.map nO)[j]=nO xs[j]:=by simp
  have ne:=N9.mp hnd i j hi hj hij;rw[q1,q2]at ne ⊢;have ne' : nO xs[i]≠nO xs[j]:=ne;omega
 .refine zaD (by simp) λi x u h1 h2=>?_;have hi:i<xs.size:=by have:=(Io.mp h2).1;simpa using this
  have e1:xs[i]?=some xs[i]:=Ix hi;obtain⟨m,_,t,t',e⟩:=mem i _ e1;have hx:x=V.int (nO xs[i]:Nat):=by
   rw[Ik,Ik]at h1;have:xs.toList[i]?=some xs[i]:=by simp[hi]
   rw[this]at h1;exact(IA h1).symm
  have hu' : u=xs[i].2:=by
   have:(xs.map (·.2)).toList[i]?=some xs[i].2:=by simp[hi]
   rw[this]at h2;exact(IA h2).symm
  rw[hx,hu',e];exact⟨t',by simp[nO,numOf]⟩
def zhe(hk:Vals (gV g n) ac)(ha:Vals (gV (λi=>(i:Nat)) n) items):StbG.Rs (λp=>numOf p.2) (ac.toArray.zip items.toArray).size (ac.toArray.zip items.toArray) 0:=λi j hij _ hj=>by
 have at_:∀ i,i<(ac.toArray.zip items.toArray).size->StbG.R (λp=>numOf p.2) (ac.toArray.zip items.toArray) i=(i:Nat):=λi hi=>by
  have e:(ac.toArray.zip items.toArray)[i]?=some (ac.toArray.zip items.toArray)[i]:=Ix hi;have e' : (ac.zip items)[i]?=some (ac.toArray.zip items.toArray)[i]:=by
   have:(ac.toArray.zip items.toArray).toList=ac.zip items:=by rw[ksk_zip]
   rw[← this,NU];exact e
  rw[Oj]at e';obtain⟨_,t,e2⟩:=zgd ha e'.2;unfold StbG.R;rw[e];show numOf (ac.toArray.zip items.toArray)[i].2=_;rw[e2];rfl
 rw[at_ i (by omega),at_ j hj];omega
end
def zhN{prog:Program}{w:World}{A:Around}{E:Value->SH->Prop}{s:SH}{a₀:Array Keyed}(ik:IntKeys a₀):StbG.Cmp prog w A E s (λp=>numOf p.1) oneType' a₀:=λ{st i j Q} hB hi hj hq=>wpS_ltK ⟨hB.perm,hB.kind,hB.failed,hB.pend⟩ ik hi hj hq
section
variable {X:Cx}{aa:List (AD×Obj)}{σ:St}{H:Hp}{s:SH}{g:Nat->Int}{n:Nat}{D kS:AD}{P:PySem.Fin->SH->Prop}{A:Around}{E:Value->SH->Prop}{items:List Value}
noncomputable def exO(a:AD)(o:Obj):HO:=.ext λh=>h.get? a=some o
def zit{Pr:Program}{w:World}{o:Obj}(e:h.get? a=some o):Yu Pr w H h a (exO a o):=⟨e,⟨o,e⟩,λ_ _ p q=>q _ p⟩
theorem Inv.exO{o:Obj}(I:Inv X aa σ H s)(h:H a=some (L2.exO a o)):s.heap.get? a=some o:=(show Yu X.prog X.w H s.heap a (L2.exO a o)from I.ab a _ h).1
def ziJ{ac:List Value}{e e1:Nat}(I:Inv X aa σ H s)(hD:H D=some (exO D (seqObj "list" #[] e1)))(hK:H kS=some (.lst (gV g n)))(hkD:kS≠D)(n64:n<64)(hk:Vals (gV g n) ac)(ha:Vals (gV (λi=>(i:Nat)) n) items)(hoK:s.heap.get? kS=some (seqObj "list" ac.toArray e))(k:∀ out:List Nat,out.Perm (List.range n)->out.Pairwise (λi j=>g i<g j\/(g i=g j/\i<j))->∀ s',Inv X aa σ (upd (upd H kS (.lst [])) D (.lst (out.map λi=>V.int (i:Nat)))) s' -> P (.done (.ret .none)) s'):
  wpAny (model X.prog X.w) A (ksk_end D false items.toArray e1 (.ref kS) ac.toArray) P E s:=by
 have zl:(2000:Nat)<=sizeLine:=by decide
 have l1:=hk.length;have l2:=ha.length;rw[Ie,Iy]at l1 l2;have ik:IntsAre ac.toArray.toList ((List.range n).map g):=by rw[List.toList_toArray];exact Vw (by rw[NQ];exact hk)
 have hzs:(ac.toArray.zip items.toArray).size=n:=by rw[Array.size_zip,ID,ID];omega
 have ez:(ac.toArray.zip items.toArray).toList=ac.zip items:=by rw[ksk_zip]
 have TAIL:∀ st:SortSt,(arrOf st).Perm (ac.toArray.zip items.toArray)->failedOf st=none->StbG.Up (λp=>numOf p.1) (λp=>numOf p.2) (arrOf st) n->wpAny (model X.prog X.w) A (ksk_tail D false e1 (.ref kS) st) P E s:=λst hp hf hu=>by
  obtain⟨out,o1,o2,o3⟩:=zkC hk ha (xs:=arrOf st) (by rw[← ez];exact Ou.mp hp) hu;have osz:((arrOf st).map (·.2)).size=n:=by rw[Array.size_map,hp.size_eq,hzs]
  have I1:=I.zmu (l:=kS) (ys:=[]) (its':=[]) (f:=λ_=>(#[]:Array Value)) (t':=s.toks) hK hoK rfl .nil (by show 0<=_;omega);have hD1:upd H kS (.lst []) D=some (exO D (seqObj "list" #[] e1)):=by rw[Zk (Ne.symm hkD)];exact hD
  have hoD1:(s.heap.update kS (Obj.mapSeq λ_=>(#[]:Array Value))).get? D=some (seqObj "list" #[] e1):=I1.exO hD1;have upq:=PySem.IsL.update hoD1 λ_=>(arrOf st).map (·.2);have eqA:(arrOf st).map (·.2)=((arrOf st).map (·.2)).toList.toArray:=by rw[Array.toArray_toList]
  have I2:Inv X aa σ (upd (upd H kS (.lst [])) D (.lst (out.map λi=>V.int (i:Nat)))) {s with heap:=(s.heap.update kS (Obj.mapSeq λ_=>(#[]:Array Value))).update D (Obj.mapSeq λ_=>(arrOf st).map (·.2))}:=I1.write (x:=D) (e:=D) (t':=s.toks) (by rw[hD1];exact trivial) (.inl rfl) (λb' u hb hu=>(Nb _ (Obj.mapSeq λ_=>(arrOf st).map (·.2)) (Ne.symm hb)).trans hu) ⟨_,upq⟩ (show Yu X.prog X.w _ _ D (.lst (out.map λi=>V.int (i:Nat)))from⟨by rw[Ie];have:=o1.length_eq;rw[Iy]at this;omega,((arrOf st).map (·.2)).toList,_,o3,by rw[← eqA];exact upq⟩)
  unfold ksk_tail;refine Ia (listUpdate_at hoK rfl ?_ (by rw[ID];omega) (NN _));refine Ia (wpAny_letGo (Ia (seqEpoch_at hoD1 rfl (Ia (listUpdate_at hoD1 rfl ?_ (NN _) (by show((arrOf st).map (·.2)).size<=_;omega))))));rw[hf];simp only[Oy,IF,IY];exact Ic (k out o1 o2 _ I2)
 unfold ksk_end;dsimp only;simp only[IF,IY];by_cases h2:items.toArray.size<2
 .rw[Iz h2,Iz h2];refine Ia (Ic ?_);rw[StateT.run_pure];refine Ia (Ic (TAIL (SortSt.mk' general' (ac.toArray.zip items.toArray) #[] 7 none) (Array.Perm.refl _) rfl λi j a b=>?_));rw[ID]at h2;omega
 .rw[Iq h2,Iq h2];rw[ID]at h2;rw[ksk_kind ik (by rw[ID];omega)];refine Ia (Ic (Ia (N0 (StbG.zh8 (ρ:=λp=>numOf p.1) (τ:=λp=>numOf p.2) (κ:=oneType') (a₀:=ac.toArray.zip items.toArray) (st:=SortSt.mk' oneType' (ac.toArray.zip items.toArray) #[] 7 none)
   (Q:=λ_ st' => (arrOf st').Perm (ac.toArray.zip items.toArray)/\failedOf st'=none/\StbG.Up (λp=>numOf p.1) (λp=>numOf p.2) (arrOf st') (ac.toArray.zip items.toArray).size)
   (zhN (ksk_intKeys ik)) ⟨Array.Perm.refl _,rfl,rfl,rfl⟩ (by rw[hzs];omega) (by rw[hzs];exact n64) (zhe hk ha) λst' a1 a2 a3=>⟨a1,a2,a3⟩) ?_ λ_ _ e=>e)))
  rintro⟨⟨⟩,st'⟩ s' ⟨rfl,hp,hf,hu⟩;exact TAIL st' hp hf (by rw[← hzs];exact hu)
def zhH{kk e1:Nat}{q:Str}{body:Expr}{cap:List Str}{H0:Hp}(hr:Wt (kk+1) A)(hAf:A.frames=X.A.frames)(S:XC X.env.scope sc [y] cap)(hjs:js.map (λj=>X.N[j]?)=cap.map some)(hbind:∀(u pm ctv:Value)(c' : AD)(cl:List (Str×AD)),bindArgs (kla_fn "<lambda>" q params body sc cl pm (.ref c') ctv) ⟨[u],[]⟩=pure [(y,u)])(hbody:∀ A outer s H f c' cl,Wt kk (A.deeper (PySem.W.envX q sc s.heap.objs.size f (.ref c') cl))->PE (zfs X.prog X.w X.K X.mg X.base ([y]++cap) q sc f c' cl A outer s H) body te)(L:zcq H0 f q params body sc (zaa X.env sc.names []))(hev:∀ i,i<n->Ev X.K te (some (.int (i:Nat))::QL σ js) H0 (.int (g i)))(I:Inv X aa σ H s)(s0:Zr H0 H)(hD:H D=some (exO D (seqObj "list" #[] e1)))(hK:H kS=some (.lst []))(hkD:kS≠D)(fD:H0 D=none)(fK:H0 kS=none)(n64:n<64)(ha:Vals (gV (λi=>(i:Nat)) n) items)(k:∀ out:List Nat,out.Perm (List.range n)->out.Pairwise (λi j=>g i<g j\/(g i=g j/\i<j))->∀ s' H',Zr H0 H' -> H' D=some (.lst (out.map λi=>V.int (i:Nat)))->Inv X aa σ H' s' -> P (.done (.ret .none)) s'):
  wpAny (model X.prog X.w) A (ksk_rest D (.ref f) false items.toArray e1 (.ref kS)) P E s:=by
 have zl:(2000:Nat)<=sizeLine:=by decide
 have l2:=ha.length;rw[Ie,Iy]at l2;have lenJ:js.length=cap.length:=by have:=ND List.length hjs;simpa using this
 unfold ksk_rest;refine Ia (Da ?_);rw[List.forIn_toArray];refine Ia (ksk_fold (λi s' => ∃ H',Inv X aa σ H' s' /\ Zr H0 H' /\ H' D=some (exO D (seqObj "list" #[] e1))/\H' kS=some (.lst (gV g i))) items 0 s ⟨H,I,s0,hD,hK⟩ ?turn ?over)
 case turn=>
  rintro j x s' hx ⟨H',I',s1,hD',hK'⟩;simp only[Nat.zero_add]at hK' ⊢;obtain⟨hj,t,rfl⟩:=zgd ha hx;have C:=I'.zhC S hjs;have e0:zgy X.prog X.w X.K X.mg X.base A X.stack s' H':=⟨hAf.trans I'.env0.frames,I'.env0.mod,I'.env0.bs,I'.env0.bsz,I'.env0.zcd,I'.env0.frf,I'.env0.ab,I'.env0.bare⟩
  have L':=L.same λb o u e=>s1 b _ e;have run:=zjF (A:=A) (Q:=λv H2=>v = .int (g j)/\Zr H' H2) (E:=E0) (vs:=[.int (j:Nat)]) (us:=[.int (j:Nat) t]) S (λz hz=>by
   obtain⟨c',hc'⟩:=Dm.mp (QT (env:=X.env) (acc:=[]) (NG hz));exact⟨c',hc'⟩) hr e0 L' C (λpm ctv c' => hbind _ pm ctv c' _) rfl (by unfold QL;rw[Ie,lenJ]) (.cons ⟨t,rfl⟩ .nil) (λc' hr' => hbody _ _ _ _ _ c' _ hr') ((hev j hj).use s1 λv G' H2 g2 hv=>⟨hv.int,g2.hh⟩)
  refine Ia (O0 (wpAny_call (OC run λr s2 hq' => ?_)));cases r with
  |error e=>exact False.elim hq'
  |ok fl=>
   cases fl with
   |next=>exact False.elim hq'
   |brk=>exact False.elim hq'
   |cont=>exact False.elim hq'
   |ret u=>
    obtain⟨v,H2,I2,rv,ev,s2'⟩:=I'.after hq';subst ev;obtain⟨t2,rfl⟩:=rv;have hK2:=s2' _ _ hK';obtain⟨_,its,m,rv2,hl2,hoK⟩:=I2.zhG hK2;have hl3:=rv2.length;rw[Ie,Iy]at hl3;have I3:=I2.zmu (l:=kS) (ys:=gV g (j+1)) (its':=its++[.int (g j) t2]) (f:=(·.push (.int (g j) t2))) (t':=s2.toks) hK2 hoK (by simp) (by
     rw[show gV g (j+1)=gV g j++[V.int (g j)]by rw[gV,OP,Nk];rfl];exact rv2.append (.cons ⟨t2,rfl⟩ .nil)) (by rw[Ie,Iy];omega)
    refine Ia (listUpdate_at hoK rfl (Ic ⟨rfl,_,I3,λb o e=>?_,?_,Zi⟩) (by rw[ID];omega) (by rw[Array.size_push,ID];omega))
    .rw[Zk (ZC e fK)];exact s2' _ _ (s1 _ _ e)
    .rw[Zk (Ne.symm hkD)];exact s2' _ _ hD'
 case over=>rintro s' ⟨H',I',s1,hD',hK'⟩;rw[Nat.zero_add,← l2]at hK';obtain⟨_,its,m,rv2,hl2,hoK⟩:=I'.zhG hK';refine Ia (listItems_at hoK rfl ?_);exact ziJ I' hD' hK' hkD n64 rv2 ha hoK λout o1 o2 s2 I2=>k out o1 o2 s2 _ (λb o e=>by rw[Zk (ZC e fD),Zk (ZC e fK)];exact s1 _ _ e) Zi I2
end
open PySem PySem.Spec PyProof.Rows StbG
section
variable {prog:Program}{w:World}{A:Around}{E:Value->SH->Prop}{s:SH}
def Ys(h:Heap)(v:Value)(a b:Int):Prop:=∃ p o t u n,v = .ref p/\h.get? p=some o/\o.cls = .type "tuple" /\ o.data = .seq #[.int a t,.int b u] n
def zja{x y:Value}{a c d:Int}{Q:Bool->SH->Prop}(hx:Ys s.heap x a b)(hy:Ys s.heap y c d)(h:Q (decide (a<c\/(a=c/\b<d))) s):wpAny (model prog w) A (keyLt' (tuples' true) x y) Q E s:=by
 obtain⟨p,o,t,u,n,rfl,e1,_,d1⟩:=hx;obtain⟨p2,o2,t2,u2,n2,rfl,e2,_,d2⟩:=hy;refine PySem.W.kat_lt e1 d1 e2 d2 ?_;show PySem.W.KatLex prog w A true _ Q [(.int a t,.int c t2),(.int b u,.int d u2)] 0 s;refine kat_cons (wpAny_eqBool_int (kat_go (λz=>kat_yes (kat_cons (wpAny_eqBool_int (kat_go (λz2=>kat_yes (PySem.W.kat_nil ?_)) λz2=>kat_no (PySem.W.kat_one _ _ (lt_int ?_)))))) λz=>kat_no (oneLt_int ?_)))
 .have e1:a=c:=by simpa using z
  have e2:b=d:=by simpa using z2
  have:decide (a<c\/(a=c/\b<d))=false:=Ip (by omega);rw[this]at h;exact h
 .have e1:a=c:=by simpa using z
  have:decide (a<c\/(a=c/\b<d))=decide (b<d):=Nq.mpr (by omega);rw[this]at h;exact h
 .have e1:a≠c:=by simpa using z
  have:decide (a<c\/(a=c/\b<d))=decide (a<c):=Nq.mpr (by omega);rw[this]at h;exact h
def zf1(h:∀ p∈(vs.toArray.zip vs.toArray).toList,∃ a b,Ys s.heap p.1 a b/\0<=b/\b<1000/\ρ p=a*1000+b):Cmp prog w A E s ρ (tuples' true) (vs.toArray.zip vs.toArray):=by
 intro st i j Q hB hi hj hq;have at_:∀ k,k<(vs.toArray.zip vs.toArray).size->∃ x q a b,(arrOf st)[k]?=some (x,q)/\Ys s.heap x a b/\0<=b/\b<1000/\R ρ (arrOf st) k=a*1000+b:=λk hk=>by
  have hk' : k<(arrOf st).size:=by rw[hB.size];exact hk
  have hm:(arrOf st)[k]∈(vs.toArray.zip vs.toArray).toList:=(Ou.mp hB.perm).mem_iff.mp (by simp);obtain⟨a,b,hp,b0,b1,e⟩:=h _ hm;have e' : (arrOf st)[k]?=some (arrOf st)[k]:=getElem?_pos _ k hk';exact⟨(arrOf st)[k].1,(arrOf st)[k].2,a,b,e',hp,b0,b1,by unfold R;rw[e'];exact e⟩
 obtain⟨x,p,a,b,ei,hx,x0,x1,ri⟩:=at_ i hi;obtain⟨y,q,c,d,ej,hy,y0,y1,rj⟩:=at_ j hj;rw[ri,rj]at hq;have e:decide (a*1000+b<c*1000+d)=decide (a<c\/(a=c/\b<d)):=Nq.mpr (by omega);rw[e]at hq;rw[ltAt'_eq];refine wpS_bind (wpS_get ?_);show wpS _ _ _ _ (do let x ← elem' (arrOf st) i;let y ← elem' (arrOf st) j;lt' x y) Q st;rw[elem'_eq,elem'_eq,ei,ej];refine wpS_bind (wpS_pure (wpS_bind (wpS_pure ?_)));rw[lt'_eq];refine wpS_bind (wpS_get ?_);rw[hB.kind];exact wpS_bind (wpS_lift (O0 (zja hx hy ⟨rfl,wpS_pure hq⟩)))
def zdS{Q:SortKind->SH->Prop}(h:∀ v∈vs,∃ a b,Ys s.heap v a b)(hne:vs≠[])(hq:Q (tuples' true) s):wpAny (model prog w) A (keyKind' vs.toArray) Q E s:=by
 have key:∀ vs:List Value,(∀ v∈vs,∃ a b,Ys s.heap v a b)->∃ fs:List Value,KatTups s.heap vs fs/\fs.length=vs.length/\∀ f∈fs,∃ a t,f = .int a t:=by
  intro vs
  induction vs with
  |nil=>intro _;exact⟨[],.nil,rfl,λf hf=>by cases hf⟩
  |cons v r ih=>
   intro h;obtain⟨fs,k1,k2,k3⟩:=ih λz hz=>h z (Im _ hz);obtain⟨a,b,p,o,t,u,n,rfl,e1,c1,d1⟩:=h v Ir;exact⟨.int a t::fs,KatTups.cons e1 c1 d1 rfl k1,by rw[IL,IL,k2],λf hf=>by
    rcases IE.mp hf with rfl | hf
    .exact⟨a,t,rfl⟩
    .exact k3 f hf⟩
 obtain⟨fs,k1,k2,k3⟩:=key vs h;refine PySem.W.kat_kind (T:=.type "int") k1 (by rw[k2];cases vs with | nil=>exact absurd rfl hne | cons=>simp) (λf hf=>?_) (by decide) hq;obtain⟨a,t,rfl⟩:=k3 f hf;exact Looks.of_pure rfl
noncomputable def pN(h:Heap)(v:Value):Int:=match v with
 |.ref p=>match h.get? p with
  |some o=>match o.data with
   |.seq xs _=>numOf (xs.getD 0 .none)*1000+numOf (xs.getD 1 .none)
   |_=>0
  |none=>0
 |_=>0
def zhM{v:Value}{a:Int}(x:Ys h v a b):pN h v=a*1000+b:=by obtain⟨p,o,t,u,n,rfl,e1,_,d1⟩:=x;unfold pN;dsimp only;rw[e1];show(match o.data with | .seq xs _=>numOf (xs.getD 0 .none)*1000+numOf (xs.getD 1 .none) | _=>0)=_;rw[d1];rfl
def Ys.keep{h':Heap}{v:Value}{a:Int}(x:Ys h v a b)(k:∀ b o,h.get? b=some o->h'.get? b=some o):Ys h' v a b:=by obtain⟨p,o,t,u,n,e,e1,r⟩:=x;exact⟨p,o,t,u,n,e,k _ _ e1,r⟩
abbrev pz(vs:List Value):Array Keyed:=vs.toArray.zip vs.toArray
def U4(vs:List Value):(pz vs).size=vs.length:=by simp[pz]
def zfw{p:Keyed}(h:p∈(pz vs).toList):p.1∈vs/\p.2=p.1:=by
 have e:(pz vs).toList=vs.zip vs:=by simp[pz]
 rw[e]at h;obtain⟨i,hi⟩:=List.getElem?_of_mem h;rw[Oj]at hi;exact⟨IM hi.1,IA (hi.2.symm.trans hi.1)⟩
def Ub{n:Nat}{P:PySem.Fin->SH->Prop}(ho:s.heap.get? a=some (seqObj "list" vs.toArray n))(hv:∀ v∈vs,∃ x y,Ys s.heap v x y/\0<=y/\y<1000/\∀ q,ρ (v,q)=x*1000+y)(z64:vs.length<64)(k:∀ st' : SortSt,(arrOf st').Perm (pz vs)->Up ρ (λ_=>0) (arrOf st') (pz vs).size->P (.done (.ret .none)) {s with heap:=sortedHeap s.heap a vs ((arrOf st').map (·.2))}):wpAny (model prog w) A (Builtin.«list.sort» ⟨[.ref a],[]⟩) P E s:=by
 have la:a<s.heap.objs.size:=IN ho;have zl:(64:Nat)<=sizeLine:=by decide
 obtain⟨e1,ho1⟩:∃ e1,(s.heap.update a (Obj.mapSeq λ_=>#[])).get? a=some (seqObj "list" #[] e1):=⟨_,get?_update_seq ho λ_=>#[]⟩
 have ho6:(((s.heap.update a (Obj.mapSeq λ_=>#[])).push (seqObj "tuple" vs.toArray 0)).push (seqObj "list" #[] 0)).get? a=some (seqObj "list" #[] e1):=Ig _ (Ig _ ho1);rw[list_sort_plain];refine Ia (listItems_at ho rfl (Ia (listUpdate_at ho rfl ?_ (by rw[ID];omega) (NN _))));refine Ia (seqEpoch_at ho1 rfl (Ia (wpAny_newTuple ?_ (by show vs.toArray.toList.length<=_;rw[List.toList_toArray];omega))));refine Ia (wpAny_newList (I9 ?_) (NN _));show wpAny (model prog w) A _ P E {s with heap:=((s.heap.update a (Obj.mapSeq λ_=>#[])).push (seqObj "tuple" vs.toArray 0)).push (seqObj "list" #[] 0)};have keep:∀ v∈vs,∀ x y,Ys s.heap v x y->Ys (((s.heap.update a (Obj.mapSeq λ_=>#[])).push (seqObj "tuple" vs.toArray 0)).push (seqObj "list" #[] 0)) v x y:=λv hv' x y pa=>by
  obtain⟨p,o,t,u,m,e,e1',c1,d1⟩:=pa;have npa:a≠p:=λz=>by subst z;rw[ho]at e1';have eo:=IA e1';rw[← eo]at c1;have c2:Value.type "list" = Value.type "tuple" := c1;injection c2 with c2;exact absurd c2 (by decide)
  exact⟨p,o,t,u,m,e,Ig _ (Ig _ ((Nb s.heap _ npa).trans e1')),c1,d1⟩
 have osz:∀ st' : SortSt,(arrOf st').Perm (pz vs)->((arrOf st').map (·.2)).size<=sizeLine+1:=λst' hp=>by rw[Array.size_map,hp.size_eq,U4];omega
 dsimp only;by_cases h2:vs.toArray.size<2
 .rw[Iz h2,Iz h2];refine Ia (Ic ?_);rw[StateT.run_pure];refine Ia (Ic ?_);dsimp only;refine Ia (seqEpoch_at ho6 rfl (Ia (listUpdate_at ho6 rfl ?_ (NN _) (osz (SortSt.mk' general' (pz vs) #[] 7 none) (Array.Perm.refl _)))));simp only[Oy,IF,IY];refine Ic (k (SortSt.mk' general' (pz vs) #[] 7 none) (Array.Perm.refl _) λi j hij hj=>?_);rw[U4]at hj;rw[ID]at h2;omega
 .rw[Iq h2,Iq h2];rw[ID]at h2;refine Ia (zdS (λv hv' => ?_) (λz=>by subst z;simp at h2) ?_)
  .obtain⟨x,y,pa,_⟩:=hv v hv';exact⟨x,y,keep v hv' x y pa⟩
  refine Ia (N0 (zh8 (ρ:=ρ) (τ:=λ_=>0) (κ:=tuples' true) (a₀:=pz vs) (st:=SortSt.mk' (tuples' true) (pz vs) #[] 7 none) (Q:=λ_ st' => (arrOf st').Perm (pz vs)/\failedOf st'=none/\Up ρ (λ_=>0) (arrOf st') (pz vs).size)
   (zf1 λp hp=>?_) ⟨Array.Perm.refl _,rfl,rfl,rfl⟩ (by rw[U4];omega) (by rw[U4];exact z64) (λi j _ _ _=>?_) λst' a1 a2 a3=>⟨a1,a2,a3⟩) ?_ λ_ _ e=>e)
  .obtain⟨m1,m2⟩:=zfw hp;obtain⟨x,y,pa,y0,y1,e⟩:=hv _ m1;exact⟨x,y,keep _ m1 x y pa,y0,y1,e p.2⟩
  .unfold R;split <;> split <;> exact Int.le_refl _
  rintro⟨⟨⟩,st'⟩ s' ⟨rfl,hp,hf,hu⟩;dsimp only;refine Ia (seqEpoch_at ho6 rfl (Ia (listUpdate_at ho6 rfl ?_ (NN _) (osz st' hp))));rw[hf];simp only[Oy,IF,IY];exact Ic (k st' hp hu)
def zb0{l:AD}(hl:s.heap.IsList l vs.toArray)(hv:∀ v∈vs,∃ x y,Ys s.heap v x y/\0<=y/\y<1000/\∀ q,ρ (v,q)=x*1000+y)(z64:vs.length<64)(k:∀ st' : SortSt,(arrOf st').Perm (pz vs)->Up ρ (λ_=>0) (arrOf st') (pz vs).size->Q (.ref (s.heap.objs.size+1)) {s with heap:=sortedAll s.heap vs ((arrOf st').map (·.2))}):wpAny (model prog w) A (call (.builtin "sorted") [.ref l]) Q E s:=by
 have zl:(64:Nat)<=sizeLine:=by decide
 refine Calls.call_function_entry kind_sorted plain_sorted entry_sorted (args_sorted1 _) (show wpAny _ _ (Builtin.«sorted» _) _ _ _ from ?_);unfold Builtin.«sorted»;refine Ia (m:=checkCount "sorted" 1 1 _) (Ic (Ia (collect_list hl (Ia (wpAny_newList ?_ (by omega))) (by omega))));have zs:((s.heap.push (seqObj "list" #[] 0)).update s.heap.objs.size (Obj.mapSeq (· ++ vs.toArray))).objs.size=s.heap.objs.size+1:=by rw[Heap.size_update,size_push']
 have oL:(((s.heap.push (seqObj "list" #[] 0)).update s.heap.objs.size (Obj.mapSeq (· ++ vs.toArray))).push (seqObj "list" vs.toArray 0)).get? (s.heap.objs.size+1)=some (seqObj "list" vs.toArray 0):=by rw[← zs];exact Iu _ rfl
 show wpAny _ _ _ _ _ {s with heap:=((s.heap.push (seqObj "list" #[] 0)).update s.heap.objs.size (Obj.mapSeq (· ++ vs.toArray))).push (seqObj "list" vs.toArray 0)};rw[zs];refine Ia (I9 (Nn slot_list_sort ⟨_,oL,rfl⟩ entry_list_sort (Ub oL (λv hv' => ?_) z64 λst' a1 a2=>⟨_,rfl,Ic ⟨_,rfl,k st' a1 a2⟩⟩) (args_list_sort _)));obtain⟨x,y,pa,r⟩:=hv v hv';exact⟨x,y,pa.keep λb o e=>Ig _ ((Nb _ _ (ne_of_gt (IN e))).trans (Ig _ e)),r⟩
end
def zbL{f:α->β}{a b:List β}(h:a.Perm b):∀{Z:List α},Z.map f=b->∃ Z' : List α,Z'.Perm Z/\Z'.map f=a:=by
 induction h with
 |nil=>intro Z e;exact⟨Z,.refl _,e⟩
 |cons x h ih=>
  intro Z e;cases Z with
  |nil=>cases e
  |cons z Z=>injection e with e1 e2;obtain⟨Z',p,e3⟩:=ih e2;exact⟨z::Z',p.cons z,by rw[Nt,e1,e3]⟩
 |swap x y l=>
  intro Z e
  match Z,e with
  |z::z2::Z,e=>injection e with e1 e2;injection e2 with e2 e3;exact⟨z2::z::Z,.swap _ _ _,by rw[Nt,Nt,e1,e2,e3]⟩
 |trans h1 h2 i1 i2=>intro Z e;obtain⟨Z2,p2,e2⟩:=i2 e;obtain⟨Z1,p1,e1⟩:=i1 e2;exact⟨Z1,p1.trans p2,e1⟩
abbrev dPr(p:Int×Int):PD:=.tuple [.int p.1,.int p.2]
def zjv(K:FG):List V->Hp->VK->Prop:=λxs H Q=>∃(G:Hp)(p:AD)(vs:List V)(ps:List (Int×Int)),xs=[.ref p]/\Zr G H/\SqL K H p vs/\ZX K G vs (ps.map dPr)/\ps.length<64/\(∀ q∈ps,0<=q.2/\q.2<1000)/\
 ∀(l:AD)(us:List V)(qs:List (Int×Int)),H l=none->qs.Perm ps->ZX K G us (qs.map dPr)->qs.Pairwise (λa b=>a.1*1000+a.2<=b.1*1000+b.2)->Q (.ref l) (upd H l (.lst us))
section
variable {X:Cx}{aa:List (AD×Obj)}{σ:St}{H G:Hp}{s:SH}
def zjJ(I:Inv X aa σ H s)(sg:Zr G H){u:Value}{q:Int×Int}(r:RelV v u)(h:Dat X.K G v (dPr q)):Ys s.heap u q.1 q.2:=by
 obtain⟨p,xs,rfl,hp,hxs⟩:=h.tup;obtain⟨y,ys,rfl,hy,hxs⟩:=hxs.cons;obtain⟨z,zs,rfl,hz,hxs⟩:=hxs.cons;cases hxs.nil;cases hy.int;cases hz.int;obtain rfl:u=Value.ref p:=r;obtain⟨its,rv,⟨o,e1,c1,n,d1⟩,_⟩:=I.tuple (sg.tup hp);cases rv with
 |cons r1 rv=>
  cases rv with
  |cons r2 rv=>cases rv;obtain⟨t,rfl⟩:=r1;obtain⟨t2,rfl⟩:=r2;exact⟨p,o,t,t2,n,rfl,e1,c1,d1⟩
theorem triples(I:Inv X aa σ H s)(sg:Zr G H):∀{vs:List V}{its:List Value}{ps:List (Int×Int)},Vals vs its->ZX X.K G vs (ps.map dPr)->∃ Z:List (Value×V×(Int×Int)),Z.map (·.1)=its/\Z.map (·.2.2)=ps/\∀ z∈Z,RelV z.2.1 z.1/\Dat X.K G z.2.1 (dPr z.2.2)/\Ys s.heap z.1 z.2.2.1 z.2.2.2
 |_,_,[],.nil,_=>⟨[],rfl,rfl,λz hz=>by cases hz⟩
 |_,_,_::_,.nil,h=>by obtain⟨_,_,e,_⟩:=h.cons;cases e
 |_,_,[],.cons _ _,h=>by cases h.nil
 |v0::vs0,u0::us0,q::ps,.cons r rv,h=>by
  obtain⟨y,ys,e,hy,h'⟩:=h.cons;cases e;obtain⟨Z,e1,e2,e3⟩:=triples I sg rv h';refine⟨(u0,v0,q)::Z,by rw[Nt,e1],by rw[Nt,e2],λz hz=>?_⟩;rcases IE.mp hz with rfl | hz
  .exact⟨r,hy,zjJ I sg r hy⟩
  .exact e3 z hz
def zbj{K:FG}(e:X.K=K):Jk X (.builtin "sorted") (zjv K):=by
 subst e;intro aa s σ H xs us Q I r h;obtain⟨G,p,vs,ps,rfl,sg,hq,hd,h64,hps,k⟩:=h;obtain⟨u,rfl,rx⟩:=vals1 r;cases rx;obtain⟨its,r',pl,hz⟩:=I.list hq;have hlen:=r'.length;have hl2:=hd.length;rw[Ie]at hl2;obtain⟨Z,z1,z2,z3⟩:=triples I sg r' hd;have hv:∀ v∈its,∃ x y,Ys s.heap v x y/\0<=y/\y<1000/\∀ q:Value,(λp:Keyed=>pN s.heap p.1) (v,q)=x*1000+y:=λv hv=>by rw[← z1]at hv;obtain⟨z,hz,rfl⟩:=IB.mp hv;obtain⟨_,_,pa⟩:=z3 z hz;have hq2:=hps z.2.2 (by rw[← z2];exact Ds hz);exact⟨_,_,pa,hq2.1,hq2.2,λ_=>zhM pa⟩
 refine zb0 (ρ:=λp=>pN s.heap p.1) pl.isList hv (by omega) λst' a1 a2=>?_;obtain⟨c,hc⟩:=sortedAll_at s.heap its ((arrOf st').map (·.2));have zp:(arrOf st').size=its.length:=by rw[a1.size_eq,U4]
 have mem:∀ q∈(arrOf st').toList,q.1∈its/\q.2=q.1:=λq hq=>zfw ((Ou.mp a1).mem_iff.mp hq);have hperm:((arrOf st').toList.map (·.2)).Perm its:=by
  have:=(Ou.mp a1).map (·.2);have e:(pz its).toList.map (·.2)=its:=by
   have:(pz its).toList=its.zip its:=by simp[pz]
   rw[this,← List.unzip_snd,List.unzip_zip (by rfl)]
  rw[e]at this;exact this
 obtain⟨Z',p1,e1⟩:=zbL hperm z1;have zl:Z'.length=(arrOf st').size:=by have:=ND List.length e1;simpa using this
 have hZ:∀ z∈Z',RelV z.2.1 z.1/\Dat X.K G z.2.1 (dPr z.2.2)/\Ys s.heap z.1 z.2.2.1 z.2.2.2:=λz hz=>z3 z (p1.mem_iff.mp hz);have hvals:∀ L:List (Value×V×(Int×Int)),(∀ z∈L,RelV z.2.1 z.1/\Dat X.K G z.2.1 (dPr z.2.2)/\Ys s.heap z.1 z.2.2.1 z.2.2.2)->Vals (L.map (·.2.1)) (L.map (·.1))/\ZX X.K G (L.map (·.2.1)) ((L.map (·.2.2)).map dPr):=by
  intro L
  induction L with
  |nil=>intro _;exact⟨.nil,Yi⟩
  |cons z L ih=>intro h;obtain⟨i1,i2⟩:=ih λy hy=>h y (Im _ hy);obtain⟨h1,h2,_⟩:=h z Ir;exact⟨.cons h1 i1,Z4 h2 i2⟩
 obtain⟨hV,hD⟩:=hvals Z' hZ;rw[e1]at hV;have eo:((arrOf st').map (·.2)).toList=(arrOf st').toList.map (·.2):=by simp
 refine⟨.ref (s.heap.objs.size+1),_,I.laid (t':=s.toks) (λ_ _=>sortedAll_old) (le_succ _) (show Yu X.prog X.w _ (sortedAll s.heap its ((arrOf st').map (·.2))) _ (.lst (Z'.map (·.2.1)))from⟨by rw[Ie];have:(64:Nat)<=sizeLine:=(by decide);omega,((arrOf st').map (·.2)).toList,c,by rw[eo];exact hV,hc⟩),rfl,k _ _ (Z'.map (·.2.2)) (I.ab.fresh (le_succ _)) (by rw[← z2];exact p1.map _) hD ?_⟩;rw[N9];intro i j hi hj hij;have hj' : j<Z'.length:=by simpa using hj
 have at_:∀ m (hm:m<Z'.length),R (λp=>pN s.heap p.1) (arrOf st') m=Z'[m].2.2.1*1000+Z'[m].2.2.2:=λm hm=>by
  have hm' : m<(arrOf st').size:=by omega
  have ea:(arrOf st')[m]?=some (arrOf st')[m]:=Ix hm';have q1:Z'[m].1=(arrOf st')[m].2:=by
   have h1:(Z'.map (·.1))[m]?=some Z'[m].1:=by rw[Ik,Ib hm];rfl
   rw[e1,Ik]at h1;have h2:(arrOf st').toList[m]?=some (arrOf st')[m]:=by simp[hm']
   rw[h2]at h1;exact(IA h1).symm
  have q2:=(mem (arrOf st')[m] (by simp)).2;unfold R;rw[ea];show pN s.heap (arrOf st')[m].1=_;rw[← q2,← q1];exact zhM (hZ _ (Np hm)).2.2
 have:=a2 i j hij (by rw[← a1.size_eq];omega);rw[at_ i (by omega),at_ j hj']at this;simp only[List.getElem_map];omega
def zi8{K:FG}{σ:St}{ps qs:List (Int×Int)}(h:EvA K t σ G [.list (ps.map dPr)])(h64:ps.length<64)(hps:∀ q∈ps,0<=q.2/\q.2<1000)(hq:∀ rs:List (Int×Int),rs.Perm ps->rs.Pairwise (λa b=>a.1*1000+a.2<=b.1*1000+b.2)->rs=qs):Ev K (tCB (zjv K) t) σ G (.list (qs.map dPr)):=
 za6 h λG1 H xs Q s1 s2 hx k=>by obtain⟨v,r,rfl,hv,hx⟩:=hx.cons;rw[hx.nil];obtain⟨p,ys,rfl,hp,hys⟩:=hv.lst;refine⟨G1,p,ys,ps,rfl,s2,SqL.of (s2 _ _ hp),hys,h64,hps,λl us rs hl hperm hd hs=>?_⟩;have e:=hq rs hperm hs;subst e;have g:=Yh (o:=.lst us) s2 hl;exact k _ _ _ g (Y8 Zi (hd.same g.gg))
end
end L2
namespace zaE
open PySem PySem.SetTable
variable {t:SetTable}{i mask k wanted ep:Nat}{p:Probe}{h h':Heap}{ps:List (Nat×Int)}{hs ks kx:List Int}{α:Type}{a S I:AD}{Q:Bool->SH->Prop}{es:Array (Int×Value)}{o:Obj}{M:List (AD×List Int)}
def Ris(xs:List Nat):Prop:=xs.Pairwise (· < ·)
theorem za5{xs:Array Nat}(h:Ris xs.toList)(j:Nat):∀(fuel lo hi:Nat),hi<=lo+fuel->lo<=hi->hi<=xs.size->(∀ i,i<lo->xs.getD i j<j)->(∀ i,hi<=i->i<xs.size->j<=xs.getD i j)->
  lo<=below.go xs j fuel lo hi/\below.go xs j fuel lo hi<=xs.size/\(∀ i,i<below.go xs j fuel lo hi->xs.getD i j<j)/\∀ i,below.go xs j fuel lo hi<=i->i<xs.size->j<=xs.getD i j
 |0,lo,hi,h1,h2,h3,h4,h5=>by
  have e:lo=hi:=by omega
  subst e;exact⟨Ih _,h3,h4,h5⟩
 |fuel+1,lo,hi,h1,h2,h3,h4,h5=>by
  unfold below.go;by_cases hl:lo<hi
  .rw[Iz hl];have mono:∀ a b,a<b->b<xs.size->xs.getD a j<xs.getD b j:=λa b hab hb=>by have:=N9.mp h a b (by simpa using(by omega:a<xs.size)) (by simpa using hb) hab;rw[IZ,IZ,Ix (by omega),Ix hb];simpa using this
   dsimp only;by_cases hm:xs.getD ((lo+hi) / 2) j<j
   .rw[Iz hm];obtain⟨a,b,c,d⟩:=za5 h j fuel ((lo+hi) / 2+1) hi (by omega) (by omega) h3 (λi hi' => by
     by_cases e:i=(lo+hi) / 2
     .rw[e];exact hm
     .have:=mono i ((lo+hi) / 2) (by omega) (by omega);omega) h5
    exact⟨by omega,b,c,d⟩
   .rw[Iq hm];obtain⟨a,b,c,d⟩:=za5 h j fuel lo ((lo+hi) / 2) (by omega) (by omega) (by omega) h4 (λi hi' hs=>by
     by_cases e:i=(lo+hi) / 2
     .rw[e];omega
     .have:=mono ((lo+hi) / 2) i (by omega) hs;omega)
    exact⟨a,b,c,d⟩
  .rw[Iq hl];have e:lo=hi:=by omega
   subst e;exact⟨Ih _,h3,h4,h5⟩
def zaV{xs:Array Nat}(h:Ris xs.toList)(j:Nat):below xs j<=xs.size/\(∀ i,i<below xs j->xs.getD i j<j)/\∀ i,below xs j<=i->i<xs.size->j<=xs.getD i j:=by unfold below;exact(za5 h j xs.size 0 xs.size (by omega) (NN _) (Ih _) (λi hi=>absurd hi (not_lt_zero _)) (λi h1 h2=>by omega)).2
def zeE(h:Ris t.place.toList){j:Nat}(hi:t.place[i]?=some j):t.slot j = .live i:=by
 obtain⟨b1,b2,b3⟩:=zaV h j;have hlt:i<t.place.size:=(OR.mp hi).1;have gi:t.place.getD i j=j:=by rw[IZ,hi];rfl
 have e:below t.place j=i:=by
  rcases Di (below t.place j) i with l | l | l
  .have hb:below t.place j<t.place.size:=by omega
   have h1:=b3 _ (Ih _) hb;have:=N9.mp h (below t.place j) i (by simpa using hb) (by simpa using hlt) l;rw[IZ,Ix hb]at h1;rw[IZ,Ix hlt]at gi;simp at h1 gi this;omega
  .exact l
  .have:=b2 i l;omega
 unfold slot;dsimp only;rw[e,hi];simp
def zd5(hd:t.dummies = #[]){j:Nat}(hj:∀ i:Nat,t.place[i]?≠some j):t.slot j = .empty:=by
 unfold slot has;dsimp only;rw[hd];have:(t.place[below t.place j]?==some j)=false:=by rw[Od];intro h;exact hj _ (by simpa using h)
 rw[this];simp[below,below.go]
noncomputable def adv(mask:Nat)(p:Probe):Probe:=if p.more>0 then{p with j:=p.j+1,more:=p.more-1} else
 {p with j:=(leap mask p.i p.perturb).1,more:=runEnd mask (leap mask p.i p.perturb).1-(leap mask p.i p.perturb).1,i:=(leap mask p.i p.perturb).1,perturb:=(leap mask p.i p.perturb).2}
noncomputable def sta(mask:Nat)(h:Int):Probe:={j:=bits h % (mask+1),more:=runEnd mask (bits h % (mask+1))-bits h % (mask+1),i:=bits h % (mask+1),perturb:=bits h,dummy:=none}
noncomputable def way(mask:Nat):Nat->Probe->Probe
 |0,p=>p
 |k+1,p=>way mask k (adv mask p)
theorem Q6(mask:Nat):∀(k:Nat)(p:Probe),way mask (k+1) p=adv mask (way mask k p)
 |0,p=>rfl
 |k+1,p=>Q6 mask k (adv mask p)
theorem WT(mask a:Nat):∀(b:Nat)(p:Probe),way mask (a+b) p=way mask a (way mask b p)
 |0,p=>rfl
 |b+1,p=>by show way mask (a+b) (adv mask p)=_;exact WT mask a b (adv mask p)
structure Std(mask:Nat)(p:Probe):Prop where
 i:p.i<=mask
 ij:p.i<=p.j
 m:p.j+p.more=runEnd mask p.i
 pt:p.perturb<2^64
 d:p.dummy=none
def JS(h:i<=mask):i<=runEnd mask i/\runEnd mask i<=mask/\runEnd mask i<=i+9:=by unfold runEnd;split <;> omega
theorem Std.j(s:Std mask p):p.j<=mask:=by have:=JS s.i;have:=s.m;omega
def U5(mask:Nat)(h:Int):Std mask (sta mask h):=by
 have hi:bits h % (mask+1)<=mask:=Nat.le_of_lt_succ (mod_lt _ (succ_pos mask));have:=JS hi;refine⟨hi,Ih _,?_,?_,rfl⟩
 .show bits h % (mask+1)+(runEnd mask (bits h % (mask+1))-bits h % (mask+1))=runEnd mask (bits h % (mask+1));omega
 .show bits h<2^64;unfold bits;have h1:=emod_lt_of_pos h (show(0:Int)<2^64 by decide);have h2:=emod_nonneg h (show(2^64:Int)≠0 by decide);omega
def ziN(s:Std mask p):Std mask (adv mask p):=by
 unfold adv;split
 .exact⟨s.i,Nat.le_succ_of_le s.ij,by have:=s.m;show p.j+1+(p.more-1)=runEnd mask p.i;omega,s.pt,s.d⟩
 .have hi:(leap mask p.i p.perturb).1<=mask:=by show(p.i*5+1+p.perturb / 32) % (mask+1)<=mask;exact Nat.le_of_lt_succ (mod_lt _ (succ_pos mask))
  have:=JS hi;refine⟨hi,Ih _,?_,?_,s.d⟩
  .show(leap mask p.i p.perturb).1+(runEnd mask (leap mask p.i p.perturb).1-(leap mask p.i p.perturb).1)=runEnd mask (leap mask p.i p.perturb).1;omega
  .show p.perturb / 32<2^64;have:=s.pt;omega
theorem WR :∀(k:Nat){p:Probe},Std mask p->Std mask (way mask k p)
 |0,_,s=>s
 |k+1,_,s=>WR k (ziN s)
noncomputable def lps(mask:Nat):Nat->Nat×Nat->Nat×Nat
 |0,q=>q
 |m+1,q=>leap mask (lps mask m q).1 (lps mask m q).2
theorem zf6 :∀(m:Nat){p:Probe},p.more=m->way mask m p={p with j:=p.j+m,more:=0}
 |0,p,h=>by cases p;simp only at h;subst h;rfl
 |m+1,p,h=>by
  have e:adv mask p={p with j:=p.j+1,more:=m}:=by unfold adv;rw[Iz (by omega),h];rfl
  show way mask m (adv mask p)=_;rw[e,zf6 m rfl];show({p with j:=p.j+1+m,more:=0}:Probe)=_;rw[show p.j+1+m=p.j+(m+1)by omega]
theorem Uc :∀(m:Nat){p:Probe},Std mask p->∃ k,k<=10*(m+1)/\(way mask k p).j=(lps mask (m+1) (p.i,p.perturb)).1/\(way mask k p).i=(lps mask (m+1) (p.i,p.perturb)).1/\(way mask k p).perturb=(lps mask (m+1) (p.i,p.perturb)).2
 |0,p,s=>by have r:=JS s.i;have:=s.m;have hij:=s.ij;refine⟨p.more+1,by omega,?_⟩;rw[Q6,zf6 p.more rfl];unfold adv;rw[Iq (by simp)];exact⟨rfl,rfl,rfl⟩
 |m+1,p,s=>by obtain⟨k,hk,e1,e2,e3⟩:=Uc m s;have s':=WR k s;obtain⟨k2,hk2,f1,f2,f3⟩:=Uc 0 s';refine⟨k2+k,by omega,?_⟩;rw[WT];rw[e2,e3]at f1 f2 f3;exact⟨f1,f2,f3⟩
theorem zek(mask:Nat):∀(m:Nat)(q:Nat×Nat),(lps mask m q).2=q.2 / 32^m
 |0,q=>by show q.2=q.2 / 1;rw[Nat.div_one]
 |m+1,q=>by show(lps mask m q).2 / 32=_;rw[zek mask m q,Nat.div_div_eq_div_mul,pow_succ]
noncomputable def fv(mask i:Nat):Nat:=(i*5+1) % (mask+1)
noncomputable def itr(mask:Nat):Nat->Nat->Nat
 |0,i=>i
 |k+1,i=>fv mask (itr mask k i)
theorem Uk(mask a:Nat):∀(b i:Nat),itr mask (b+a) i=itr mask b (itr mask a i)
 |0,i=>by rw[Nat.zero_add];rfl
 |b+1,i=>by rw[show b+1+a=(b+a)+1 by omega];show fv mask _=fv mask _;rw[Uk mask a b i]
theorem za0(mask:Nat):∀(k m:Nat)(q:Nat×Nat),(lps mask m q).2=0->(lps mask (m+k) q).1=itr mask k (lps mask m q).1/\(lps mask (m+k) q).2=0
 |0,m,q,h=>⟨rfl,h⟩
 |k+1,m,q,h=>by
  obtain⟨a,b⟩:=za0 mask k m q h;refine⟨?_,?_⟩
  .show((lps mask (m+k) q).1*5+1+(lps mask (m+k) q).2 / 32) % (mask+1)=fv mask _;rw[a,b];rfl
  .show(lps mask (m+k) q).2 / 32=0;rw[b]
def W5(mask:Nat):Prop:=mask=7\/mask=31\/mask=127
noncomputable def zaN(mask:Nat):Nat->Nat->List Nat
 |0,_=>[]
 |k+1,i=>i::zaN mask k (fv mask i)
theorem zbm(mask:Nat):∀(k i m:Nat),m<k->(zaN mask k i)[m]?=some (itr mask m i)
 |k+1,i,0,_=>rfl
 |k+1,i,m+1,h=>by show(zaN mask k (fv mask i))[m]?=_;rw[zbm mask k (fv mask i) m (by omega),Uk mask 1 m i];rfl
theorem Ut(mask:Nat):∀(k i:Nat),(zaN mask k i).length=k
 |0,_=>rfl
 |k+1,i=>ND (· + 1) (Ut mask k _)
def zn6:((List.range 8).all λj=>(zaN 7 8 0).contains j)=true/\itr 7 8 0=0:=by decide +kernel
def zmV:((List.range 32).all λj=>(zaN 31 32 0).contains j)=true/\itr 31 32 0=0:=by decide +kernel
def zlh:((List.range 128).all λj=>(zaN 127 128 0).contains j)=true/\itr 127 128 0=0:=by decide +kernel
def orb(h:W5 mask):(∀ j,j<=mask->∃ a,a<mask+1/\itr mask a 0=j)/\itr mask (mask+1) 0=0:=by
 have key:((List.range (mask+1)).all λj=>(zaN mask (mask+1) 0).contains j)=true/\itr mask (mask+1) 0=0:=by
  rcases h with rfl | rfl | rfl
  .exact zn6
  .exact zmV
  .exact zlh
 refine⟨λj hj=>?_,key.2⟩;have:=all_eq_true.mp key.1 j (IJ.mpr (by omega));have hm:j∈zaN mask (mask+1) 0:=by simpa using this
 obtain⟨a,ha,e⟩:=NA hm;rw[Ut]at ha;have g:=zbm mask (mask+1) 0 a ha;rw[Ib (by rw[Ut];exact ha),e]at g;exact⟨a,ha,(IA g).symm⟩
def cyc(h:W5 mask){s j:Nat}(hs:s<=mask)(hj:j<=mask):∃ q,q<=mask/\itr mask q s=j:=by
 obtain⟨o1,o2⟩:=orb h;obtain⟨a,ha,rfl⟩:=o1 s hs;obtain⟨b,hb,rfl⟩:=o1 j hj;by_cases hab:a<=b
 .refine⟨b-a,by omega,?_⟩;rw[← Uk];congr 1;omega
 .refine⟨b+(mask+1)-a,by omega,?_⟩;rw[← Uk,show b+(mask+1)-a+a=b+(mask+1)by omega,Uk,o2]
def cover(hm:W5 mask)(s:Std mask p){j:Nat}(hj:j<=mask):∃ k,k<10*turns mask/\(way mask k p).j=j:=by
 have z:(lps mask 13 (p.i,p.perturb)).2=0:=by rw[zek];exact Nat.div_eq_of_lt (IP s.pt (by decide))
 obtain⟨k0,hk0,e1,e2,e3⟩:=Uc 12 s;have hi:(lps mask 13 (p.i,p.perturb)).1<=mask:=by rw[← e2];exact(WR k0 s).i
 obtain⟨q,hq,eq⟩:=cyc hm hi hj;obtain⟨a,b⟩:=za0 mask q 13 (p.i,p.perturb) z;obtain⟨k,hk,f1,_,_⟩:=Uc (12+q) s;refine⟨k,by unfold turns;omega,?_⟩;rw[f1,show 12+q+1=13+q by omega,a,eq]
inductive Scan(t:SetTable)(ha:Nat->Int)(h:Int):Probe->Met->Nat->Prop
 |emp {p:Probe}(_:t.slot p.j = .empty):Scan t ha h p (.empty p.j p.dummy) 0
 |cand {p:Probe}{i:Nat}(_:t.slot p.j = .live i) (_:ha i=h):Scan t ha h p (.candidate p.j i (t.advance p)) 0
 |step {p:Probe}{i k:Nat}{m:Met}(_:t.slot p.j = .live i) (_:ha i≠h) (_:Scan t ha h (t.advance p) m k):Scan t ha h p m (k+1)
def ziS{ha:Nat->Int}{h:Int}{m:Met}(s:Scan t ha h p m k):∀ fuel,k<fuel->probe.go t ha h fuel p=some m:=by
 induction s with
 |emp e=>
  intro fuel hf;obtain⟨f,rfl⟩:∃ f,fuel=f+1:=⟨fuel-1,by omega⟩
  unfold probe.go;rw[e]
 |cand e hh=>
  intro fuel hf;obtain⟨f,rfl⟩:∃ f,fuel=f+1:=⟨fuel-1,by omega⟩
  unfold probe.go;rw[e];dsimp only;rw[Iz (by rw[hh];exact O6 _)]
 |step e hh _ ih=>
  intro fuel hf;obtain⟨f,rfl⟩:∃ f,fuel=f+1:=⟨fuel-1,by omega⟩
  unfold probe.go;rw[e];dsimp only;rw[Iq (by rw[Oz];exact hh)];exact ih f (by omega)
structure Emp(t:SetTable)(p:Probe)(e:Nat):Prop where
 at_:t.slot (way t.mask e p).j = .empty
 bef:∀ m,m<e->∃ i,t.slot (way t.mask m p).j = .live i
theorem ze7(ha:Nat->Int)(h:Int):∀{e:Nat}{p:Probe},p.dummy=none->Emp t p e->∃ m k,k<=e/\Scan t ha h p m k/\(∀ m',m'<k->∀ i,t.slot (way t.mask m' p).j = .live i->ha i≠h)/\((m = .empty (way t.mask e p).j none/\k=e)\/∃ i,m = .candidate (way t.mask k p).j i (way t.mask (k+1) p)/\k<e/\t.slot (way t.mask k p).j = .live i/\ha i=h)
 |0,p,hd,E=>⟨.empty p.j p.dummy,0,Ih _,.emp E.at_,λm' hm=>absurd hm (not_lt_zero _),.inl ⟨by rw[hd];rfl,rfl⟩⟩
 |e+1,p,hd,E=>by
  obtain⟨i,hi⟩:=E.bef 0 (by omega);have hi:t.slot p.j = .live i:=hi;by_cases hh:ha i=h
  .exact⟨.candidate p.j i (t.advance p),0,by omega,.cand hi hh,λm' hm=>absurd hm (not_lt_zero _),.inr ⟨i,rfl,by omega,hi,hh⟩⟩
  .have E' : Emp t (adv t.mask p) e:=⟨E.at_,λm hm=>E.bef (m+1) (by omega)⟩
   have hd' : (adv t.mask p).dummy=none:=by unfold adv;split <;> exact hd
   obtain⟨m,k,hk,sc,hb,hm⟩:=ze7 ha h hd' E';refine⟨m,k+1,by omega,.step hi hh sc,λm' hm' i' hi' => ?_,?_⟩
   .cases m' with
    |zero=>have hi' : t.slot p.j = .live i':=hi';rw[hi]at hi';injection hi' with hi';rw[← hi'];exact hh
    |succ m' => exact hb m' (by omega) i' hi'
   .rcases hm with⟨e1,e2⟩ | ⟨i2,e1,e2,e3,e4⟩
    .exact .inl ⟨e1,by omega⟩
    .exact .inr ⟨i2,e1,by omega,e3,e4⟩
theorem zdy:∀{a b:List Nat},a.Nodup->(∀ x∈a,x∈b)->a.length<=b.length
 |[],_,_,_=>NN _
 |x::a,b,nd,h=>by
  obtain⟨n1,n2⟩:=NT.mp nd;have hx:=h x Ir;have:=zdy (b:=b.erase x) n2 λy hy=>by have hne:y≠x:=λe=>n1 (e ▸ hy);exact(List.mem_erase_of_ne hne).mpr (h y (Im _ hy))
  rw[List.length_erase_of_mem hx]at this;have hp:0<b.length:=List.length_pos_iff.mpr λe=>by rw[e]at hx;cases hx
  rw[IL];omega
def least{p:Nat->Prop}(k:Nat)(h:p k):∃ n,n<=k/\p n/\∀ m,m<n->¬ p m:=by
 induction k using Nat.strongRecOn with
 |ind k ih=>
  by_cases q:∃ m,m<k/\p m
  .obtain⟨m,hm,hp⟩:=q;obtain⟨n,h1,h2,h3⟩:=ih m hm hp;exact⟨n,by omega,h2,h3⟩
  .exact⟨k,Ih _,h,λm hm hp=>q ⟨m,hm,hp⟩⟩
structure TOk(t:SetTable)(ps:List (Nat×Int)):Prop where
 m:W5 t.mask
 d:t.dummies = #[]
 p:t.place.toList=ps.map Prod.fst
 r:Ris (ps.map Prod.fst)
 b:∀ q∈ps,q.1<=t.mask
 f:ps.length<=t.mask
 w:∀ q∈ps,∃ k,(way t.mask k (sta t.mask q.2)).j=q.1/\∀ m,m<k->(way t.mask m (sta t.mask q.2)).j∈ps.map Prod.fst
def TOk.at_(o:TOk t ps){j:Nat}:t.place[i]?=some j↔(ps.map Prod.fst)[i]?=some j:=by rw[← o.p,NU]
def TOk.zhL(o:TOk t ps){j:Nat}(h:(ps.map Prod.fst)[i]?=some j):t.slot j = .live i:=zeE (by rw[o.p];exact o.r) (o.at_.mpr h)
def TOk.ziV(o:TOk t ps){j:Nat}(h:j∉ps.map Prod.fst):t.slot j = .empty:=zd5 o.d λi hi=>h (IM (o.at_.mp hi))
def TOk.zkX(o:TOk t ps){j:Nat}(h:t.slot j = .live i):(ps.map Prod.fst)[i]?=some j:=by
 by_cases hm:j∈ps.map Prod.fst
 .obtain⟨k,hk,e⟩:=NA hm;have:=o.zhL (i:=k) (j:=j) (by rw[Ib hk,e]);rw[h]at this;injection this with this;rw[this,Ib hk,e]
 .rw[o.ziV hm]at h;cases h
def TOk.zms(o:TOk t ps){j:Nat}(h:t.slot j = .empty):j∉ps.map Prod.fst:=λhm=>by obtain⟨k,hk,e⟩:=NA hm;have:=o.zhL (i:=k) (j:=j) (by rw[Ib hk,e]);rw[h]at this;cases this
def room{l:List Nat}(h:l.length<=mask):∃ j,j<=mask/\j∉l:=by
 refine Ol λq=>?_;have:=zdy (a:=List.range (mask+1)) (b:=l) OX λx hx=>by refine Ol λhx' => q ⟨x,?_,hx'⟩;have:=IJ.mp hx;omega
 rw[Iy]at this;omega
def TOk.emp(o:TOk t ps)(s:Std t.mask p):∃ e,e<10*turns t.mask/\Emp t p e:=by
 obtain⟨j,hj,hn⟩:=room (l:=ps.map Prod.fst) (by rw[Ie];exact o.f);obtain⟨k,hk,ek⟩:=cover o.m s hj;obtain⟨n,h1,h2,h3⟩:=least (p:=λn=>t.slot (way t.mask n p).j = .empty) k (by rw[ek];exact o.ziV hn);refine⟨n,by omega,h2,λm hm=>?_⟩;by_cases hm' : (way t.mask m p).j∈ps.map Prod.fst
 .obtain⟨i,hi,e⟩:=NA hm';exact⟨i,o.zhL (by rw[Ib hi,e])⟩
 .exact absurd (o.ziV hm') (h3 m hm)
def TOk.reach(o:TOk t ps){j:Nat}{h:Int}(hi:ps[i]?=some (j,h)){e:Nat}(E:Emp t (sta t.mask h) e):∃ k,k<e/\t.slot (way t.mask k (sta t.mask h)).j = .live i:=by
 obtain⟨k,h1,h2⟩:=o.w _ (IM hi);have h1:(way t.mask k (sta t.mask h)).j=j:=h1;have hs:t.slot (way t.mask k (sta t.mask h)).j = .live i:=o.zhL (by rw[h1,Ik,hi];rfl);refine⟨k,?_,hs⟩;rcases Di k e with l | l | l
 .exact l
 .rw[l,E.at_]at hs;cases hs
 .exact absurd (h2 e l) (o.zms E.at_)
theorem TOk.put(o:TOk t ps){h:Int}{e j:Nat}(E:Emp t (sta t.mask h) e)(ej:(way t.mask e (sta t.mask h)).j=j)(ek:below t.place j=k)(hf:ps.length+1<=t.mask):TOk (t.put j).1 (ps.take k++(j,h)::ps.drop k):=by
 have hj:j<=t.mask:=by rw[← ej];exact(WR e (U5 t.mask h)).j
 have hn:j∉ps.map Prod.fst:=by rw[← ej];exact o.zms E.at_
 have hbef:∀ m,m<e->(way t.mask m (sta t.mask h)).j∈ps.map Prod.fst:=λm hm=>by obtain⟨i,hi⟩:=E.bef m hm;exact IM (o.zkX hi)
 have bo:=zaV (xs:=t.place) (by rw[o.p];exact o.r) j;rw[ek]at bo;have hsz:t.place.size=ps.length:=by rw[← IQ,o.p,Ie]
 have hg:∀ i,t.place.getD i j=(ps.map Prod.fst).getD i j:=λi=>by rw[IZ,← NU,o.p,II]
 have hmem:∀ q,q∈ps.take k++(j,h)::ps.drop k↔q=(j,h)\/q∈ps:=λq=>by
  rw[Nz,IE];constructor
  .rintro(h | h | h)
   .exact .inr (List.mem_of_mem_take h)
   .exact .inl h
   .exact .inr (List.mem_of_mem_drop h)
  .rintro(h | hq)
   .exact .inr (.inl h)
   .rw[← OJ k ps,Nz]at hq;exact hq.elim .inl λh=>.inr (.inr h)
 have hfst:∀ x,x∈ps.map Prod.fst->x∈(ps.take k++(j,h)::ps.drop k).map Prod.fst:=λx hx=>by obtain⟨q,hq,rfl⟩:=IB.mp hx;exact IB.mpr ⟨q,(hmem q).mpr (.inr hq),rfl⟩
 refine⟨o.m,?_,?_,?_,λq hq=>?_,?_,λq hq=>?_⟩
 .show(if has t.dummies j then _ else t.dummies) = #[];rw[o.d];simp[has,below,below.go]
 .show(insertAt t.place (below t.place j) j).toList=_;rw[SetTable.toList_insertAt,o.p,ek,Nk,Nt,map_take,map_drop]
 .unfold Ris;rw[Nk,Nt,map_take,map_drop];have r:=o.r;unfold Ris at r;rw[← OJ k (ps.map Prod.fst)]at r;obtain⟨p1,p2,p3⟩:=Dh.mp r;refine Dh.mpr ⟨p1,NX.mpr ⟨λb hb=>?_,p2⟩,λa ha b hb=>?_⟩
  .obtain⟨i,hi,e1⟩:=NA hb;rw[List.getElem_drop]at e1;rw[length_drop,Ie]at hi;have h1:=bo.2.2 (k+i) (by omega) (by omega);rw[hg,II,Ib (by rw[Ie];omega),e1]at h1;have h1:j<=b:=h1;have:j≠b:=λz=>hn (by rw[z];exact List.mem_of_mem_drop hb);omega
  .have haj:a<j:=by obtain⟨i,hi,e1⟩:=NA ha;rw[List.getElem_take]at e1;rw[OE,Ie]at hi;have h1:=bo.2.1 i (by omega);rw[hg,II,Ib (by rw[Ie];omega),e1]at h1;exact h1
   rcases IE.mp hb with rfl | hb
   .exact haj
   .exact p3 a ha b hb
 .rcases(hmem q).mp hq with rfl | hq
  .exact hj
  .exact o.b q hq
 .rw[Il,IL,OE,length_drop];show _<=t.mask;omega
 .show ∃ n,(way t.mask n (sta t.mask q.2)).j=q.1/\∀ m,m<n->_;rcases(hmem q).mp hq with rfl | hq
  .exact⟨e,ej,λm hm=>hfst _ (hbef m hm)⟩
  .obtain⟨n,h1,h2⟩:=o.w q hq;exact⟨n,h1,λm hm=>hfst _ (h2 m hm)⟩
abbrev Own:Type:=Array (Option Nat)
def tk(ow:Own)(j:Nat):Prop:=(ow.getD j (some 0)).isNone=false
def U9(hk:k<=p.more):way mask k p={p with j:=p.j+k,more:=p.more-k}:=by
 induction k with
 |zero=>rfl
 |succ k ih=>rw[Q6,ih (by omega)];unfold adv;rw[Iz (show p.more-k>0 by omega)];show({p with j:=p.j+k+1,more:=p.more-k-1}:Probe)=_;rw[show p.j+k+1=p.j+(k+1)by omega,show p.more-k-1=p.more-(k+1)by omega]
structure Sta(mask:Nat)(p:Probe):Prop extends Std mask p where
 s:p.j=p.i
theorem zeh{ow:Own}:∀{fuel:Nat}{p:Probe},Sta mask p->(∃ r,r<fuel/\¬ tk ow (lps mask r (p.i,p.perturb)).1)->∃ n,layClean.free mask ow fuel p.i p.perturb=some (way mask n p).j/\¬ tk ow (way mask n p).j/\∀ m,m<n->tk ow (way mask m p).j
 |0,p,_,h=>by obtain⟨r,hr,_⟩:=h;omega
 |fuel+1,p,s,h=>by
  have r:=JS s.i;have hm:=s.m;have hs:=s.s;have hlen:runEnd mask p.i+1-p.i=p.more+1:=by omega
  unfold layClean.free;rw[hlen];cases hf:(List.range (p.more+1)).find? λk=>(ow.getD (p.i+k) (some 0)).isNone with
  |some k=>
   dsimp only;obtain⟨hp,hl⟩:=List.find?_eq_some_iff_getElem.mp hf;obtain⟨i,hi,e,hb⟩:=hl;rw[Iy]at hi;rw[List.getElem_range]at e;subst e;refine⟨i,?_,?_,λm hm' => ?_⟩
   .rw[U9 (by omega)];show some (p.i+i)=some (p.j+i);rw[hs]
   .rw[U9 (by omega)];show ¬ tk ow (p.j+i);unfold tk;rw[hs,hp];exact noConfusion
   .rw[U9 (by omega)];show tk ow (p.j+m);have:=hb m hm';rw[List.getElem_range]at this;unfold tk;rw[hs];simpa using this
  |none=>
   dsimp only;have hall:=find?_eq_none.mp hf;have hrun:∀ m,m<=p.more->tk ow (p.j+m):=λm hm' => by have:=hall m (IJ.mpr (by omega));unfold tk;rw[hs];exact Od.mpr this
   have hnext:way mask (p.more+1) p={p with j:=(leap mask p.i p.perturb).1,more:=runEnd mask (leap mask p.i p.perturb).1-(leap mask p.i p.perturb).1,i:=(leap mask p.i p.perturb).1,perturb:=(leap mask p.i p.perturb).2}:=by rw[Q6,U9 (Ih _)];unfold adv;rw[Iq (show ¬ p.more-p.more>0 by omega)]
   have s' : Sta mask (way mask (p.more+1) p):=⟨WR _ s.toStd,by rw[hnext]⟩
   obtain⟨r,hr,hn⟩:=h;have hr0:r≠0:=λz=>by subst z;have:=hrun 0 (NN _);rw[hs]at this;exact hn this
   have lp:∀ k,lps mask (k+1) (p.i,p.perturb)=lps mask k (leap mask p.i p.perturb):=by
    intro k
    induction k with
    |zero=>rfl
    |succ k ih=>show leap mask _ _=leap mask _ _;rw[ih]
   obtain⟨n,e1,e2,e3⟩:=zeh (ow:=ow) (fuel:=fuel) s' ⟨r-1,by omega,by
    rw[hnext];show ¬ tk ow (lps mask (r-1) (leap mask p.i p.perturb)).1;rw[← lp,show r-1+1=r by omega];exact hn⟩
   refine⟨n+(p.more+1),?_,?_,λm hm' => ?_⟩
   .rw[WT,← e1,hnext]
   .rw[WT];exact e2
   .by_cases hle:m<=p.more
    .rw[U9 hle];exact hrun m hle
    .have:=e3 (m-(p.more+1)) (by omega);rw[← WT,show m-(p.more+1)+(p.more+1)=m by omega]at this;exact this
def zb8{ow:Own}(sz:ow.size=mask+1){j:Nat}(hj:j<=mask):tk ow j↔∃ i,ow[j]?=some (some i):=by
 unfold tk;rw[IZ,Ix (by omega)];show ow[j].isNone=false↔_;cases h:ow[j]with
 |none=>exact⟨λz=>(by cases z),λ⟨i,z⟩=>(by cases z)⟩
 |some i=>exact⟨λ_=>⟨i,rfl⟩,λ_=>rfl⟩
structure Lay(mask:Nat)(hs:List Int)(ow:Own):Prop where
 sz:ow.size=mask+1
 lt:∀(j i:Nat),ow[j]?=some (some i)->i<hs.length
 ex:∀ i,i<hs.length->∃ j:Nat,ow[j]?=some (some i)
 un:∀(j j' i:Nat),ow[j]?=some (some i)->ow[j']?=some (some i)->j=j'
 w:∀(j i:Nat)(h:Int),ow[j]?=some (some i)->hs[i]?=some h->∃ n,(way mask n (sta mask h)).j=j/\∀ m,m<n->tk ow (way mask m (sta mask h)).j
def zjX(mask:Nat):Lay mask [] (Array.replicate (mask+1) none):=by
 have e:∀ j:Nat,∀ i,(Array.replicate (mask+1) (none:Option Nat))[j]?≠some (some i):=λj i h=>by
  rw[Array.getElem?_replicate]at h;split at h
  .injection h with h;cases h
  .cases h
 exact⟨by rw[Array.size_replicate],λj i h=>absurd h (e j i),λi h=>absurd h (not_lt_zero _),λj _ i h=>absurd h (e j i),λj i h q=>absurd q (e j i)⟩
def Lay.free{ow:Own}(l:Lay mask hs ow)(hm:hs.length<=mask):∃ j,j<=mask/\¬ tk ow j:=by
 refine Ol λq=>?_;have all:∀ j,j<=mask->∃ i,ow[j]?=some (some i):=λj hj=>by refine(zb8 l.sz hj).mp (Ol λz=>q ⟨j,hj,z⟩)
 have key:∀ n,n<=mask+1->∃ is:List Nat,is.length=n/\is.Nodup/\∀ i∈is,∃ j,j<n/\ow[j]?=some (some i):=by
  intro n
  induction n with
  |zero=>intro _;exact⟨[],rfl,nodup_nil,λi h=>(by cases h)⟩
  |succ n ih=>
   intro hn;obtain⟨is,h1,h2,h3⟩:=ih (by omega);obtain⟨i,hi⟩:=all n (by omega);refine⟨i::is,by rw[IL,h1],NT.mpr ⟨λhm' => ?_,h2⟩,λx hx=>?_⟩
   .obtain⟨j,hj,e⟩:=h3 i hm';have:=l.un _ _ _ e hi;omega
   .rcases IE.mp hx with rfl | hx
    .exact⟨n,by omega,hi⟩
    .obtain⟨j,hj,e⟩:=h3 x hx;exact⟨j,by omega,e⟩
 obtain⟨is,h1,h2,h3⟩:=key (mask+1) (Ih _);have:=zdy (b:=List.range hs.length) h2 λi hi=>by obtain⟨j,_,e⟩:=h3 i hi;exact IJ.mpr (l.lt j i e)
 rw[h1,Iy]at this;omega
def Lay.step{ow:Own}(l:Lay mask hs ow)(hm:hs.length<=mask)(hk:W5 mask)(h:Int):∃ j,layClean.free mask ow (turns mask) (bits h % (mask+1)) (bits h)=some j/\Lay mask (hs++[h]) (ow.setIfInBounds j (some hs.length)):=by
 obtain⟨je,hje,hne⟩:=l.free hm;have s:Sta mask (sta mask h):=⟨U5 mask h,rfl⟩
 have z:(lps mask 13 ((sta mask h).i,(sta mask h).perturb)).2=0:=by rw[zek];exact Nat.div_eq_of_lt (IP s.pt (by decide))
 obtain⟨k0,hk0,e1,e2,e3⟩:=Uc 12 s.toStd;have hi:(lps mask 13 ((sta mask h).i,(sta mask h).perturb)).1<=mask:=by rw[← e2];exact(WR k0 s.toStd).i
 obtain⟨q,hq,eq⟩:=cyc hk hi hje;obtain⟨a,b⟩:=za0 mask q 13 ((sta mask h).i,(sta mask h).perturb) z;obtain⟨n,f1,f2,f3⟩:=zeh (ow:=ow) (fuel:=turns mask) s ⟨13+q,by unfold turns;omega,by rw[a,eq];exact hne⟩;have hjm:(way mask n (sta mask h)).j<=mask:=(WR n s.toStd).j;refine⟨_,f1,?_⟩;generalize ej:(way mask n (sta mask h)).j=j at f2 hjm;have hj:j<ow.size:=by rw[l.sz];omega
 have get:∀ x:Nat,(ow.setIfInBounds j (some hs.length))[x]?=if x=j then some (some hs.length)else ow[x]?:=λx=>by
  rw[Array.getElem?_setIfInBounds];by_cases e:j=x
  .subst e;rw[Iz rfl,Iz hj,Iz rfl]
  .rw[Iq e,Iq (λz=>e z.symm)]
 have nj:∀ i,ow[j]?≠some (some i):=λi z=>f2 ((zb8 l.sz hjm).mpr ⟨i,z⟩);have sz' : (ow.setIfInBounds j (some hs.length)).size=mask+1:=by rw[Array.size_setIfInBounds,l.sz]
 have up:∀ x,tk ow x->x<=mask->tk (ow.setIfInBounds j (some hs.length)) x:=λx hx hxm=>by
  rw[zb8 sz' hxm];obtain⟨i,hi'⟩:=(zb8 l.sz hxm).mp hx;rw[get x];by_cases e:x=j
  .exact⟨_,by rw[Iz e]⟩
  .exact⟨i,by rw[Iq e];exact hi'⟩
 refine⟨sz',λx i hx=>?_,λi hi' => ?_,λx x' i h1 h2=>?_,λx i g h1 h2=>?_⟩
 .rw[get x]at hx;rw[Il];show i<hs.length+1;split at hx
  .injection hx with hx;injection hx with hx;omega
  .have:=l.lt x i hx;omega
 .rw[Il]at hi';have hi' : i<hs.length+1:=hi';by_cases e:i=hs.length
  .exact⟨j,by rw[get j,Iz rfl,e]⟩
  .obtain⟨x,hx⟩:=l.ex i (by omega);exact⟨x,by rw[get x,Iq (λe:x=j=>nj i (by rw[← e];exact hx))];exact hx⟩
 .rw[get x]at h1;rw[get x']at h2;split at h1
  .rename_i e
   injection h1 with h1;injection h1 with h1;split at h2
   .rename_i e';rw[e,e']
   .have:=l.lt x' i h2;omega
  .split at h2
   .injection h2 with h2;injection h2 with h2;have:=l.lt x i h1;omega
   .exact l.un x x' i h1 h2
 .rw[get x]at h1;split at h1
  .rename_i e
   injection h1 with h1;injection h1 with h1;rw[← h1,Ni (Ih _),Nat.sub_self]at h2;have h2:some h=some g:=h2;injection h2 with h2;subst h2;exact⟨n,by rw[ej,e],λm hm' => up _ (f3 m hm') (WR m s.toStd).j⟩
  .have hlt:=l.lt x i h1;rw[Ng hlt]at h2;obtain⟨n',w1,w2⟩:=l.w x i g h1 h2;exact⟨n',w1,λm hm' => up _ (w2 m hm') (WR m (U5 mask g)).j⟩
theorem zdt(hk:W5 mask):∀(rest done:List Int)(ow:Own),Lay mask done ow->(done++rest).length<=mask->∃ ow',rest.foldl (λ(acc:Option (Own×Nat))(h:Int)=>(do
  let (owner,k) ← acc
  let j ← layClean.free mask owner (turns mask) (bits h % (mask+1)) (bits h)
  pure (owner.setIfInBounds j (some k),k+1):Option (Own×Nat))) (some (ow,done.length))=some (ow',(done++rest).length)/\Lay mask (done++rest) ow'
 |[],done,ow,l,_=>⟨ow,by rw[Nx];rfl,by rw[Nx];exact l⟩
 |h::rest,done,ow,l,hm=>by rw[Il,IL]at hm;obtain⟨j,e,l'⟩:=l.step (by omega) hk h;obtain⟨ow',e',l''⟩:=zdt hk rest (done++[h]) _ l' (by rw[Il,Il];show done.length+1+rest.length<=mask;omega);rw[OD]at e' l'';refine⟨ow',?_,l''⟩;rw[Dd];show List.foldl _ ((layClean.free mask ow (turns mask) (bits h % (mask+1)) (bits h)).bind _) rest=_;rw[e];show List.foldl _ (some (ow.setIfInBounds j (some done.length),done.length+1)) rest=_;rw[Il]at e';exact e'
def zll(hk:W5 mask)(hm:hs.length<=mask):∃ ow,layClean mask hs.toArray=some ow/\Lay mask hs ow:=by
 obtain⟨ow,e,l⟩:=zdt hk hs [] _ (zjX mask) hm;refine⟨ow,?_,l⟩;unfold layClean;rw[List.foldl_toArray']
 .exact ND (Option.map (·.1)) e
 .rfl
noncomputable def live(mask:Nat)(ow:Own):List (Nat×Nat):=(List.range (mask+1)).filterMap λj=>(ow.getD j none).map (j,·)
def J0{ow:Own}(sz:ow.size=mask+1){j:Nat}:(j,i)∈live mask ow↔ow[j]?=some (some i):=by
 unfold live;rw[List.mem_filterMap];constructor
 .rintro⟨a,ha,h⟩;have ha:=IJ.mp ha;rw[IZ,Ix (by omega)]at h;have h:ow[a].map (a,·)=some (j,i):=h;cases hx:ow[a]with
  |none=>rw[hx]at h;cases h
  |some x=>rw[hx]at h;injection h with h;injection h with h1 h2;subst h1 h2;rw[Ix (by omega),hx]
 .intro h;have hj:j<ow.size:=(OR.mp h).1;refine⟨j,IJ.mpr (by omega),?_⟩;rw[IZ,h];rfl
def zc9{ow:Own}:((live mask ow).map Prod.fst).Sublist (List.range (mask+1)):=by
 unfold live;generalize List.range (mask+1)=l
 induction l with
 |nil=>exact List.Sublist.refl _
 |cons a l ih=>
  rw[N1];cases h:(ow.getD a none)with
  |none=>exact ih.cons _
  |some x=>exact ih.cons₂ _
def zew:∀ n,Ris (List.range n):=λn=>by unfold Ris;exact List.pairwise_lt_range
def zc7{ow:Own}:Ris ((live mask ow).map Prod.fst):=(zew _).sublist zc9
def zjG(hk:W5 mask)(hm:hs.length<=mask)(finger moves:Nat)(led plain:Bool):∃(pl order:List Nat),laid mask finger moves led plain hs.toArray=some ({mask,place:=pl.toArray,dummies:=#[],finger,led,moves,plain},order.toArray)/\order.Nodup/\(∀ i,i∈order↔i<hs.length)/\TOk {mask,place:=pl.toArray,dummies:=#[],finger,led,moves,plain} (pl.zip (order.map (hs.getD · 0)))/\pl.length=order.length:=by
 obtain⟨ow,e,l⟩:=zll hk hm;have zip:∀(f:Nat->Int),((live mask ow).map Prod.fst).zip (((live mask ow).map Prod.snd).map f)=(live mask ow).map λq=>(q.1,f q.2):=λf=>by
  generalize live mask ow=L
  induction L with
  |nil=>rfl
  |cons a L ih=>exact ND ((a.1,f a.2) :: ·) ih
 have fst:((live mask ow).map λq=>(q.1,hs.getD q.2 0)).map Prod.fst=(live mask ow).map Prod.fst:=by rw[NQ];rfl
 have hmem:∀ i,i∈(live mask ow).map Prod.snd↔i<hs.length:=λi=>by
  rw[IB];constructor
  .rintro⟨⟨j,i'⟩,h,rfl⟩;exact l.lt j _ ((J0 l.sz).mp h)
  .intro h;obtain⟨j,hj⟩:=l.ex i h;exact⟨(j,i),(J0 l.sz).mpr hj,rfl⟩
 have nd:((live mask ow).map Prod.snd).Nodup:=by unfold List.Nodup;rw[OY];have r:=zc7 (mask:=mask) (ow:=ow);unfold Ris at r;rw[OY]at r;refine O3 (λ{a b} ha hb h q=>?_) r;have:=l.un a.1 b.1 a.2 ((J0 l.sz).mp ha) (by rw[q];exact(J0 l.sz).mp hb);omega
 refine⟨(live mask ow).map Prod.fst,(live mask ow).map Prod.snd,?_,nd,hmem,?_,by rw[Ie,Ie]⟩
 .unfold laid;rw[e];rfl
 .rw[zip];refine⟨hk,rfl,?_,?_,?_,?_,?_⟩
  .rw[fst]
  .rw[fst];exact zc7
  .intro q hq;obtain⟨a,ha,rfl⟩:=IB.mp hq;have:=zc9.subset (IB.mpr ⟨a,ha,rfl⟩);have:=IJ.mp this;show a.1<=mask;omega
  .rw[Ie];show(live mask ow).length<=mask;have:=zdy (b:=List.range hs.length) nd λi hi=>IJ.mpr ((hmem i).mp hi);rw[Ie,Iy]at this;omega
  .intro q hq;obtain⟨⟨j,i⟩,ha,rfl⟩:=IB.mp hq;have hji:=(J0 l.sz).mp ha;have hi:=l.lt j i hji;obtain⟨n,w1,w2⟩:=l.w j i (hs.getD i 0) hji (by rw[II,Ib hi];rfl);refine⟨n,w1,λm hm' => ?_⟩;rw[fst];obtain⟨x,hx⟩:=(zb8 l.sz (WR m (U5 mask _)).j).mp (w2 m hm');exact IB.mpr ⟨(_,x),(J0 l.sz).mpr hx,rfl⟩
def SOk(t:SetTable)(es:Array (Int×Value)):Prop:=∃ ps,TOk t ps/\ps.map Prod.snd=es.toList.map Prod.fst
theorem zdx[Inhabited α](es:Array α):∀(order:List Nat),(∀ i∈order,i<es.size)->order.filterMap (es[·]?)=order.map (es.toList.getD · default)
 |[],_=>rfl
 |i::order,h=>by have hi:=h i (Ir ..);rw[N1,Ix hi];show es[i]::_=es.toList.getD i default::_;rw[zdx es order λk hk=>h k (Im _ hk),II,NU,Ix hi];rfl
def map_range[Inhabited α](l:List α):(List.range l.length).map (l.getD · default)=l:=by
 refine Dx λi=>?_;rw[Ik];by_cases h:i<l.length
 .rw[Dt h];show some (l.getD i default)=_;rw[II,Ib h];rfl
 .rw[IU (by rw[Iy];omega),IU (by omega)];rfl
def zkn{a b:List Nat}(ha:a.Nodup)(hb:b.Nodup)(h:∀ i,i∈a↔i∈b):a.Perm b:=(OS ha hb).mpr h
instance:Inhabited (Int×Value):=⟨(0,.none)⟩
def zmX(t:SetTable)(es:Array (Int×Value))(hw:sizeAbove wanted=mask+1)(hk:W5 mask)(hn:es.size<=mask):∃(t' : SetTable)(order:Array Nat),t.relaid (es.map (·.1)) wanted=some (t',order)/\SOk t' (order.filterMap (es[·]?))/\(order.filterMap (es[·]?)).toList.Perm es.toList/\t'.mask=mask/\t'.led=t.led/\t'.plain=t.plain:=by
 have el:(es.map (·.1))=(es.toList.map (·.1)).toArray:=by rw[← Array.toList_map]
 obtain⟨pl,order,e,nd,hm,tok,hl⟩:=zjG (mask:=mask) hk (hs:=es.toList.map (·.1)) (by rw[Ie,IQ];exact hn) t.finger (t.movedTo mask) t.led t.plain;have hm' : ∀ i∈order,i<es.size:=λi hi=>by have:=(hm i).mp hi;rw[Ie,IQ]at this;exact this
 have pk:(order.toArray.filterMap (es[·]?)).toList=order.map (es.toList.getD · default):=by rw[Array.toList_filterMap];exact zdx es order hm'
 refine⟨_,order.toArray,?_,⟨_,tok,?_⟩,?_,rfl,rfl,rfl⟩
 .unfold relaid;rw[hw,el];exact e
 .rw[pk,List.map_snd_zip (by rw[Ie];omega),NQ];refine Oe λi hi=>?_;have h:=hm' i hi;show(es.toList.map (·.1)).getD i 0=(es.toList.getD i default).1;rw[II,II,Ik,NU,Ix h];rfl
 .rw[pk];have:=(zkn nd OX (λi=>by rw[hm i,IJ]):order.Perm (List.range (es.toList.map (·.1)).length)).map (es.toList.getD · default);rw[Ie,map_range]at this;exact this
section
variable {prog:Program}{w:World}{A:Around}{E:Value->SH->Prop}{s:SH}
abbrev Qf(prog:Program)(w:World)(h:Heap)(ks:List Int)(a:AD):Prop:=IsTupleKey (intKind prog w) h ks a
abbrev hsh(prog:Program)(w:World)(ks:List Int):Int:=tupleKeyHash (intKind prog w) ks
def zaz(hk:Qf prog w s.heap ks a)(h:Q false s):wpAny (model prog w) A (ofAClassStatement 8 (.ref a)) Q E s:=by
 have hT:=hk.typeIs;obtain⟨o,items,n,ho,_,hd,hi⟩:=hk;unfold ofAClassStatement;refine Ia (Db hT ?_);dsimp only;refine Ia ?_;refine Ic ?_;simp only[Oo,IF,IY];refine Ia (Oc ho hd ?_);dsimp only;refine Ia ?_;show wpAny _ _ (forIn items _ _) _ _ s;rw[← forIn_toList];refine OK _ (λrest r s' => r.1=none/\s'=s/\∀ v∈rest,carriedByValue v=true) _ ?_ ?_ _ _ ⟨rfl,rfl,hi.byValue⟩
 .rintro v rest r s' ⟨hr,rfl,hall⟩;have e:ofAClassStatement 7 v=pure false:=by have:=hall v Ir;cases v <;> first | rfl | (simp[carriedByValue]at this)
  rw[e];refine Ia (Ic ?_);simp only[IF,IY];exact Ic ⟨rfl,rfl,λu hu' => hall u (Im _ hu')⟩
 .rintro⟨r1,r2⟩ s' ⟨hr,rfl,_⟩;simp only at hr;subst hr;exact Ic h
def zdY(hk:Qf prog w s.heap ks a)(h:Q true s):wpAny (model prog w) A (hashByValue 8 (.ref a)) Q E s:=by
 have hT:=hk.typeIs;obtain⟨o,items,n,ho,_,hd,hi⟩:=hk;have hin:∀ v∈items.toList,∃ m t,v = .int m t:=by
  generalize items.toList=vs at hi
  induction hi with
  |nil=>intro v hv;cases hv
  |@cons k v' ks vs h1 _ ih=>
   intro v hv;rcases IE.mp hv with rfl | hv
   .obtain⟨t,rfl⟩:=Value.isInt_shape h1;exact⟨_,_,rfl⟩
   .exact ih v hv
 unfold hashByValue;refine Ia (OV hT F.slot_tuple_hash.lookup ?_);show wpAny _ _ (seqItems? (.ref a) >>= _) _ _ s;refine Ia (Oc ho hd ?_);dsimp only;refine Ia ?_;show wpAny _ _ (forIn items _ _) _ _ s;rw[← forIn_toList];refine OK _ (λrest r s' => r.1=none/\s'=s/\∀ v∈rest,∃ m t,v = .int m t) _ ?_ ?_ _ _ ⟨rfl,rfl,hin⟩
 .rintro v rest r s' ⟨hr,rfl,hall⟩;obtain⟨m,t,rfl⟩:=hall v Ir;have e:hashByValue 7 (.int m t)=pure true:=rfl;rw[e];refine Ia (Ic ?_);simp only[Oo,IF,IY];exact Ic ⟨rfl,rfl,λu hu' => hall u (Im _ hu')⟩
 .rintro⟨r1,r2⟩ s' ⟨hr,rfl,_⟩;simp only at hr;subst hr;exact Ic h
def ziR{c:AD}{ys:List Value}(hx:Qf prog w s.heap kx c)(hy:∀ y∈ys,∃ b ks,y = .ref b/\Qf prog w s.heap ks b)(h:Q false s):wpAny (model prog w) A (searchCouldBeSeen (.ref c) ys) Q E s:=by
 unfold searchCouldBeSeen;refine Ia ?_;refine OK _ (λrest r s' => r.1=none/\s'=s/\∀ y∈rest,∃ b ks,y = .ref b/\Qf prog w s.heap ks b) _ ?_ ?_ _ _ ⟨rfl,rfl,hy⟩
 .rintro v rest r s' ⟨hr,rfl,hall⟩;obtain⟨b,ks,rfl,hb⟩:=hall v Ir;dsimp only;have go:∀ u∈rest,∃ b ks,u=Value.ref b/\Qf prog w s'.heap ks b:=λu hu' => hall u (Im _ hu');split
  .exact Ic ⟨rfl,rfl,go⟩
  .refine Ia (wpAny_eqIsQuiet_tuple hx ?_);simp only[Oo,IF,IY];refine Ia (wpAny_eqIsQuiet_tuple hb ?_);simp only[Oo,IF,IY];refine Ia (zaz hx ?_);simp only[IF,IY];refine Ia (zaz hb ?_);simp only[IF,IY];exact Ic ⟨rfl,rfl,go⟩
 .rintro⟨r1,r2⟩ s' ⟨hr,rfl,_⟩;simp only at hr;subst hr;exact Ic h
abbrev zmJ(prog:Program)(w:World)(q:AD×List Int):Int×Value:=(hsh prog w q.2,.ref q.1)
theorem TOk.fits(o:TOk t ps):t.fits ps.length=true:=by
 have h1:t.place.size=ps.length:=by rw[← IQ,o.p,Ie]
 unfold SetTable.fits SetTable.fill;rw[h1,o.d];have:=o.f;simp[this]
def W5.odd{m:Nat}(h:W5 m):(m % 2==0)=false:=by rcases h with rfl | rfl | rfl <;> rfl
def SOk.len(e:ps.map Prod.snd=es.toList.map Prod.fst):ps.length=es.size:=by
 have:=ND List.length e
 rwa [Ie,Ie,IQ]at this
def Emp.shift{e:Nat}(E:Emp t p e)(hk:k<=e):Emp t (way t.mask k p) (e-k):=⟨by rw[← WT,Nat.sub_add_cancel hk];exact E.at_,λm hm=>by rw[← WT];exact E.bef _ (by omega)⟩
def zeN(h:p.dummy=none):∀ k,(way mask k p).dummy=none:=λk=>by
 induction k with
 |zero=>exact h
 |succ k ih=>rw[Q6];unfold adv;split <;> exact ih
def zgp{c:AD}{Q:SetFound->SH->Prop}(hu:A.units<cLine)(ho:s.heap.get? a=some o)(hd:o.data = .set es ep t)(tok:TOk t ps)(hps:ps.map Prod.snd=es.toList.map Prod.fst)(hM:es.toList=M.map (zmJ prog w))(hK:∀ q∈M,Qf prog w s.heap q.2 q.1)(hx:Qf prog w s.heap kx c):
  ∀(fuel e:Nat)(p:Probe)(stand:Option Probe),stand.getD (t.probeStart (hsh prog w kx))=p->p.dummy=none->Emp t p e->e<fuel->e<10*turns t.mask->
   (∀(i:Nat)(q:AD×List Int),M[i]?=some q->q.2=kx->(∃ m,m<e/\t.slot (way t.mask m p).j = .live i)->Q (.there none) s)->
   ((∀(m i:Nat),m<e->t.slot (way t.mask m p).j = .live i->∀ q,M[i]?=some q->q.2≠kx)->Q (.free (way t.mask e p).j false) s)->
   wpAny (model prog w) A (setSearchFrom a (.ref c) (hsh prog w kx) true fuel stand) Q E s:=by
 have hf:t.fits es.size=true:=by rw[← SOk.len hps];exact tok.fits
 have get:∀(i:Nat)(q:AD×List Int),M[i]?=some q->es[i]?=some (zmJ prog w q):=λi q h=>by rw[← NU,hM,Ik,h];rfl
 intro fuel
 induction fuel with
 |zero=>intro e p stand _ _ _ h;omega
 |succ fuel ih=>
  intro e p stand hst hdm em he het hY hN;unfold setSearchFrom;refine Ia (Og ho hd hf ?_);dsimp only;have hg:t.gaveWay=false:=tok.m.odd;rw[hg];simp only[IF,IY];rw[hst];unfold SetTable.probe;obtain⟨m,k,hk,sc,hb,hm⟩:=ze7 (t:=t) (λi=>((es[i]?.map (·.1)).getD 0)) (hsh prog w kx) hdm em;have hgo:probe.go t (λi=>((es[i]?.map (·.1)).getD 0)) (hsh prog w kx) (10*turns t.mask) p=some m:=ziS sc _ (by omega);have lives:∀{j i:Nat},t.slot j = .live i->∃ q,M[i]?=some q:=λ{j i} h=>by
   have:=tok.zkX h;have hi:i<ps.length:=by
    have:=(Io.mp this).1
    rwa [Ie]at this
   have hl:ps.length=M.length:=by rw[SOk.len hps,← IQ,hM,Ie]
   exact⟨_,Ib (by omega)⟩
  have hne:∀(m' i:Nat),m'<k->t.slot (way t.mask m' p).j = .live i->∀ q,M[i]?=some q->q.2≠kx:=λm' i hm' hs q hq e=>by have:=hb m' hm' i hs;rw[get i q hq]at this;exact this (by rw[← e];rfl)
  show wpAny _ _ (match probe.go t (λi=>((es[i]?.map (·.1)).getD 0)) (hsh prog w kx) (10*turns t.mask) p with
   |some met=>_
   |_=>_) _ _ _
  rw[hgo];rcases hm with⟨rfl,rfl⟩ | ⟨i,rfl,hke,hsl,hh⟩
  .dsimp only;exact Ic (hN hne)
  .dsimp only;obtain⟨q,hq⟩:=lives hsl;have hqm:q∈M:=IM hq;have hei:=get i q hq;have rest:wpAny (model prog w) A (do
     let some (_,y):=es[i]? | unsupported "internal:set-entry"
     let equal ← holding [y] (eqBool y (.ref c))
     let (es',_,t') ← setState a
     if true&&equal then return .there none
     let some same:=t'.sameMemory t.moves t.mask | unsupported "set.changed-during-lookup:is-the-new-block-at-the-old-address"
     let still ← match (if same then t'.slot (way t.mask k p).j else .empty)with
      |.live i' => match es'[i']? with
       |some (_,y')=>do pure (if ← isSame y' y then some i' else none)
       |none=>pure none
      |_=>pure none
     match still with
     |none=>rule "set.search.anew";setSearchFrom a (.ref c) (hsh prog w kx) true fuel none
     |some i' => if equal then return .there (some i')else setSearchFrom a (.ref c) (hsh prog w kx) true fuel (some (way t.mask (k+1) p))) Q E s:=by
    rw[hei];dsimp only;refine Ia (I9 (wpAny_eqBool_tuple hu (hK q hqm) hx ?_));refine Ia (Og ho hd hf ?_);dsimp only;by_cases e1:q.2=kx
    .rw[Iw e1];exact Ic (hY i q hq e1 ⟨k,hke,hsl⟩)
    .rw[Ip e1];simp only[Dq,IF,IY];have hsm:t.sameMemory t.moves t.mask=some true:=by unfold SetTable.sameMemory;rw[Iz (O6 _)]
     rw[hsm];simp only[Om];rw[hsl];dsimp only;rw[hei];dsimp only;refine Ia (wpAny_isSame_ref_self ?_);refine Ia (Ic ?_);simp only[Om];refine ih (e-(k+1)) (way t.mask (k+1) p) (some (way t.mask (k+1) p)) rfl (zeN hdm _) (em.shift (by omega)) (by omega) (by omega) ?_ ?_
     .intro i2 q2 h1 h2 h3;obtain⟨m2,h4,h5⟩:=h3;rw[← WT]at h5;exact hY i2 q2 h1 h2 ⟨_,by omega,h5⟩
     .intro h1;rw[← WT,Nat.sub_add_cancel (by omega)];refine hN λm' i' hm' hs q' hq' => ?_;rcases Di m' k with l | l | l
      .exact hne m' i' l hs q' hq'
      .rw[l,hsl]at hs;injection hs with hs;rw[← hs,hq]at hq';injection hq' with hq';rw[← hq'];exact e1
      .refine h1 (m'-(k+1)) i' (by omega) ?_ q' hq';rw[← WT,Nat.sub_add_cancel (by omega)];exact hs
   by_cases hl:t.led=true
   .rw[hl];simp only[Oo,IF,IY];exact rest
   .rw[Od.mpr hl];simp only[Bool.not_false,Om];refine Ia (ziR hx (λy hy=>?_) ?_)
    .obtain⟨e2,h2,rfl⟩:=IB.mp hy;have h2:e2∈es/\e2.1=hsh prog w kx:=by simpa using h2
     have h3:e2∈es.toList:=mem_toList_iff.mpr h2.1;rw[hM]at h3;obtain⟨q3,h4,rfl⟩:=IB.mp h3;exact⟨_,_,rfl,hK q3 h4⟩
    .simp only[IF,IY];exact rest
def zhF{Q:Unit->SH->Prop}(ho:s.heap.get? a=some o)(hd:o.data = .set es ep t)(hf:t.fits es.size=true)(hw:sizeAbove wanted=mask+1)(hk:W5 mask)(hn:es.size<=mask)(h:∀(t' : SetTable)(es' : Array (Int×Value)),SOk t' es' -> es'.toList.Perm es.toList->t'.mask=mask->t'.led=t.led->t'.plain=t.plain->Q () {s with heap:=s.heap.update a (Obj.putSet es' t')}):
  wpAny (model prog w) A (setRelay a wanted) Q E s:=by
 obtain⟨t',order,e1,e2,e3,e4,e5,e6⟩:=zmX t es hw hk hn;have hmk:mask<=127:=by rcases hk with rfl | rfl | rfl <;> omega
 have hs:¬ sizeAbove wanted>sizeLine:=by rw[hw,sizeLine_eq];omega
 have sz:(order.filterMap (es[·]?)).size=es.size:=by rw[← IQ,e3.length_eq,IQ]
 unfold setRelay;refine Ia (Og ho hd hf ?_);dsimp only;rw[Iq hs];refine Ia ?_;rw[e1];show wpAny _ _ (if(order.filterMap (es[·]?)).size != es.size then(do let _ ← unsupported "internal:set-table-lost-an-element";pure (order.filterMap (es[·]?),t'))else pure (order.filterMap (es[·]?),t')) _ _ _;rw[sz];simp only[Oy,IF,IY];refine Ic ?_;dsimp only;exact wpAny_storeSet_of ho hd (h t' _ e2 e3 e4 e5 e6) (by rw[sz,sizeLine_eq];omega)
def Um{β:Type}{f:α->β}{l' l:List β}(p:l'.Perm l):∀(M:List α),l=M.map f->∃ M' : List α,M'.Perm M/\l'=M'.map f:=by
 induction p with
 |nil=>intro M h;exact⟨M,List.Perm.refl _,h⟩
 |cons x p ih=>
  intro M h;cases M with
  |nil=>cases h
  |cons m M=>injection h with h1 h2;obtain⟨M',p',e⟩:=ih M h2;exact⟨m::M',p'.cons m,by rw[e,h1];rfl⟩
 |swap x y l=>
  intro M h
  match M,h with
  |m1::m2::M,h=>injection h with h1 h2;injection h2 with h2 h3;exact⟨m2::m1::M,List.Perm.swap ..,by rw[h1,h2,h3];rfl⟩
 |trans p1 p2 ih1 ih2=>intro M h;obtain⟨M2,q2,e2⟩:=ih2 M h;obtain⟨M1,q1,e1⟩:=ih1 M2 e2;exact⟨M1,q1.trans q2,e1⟩
def TSt(prog:Program)(w:World)(h:Heap)(a:AD)(led:Bool)(M:List (AD×List Int)):Prop:=∃ o es ep t ps,h.get? a=some o/\o.ExactSet/\o.data = .set es ep t/\TOk t ps/\ps.map Prod.snd=es.toList.map Prod.fst/\es.toList=M.map (zmJ prog w)/\(∀ q∈M,Qf prog w h q.2 q.1)/\(M.map Prod.snd).Nodup/\es.size*5<t.mask*3/\t.led=led/\t.plain=true
def Qf.keeps{d:AD}{es ep t}(x:Qf prog w h ks a)(ho:h.get? d=some o)(hd:o.data = .set es ep t)(hs:SameBut d h h'):Qf prog w h' ks a:=by
 obtain⟨o',items,n,ho',hc,hd',hi⟩:=x;have hne:a≠d:=by rintro rfl;obtain rfl:o'=o:=IA (ho'.symm.trans ho);rw[hd]at hd';exact nomatch hd'
 exact⟨o',items,n,(hs.2 a hne).trans ho',hc,hd',hi⟩
def zfU(es' : Array (Int×Value))(t' : SetTable)(ho:h.get? a=some o)(hd:o.data = .set es ep t):(h.update a (Obj.putSet es' t')).get? a=some {o with data:=.set es' (ep+1) t'}:=by have:=NI (Obj.putSet es' t') ho (by rw[putSet_of es' t' hd];rfl);rw[putSet_of es' t' hd]at this;exact this
def zly{c:AD}{led:Bool}(hu:A.units<cLine)(S:TSt prog w s.heap a led M)(hx:Qf prog w s.heap kx c)(hn:kx∉M.map Prod.snd->M.length<64)(h:∀(h' : Heap)(M' : List (AD×List Int))(b:Bool),SameBut a s.heap h' -> TSt prog w h' a led M' -> (kx∈M.map Prod.snd/\M'=M\/kx∉M.map Prod.snd/\M'.Perm ((c,kx)::M))->Q b {s with heap:=h'}):
  wpAny (model prog w) A (setAddHashed a (.ref c) (hsh prog w kx)) Q E s:=by
 have S0:=S;obtain⟨o,es,ep,t,ps,ho,hex,hd,tok,hps,hM,hK,nd,hfull,hled,hpl⟩:=S;have hf:t.fits es.size=true:=by rw[← SOk.len hps];exact tok.fits
 have hml:M.length=es.size:=by rw[← IQ,hM,Ie]
 have hpe:ps.length=es.size:=SOk.len hps;have hmk:t.mask<=127:=by rcases tok.m with e | e | e <;> omega
 obtain⟨e,he,em⟩:=tok.emp (U5 t.mask (hsh prog w kx));unfold setAddHashed setAddHashedIn;refine I9 (Ia (Og ho hd hf ?_));dsimp only;rw[show byScan (.ref c) es=false from rfl];simp only[IF,IY];unfold setSearch;refine Ia (zgp hu ho hd tok hps hM hK hx 100000 e (sta t.mask (hsh prog w kx)) none rfl rfl em (by unfold turns at he;omega) he ?_ ?_)
 .intro i q h1 h2 _;refine Ic ?_;have e:s={s with heap:=s.heap}:=by cases s;rfl
  rw[e];exact h s.heap M false (SameBut.refl a s.heap) S0 (.inl ⟨IB.mpr ⟨q,IM h1,h2⟩,rfl⟩)
 .intro hno;have hnot:kx∉M.map Prod.snd:=λhm=>by
   obtain⟨q,hq,e2⟩:=IB.mp hm;obtain⟨i,hi,e3⟩:=NA hq;have hip:i<ps.length:=by omega
   have hsn:(ps[i]).2=hsh prog w kx:=by have h1:=ND (·[i]?) hps;simp only[hM,Ik]at h1;rw[Ib hip,Ib hi,e3]at h1;have h1:some (ps[i]).2=some (hsh prog w q.2):=h1;injection h1 with h1;rw[h1,e2]
   obtain⟨k,hk,hsl⟩:=tok.reach (i:=i) (j:=(ps[i]).1) (h:=hsh prog w kx) (by rw[Ib hip,← hsn]) em;exact hno k i hk hsl q (by rw[Ib hi,e3]) e2
  have hn:=hn hnot;dsimp only;refine Ia (Og ho hd hf ?_);dsimp only;generalize hj:(way t.mask e (sta t.mask (hsh prog w kx))).j=j;generalize hp:below t.place j=p;have hroom:ps.length+1<=t.mask:=by omega
  have tok':=tok.put em hj hp hroom;have hput:t.put j=((t.put j).1,p):=by unfold SetTable.put;rw[hp]
  have hpl' : (t.put j).1.plain=true:=hpl;have hled' : (t.put j).1.led=led:=hled;have hmask' : (t.put j).1.mask=t.mask:=rfl;rw[hput];generalize (t.put j).1=t1 at tok' hpl' hled' hmask';dsimp only;rw[hpl'];simp only[Om];refine Ia (zdY hx ?_);simp only[Om];have hl1:(insertAt es p (hsh prog w kx,.ref c)).toList=(M.take p++(c,kx)::M.drop p).map (zmJ prog w):=by rw[SetTable.toList_insertAt,hM,Nk,Nt,map_take,map_drop]
  have hps1:(ps.take p++(j,hsh prog w kx)::ps.drop p).map Prod.snd=(insertAt es p (hsh prog w kx,.ref c)).toList.map Prod.fst:=by rw[SetTable.toList_insertAt,Nk,Nt,Nk,Nt,map_take,map_drop,map_take,map_drop,hps]
  generalize hes1:insertAt es p (hsh prog w kx,.ref c)=es1 at hl1 hps1;have pm:(M.take p++(c,kx)::M.drop p).Perm ((c,kx)::M):=by
   have:=List.perm_middle (a:=(c,kx)) (l₁:=M.take p) (l₂:=M.drop p)
   rwa [OJ]at this
  generalize hM1:M.take p++(c,kx)::M.drop p=M1 at hl1 pm;have hsz1:es1.size=es.size+1:=by rw[← IQ,hl1,Ie,pm.length_eq,IL,hml]
  have sb:=Ot s.heap a (Obj.putSet es1 t1);have g1:=zfU (h:=s.heap) es1 t1 ho hd;have nd1:(M1.map Prod.snd).Nodup:=by refine((pm.map Prod.snd).nodup_iff).mpr ?_;exact NT.mpr ⟨hnot,nd⟩
  have hK1:∀{h' : Heap},SameBut a s.heap h' -> ∀ q∈M1,Qf prog w h' q.2 q.1:=λ{h'} sb q hq=>by
   rcases IE.mp (pm.mem_iff.mp hq)with rfl | hq
   .exact Qf.keeps hx ho hd sb
   .exact Qf.keeps (hK q hq) ho hd sb
  refine Ia (wpAny_storeSet_of ho hd ?_ (by rw[hsz1,sizeLine_eq];omega));have hfill:t1.fill=es1.size:=by unfold SetTable.fill;rw[tok'.d,← IQ,tok'.p,Ie];rw[SOk.len hps1];rfl
  by_cases hfl:t1.tooFull=true
  .rw[hfl];simp only[Bool.not_false,Bool.and_self,Om];have hfl' : t1.mask*3<=es1.size*5:=by unfold SetTable.tooFull at hfl;rw[hfill]at hfl;simpa using hfl
   have hnew:∃ mask,sizeAbove (grown (es.size+1))=mask+1/\W5 mask/\es1.size<=mask/\es1.size*5<mask*3:=by
    rw[hmask']at hfl';rcases tok.m with e5 | e5 | e5
    .have:es.size=4:=by omega
     rw[this,hsz1,this];exact⟨31,by decide,.inr (.inl rfl),by decide,by decide⟩
    .have:es.size=18:=by omega
     rw[this,hsz1,this];exact⟨127,by decide,.inr (.inr rfl),by decide,by decide⟩
    .omega
   obtain⟨mask,m1,m2,m3,m4⟩:=hnew;have hf1:t1.fits es1.size=true:=by rw[← SOk.len hps1];exact tok'.fits
   refine Ia (zhF (s:={s with heap:=s.heap.update a (Obj.putSet es1 t1)}) g1 rfl hf1 m1 m2 m3 λt2 es2 so2 pm2 k1 k2 k3=>?_);refine Ic ?_;obtain⟨ps2,tok2,hps2⟩:=so2;obtain⟨M2,pmM,hM2⟩:=Um pm2 M1 hl1;have sb2:SameBut a s.heap ((s.heap.update a (Obj.putSet es1 t1)).update a (Obj.putSet es2 t2)):=sb.trans (Ot _ a _);refine h _ M2 true sb2 ⟨_,es2,_,t2,ps2,zfU es2 t2 g1 rfl,hex,rfl,tok2,hps2,hM2,λq hq=>hK1 sb2 q (pmM.mem_iff.mp hq),((pmM.map Prod.snd).nodup_iff).mpr nd1,?_,by rw[k2];exact hled',by rw[k3];exact hpl'⟩ (.inr ⟨hnot,pmM.trans pm⟩);rw[k1,← IQ,pm2.length_eq,IQ];exact m4
  .rw[Od.mpr hfl];simp only[Bool.not_false,Dq,IF,IY];refine Ic ?_;refine h _ M1 true sb ⟨_,es1,_,t1,_,g1,hex,rfl,tok',hps1,hl1,hK1 sb,nd1,?_,hled',hpl'⟩ (.inr ⟨hnot,pm⟩);have:¬ (t1.mask*3<=es1.size*5):=λz=>hfl (by unfold SetTable.tooFull;rw[hfill];simpa using z);omega
def Met(its:Nat->AD×List Int)(i:Nat)(M:List (AD×List Int)):Prop:=(∀ k,k∈M.map Prod.snd↔∃ m,m<i/\(its m).2=k)/\∀ q∈M,∃ m,m<i/\q=its m
def Met.zero(its:Nat->AD×List Int):Met its 0 []:=⟨λk=>⟨λh=>(by cases h),λ⟨m,h,_⟩=>absurd h (not_lt_zero _)⟩,λq h=>(by cases h)⟩
def Met.succ{its:Nat->AD×List Int}{M':List (AD×List Int)}(h:Met its i M)(e:(its i).2∈M.map Prod.snd/\M'=M\/(its i).2∉M.map Prod.snd/\M'.Perm (((its i).1,(its i).2)::M)):Met its (i+1) M':=by
 obtain⟨h1,h2⟩:=h;have lt:∀ m,m<i+1↔m<i\/m=i:=λm=>by omega
 rcases e with⟨hin,rfl⟩ | ⟨_,pm⟩
 .refine⟨λk=>⟨λhk=>?_,?_⟩,λq hq=>?_⟩
  .obtain⟨m,hm,e⟩:=(h1 k).mp hk;exact⟨m,by omega,e⟩
  .rintro⟨m,hm,rfl⟩;rcases(lt m).mp hm with hm | rfl
   .exact(h1 _).mpr ⟨m,hm,rfl⟩
   .exact hin
  .obtain⟨m,hm,e⟩:=h2 q hq;exact⟨m,by omega,e⟩
 .have pm2:=pm.map Prod.snd;refine⟨λk=>?_,λq hq=>?_⟩
  .rw[pm2.mem_iff,Nt,IE,h1 k];constructor
   .rintro(rfl | ⟨m,hm,e⟩)
    .exact⟨i,by omega,rfl⟩
    .exact⟨m,by omega,e⟩
   .rintro⟨m,hm,e⟩;rcases(lt m).mp hm with hm | rfl
    .exact .inr ⟨m,hm,e⟩
    .exact .inl e.symm
  .rcases IE.mp (pm.mem_iff.mp hq)with rfl | hq
   .exact⟨i,by omega,rfl⟩
   .obtain⟨m,hm,e⟩:=h2 q hq;exact⟨m,by omega,e⟩
def Few(n:Nat)(its:Nat->AD×List Int):Prop:=∀ L:List (List Int),L.Nodup->(∀ k∈L,∃ m,m<n/\(its m).2=k)->L.length<=64
def TSt.at{led:Bool}(S:TSt prog w h a led M)(g:∀ o,h.get? a=some o->h'.get? a=some o)(k:∀ q∈M,Qf prog w h q.2 q.1->Qf prog w h' q.2 q.1):TSt prog w h' a led M:=by obtain⟨o,es,ep,t,ps,ho,hex,hd,tok,hps,hM,hK,r⟩:=S;exact⟨o,es,ep,t,ps,g o ho,hex,hd,tok,hps,hM,λq hq=>k q hq (hK q hq),r⟩
def Qf.at(x:Qf prog w h ks a)(g:∀ o,h.get? a=some o->h'.get? a=some o):Qf prog w h' ks a:=by obtain⟨o,items,n,ho,r⟩:=x;exact⟨o,items,n,g o ho,r⟩
end
section
variable {prog:Program}{w:World}{A:Around}{R:Result->SH->Prop}{I:AD}{fp wr:List AD}{G:Array GenState->Array GenState->Prop}{n:Nat}{P:Nat->Value->Prop}{St:Nat->SH->Prop}
def zmA(W:WalksS prog w A.in1 I fp wr G n P St)(hu:A.in1.units<cLine)(S:AD)(led:Bool)(hSf:S∉fp)(its:Nat->AD×List Int)(hval:∀ i v,P i v->v = .ref (its i).1)(hout:∀ i,i<n->(its i).1∉S::wr)(few:Few n its):
  ∀(k i:Nat)(s:SH)(M:List (AD×List Int)),n-i=k->i<=n->St i s->(∀ m,m<n->Qf prog w s.heap (its m).2 (its m).1)->TSt prog w s.heap S led M->Met its i M->
   (∀ s' M',Moved (S::wr) G s s' -> TSt prog w s'.heap S led M' -> Met its n M' -> R (.ok (.ret .none)) s')->
   codeAny (model prog w) A (.builtin "set.update.loop" ⟨[.ref S,.ref I],[]⟩) R s:=by
 have hSw:S∉wr:=λh=>hSf (W.sub _ h);have hsub:∀ b∈wr,b∈S::wr:=λb hb=>Im _ hb;have keep:∀{s s' : SH}{M:List (AD×List Int)}{i:Nat},i<=n->Met its i M->Moved wr G s s' -> TSt prog w s.heap S led M->TSt prog w s'.heap S led M:=λ{s s' M i} hi mt hm T=>
  T.at (λo e=>hm.heap S o hSw e) λq hq x=>Qf.at x λo e=>by obtain⟨m,hm',rfl⟩:=mt.2 q hq;exact hm.heap _ o (λhw=>hout m (by omega) (hsub _ hw)) e
 intro k
 induction k with
 |zero=>
  intro i s M hk hi hst hT hS mt hR;have hin:i=n:=by omega
  subst hin;refine Nu PyProof.Rows.F.entry_set_update_loop ?_;rw[NV PyProof.Rows.F.plain_set_update_loop _];show wpAny _ A.in1 (pyNext (.ref I) >>= _) _ _ s;refine Ia (W.done s _ _ hst λs' hm=>?_);show wpAny _ A.in1 (ret Value.none) _ _ s';exact Ic (hR s' M (hm.mono hsub) (keep (Ih _) mt hm hS) mt)
 |succ k ih=>
  intro i s M hk hi hst hT hS mt hR;have hlt:i<n:=by omega
  refine Nu PyProof.Rows.F.entry_set_update_loop ?_;rw[NV PyProof.Rows.F.plain_set_update_loop _];show wpAny _ A.in1 (pyNext (.ref I) >>= _) _ _ s;refine Ia (W.item i s _ _ hlt hst λv s' hP hst' hm=>?_);have ev:=hval i v hP;subst ev;have hS':=keep (by omega) mt hm hS;have hT' : ∀ m,m<n->Qf prog w s'.heap (its m).2 (its m).1:=λm h=>Qf.at (hT m h) λo e=>hm.heap _ o (λhw=>hout m h (hsub _ hw)) e;show wpAny _ A.in1 (holding [Value.ref (its i).1] (setAdd S (.ref (its i).1)) >>= _) _ _ s';refine Ia (I9 ?_);unfold setAdd;refine I9 ?_;refine Ia (wpAny_pyHash_tuple (knd:=intKind prog w) hu (hT' i hlt) ?_);refine zly (s:={s' with toks:=s'.toks+((its i).2.length+1)}) hu hS' (hT' i hlt) (λhno=>?_) λh' M' b sb T' e=>?_
  .have nd:(M.map Prod.snd).Nodup:=by obtain⟨o,es,ep,t,ps,_,_,_,_,_,_,_,nd,_⟩:=hS;exact nd
   have:=few ((its i).2::M.map Prod.snd) (NT.mpr ⟨hno,nd⟩) λk hk=>by
    rcases IE.mp hk with rfl | hk
    .exact⟨i,hlt,rfl⟩
    .obtain⟨m,hm',e⟩:=(mt.1 k).mp hk;exact⟨m,by omega,e⟩
   rw[IL,Ie]at this;omega
  .have mt':=mt.succ e;refine Ic ⟨NW PyProof.Rows.F.plain_set_update_loop _,ih (i+1) _ M' (by omega) hlt (W.frame _ s' _ _ hst' (Nat.le_add_right _ _) λb hb o e=>?_) (λm hm' => Qf.at (hT' m hm') λo e=>?_) T' mt' λs'' M'' hm'' T'' mt'' => ?_⟩
   .rw[sb.2 b (λh:b=S=>hSf (by rw[← h];exact hb))];exact e
   .show h'.get? _=_;rw[sb.2 _ (λh=>hout m hm' (by rw[h];exact Ir))];exact e
   .refine hR s'' M'' (Moved.trans W.gtrans ((hm.mono hsub).then_heap (Nat.le_add_right _ _) λb o hb e=>?_) hm'') T'' mt'';rw[sb.2 b (λh:b=S=>hb (by rw[h];exact Ir))];exact e
end
section
variable {prog:Program}{w:World}{A:Around}{E:Value->SH->Prop}{s:SH}
noncomputable def ldd(w:World):Bool:=!(w.params.followText "set-order")
noncomputable def zbb(w:World):Obj:={cls:=.type "set",dict:=none,data:=.set #[] 0 (.fresh 0 0 (ldd w))}
def TSt.new(h:Heap):TSt prog w (h.push (zbb w)) h.objs.size (ldd w) []:=⟨zbb w,#[],0,.fresh 0 0 (ldd w),[],Iu _ rfl,⟨rfl,rfl,rfl⟩,rfl,⟨.inl rfl,rfl,rfl,List.Pairwise.nil,λq h=>(by cases h),NN _,λq h=>(by cases h)⟩,rfl,rfl,λq h=>(by cases h),nodup_nil,by show 0*5<7*3;omega,rfl,rfl⟩
def zfO(a:Value){Q:Value->SH->Prop}(h:Q (.ref s.heap.objs.size) {s with heap:=s.heap.push (zbb w)}):codeAny (model prog w) A (.call (.builtin "set.__new__") ⟨[.type "set",a],[]⟩) (wants Q E) s:=by
 refine codeAny_of_tree ?_;show wpAny _ A.in1 (checkBuiltinCall "set.__new__" ⟨[.type "set",a],[]⟩ >>= λ_=>again (.builtin "set.__new__" ⟨[.type "set",a],[]⟩)) _ _ s;refine Ia (wpAny_of_eq (F.newCall_set_1 a) (Ic ⟨NW F.plain_set_new _,Nu F.entry_set_new ?_⟩));rw[NV F.plain_set_new _];have hsub:=sub_set_self;unfold Builtin.«set.__new__» Builtin.Frozenset.newClass;obtain⟨hp,g,d,tk,os⟩:=s;dsimp only
 wp_walk
 refine wpAny_askSetting (Ic ?_);dsimp only;simp only[newObj];exact Ia (wpAny_alloc (Ic (Ic h)))
end
def Y5:Slot "set_iterator" "__next__" "set_iterator.__next__" :=
 .of (owner:= "set_iterator") (n:= "__next__") (by rw[typeLookup_type,builtinLookup_eq_fast];kernel_rfl) (by decide +kernel) (by decide +kernel) (by decide +kernel)
  (by first | exact .inl (by decide +kernel) | exact .inr (by decide +kernel)) (by rw[isSubtype_type];kernel_rfl)
def Qn:entryFor table "set_iterator.__next__" = some Builtin.«set_iterator.__next__» := entryFor_of_fast (by kernel_rfl)
def QK(a:Value):argsOk "set_iterator.__next__" ⟨[a],[]⟩:=by unfold argsOk;kernel_rfl
def zaj:entryFor table "set.__iter__" = some Builtin.«frozenset.__iter__» :=entryFor_alias (id' := "frozenset.__iter__") (by kernel_rfl) rfl (by decide +kernel) (by kernel_rfl)
theorem zan :∀(l:List α)(i:Nat)(h:i<l.length),(l[i]::l.eraseIdx i).Perm l
 |a::l,0,h=>List.Perm.refl _
 |a::l,i+1,h=>(List.Perm.swap ..).trans ((zan l i (Nat.lt_of_succ_lt_succ h)).cons a)
theorem zfc(next:Nat->Nat):∀(fuel k:Nat)(left:List α)(out:Array α),left.length=fuel->(pickOrder.go next fuel k left out).toList.Perm (out.toList++left)
 |0,k,left,out,h=>by have:left=[]:=N2 h;subst this;unfold pickOrder.go;rw[Nx]
 |fuel+1,k,left,out,h=>by
  have hlt:next k % left.length<left.length:=mod_lt _ (by omega)
  unfold pickOrder.go;rw[Ib hlt];dsimp only;refine(zfc next fuel (k+1) _ _ (by rw[List.length_eraseIdx_of_lt hlt];omega)).trans ?_;rw[Array.toList_push,OD];exact List.Perm.append_left _ (zan left _ hlt)
def ze9(next:Nat->Nat)(xs:Array α):(pickOrder next xs).toList.Perm xs.toList:=by unfold pickOrder;exact zfc next xs.size 0 xs.toList #[] (IQ ..)
noncomputable def slotAt(t:SetTable):Nat->Nat
 |0=>0
 |i+1=>t.place.getD i 0+1
def below_at(o:TOk t ps)(hi:i<=t.place.size):below t.place (slotAt t i)=i:=by
 have hr:Ris t.place.toList:=by rw[o.p];exact o.r
 obtain⟨b1,b2,b3⟩:=zaV hr (slotAt t i);have get:∀ k,k<t.place.size->∀ d,t.place.getD k d=t.place.getD k 0:=λk hk d=>by rw[IZ,IZ,Ix hk];rfl
 have mono:∀ a b,a<b->b<t.place.size->t.place.getD a 0<t.place.getD b 0:=λa b hab hb=>by have:=N9.mp hr a b (by simpa using(by omega:a<t.place.size)) (by simpa using hb) hab;rw[IZ,IZ,Ix (by omega),Ix hb];simpa using this
 rcases Di (below t.place (slotAt t i)) i with l | l | l
 .have h1:=b3 _ (Ih _) (by omega);rw[get _ (by omega)]at h1;cases i with
  |zero=>omega
  |succ i=>
   have h1:t.place.getD i 0+1<=t.place.getD (below t.place (slotAt t (i+1))) 0:=h1;by_cases e:below t.place (slotAt t (i+1))=i
   .rw[e]at h1;omega
   .have:=mono (below t.place (slotAt t (i+1))) i (by omega) (by omega);omega
 .exact l
 .have h1:=b2 i l;rw[get _ (by omega)]at h1;cases i with
  |zero=>exact absurd h1 (not_lt_zero _)
  |succ i=>have h1:t.place.getD (i+1) 0<t.place.getD i 0+1:=h1;have:=mono i (i+1) (by omega) (by omega);omega
section
variable {prog:Program}{w:World}{A:Around}{E:Value->SH->Prop}{s:SH}
noncomputable def zak(w:World)(S:AD)(ep:Nat)(es:Array (Int×Value)):List (Int×Value):=if w.params.followText "set-order" then(pickOrder (w.params.setOrder S ep) es).toList else es.toList
def W0(w:World)(S:AD)(ep:Nat)(es:Array (Int×Value)):(zak w S ep es).Perm es.toList:=by
 unfold zak;split
 .exact ze9 _ _
 .exact List.Perm.refl _
noncomputable def slW(w:World)(t:SetTable)(i:Nat):Nat:=if w.params.followText "set-order" then 0 else slotAt t i
noncomputable def sit(S:AD)(sl i n ep:Nat):Data:=.fields #[.int sl 0,.int i 0,.ref S,.int n 0,.int ep 0]
def Uq(h:Q (w.params.followText "set-order") s):wpAny (model prog w) A setsByText Q E s:=by unfold setsByText;exact Ia (wpAny_askSetting (Ic h))
def zfh{Q:Option (Value×Nat)->SH->Prop}(ho:s.heap.get? S=some o)(hd:o.data = .set es ep t)(tok:TOk t ps)(hps:ps.map Prod.snd=es.toList.map Prod.fst)(hl:t.led=ldd w)(hp:t.plain=true)(hi:i<=es.size)(h:Q ((zak w S ep es)[i]?.map λe=>(e.2,slW w t (i+1))) s):wpAny (model prog w) A (setNext S (slW w t i) i ep) Q E s:=by
 have hf:t.fits es.size=true:=by rw[← SOk.len hps];exact tok.fits
 unfold setNext;refine Ia (Og ho hd hf ?_);dsimp only;refine Ia (Uq ?_);by_cases bt:w.params.followText "set-order" = true
 .rw[bt];simp only[Om,Oy,IF,IY];unfold setWalk;refine Ia (Ia (Og ho hd hf ?_));dsimp only;refine Ia (Uq ?_);rw[bt];simp only[Om];refine Ia (wpAny_askSetting ?_);refine Ic (Ic ?_);unfold zak slW at h;rw[bt]at h;simp only[Om,NU]at h;unfold slW;rw[bt];exact h
 .have bt:=Od.mpr bt;have hled:t.led=true:=by rw[hl];unfold ldd;rw[bt];rfl
  rw[bt];simp only[IF,IY];unfold zak slW at h;unfold slW;rw[bt]at h ⊢;simp only[IF,IY,NU]at h ⊢;show wpAny _ _ (if(!t.plain&&decide (es.size>1))=true then _ else _) _ _ _;rw[hp];simp only[Oo,Bool.false_and,IF,IY];refine Ia ?_;show wpAny _ _ (if(!t.led && !es.isEmpty)=true then _ else _) _ _ _;rw[hled];simp only[Oo,Bool.false_and,IF,IY];refine Ic ?_;have hsz:t.place.size=es.size:=by rw[← SOk.len hps,← IQ,tok.p,Ie]
  rw[below_at tok (by omega)];refine Ic ?_;by_cases e:i<es.size
  .rw[Ix e]at h ⊢;rw[Ix (xs:=t.place) (by omega)];have:slotAt t (i+1)=t.place[i]+1:=by show t.place.getD i 0+1=_;rw[IZ,Ix (by omega)];rfl
   rw[this]at h;exact h
  .rw[Df (by omega)]at h ⊢;exact h
def zd0(h:Heap)(I S:AD)(sl i n ep:Nat):Prop:=∃ o,h.get? I=some o/\o.cls = .type "set_iterator" /\ o.data=sit S sl i n ep
def zd0.typeIs{s:SH}{sl n:Nat}(x:zd0 s.heap I S sl i n ep):s.TypeIs (.ref I) "set_iterator" := let ⟨o,ho,hc,_⟩:=x;⟨o,ho,hc⟩
def zgD{Q:Value->SH->Prop}(ho:s.heap.get? S=some o)(hex:o.ExactSet)(hd:o.data = .set es ep t)(hf:t.fits es.size=true)(hp:t.plain=true)(h:Q (.ref s.heap.objs.size) {s with heap:=s.heap.push {cls:=.type "set_iterator",data:=sit S 0 0 es.size ep}}):
  wpAny (model prog w) A (pyIter (.ref S)) Q E s:=by
 have hT:s.TypeIs (.ref S) "set" := ⟨o,ho,hex.1⟩
 refine wpAny_pyIter_slot hT F.slot_set_iter (Nn F.slot_set_iter hT zaj ?_ (F.args_set_iter_1 _));unfold Builtin.«frozenset.__iter__»;refine Ia (m:=Builtin.Frozenset.slot0 "__iter__" _) (Ic ?_);unfold Builtin.Frozenset.sizeOf;refine Ia (Ia (wpAny_setEntries_of ho hd hf (Ic ?_)));unfold setDrawn;refine Ia (Ia (Og ho hd hf ?_));dsimp only;refine Ia (Uq ?_);refine Ic ?_;show wpAny _ _ (if(!(w.params.followText "set-order")&&(!t.plain&&decide (es.size>1)))=true then _ else _) _ _ _;rw[hp];simp only[Oo,Bool.false_and,Dq,IF,IY];refine Ia (Ic ?_);refine Ia (wpAny_setEpoch_of ho hd hf ?_);exact Ia (Na (Ic ⟨_,rfl, "set_iterator",_,⟨_,Iu _ rfl,rfl⟩,Y5.lookup,h⟩))
def next_item{e:Int×Value}{Q:Option Value->SH->Prop}(hit:zd0 s.heap I S (slW w t i) i es.size ep)(ho:s.heap.get? S=some o)(hd:o.data = .set es ep t)(tok:TOk t ps)(hps:ps.map Prod.snd=es.toList.map Prod.fst)(hl:t.led=ldd w)(hp:t.plain=true)(hx:(zak w S ep es)[i]?=some e)(hQ:∀ h',zd0 h' I S (slW w t (i+1)) (i+1) es.size ep->SameBut I s.heap h' -> Q (some e.2) {s with heap:=h'}):
  wpAny (model prog w) A (pyNext (.ref I)) Q E s:=by
 have hf:t.fits es.size=true:=by rw[← SOk.len hps];exact tok.fits
 have hi:i<es.size:=by
  have:=(Io.mp hx).1
  rwa [(W0 w S ep es).length_eq,IQ]at this
 obtain⟨oi,hoi,hc,hdi⟩:=id hit;unfold pyNext;refine Ia (O0 (Ny (name:=Str.ofString "__next__") hit.typeIs Y5
  (Nn Y5 hit.typeIs Qn ?_ (QK _))))
 unfold Builtin.«set_iterator.__next__»;refine Ia (m:=slotArgs "__next__" 0 _) (Ic ?_);refine Ia (Du hoi hdi ?_);show wpAny _ _ (setEntries S >>= _) _ _ _;refine Ia (wpAny_setEntries_of ho hd hf ?_);simp only[Oy,IF,IY,NP];refine Ia (zfh ho hd tok hps hl hp (by omega) ?_);rw[hx];show wpAny _ _ (setField (.ref I) 0 (rawInt _) >>= _) _ _ _;refine Ia (O7 hoi hdi (by simp) ?_);have g1:=NI (Obj.mapFields (·.setIfInBounds 0 (rawInt (slW w t (i+1):Nat)))) hoi (Dj (NS hdi _));refine Ia (O7 (s:={s with heap:=_}) g1 (NS hdi _) (by simp) ?_);refine Ic ⟨e.2,rfl,Ic (hQ _ ?_ ((Ot ..).trans (Ot ..)))⟩;refine⟨_,NI _ g1 (Dj (NS (NS hdi _) _)),(Obj.cls_mapFields ..).trans ((Obj.cls_mapFields ..).trans hc),?_⟩;rw[NS (NS hdi _)];rfl
def next_end{Q:Option Value->SH->Prop}(hh:A.handled=none)(hit:zd0 s.heap I S (slW w t es.size) es.size es.size ep)(ho:s.heap.get? S=some o)(hd:o.data = .set es ep t)(tok:TOk t ps)(hps:ps.map Prod.snd=es.toList.map Prod.fst)(hl:t.led=ldd w)(hp:t.plain=true)(hQ:∀ h',ExtBut I s.heap h' -> Q none {s with heap:=h'}):
  wpAny (model prog w) A (pyNext (.ref I)) Q E s:=by
 have hf:t.fits es.size=true:=by rw[← SOk.len hps];exact tok.fits
 have hx:(zak w S ep es)[es.size]?=none:=IU (by rw[(W0 w S ep es).length_eq,IQ];exact Ih _);obtain⟨oi,hoi,hc,hdi⟩:=id hit;unfold pyNext;refine Ia (O0 (Ny (name:=Str.ofString "__next__") hit.typeIs Y5
  (Nn Y5 hit.typeIs Qn ?_ (QK _))))
 unfold Builtin.«set_iterator.__next__»;refine Ia (m:=slotArgs "__next__" 0 _) (Ic ?_);refine Ia (Du hoi hdi ?_);show wpAny _ _ (setEntries S >>= _) _ _ _;refine Ia (wpAny_setEntries_of ho hd hf ?_);simp only[Oy,IF,IY,NP];refine Ia (zfh ho hd tok hps hl hp (Ih _) ?_);rw[hx];show wpAny _ _ (setField (.ref I) 2 Value.none >>= _) _ _ _;refine Ia (O7 hoi hdi (by simp) ?_);refine Ia ?_;simp only[newExc,newTuple];refine Ia (Na ?_ (by size_fits));refine Ia (m:=firstArgMember _ _) (wpAny_of_eq (a:=Value.none) (by first | rfl | (simp only[firstArgMember];rfl)) ?_);refine Na ?_ (by size_fits);simp only[raiseNew];refine Ia (wpAny_handled ?_);rw[show A.in1.handled=none from hh];refine Ia (Ic (wpAny_throw ?_));refine Ia (N8 (T:= "StopIteration") (b:=true) ⟨_,Iu _ rfl,rfl⟩ isSubtype_stop ?_);exact Ic (hQ _ (((Ot ..).extBut.push _).push _))
end
def QM:Slot "set_iterator" "__iter__" "set_iterator.__iter__" :=
 .of (owner:= "set_iterator") (n:= "__iter__") (by rw[typeLookup_type,builtinLookup_eq_fast];kernel_rfl) (by decide +kernel) (by decide +kernel) (by decide +kernel)
  (by first | exact .inl (by decide +kernel) | exact .inr (by decide +kernel)) (by rw[isSubtype_type];kernel_rfl)
def zac:entryFor table "set_iterator.__iter__" = some Builtin.«dict_keyiterator.__iter__» :=entryFor_alias (id' := "dict_keyiterator.__iter__") (by kernel_rfl) rfl (by decide +kernel) (by kernel_rfl)
def zaZ(a:Value):argsOk "set_iterator.__iter__" ⟨[a],[]⟩:=by unfold argsOk;kernel_rfl
section
variable {prog:Program}{w:World}{A:Around}{E:Value->SH->Prop}{s:SH}
def zon(hh:A.handled=none)(hne:S≠I)(hd:o.data = .set es ep t)(tok:TOk t ps)(hps:ps.map Prod.snd=es.toList.map Prod.fst)(hl:t.led=ldd w)(hp:t.plain=true):
  Walks prog w A I [I,S] [I] es.size (λi v=>∃ e,(zak w S ep es)[i]?=some e/\v=e.2) (λi h=>zd0 h I S (slW w t i) i es.size ep/\h.get? S=some o) where
 sub:=λb hb=>by rw[Ij]at hb;rw[hb];exact Ir
 frame:=λi h h' st hk=>by obtain⟨⟨oi,g,c,d⟩,g2⟩:=st;exact⟨⟨oi,hk I Ir oi g,c,d⟩,hk S (Im _ Ir) o g2⟩
 item:=λi s Q E hi st hQ=>by
  have hlt:i<(zak w S ep es).length:=by rw[(W0 w S ep es).length_eq,IQ];exact hi
  refine next_item st.1 st.2 hd tok hps hl hp (Ib hlt) λh' it sb=>?_;exact hQ _ h' s.toks ⟨_,Ib hlt,rfl⟩ ⟨it,(sb.2 S hne).trans st.2⟩ λb o hb e=>(sb.2 b λz=>hb (by rw[z];exact Ir)).trans e
 done:=λs Q E st hQ=>next_end hh st.1 st.2 hd tok hps hl hp λh' eb=>hQ h' s.toks λb o hb e=>eb b o (λz=>hb (by rw[z];exact Ir)) e
 self:=λi s Q E st hQ=>by refine wpAny_pyIter_slot st.1.typeIs QM (Nn QM st.1.typeIs zac ?_ (zaZ _));show wpAny _ _ (ret (.ref I)) _ _ s;exact Ic ⟨_,rfl, "set_iterator",_,st.1.typeIs,Y5.lookup,hQ⟩
def zjQ(hT:s.TypeIs (.ref S) "set")(h:Q false s):wpAny (model prog w) A (Builtin.List.listLengthHint (.ref S)) Q E s:=by
 unfold Builtin.List.listLengthHint;refine Ia (OV hT F.slot_set_len.lookup ?_);generalize hid:("set.__len__" : String)=id0
 wp_delta
 rw[show splitId id0=some ("set", "__len__")from by subst hid;decide +kernel];subst hid;refine Ia (N8 (b:=true) hT sub_set_self ?_);show wpAny _ _ (typeOf (.ref S) >>= _) _ _ _;refine Ia (Db hT ?_);exact Ic h
def zdE{L:List (Int×Value)}{acc:Array Value}{n:Nat}(hn:L.length=n)(h:ItemsOf (λi v=>∃ e,L[i]?=some e/\v=e.2) acc n):acc.toList=L.map Prod.snd:=by
 refine Dx λi=>?_;rw[NU,Ik];by_cases hi:i<n
 .have ha:i<acc.size:=by rw[h.1];exact hi
  obtain⟨e,e1,e2⟩:=h.2 i acc[i] (Ix ha);rw[Ix ha,e1,e2];rfl
 .rw[Df (by rw[h.1];omega),IU (by omega)];rfl
def zcG{Q:List Value->SH->Prop}(hh:A.handled=none)(T:TSt prog w s.heap S (ldd w) M)(hQ:∀(s' : SH)(M' : List (AD×List Int)),M'.Perm M->(∀ b o,s.heap.get? b=some o->s'.heap.get? b=some o)->s'.gens=s.gens->s'.drawn=s.drawn->s'.os=s.os->s.toks<=s'.toks->Q (M'.map λq=>.ref q.1) s'):
  wpAny (model prog w) A (collect (.ref S)) Q E s:=by
 obtain⟨o,es,ep,t,ps,ho,hex,hd,tok,hps,hM,hK,nd,hfull,hled,hpl⟩:=T;have hf:t.fits es.size=true:=by rw[← SOk.len hps];exact tok.fits
 have hmk:t.mask<=127:=by rcases tok.m with e | e | e <;> omega
 have hSl:S<s.heap.objs.size:=IN ho;have hSI:s.heap.objs.size≠S:=λe=>OI _ (e ▸ hSl);unfold collect;refine Ia (wpAny_runValue (Nu F.entry_proto_collect ?_));rw[NV F.plain_proto_collect _];show wpAny _ A.in1 (newList [] >>= λl=>again (.builtin "list.__iadd__" ⟨[l,.ref S],[]⟩)) _ _ s;refine Ia (Na ?_);refine Ic ⟨NW F.plain_list_iadd _,Nu F.entry_list_iadd ?_⟩;rw[NV F.plain_list_iadd _];have g1:=Ig {cls:=.type "list",data:=.seq ([]:List Value).toArray} ho;have gL:(s.heap.push {cls:=.type "list",data:=.seq ([]:List Value).toArray}).get? s.heap.objs.size=some {cls:=.type "list",data:=.seq ([]:List Value).toArray}:=Iu _ rfl;show wpAny _ A.in1 (Builtin.List.listExtendWith (.ref s.heap.objs.size) (.ref S) (.ref s.heap.objs.size)) _ _ _;unfold Builtin.List.listExtendWith;refine Ia (Db (T:= "set") ⟨o,g1,hex.1⟩ ?_);have h1:Builtin.List.listSameRef (.ref s.heap.objs.size) (.ref S)=false:=by simp[Builtin.List.listSameRef,hSI]
 rw[Iq (by rw[h1];decide)];refine Ia (zgD g1 hex hd hf hpl ?_);generalize hH:s.heap.push {cls:=.type "list",data:=.seq ([]:List Value).toArray}=H at g1 gL;have hHs:H.objs.size=s.heap.objs.size+1:=by rw[← hH,NH]
 have hH0:∀ b o,s.heap.get? b=some o->H.get? b=some o:=λb o e=>by rw[← hH];exact Ig _ e
 have g2:=Ig {cls:=.type "set_iterator",data:=sit S 0 0 es.size ep} g1;have gL2:=Ig {cls:=.type "set_iterator",data:=sit S 0 0 es.size ep} gL;have gI:(H.push {cls:=.type "set_iterator",data:=sit S 0 0 es.size ep}).get? H.objs.size=some {cls:=.type "set_iterator",data:=sit S 0 0 es.size ep}:=Iu _ rfl;refine Ia (I9 (zjQ ⟨o,g2,hex.1⟩ ?_));show wpAny _ A.in1 (rule "list.extend.makes-room" >>= λ_=>Builtin.List.listTouch (.ref s.heap.objs.size) >>= λ_=>
  again (.builtin "list.extend.loop" ⟨[.ref s.heap.objs.size,.ref H.objs.size,.ref s.heap.objs.size],[]⟩)) _ _ _
 refine Ia (Da (Ia ?_));show wpAny _ A.in1 (updateSeq s.heap.objs.size (·.push .none) >>= λ_=>updateSeq s.heap.objs.size (·.pop)) _ _ _;refine Ia (OW gL2 rfl ?_);have gL3:=NI (Obj.mapSeq (·.push Value.none)) gL2 rfl;refine OW gL3 rfl ?_;have gL4:=NI (Obj.mapSeq (·.pop)) gL3 rfl;have oth:∀ b o,b≠s.heap.objs.size->(H.push {cls:=.type "set_iterator",data:=sit S 0 0 es.size ep}).get? b=some o->(((H.push {cls:=.type "set_iterator",data:=sit S 0 0 es.size ep}).update s.heap.objs.size (Obj.mapSeq (·.push Value.none))).update s.heap.objs.size (Obj.mapSeq (·.pop))).get? b=some o:=λb o hb e=>(Nb _ _ (Ne.symm hb)).trans ((Nb _ _ (Ne.symm hb)).trans e)
 have nI:H.objs.size≠s.heap.objs.size:=by rw[hHs];exact Nat.succ_ne_self _
 have nS:S≠H.objs.size:=by rw[hHs];exact IX (NO hSl)
 have nf:s.heap.objs.size∉[H.objs.size,S]:=λz=>by
  rcases IE.mp z with z | z
  .exact nI z.symm
  .rw[Ij]at z;exact hSI z
 have hsl0:slW w t 0=0:=by unfold slW;split <;> rfl
 have hsz:es.size<=sizeLine:=by rw[sizeLine_eq];omega
 have W:=(zon (prog:=prog) (w:=w) (A:=A.in1) (I:=H.objs.size) (S:=S) hh nS hd tok hps hled hpl).toS;refine Ic ⟨NW F.plain_extend_loop _,codeAny_extend_loopS W hsz _ nf _ es.size 0 _ _ _ rfl (NN _) ⟨⟨_,oth _ _ nI gI,rfl,by rw[hsl0]⟩,oth _ _ (Ne.symm hSI) g2⟩ gL4 (ItemsOf.nil _) λs' acc' c' hm hS' hacc=>?_⟩;show wpAny _ A (load s.heap.objs.size >>= _) _ _ s';refine Ia (wpAny_load hS' ?_);have hit:=zdE (L:=zak w S ep es) (by rw[(W0 w S ep es).length_eq,IQ]) hacc;obtain⟨M',pm,e⟩:=Um (W0 w S ep es) M hM;refine Ic ?_;rw[hit,e,NQ];refine hQ s' M' pm (λb o hb=>?_) hm.gens hm.drawn hm.os hm.toks;have hbl:b<s.heap.objs.size:=IN hb;refine hm.heap b o (λz=>?_) (oth b o (IX hbl) (Ig _ (hH0 b o hb)));rcases IE.mp z with z | z
 .exact absurd z (IX hbl)
 .rw[Ij,hHs]at z;exact absurd z (IX (NO hbl))
def zbJ{l:AD}{items:Array Value}{its:Nat->AD×List Int}{Q:Value->SH->Prop}(hh:A.handled=none)(hu:∀ A' : Around,A'.units<=A.units+8->A'.units<cLine)(hl:s.heap.IsList l items)(hits:∀(i:Nat)(v:Value),items[i]?=some v->v = .ref (its i).1)(hT:∀ i,i<items.size->Qf prog w s.heap (its i).2 (its i).1)(few:Few items.size its)(h:∀(h' : Heap)(tk:Nat)(M:List (AD×List Int)),TSt prog w h' s.heap.objs.size (ldd w) M->Met its items.size M->(∀ b o,b<s.heap.objs.size->s.heap.get? b=some o->h'.get? b=some o)->s.toks<=tk->Q (.ref s.heap.objs.size) {s with heap:=h',toks:=tk}):
  wpAny (model prog w) A (call (.type "set") [.ref l]) Q E s:=by
 have ct:=F.called_set;obtain⟨c,tl,hmro⟩:=ct.mro;have c1:=ct.made;have c2:=ct.sub;have c3:=ct.notType;have c4:=ct.canCreate;have c5:=F.typeCall_set_1 (.ref l);refine wpAny_call (codeAny_of_tree ?_);show wpAny _ _ (callAny (.type "set") _) _ _ _;refine Ic ⟨Code.quiet_builtin _ (by decide +kernel),Nu F.entry_type_call ?_⟩;rw[Around.under_plain (weight_type_call_type "set" [.ref l] []) rfl]
 repeat (any_goals (first | assumption | wp_step))
 refine OC (zfO (.ref l) (E:=E) (Q:=λv s1=>v = .ref s.heap.objs.size/\s1={s with heap:=s.heap.push (zbb w)}) ⟨rfl,rfl⟩) λr s1 hr=>?_
 match r,hr with
 |.ok (.ret v),hr=>
  obtain⟨rfl,rfl⟩:=hr;have gS:(s.heap.push (zbb w)).get? s.heap.objs.size=some (zbb w):=Iu _ rfl;have tS:TypeIs {s with heap:=s.heap.push (zbb w)} (.ref s.heap.objs.size) "set" := ⟨_,gS,rfl⟩
  have i1:=ct.init.lookup;have i2:=ct.init.bind (.ref s.heap.objs.size)
  repeat (any_goals (first | assumption | wp_step))
  refine OC (codeAny_call_builtin (R:=wants (λv s2=>v = .none/\∃ h' tk M,s2={s with heap:=h',toks:=tk}/\TSt prog w h' s.heap.objs.size (ldd w) M/\Met its items.size M/\(∀ b o,b<s.heap.objs.size->s.heap.get? b=some o->h'.get? b=some o)/\s.toks<=tk) E) ct.init.plain F.entry_set_init (check_set_init_1 tS ?_)) λr2 s2 hr2=>?_
  .have hl1:=hl.push (zbb w);obtain⟨⟨ocls,odict,odata,oslots⟩,hol,hcl,nl,hdl⟩:=hl;simp only at hcl hdl;subst hcl;subst hdl;have hol':=Ig (zbb w) hol;have n1:=F.sub_list_set;have n2:=F.sub_list_frozenset;have n3:(Value.type "list" == Value.type "dict")=false:=by decide
   unfold Builtin.«set.__init__» noKeywords Builtin.Frozenset.updateFrom;generalize hPI:pyIter=PI
   wp_walk
   subst hPI;refine wpAny_pyIter_list hl1 ?_;refine Ia (wpAny_runValue ?_);have hlt:l<s.heap.objs.size:=IN hol;have hh3:A.in1.in1.in1.handled=none:=by simp[hh]
   have nI:l≠(s.heap.push (zbb w)).objs.size:=by rw[NH];exact IX (NO hlt)
   have nS:s.heap.objs.size∉[(s.heap.push (zbb w)).objs.size,l]:=by
    rw[NH];intro z;rcases IE.mp z with z | z
    .exact absurd z (IX (OB _))
    .rw[Ij]at z;exact absurd z (ne_of_gt hlt)
   have low:∀ i,i<items.size->(its i).1<s.heap.objs.size:=λi hi=>by obtain⟨o,_,_,ho,_⟩:=hT i hi;exact IN ho
   refine zmA ((Walks.list hh3 _ l nI items).toS) (hu _ (by simp <;> omega)) s.heap.objs.size (ldd w) nS its hits (λi hi z=>?_) few (items.size-0) 0 _ [] (by omega) (NN _) ⟨⟨_,Iu _ rfl,rfl,rfl⟩,hl1.push _⟩ (λm hm=>Qf.at (hT m hm) λo e=>Ig _ (Ig _ e)) ((TSt.new s.heap).at (λo e=>Ig _ e) λq hq=>(by cases hq)) (Met.zero its) λs' M mv T mt=>?_
   .have:=low i hi;rw[NH]at z;rcases IE.mp z with z | z
    .exact absurd z (IX this)
    .rw[Ij]at z;exact absurd z (IX (NO this))
   .obtain⟨h',g',d',tk',os'⟩:=s';have eg:g'=s.gens:=mv.gens;have ed:d'=s.drawn:=mv.drawn;have eo:os'=s.os:=mv.os;subst eg;subst ed;subst eo;show wpAny _ _ _ _ _ _;refine Ic ?_;show wpAny _ _ (ret Value.none) _ _ _;refine Ic ⟨rfl,h',tk',M,rfl,T,mt,λb o hb e=>?_,mv.toks⟩;refine mv.heap b o (λz=>?_) (Ig _ (Ig _ e));rw[NH]at z;rcases IE.mp z with z | z
    .exact absurd z (IX hb)
    .rw[Ij]at z;exact absurd z (IX (NO hb))
  .match r2,hr2 with
   |.ok (.ret v),hr2=>
    obtain⟨rfl,h',tk,M,rfl,T,mt,kp,ht⟩:=hr2
    repeat (any_goals (first | assumption | wp_step))
    exact h _ _ _ T mt kp ht
   |.error e,hr2=>exact hr2
 |.error e,hr=>exact hr
end
end zaE
namespace L2
open PySem PySem.Spec PyProof.Rows StbG zaE
section
variable {prog:Program}{w:World}{A:Around}{E:Value->SH->Prop}{s:SH}
def zgK{h:Heap}{a:AD}{x y:Int}(k:Qf prog w h [x,y] a):Ys h (.ref a) x y:=by
 obtain⟨o,items,n,ho,hc,hd,hi⟩:=k;obtain⟨l⟩:=items;cases hi with
 |cons h1 r=>
  cases r with
  |cons h2 r=>cases r;obtain⟨t,rfl⟩:=Value.isInt_shape h1;obtain⟨u,rfl⟩:=Value.isInt_shape h2;exact⟨a,o,t,u,n,rfl,ho,hc,hd⟩
def Ua{S:AD}{M:List (AD×List Int)}{Q:Value->SH->Prop}(hh:A.handled=none)(T:TSt prog w s.heap S (ldd w) M)(h2:∀ q∈M,∃ x y,q.2=[x,y]/\0<=y/\y<1000)(z64:M.length<64)(k:∀(s1:SH)(M' : List (AD×List Int))(st' : SortSt),M'.Perm M->(∀ b o,s.heap.get? b=some o->s1.heap.get? b=some o)->s1.gens=s.gens->s1.drawn=s.drawn->s1.os=s.os->s.toks<=s1.toks->
   (arrOf st').Perm (pz (M'.map λq=>.ref q.1))->Up (λp=>pN s.heap p.1) (λ_=>0) (arrOf st') (pz (M'.map λq=>.ref q.1)).size->
   Q (.ref s1.heap.objs.size) {s1 with heap:=sortedHeap (s1.heap.push (seqObj "list" (M'.map λq=>Value.ref q.1).toArray 0)) s1.heap.objs.size (M'.map λq=>.ref q.1) ((arrOf st').map (·.2))}):
  wpAny (model prog w) A (call (.builtin "sorted") [.ref S]) Q E s:=by
 have zl:(64:Nat)<=sizeLine:=by decide
 have hK:∀ q∈M,Qf prog w s.heap q.2 q.1:=by obtain⟨o,es,ep,t,ps,_,_,_,_,_,_,hK,_⟩:=T;exact hK
 refine Calls.call_function_entry kind_sorted plain_sorted entry_sorted (args_sorted1 _) (show wpAny _ _ (Builtin.«sorted» _) _ _ _ from ?_);unfold Builtin.«sorted»;refine Ia (m:=checkCount "sorted" 1 1 _) (Ic (Ia (zcG hh T λs1 M' pm kp eg ed eo tk=>?_)));have hl:(M'.map λq=>Value.ref q.1).length<64:=by rw[Ie,pm.length_eq];exact z64
 refine Ia (wpAny_newList ?_ (by omega));have oL:(s1.heap.push (seqObj "list" (M'.map λq=>Value.ref q.1).toArray 0)).get? s1.heap.objs.size=some (seqObj "list" (M'.map λq=>Value.ref q.1).toArray 0):=Iu _ rfl;refine Ia (I9 (Nn slot_list_sort ⟨_,oL,rfl⟩ entry_list_sort (Ub (ρ:=λp=>pN s.heap p.1) (s:={s1 with heap:=_}) oL (λv hv=>?_) hl λst' a1 a2=>⟨_,rfl,Ic ⟨_,rfl,k s1 M' st' pm kp eg ed eo tk a1 a2⟩⟩) (args_list_sort _)));obtain⟨q,hq,rfl⟩:=IB.mp hv;have hq:=pm.mem_iff.mp hq;obtain⟨x,y,e,y0,y1⟩:=h2 q hq;have pa:=zgK (e ▸ hK q hq);exact⟨x,y,pa.keep λb o e=>Ig _ (kp b o e),y0,y1,λ_=>zhM pa⟩
end
open PySem PySem.Spec PyProof.Rows
def znE{P:Program}{w:World}{k:Key}{u:Value}(r:RelV (kV k) u):(Y6 P w).is k u=true:=by
 cases k with
 |inl i=>obtain⟨t,e⟩:=(show ∃ t,u=Value.int i t from r);subst e;exact zcf P w i t
 |inr x=>obtain⟨t,e⟩:=(show ∃ t,u=Value.str x t from r);subst e;exact zco P w x t
theorem zb5{P:Program}{w:World}:∀{ks:List Key}{us:List Value},Vals (ks.map kV) us->ItemsAre (Y6 P w) ks us
 |[],_,r=>by rw[map_nil]at r;cases r;exact .nil
 |k::ks,_,r=>by
  rw[Nt]at r;cases r with
  |cons h t=>exact .cons (znE h) (zb5 t)
section
variable {X:Cx}{aa:List (AD×Obj)}{σ:St}{H:Hp}{s:SH}{a:AD}{y v:V}{u r:Value}{o:Option V}{A:Around}{E:Value->SH->Prop}
def Inv.big(I:Inv X aa σ H s):sysModules<s.heap.objs.size:=by have h:mainGlobals<s.heap.objs.size:=(I.mod.glob.keeps I.bk).lt;exact Nat.lt_trans (by decide) h
def zgf{h' : Heap}{t' : Nat}{ob:HO}(I:Inv X aa σ H s)(mu:Mut (H a))(hs:SameBut a s.heap h')(he:∃ q,h'.get? a=some q)(new:Yu X.prog X.w (upd H a ob) h' a ob):
  Inv X aa σ (upd H a ob) {s with heap:=h',toks:=t'}:=
 I.write (x:=a) (e:=a) mu (.inl rfl) (λb q hb z=>(hs.2 b hb).trans z) he new
end
structure M2(X:Cx)(o:Expr)(m:Str)(apos:Pos)(e f:Expr)(cpos:Pos):Prop where
 base:attributeBase o m X.env (eval o X.env)=eval o X.env
 few:((backTo cpos (starEach [e,f] X.env)).all (λx=>!x.1)&&(backToKw cpos (keywordEach [] X.env)).all (λx=>x.1.isSome)
  && decide (([e,f]:List Expr).length+([]:List Keyword).length+(if([]:List Keyword).isEmpty then 0 else 1)<30))=true
 line:(apos.endLine==cpos.line)=true
 trees:backTo cpos (starEach [e,f] X.env)=[(false,eval e X.env),(false,eval f X.env)]
section
variable {X:Cx}
def U7:bootBuiltins "sorted" = some (.builtin "sorted"):=by decide +kernel
end
open PySem PySem.Spec PyProof.Rows StbG
section
variable {X:Cx}{aa:List (AD×Obj)}{σ:St}{H H' G:Hp}{s:SH}{h' : Heap}
def zdp{K:FG}{h:Heap}{its:List Value}{Z:List (Value×V×(Int×Int))}(z1:Z.map (·.1)=its)(z3:∀ z∈Z,RelV z.2.1 z.1/\Dat K G z.2.1 (dPr z.2.2)/\Ys h z.1 z.2.2.1 z.2.2.2){st' : SortSt}(a1:(arrOf st').Perm (pz its))(a2:Up (λp=>pN h p.1) (λ_=>0) (arrOf st') (pz its).size):
  ∃ Z' : List (Value×V×(Int×Int)),Z'.Perm Z/\Vals (Z'.map (·.2.1)) ((arrOf st').map (·.2)).toList/\ZX K G (Z'.map (·.2.1)) ((Z'.map (·.2.2)).map dPr)/\(Z'.map (·.2.2)).Pairwise (λa b=>a.1*1000+a.2<=b.1*1000+b.2):=by
 have mem:∀ q∈(arrOf st').toList,q.1∈its/\q.2=q.1:=λq hq=>zfw ((Ou.mp a1).mem_iff.mp hq);have hperm:((arrOf st').toList.map (·.2)).Perm its:=by
  have:=(Ou.mp a1).map (·.2);have e:(pz its).toList.map (·.2)=its:=by
   have:(pz its).toList=its.zip its:=by simp[pz]
   rw[this,← List.unzip_snd,List.unzip_zip (by rfl)]
  rw[e]at this;exact this
 obtain⟨Z',p1,e1⟩:=zbL hperm z1;have zl:Z'.length=(arrOf st').size:=by have:=ND List.length e1;simpa using this
 have hZ:∀ z∈Z',RelV z.2.1 z.1/\Dat K G z.2.1 (dPr z.2.2)/\Ys h z.1 z.2.2.1 z.2.2.2:=λz hz=>z3 z (p1.mem_iff.mp hz);have hvals:∀ L:List (Value×V×(Int×Int)),(∀ z∈L,RelV z.2.1 z.1/\Dat K G z.2.1 (dPr z.2.2)/\Ys h z.1 z.2.2.1 z.2.2.2)->Vals (L.map (·.2.1)) (L.map (·.1))/\ZX K G (L.map (·.2.1)) ((L.map (·.2.2)).map dPr):=by
  intro L
  induction L with
  |nil=>intro _;exact⟨.nil,Yi⟩
  |cons z L ih=>intro h;obtain⟨i1,i2⟩:=ih λy hy=>h y (Im _ hy);obtain⟨h1,h2,_⟩:=h z Ir;exact⟨.cons h1 i1,Z4 h2 i2⟩
 obtain⟨hV,hD⟩:=hvals Z' hZ;rw[e1]at hV;have eo:((arrOf st').map (·.2)).toList=(arrOf st').toList.map (·.2):=by simp
 refine⟨Z',p1,by rw[eo];exact hV,hD,?_⟩;rw[N9];intro i j hi hj hij;have hj' : j<Z'.length:=by simpa using hj
 have at_:∀ m (hm:m<Z'.length),R (λp=>pN h p.1) (arrOf st') m=Z'[m].2.2.1*1000+Z'[m].2.2.2:=λm hm=>by
  have hm' : m<(arrOf st').size:=by omega
  have ea:(arrOf st')[m]?=some (arrOf st')[m]:=Ix hm';have q1:Z'[m].1=(arrOf st')[m].2:=by
   have h1:(Z'.map (·.1))[m]?=some Z'[m].1:=by rw[Ik,Ib hm];rfl
   rw[e1,Ik]at h1;have h2:(arrOf st').toList[m]?=some (arrOf st')[m]:=by simp[hm']
   rw[h2]at h1;exact(IA h1).symm
  have q2:=(mem (arrOf st')[m] (by simp)).2;unfold R;rw[ea];show pN h (arrOf st')[m].1=_;rw[← q2,← q1];exact zhM (hZ _ (Np hm)).2.2
 have:=a2 i j hij (by rw[← a1.size_eq];omega);rw[at_ i (by omega),at_ j hj']at this;simp only[List.getElem_map];omega
end
noncomputable def adr:Value->AD
 |.ref a=>a
 |_=>0
def J9{prog:Program}{w:World}{h:Heap}{v:Value}{x y:Int}(p:Ys h v x y):Qf prog w h [x,y] (adr v)/\v = .ref (adr v):=by obtain⟨a,o,t,u,n,rfl,ho,hc,hd⟩:=p;exact⟨⟨o,_,n,ho,hc,hd,.cons (by simp[intKind,Value.isInt]) (.cons (by simp[intKind,Value.isInt]) .nil)⟩,rfl⟩
theorem Uj{α β:Type}{R:α->β->Prop}:∀{M:List α},(∀ q∈M,∃ z,R q z)->∃ Z:List β,Z.length=M.length/\∀(i:Nat) q z,M[i]?=some q->Z[i]?=some z->R q z
 |[],_=>⟨[],rfl,λi q z h=>by simp at h⟩
 |q::M,h=>by
  obtain⟨z,hz⟩:=h q Ir;obtain⟨Z,e,hZ⟩:=Uj (M:=M) λq' hq' => h q' (Im _ hq');refine⟨z::Z,by rw[IL,IL,e],λi q' z' h1 h2=>?_⟩;cases i with
  |zero=>cases h1;cases h2;exact hz
  |succ i=>exact hZ i q' z' h1 h2
def J2{α β γ:Type}{f:α->γ}{g:β->γ}{Z:List α}{M:List β}(hl:Z.length=M.length)(h:∀(i:Nat) q z,M[i]?=some q->Z[i]?=some z->f z=g q):Z.map f=M.map g:=by
 refine Dx λi=>?_;rw[Ik,Ik];by_cases hi:i<Z.length
 .rw[Ib hi,Ib (show i<M.length by omega)];exact ND some (h i _ _ (Ib (by omega)) (Ib hi))
 .rw[IU (by omega),IU (show M.length<=i by omega)];rfl
def zgL{α β:Type}{f:α->β}{l:List α}(h:(l.map f).Nodup):l.Nodup:=by unfold List.Nodup at h ⊢;rw[OY]at h;exact h.imp λhne e=>hne (by rw[e])
abbrev Qz(q:Int×Int):List Int:=[q.1,q.2]
def VR{a b:Int×Int}(h:Qz a=Qz b):a=b:=by obtain⟨a1,a2⟩:=a;obtain⟨b1,b2⟩:=b;injection h with h1 h2;injection h2 with h2 _;rw[show a1=b1 from h1,show a2=b2 from h2]
section
variable {X:Cx}{aa:List (AD×Obj)}{σ:St}{H G:Hp}{s:SH}
def zf2{p:AD}{vs:List V}{ps:List (Int×Int)}{Q:VK}(hc:X.calm=true)(hu:X.A.units+8<cLine)(I:Inv X aa σ H s)(sg:Zr G H)(hq:SqL X.K H p vs)(hd:ZX X.K G vs (ps.map dPr))(few:∀ L:List (Int×Int),L.Nodup->(∀ q∈L,q∈ps)->L.length<64)(hps:∀ q∈ps,0<=q.2/\q.2<1000)(k:∀(l:AD)(us:List V)(qs:List (Int×Int)),H l=none->qs.Nodup->(∀ q,q∈qs↔q∈ps)->ZX X.K G us (qs.map dPr)->qs.Pairwise (λa b=>a.1*1000+a.2<=b.1*1000+b.2)->Q (.ref l) (upd H l (.lst us))):
  wpAny (model X.prog X.w) X.A (call (.type "set") [.ref p]) (λv s1=>wpAny (model X.prog X.w) X.A (call (.builtin "sorted") [v]) (EP X aa σ Q) X.xe s1) X.xe s:=by
 obtain⟨its,r',pl,hz⟩:=I.list hq;obtain⟨Z,z1,z2,z3⟩:=triples I sg r' hd;have hZl:Z.length=its.length:=by rw[← z1,Ie]
 let f:Nat->AD×List Int:=λi=>match Z[i]? with | some z=>(adr z.1,Qz z.2.2) | none=>(0,[])
 have fz:∀{i z},Z[i]?=some z->f i=(adr z.1,Qz z.2.2):=λ{i z} e=>by show(match Z[i]? with | some z=>_ | none=>_)=_;rw[e]
 have fex:∀ i,i<its.toArray.size->∃ z,Z[i]?=some z/\z∈Z:=λi hi=>by
  have hi:i<Z.length:=by rw[hZl];simpa using hi
  exact⟨Z[i],Ib hi,Np hi⟩
 have keyps:∀{m:Nat}{kk:List Int},m<its.toArray.size->(f m).2=kk->∃ q∈ps,kk=Qz q:=λ{m kk} hm e=>by obtain⟨z,e1,e2⟩:=fex m hm;refine⟨z.2.2,by rw[← z2];exact Ds e2,?_⟩;rw[← e,fz e1]
 have psm:∀ q∈ps,∃ m,m<its.toArray.size/\(f m).2=Qz q:=λq hq=>by rw[← z2]at hq;obtain⟨z,hz,rfl⟩:=IB.mp hq;obtain⟨i,hi,e⟩:=NA hz;exact⟨i,by simpa [← hZl]using hi,by rw[fz (by rw[Ib hi,e])]⟩
 have few' : ∀ L:List (List Int),L.Nodup->(∀ kk∈L,∃ m,m<its.toArray.size/\(f m).2=kk)->L.length<64:=λL nd h=>by
  obtain⟨P,e,hP⟩:=Uj (R:=λ(kk:List Int)(q:Int×Int)=>q∈ps/\kk=Qz q) (M:=L) λkk hk=>by obtain⟨m,hm,e⟩:=h kk hk;obtain⟨q,hq,e⟩:=keyps hm e;exact⟨q,hq,e⟩
  have em:P.map Qz=L.map id:=J2 e λi q z h1 h2=>(hP i q z h1 h2).2.symm;rw[map_id]at em;rw[← e];refine few P (zgL (f:=Qz) (by rw[em];exact nd)) λq hq=>?_;obtain⟨i,hi,e3⟩:=NA hq;exact(hP i (L[i]'(by omega)) q (Ib (by omega)) (by rw[Ib hi,e3])).1
 refine zbJ (its:=f) (I.ok.hd hc) (λA' hA=>by omega) pl.isList (λi v hv=>?_) (λi hi=>?_) (λL nd h=>Op (few' L nd h)) λh1 tk1 M T mt kp ht=>?_
 .have hi:i<its.toArray.size:=(OR.mp hv).1;obtain⟨z,e1,e2⟩:=fex i hi;have ev:its[i]?=some v:=by simpa using hv
  rw[← z1,Ik,e1]at ev;have ev:z.1=v:=IA ev;rw[fz e1,← ev];exact(J9 (prog:=X.prog) (w:=X.w) (z3 z e2).2.2).2
 .obtain⟨z,e1,e2⟩:=fex i hi;rw[fz e1];exact(J9 (z3 z e2).2.2).1
 have ndM:(M.map Prod.snd).Nodup:=by obtain⟨_,_,_,_,_,_,_,_,_,_,_,_,nd,_⟩:=T;exact nd
 have hMl:M.length<64:=by
  have:=few' (M.map Prod.snd) ndM λkk hk=>(mt.1 kk).mp hk
  rwa [Ie]at this
 refine Ua (s:={s with heap:=h1,toks:=tk1}) (I.ok.hd hc) T (λq hq=>?_) hMl λs2 M' st' pm kp2 eg ed eo ht2 a1 a2=>?_
 .obtain⟨m,hm,e⟩:=mt.2 q hq;obtain⟨q',hq',e'⟩:=keyps hm rfl;exact⟨q'.1,q'.2,by rw[e,e'],hps q' hq'⟩
 have old:∀ b o,s.heap.get? b=some o->h1.get? b=some o:=λb o e=>kp b o (IN e) e;obtain⟨Z1,zl1,hZ1⟩:=Uj (R:=λ(q:AD×List Int)(z:Value×V×(Int×Int))=>z∈Z/\z.1 = .ref q.1/\Qz z.2.2=q.2) (M:=M') λq hq=>by
  obtain⟨m,hm,e⟩:=mt.2 q (pm.mem_iff.mp hq);obtain⟨z,e1,e2⟩:=fex m hm;rw[fz e1]at e;refine⟨z,e2,?_,?_⟩
  .rw[e];exact(J9 (prog:=X.prog) (w:=X.w) (z3 z e2).2.2).2
  .rw[e]
 have zz1:Z1.map (·.1)=M'.map λq=>Value.ref q.1:=J2 zl1 λi q z h1 h2=>(hZ1 i q z h1 h2).2.1;have zz2:Z1.map (λz=>Qz z.2.2)=M'.map Prod.snd:=J2 zl1 λi q z h1 h2=>(hZ1 i q z h1 h2).2.2;have zz3:∀ z∈Z1,RelV z.2.1 z.1/\Dat X.K G z.2.1 (dPr z.2.2)/\Ys h1 z.1 z.2.2.1 z.2.2.2:=λz hz' => by obtain⟨i,hi,e⟩:=NA hz';obtain⟨b1,b2,b3⟩:=z3 z (hZ1 i (M'[i]'(by omega)) z (Ib (by omega)) (by rw[Ib hi,e])).1;exact⟨b1,b2,b3.keep old⟩
 obtain⟨Z',p1,hV,hD,hpw⟩:=zdp zz1 zz3 a1 a2;have nd1:(Z1.map (·.2.2)).Nodup:=by refine zgL (f:=Qz) ?_;rw[NQ];show(Z1.map λz=>Qz z.2.2).Nodup;rw[zz2];exact((pm.map Prod.snd).nodup_iff).mpr ndM
 have hmem:∀ q,q∈Z'.map (·.2.2)↔q∈ps:=λq=>by
  rw[(p1.map (·.2.2)).mem_iff];constructor
  .intro h;obtain⟨z,hz',rfl⟩:=IB.mp h;have:Qz z.2.2∈M'.map Prod.snd:=by rw[← zz2];exact IB.mpr ⟨z,hz',rfl⟩
   obtain⟨m,hm,e⟩:=(mt.1 _).mp (((pm.map Prod.snd).mem_iff).mp this);obtain⟨q',hq',e'⟩:=keyps hm e;rw[VR e'];exact hq'
  .intro h;have:Qz q∈Z1.map (λz=>Qz z.2.2):=by rw[zz2,(pm.map Prod.snd).mem_iff];exact(mt.1 _).mpr (psm q h)
   obtain⟨z,hz',e⟩:=IB.mp this;exact IB.mpr ⟨z,hz',VR e⟩
 obtain⟨h2,g2,d2,tk2,os2⟩:=s2;have eg:g2=s.gens:=eg;have ed:d2=s.drawn:=ed;have eo:os2=s.os:=eo;subst eg ed eo;have big:s.heap.objs.size<=h2.objs.size:=by obtain⟨oS,_,_,_,_,gS,_⟩:=T;exact Op (IN (kp2 _ _ gS))
 obtain⟨c,hcc⟩:=sortedHeap_at (h:=h2.push (seqObj "list" (M'.map λq=>Value.ref q.1).toArray 0)) (a:=h2.objs.size) (vs:=M'.map λq=>Value.ref q.1) (out:=(arrOf st').map (·.2)) (n:=0) (Iu _ rfl);have zlen:(Z'.map (·.2.1)).length<=sizeLine:=by
  have:(64:Nat)<=sizeLine:=by decide
  rw[Ie,p1.length_eq,zl1,pm.length_eq];omega
 refine⟨.ref h2.objs.size,_,I.laid (t':=tk2) (λb o e=>?_) big (show Yu X.prog X.w _ (sortedHeap (h2.push (seqObj "list" (M'.map λq=>Value.ref q.1).toArray 0)) h2.objs.size (M'.map λq=>Value.ref q.1) ((arrOf st').map (·.2))) _ (.lst (Z'.map (·.2.1)))from⟨zlen,((arrOf st').map (·.2)).toList,c,hV,hcc⟩),rfl,k _ _ (Z'.map (·.2.2)) (I.ab.fresh big) (((p1.map (·.2.2)).nodup_iff).mpr nd1) hmem hD hpw⟩;have e2:=kp2 b o (old b o e);have lt:=IN e2;have lt:b<h2.objs.size:=lt;rw[sortedHeap_old (IX lt) (by rw[size_push'];exact NO lt)];exact Ig _ e2
end
def boot_set:bootBuiltins "set" = some (.type "set"):=by decide +kernel
section
variable {X:Cx}{aa:List (AD×Obj)}{σ:St}{H G:Hp}{s:SH}
def zeG(K:FG):List V->Hp->VK->Prop:=λxs H Q=>∃(G:Hp)(p:AD)(vs:List V)(ps:List (Int×Int)),xs=[.ref p]/\Zr G H/\SqL K H p vs/\ZX K G vs (ps.map dPr)/\(∀ L:List (Int×Int),L.Nodup->(∀ q∈L,q∈ps)->L.length<64)/\(∀ q∈ps,0<=q.2/\q.2<1000)/\
 ∀(l:AD)(us:List V)(qs:List (Int×Int)),H l=none->qs.Nodup->(∀ q,q∈qs↔q∈ps)->ZX K G us (qs.map dPr)->qs.Pairwise (λa b=>a.1*1000+a.2<=b.1*1000+b.2)->Q (.ref l) (upd H l (.lst us))
def zcr{K:FG}(eK:X.K=K)(hc:X.calm=true)(hu:X.A.units+8<cLine)(hg:Gl X "sorted")(hm:X.mg "sorted" = none)(hg2:Gl X "set")(hm2:X.mg "set" = none){e:Expr}{t:TA}{p1 p2 q1 q2:Pos}(ha:PA X [e] t)(he1:starEach [.Call (.Name "set" p2) [e] [] q2] X.env=[(false,eval (.Call (.Name "set" p2) [e] [] q2) X.env)]:=by rfl)(he2:starEach [e] X.env=(false,eval e X.env)::starEach [] X.env:=by rfl):
  PE X (.Call (.Name "sorted" p1) [.Call (.Name "set" p2) [e] [] q2] [] q1) (tCB (zeG K) t):=by
 subst eK;intro aa s σ H Q I h;refine Nr (Wo I hg hm U7 (PyProof.Rows.callWith_builtin1 ?_ he1 rfl));rw[he1];show wpAny _ _ (spliced [(false,eval (.Call (.Name "set" p2) [e] [] q2) X.env)]) _ _ s;refine Dw (Nr (Wo I hg2 hm2 boot_set (Nm (thn (ha q2 aa s σ H _ I h) λus s1 ⟨vs,H1,I1,r1,z1⟩=>?_) he2 rfl)));obtain⟨G,p,vs',ps,rfl,sg,hq,hd,few,hps,k⟩:=z1;obtain⟨u,rfl,rx⟩:=vals1 r1;cases rx;exact thn (zf2 (Q:=Q) hc hu I1 sg hq hd few hps k) λv s2 z=>spliced_nil z
def zjj{K:FG}{t:TA}{ps qs:List (Int×Int)}(h:EvA K t σ G [.list (ps.map dPr)])(few:∀ L:List (Int×Int),L.Nodup->(∀ q∈L,q∈ps)->L.length<64)(hps:∀ q∈ps,0<=q.2/\q.2<1000)(hq:∀ rs:List (Int×Int),rs.Nodup->(∀ q,q∈rs↔q∈ps)->rs.Pairwise (λa b=>a.1*1000+a.2<=b.1*1000+b.2)->rs=qs):Ev K (tCB (zeG K) t) σ G (.list (qs.map dPr)):=
 za6 h λG1 H xs Q s1 s2 hx k=>by obtain⟨v,r,rfl,hv,hx⟩:=hx.cons;rw[hx.nil];obtain⟨p,ys,rfl,hp,hys⟩:=hv.lst;refine⟨G1,p,ys,ps,rfl,s2,SqL.of (s2 _ _ hp),hys,few,hps,λl us rs hl nd hmem hd hs=>?_⟩;have e:=hq rs nd hmem hs;subst e;have g:=Yh (o:=.lst us) s2 hl;exact k _ _ _ g (Y8 Zi (hd.same g.gg))
end
end L2
namespace Lw
open PySem L2
def zhE:bootBuiltins "isinstance" = some (.builtin "isinstance"):=by decide +kernel
def zcv:bootBuiltins "tuple" = some (.type "tuple"):=by decide +kernel
def zkM:bootBuiltins "bool" = some (.type "bool"):=by decide +kernel
def znz:bootBuiltins "int" = some (.type "int"):=by decide +kernel
def zmE:bootBuiltins "max" = some (.builtin "max"):=by decide +kernel
def znM:bootBuiltins "sum" = some (.builtin "sum"):=by decide +kernel
def zn8:bootBuiltins "all" = some (.builtin "all"):=by decide +kernel
def w0{i:Int}(h:i.natAbs<10^100):i.natAbs<2^4000:=IP h (by decide +kernel)
def mw{i j:Int}(h:i.natAbs<10^100)(h' : j.natAbs<10^100):zgU i j:=⟨w0 h,w0 h'⟩
def X6{H:Hp}{p:AD}{o:HO}(hp:H p=none):Zr H (upd H p o):=λb u e=>by rw[Zk (ZC e hp)];exact e
end Lw
namespace L2
open PySem PySem.Spec PyProof.Rows Lw
variable {ds:List PD}{i k:Nat}{d:PD}{t:TA}{p f:AD}{xs:List V}{X:XK}{te:TE}{c:Bool}{x qual:Str}{js:List Nat}{tt:TT}{α:Type}{wi:TI}{N ps:List Str}{st:Stmt}{fd:FuncData}
structure Tg where
 ok:AD->List AD->Hp->Hp->Prop
 st:∀{p:AD}{fp:List AD}{G H G' H' : Hp},ok p fp G H->Zr G G' -> (∀ a∈p::fp,H' a=H a)->ok p fp G' H'
 live:∀{p:AD}{fp:List AD}{G H:Hp},ok p fp G H->∀ a∈p::fp,∃ o,H a=some o
inductive PV where
 |un
 |dat (d:PD)
 |own (ds:List PD)
 |lnt (p:AD) (ds:List PD)
 |scr (ns:List Int)
 |val (x:V)
 |thg (T:Tg)
noncomputable def PV.rd:PV->Option (List PD)
 |.own ds=>some ds
 |.lnt _ ds=>some ds
 |_=>none
noncomputable def PV.mut:PV->Bool
 |.un=>false
 |.dat _=>false
 |.scr _=>false
 |.val _=>false
 |_=>true
def PV.zlB{v:PV}(h:v.rd=some ds):v.mut=true:=by cases v <;> first | rfl | cases h
def Sl(K:FG)(G H:Hp)(o:Option (Option V)):PV->List AD->Prop
 |.un,F=>F=[]
 |.dat d,F=>F=[]/\∃ x,o=some (some x)/\Dat K G x d
 |.own ds,F=>∃ p xs,F=[p]/\o=some (some (.ref p))/\H p=some (.lst xs)/\ZX K G xs ds
 |.lnt p ds,F=>∃ xs,F=[p]/\o=some (some (.ref p))/\H p=some (.lst xs)/\ZX K G xs ds
 |.scr ns,F=>F=[]/\∃ a,o=some (some (.ref a))/\SqL K G a (ns.map V.int)
 |.val x,F=>F=[]/\o=some (some x)
 |.thg T,F=>∃ p fp,F=p::fp/\o=some (some (.ref p))/\T.ok p fp G H
theorem Sl.rd{K:FG}{G H:Hp}{o:Option (Option V)}{v:PV}{F:List AD}(s:Sl K G H o v F)(h:v.rd=some ds):∃ p xs,F=[p]/\o=some (some (.ref p))/\H p=some (.lst xs)/\ZX K G xs ds:=by
 cases v with
 |own es=>cases h;exact s
 |lnt p es=>cases h;exact⟨p,s⟩
 |_=>cases h
structure Gw(E:AD->Prop)(G0 H0 G H:Hp):Prop where
 gg:Zr G0 G
 gh:Zr G H
 kp:∀ b o,¬ E b->H0 b=some o->H b=some o
 al:∀ b,H b=none->H0 b=none
 fr:∀ b o,G b=some o->G0 b=some o\/H0 b=none
structure Rl(K:FG)(B:Hp)(E:AD->Prop)(G0 H0 G H:Hp)(σ:St)(ρ:List PV)(F:Nat->List AD):Prop where
 g:Gw E G0 H0 G H
 bb:Zr B G
 ls:σ.length=ρ.length
 sl:∀ i v,ρ[i]?=some v->Sl K G H σ[i]? v (F i)
 fr:∀ i a,a∈F i->G a=none/\(∃ o,H a=some o)/\(E a\/H0 a=none)
 dj:∀ i j a,a∈F i->a∈F j->i=j
 ow:∀ i ds a,ρ[i]?=some (.own ds)->a∈F i->H0 a=none
structure Nw(G H H0:Hp)(F:Nat->List AD)(Fv:List AD):Prop where
 fr:∀ a∈Fv,G a=none/\(∃ o,H a=some o)/\H0 a=none
 dj:∀ a∈Fv,∀ j,a∉F j
section
variable {K:FG}{B:Hp}{E:AD->Prop}{G0 H0 G H G' H' : Hp}{σ:St}{ρ:List PV}{F:Nat->List AD}
theorem Gw.refl(s:Zr G H):Gw E G H G H:=⟨Zr.refl _,s,λ_ _ _ h=>h,λ_ h=>h,λ_ _ h=>.inl h⟩
def Gw.grow(g:Gw E G0 H0 G H)(k:YW G H G' H'):Gw E G0 H0 G' H' :=⟨g.gg.trans k.gg,k.gh,λb o n h=>k.hh b o (g.kp b o n h),λb h=>g.al b (k.hh.free h),λb o h=>(k.fr b o h).elim (g.fr b o) λz=>.inr (g.al b z)⟩
def Gw.zaB(g:Gw (λ_=>False) G0 H0 G H):YW G0 H0 G H:=⟨g.gg,g.gh,λb o h=>g.kp b o (λz=>z) h,g.fr⟩
def Sl.grow{o:Option (Option V)}{v:PV}{L:List AD}(s:Sl K G H o v L)(gg:Zr G G')(hh:∀ a∈L,H' a=H a):Sl K G' H' o v L:=by
 cases v with
 |un=>exact s
 |dat d=>obtain⟨e,x,hx,hd⟩:=s;exact⟨e,x,hx,hd.same gg⟩
 |own ds=>obtain⟨p,xs,e,hx,hp,hd⟩:=s;exact⟨p,xs,e,hx,by rw[hh p (by rw[e];simp)];exact hp,hd.same gg⟩
 |lnt p ds=>obtain⟨xs,e,hx,hp,hd⟩:=s;exact⟨xs,e,hx,by rw[hh p (by rw[e];simp)];exact hp,hd.same gg⟩
 |scr ns=>obtain⟨e,a,hx,hq⟩:=s;exact⟨e,a,hx,gg.seq hq⟩
 |val x=>exact s
 |thg T=>obtain⟨p,fp,e,hx,ht⟩:=s;exact⟨p,fp,e,hx,T.st ht gg (by rw[← e];exact hh)⟩
theorem Rl.grow(r:Rl K B E G0 H0 G H σ ρ F)(k:YW G H G' H'):Rl K B E G0 H0 G' H' σ ρ F:=by
 have hh:∀ i,∀ a∈F i,H' a=H a:=λi a ha=>by obtain⟨_,⟨o,ho⟩,_⟩:=r.fr i a ha;rw[ho];exact k.hh a o ho
 refine⟨r.g.grow k,r.bb.trans k.gg,r.ls,λi v h=>(r.sl i v h).grow k.gg (hh i),λi a ha=>?_,r.dj,r.ow⟩;obtain⟨h1,⟨o,h2⟩,h3⟩:=r.fr i a ha;exact⟨k.out h2 h1,⟨o,k.hh a o h2⟩,h3⟩
theorem Rl.set{v:V}{r:PV}{L:List AD}(R:Rl K B E G0 H0 G H σ ρ F)(s:Sl K G H (some (some v)) r L)(n:Nw G H H0 F L):Rl K B E G0 H0 G H (σ.set i (some v)) (ρ.set i r) (λk=>if k=i then L else F k):=by
 refine⟨R.g,R.bb,by rw[Ob,Ob,R.ls],λk u h=>?_,λk a ha=>?_,λk j a ha hb=>?_,λk ds a h ha=>?_⟩
 .by_cases e:k=i
  .subst e;rw[Iz rfl];have hk:k<ρ.length:=by have:=(Io.mp h).1;rw[Ob]at this;exact this
   rw[IW hk]at h;cases h;rw[IW (by rw[R.ls];exact hk)];exact s
  .rw[Iq e];rw[IS (Ne.symm e)]at h ⊢;exact R.sl k u h
 .by_cases e:k=i
  .rw[Iz e]at ha;obtain⟨h1,h2,h3⟩:=n.fr a ha;exact⟨h1,h2,.inr h3⟩
  .rw[Iq e]at ha;exact R.fr k a ha
 .by_cases e:k=i
  .by_cases e' : j=i
   .rw[e,e']
   .rw[Iz e]at ha;rw[Iq e']at hb;exact absurd hb (n.dj a ha j)
  .by_cases e' : j=i
   .rw[Iq e]at ha;rw[Iz e']at hb;exact absurd ha (n.dj a hb k)
   .rw[Iq e]at ha;rw[Iq e']at hb;exact R.dj k j a ha hb
 .by_cases e:k=i
  .rw[Iz e]at ha;exact(n.fr a ha).2.2
  .rw[Iq e]at ha;rw[IS (Ne.symm e)]at h;exact R.ow k ds a h ha
def Jv:Nw G H H0 F []:=⟨λ_ h=>(by cases h),λ_ h=>(by cases h)⟩
def Rl.zdH{v:V}(R:Rl K B E G0 H0 G H σ ρ F)(s:Dat K G v d):Rl K B E G0 H0 G H (σ.set i (some v)) (ρ.set i (.dat d)) (λk=>if k=i then[]else F k):=R.set ⟨rfl,v,rfl,s⟩ Jv
def Rx(K:FG)(B:Hp)(G:Hp)(σ:St)(ρ:List PV):Prop:=Zr B G/\(∀(i:Nat)(d:PD),ρ[i]?=some (PV.dat d)->∃ x,σ[i]?=some (some x)/\Dat K G x d)/\(∀(i:Nat)(v:PV)(ds:List PD),ρ[i]?=some v->v.rd=some ds->∃ x,σ[i]?=some (some x)/\Dat K G x (.list ds))/\(∀(i:Nat)(T:Tg),ρ[i]?=some (PV.thg T)->∃ p fp,σ[i]?=some (some (.ref p))/\T.ok p fp G G)/\(∀(i:Nat)(ns:List Int),ρ[i]?=some (PV.scr ns)->∃ a,σ[i]?=some (some (.ref a))/\SqL K G a (ns.map V.int))/\∀(i:Nat)(x:V),ρ[i]?=some (PV.val x)->σ[i]?=some (some x)
def Er(K:FG)(B:Hp)(t:TE)(ρ:List PV)(d:PD):Prop:=∀ G σ,Rx K B G σ ρ->Ev K t σ G d
def Et(K:FG)(B:Hp)(t:TT)(ρ:List PV)(b:Bool):Prop:=∀ G σ,Rx K B G σ ρ->EvT t σ G b
def Ea(K:FG)(B:Hp)(t:TA)(ρ:List PV)(ds:List PD):Prop:=∀ G σ,Rx K B G σ ρ->EvA K t σ G ds
noncomputable def PV.msk:PV->PV
 |.dat d=>.dat d
 |.scr ns=>.scr ns
 |.val x=>.val x
 |_=>.un
abbrev msk(ρ:List PV):List PV:=ρ.map PV.msk
def Rl.rx(R:Rl K B E G0 H0 G H σ ρ F):Rx K B G σ (msk ρ):=by
 refine⟨R.bb,?_,?_,?_,?_,?_⟩
 .intro i d h;rw[Ik]at h;cases e:ρ[i]? with
  |none=>rw[e]at h;cases h
  |some v=>
   rw[e]at h;cases v with
   |dat d' =>cases h;exact(R.sl i _ e).2
   |_=>cases h
 .intro i u ds h hu;rw[Ik]at h;cases e:ρ[i]? with
  |none=>rw[e]at h;cases h
  |some v=>rw[e]at h;cases v <;> cases h <;> cases hu
 .intro i T h;rw[Ik]at h;cases e:ρ[i]? with
  |none=>rw[e]at h;cases h
  |some v=>rw[e]at h;cases v <;> cases h
 .intro i ns h;rw[Ik]at h;cases e:ρ[i]? with
  |none=>rw[e]at h;cases h
  |some v=>
   rw[e]at h;cases v with
   |scr ms=>cases h;exact(R.sl i _ e).2
   |_=>cases h
 .intro i x h;rw[Ik]at h;cases e:ρ[i]? with
  |none=>rw[e]at h;cases h
  |some v=>
   rw[e]at h;cases v with
   |val y=>cases h;exact(R.sl i _ e).2
   |_=>cases h
open Classical in
noncomputable def gPl(ρ:List PV)(F:Nat->List AD)(G H:Hp):Hp:=λb=>if ∃ i v,ρ[i]?=some v/\v.mut=true/\b∈F i then H b else G b
def Rl.gpl(R:Rl K B E G0 H0 G H σ ρ F):Zr G (gPl ρ F G H)/\Zr (gPl ρ F G H) H/\Rx K B (gPl ρ F G H) σ ρ:=by
 have s1:Zr G (gPl ρ F G H):=λb o h=>by
  unfold gPl;split
  .exact R.g.gh b o h
  .exact h
 refine⟨s1,λb o h=>?_,R.bb.trans s1,λi d h=>?_,λi v ds h hv=>?_,λi T h=>?_,λi ns h=>?_,λi x h=>(R.sl i _ h).2⟩
 .unfold gPl at h;split at h
  .exact h
  .exact R.g.gh b o h
 .obtain⟨_,x,hx,hd⟩:=R.sl i _ h;exact⟨x,hx,hd.same s1⟩
 .obtain⟨p,xs,e,hx,hp,hd⟩:=(R.sl i _ h).rd hv;refine⟨_,hx,Y8 (xs:=xs) ?_ (hd.same s1)⟩;unfold gPl;rw[Iz ⟨i,v,h,PV.zlB hv,by rw[e];simp⟩];exact hp
 .obtain⟨p,fp,e,hx,ht⟩:=R.sl i _ h;refine⟨p,fp,hx,T.st ht s1 λa ha=>?_⟩;unfold gPl;rw[Iz ⟨i,_,h,rfl,by rw[e];exact ha⟩]
 .obtain⟨_,a,hx,hq⟩:=R.sl i _ h;exact⟨a,hx,s1.seq hq⟩
noncomputable def flat:PD->Bool
 |.none | .bool _ | .int _ | .str _=>true
 |_=>false
theorem Dat.flat{v:V}(h:Dat K G v d)(f:flat d=true)(G' : Hp):Dat K G' v d:=by
 cases d with
 |none=>rw[h.non];exact Qu
 |bool b=>rw[h.bl];exact Yr b
 |int i=>rw[h.int];exact Zy i
 |str x=>rw[h.str];exact zcD x
 |list _=>cases f
 |tuple _=>cases f
 |dict _=>cases f
def Ex(K:FG)(B:Hp)(t:TE)(ρ:List PV)(d:PD):Prop:=∀ E G0 H0 G H σ F,Rl K B E G0 H0 G H σ ρ F->∀ Q:VK,(∀ v G' H',YW G H G' H' -> Dat K G' v d->Q v H')->t σ H Q
def zhB{t:TE}(h:Er K B t (msk ρ) d):Ex K B t ρ d:=λ_ _ _ G H σ F R Q k=>h G σ R.rx G H (Zr.refl _) R.g.gh Q k
def zi3{t:TE}(h:Er K B t ρ d)(f:flat d=true):Ex K B t ρ d:=λ_ _ _ G H σ F R Q k=>by obtain⟨s1,s2,x⟩:=R.gpl;exact h _ σ x _ H (Zr.refl _) s2 Q λv G' H' g hv=>k v G H' (Qm R.g.gh g.hh) (hv.flat f G)
def ziA{ti:TE}{u:PV}{j:Int}{n:Nat}(hi:ρ[i]?=some u)(hu:u.rd=some ds)(h:Er K B ti ρ (.int j))(hn:ixN ds.length j=some n)(hd:ds[n]?=some d):Ex K B (tOp (zmj K) (JB i) ti) ρ d:=λ_ _ _ G H σ F R Q k=>by obtain⟨s1,s2,x⟩:=R.gpl;obtain⟨p,xs,e,hx,hp,hds⟩:=(R.sl i _ hi).rd hu;refine⟨_,hx,h _ σ x _ H (Zr.refl _) s2 _ λv G' H' g hv=>?_⟩;obtain⟨y,hy,hyd⟩:=hds.get hd;refine⟨p,xs,j,y,rfl,hv.int,SqL.of (g.hh _ _ hp),?_,k y G H' (Qm R.g.gh g.hh) hyd⟩;unfold atI;rw[hds.length,hn];exact hy
def Eg(K:FG)(B:Hp)(t:TE)(ρ:List PV)(R:PV->List PV->Prop):Prop:=∀ E G0 H0 G H σ F,Rl K B E G0 H0 G H σ ρ F->∀ Q:VK,
 (∀ v r ρ' G' H' F' L,R r ρ' -> Zr G G' -> Rl K B E G0 H0 G' H' σ ρ' F' -> Sl K G' H' (some (some v)) r L->Nw G' H' H0 F' L->Q v H')->t σ H Q
def zcw{t:TE}{R:PV->List PV->Prop}(h:Ex K B t ρ d)(k:R (.dat d) ρ):Eg K B t ρ R:=λE G0 H0 G H σ F r Q q=>h E G0 H0 G H σ F r Q λv G' H' g hv=>q v _ ρ G' H' F [] k g.gg (r.grow g) ⟨rfl,v,rfl,hv⟩ Jv
def ZG{t:TE}{R:PV->List PV->Prop}(h:Er K B t (msk ρ) d)(k:R (.dat d) ρ):Eg K B t ρ R:=zcw (zhB h) k
def Uo{t:TE}{R:PV->List PV->Prop}(h:Er K B t ρ d)(f:flat d=true)(k:R (.dat d) ρ):Eg K B t ρ R:=zcw (zi3 h f) k
def Rl.zmK(R:Rl K B E G0 H0 G H σ ρ F)(hp:H p=none)(hd:ZX K G xs ds):Rl K B E G0 H0 G (upd H p (.lst xs)) σ ρ F/\Sl K G (upd H p (.lst xs)) (some (some (.ref p))) (.own ds) [p]/\Nw G (upd H p (.lst xs)) H0 F [p]:=by
 have gp:G p=none:=R.g.gh.free hp;refine⟨R.grow (Qm R.g.gh (X6 hp)),⟨p,xs,rfl,rfl,Zi,hd⟩,λa ha=>?_,λa ha j hj=>?_⟩
 .rw[Ij.mp ha];exact⟨gp,⟨_,Zi⟩,R.g.al p hp⟩
 .rw[Ij.mp ha]at hj;obtain⟨_,⟨o,h⟩,_⟩:=R.fr j p hj;rw[hp]at h;cases h
def QV{R:PV->List PV->Prop}(h:Ea K B t (msk ρ) ds)(hl:ds.length<=sizeLine)(k:R (.own ds) ρ):Eg K B (zmL t) ρ R:=λE G0 H0 G H σ F r Q q=>
 h G σ r.rx G H (Zr.refl _) r.g.gh _ λvs G' H' g hv=>⟨by rw[hv.length];exact hl,λp hp=>by
  obtain⟨a,b,c⟩:=(r.grow g).zmK hp hv;exact q _ _ ρ G' _ F [p] k g.gg a b c⟩
def spO(K:FG)(R:List PD->List PD->Prop):Sp:=λvs H Q _=>∃(G:Hp)(ds es:List PD),Zr G H/\ZX K G vs ds/\R ds es/\∀ p xs G' H',YW G H G' H' -> G' p=none->H p=none->H' p=some (.lst xs)->ZX K G' xs es->Q (.ref p) H'
def zhY{Rf:List PD->List PD->Prop}{es:List PD}(h:EvA K t σ G ds)(hR:Rf ds es):Ev K (Vn (spO K Rf) [] X t) σ G (.list es):=λG1 H s1 s2 Q k=>by
 refine h G1 H s1 s2 _ λvs G2 H2 g hv=>?_;rw[Nx];refine⟨G2,ds,es,g.gh,hv,hR,λp xs G3 H3 g3 gp hp hp3 hd=>?_⟩;have gg:YW G2 H2 (upd G3 p (.lst xs)) H3:=⟨g3.gg.trans (X6 gp),λb o e=>by
  by_cases z:b=p
  .subst z;rw[Zi]at e;rw[hp3,e]
  .rw[Zk z]at e;exact g3.gh b o e,g3.hh,λb o e=>by
  by_cases z:b=p
  .subst z;exact .inr hp
  .rw[Zk z]at e;exact g3.fr b o e⟩
 exact k _ _ H3 (g.trans gg) (Y8 Zi (hd.same (X6 gp)))
structure Pn where
 nx:List PV->Prop
 rt:PV->List PV->Prop
 bk:List PV->Prop:=λ_=>False
 ct:List PV->Prop:=λ_=>False
structure Dn(K:FG)(B:Hp)(E:AD->Prop)(G0 H0 Gs:Hp)(R:Pn)(D:Ends):Prop where
 nx:∀{G H σ ρ F},R.nx ρ->Zr Gs G->Rl K B E G0 H0 G H σ ρ F->D.nx σ H
 rt:∀{v r G H σ ρ F L},R.rt r ρ->Zr Gs G->Rl K B E G0 H0 G H σ ρ F->Sl K G H (some (some v)) r L->Nw G H H0 F L->D.rt v H
 bk:∀{G H σ ρ F},R.bk ρ->Zr Gs G->Rl K B E G0 H0 G H σ ρ F->D.bk σ H
 ct:∀{G H σ ρ F},R.ct ρ->Zr Gs G->Rl K B E G0 H0 G H σ ρ F->D.ct σ H
def Dn.mono{Gs Gt:Hp}{R:Pn}{D:Ends}(d:Dn K B E G0 H0 Gs R D)(s:Zr Gs Gt):Dn K B E G0 H0 Gt R D:=⟨λx y=>d.nx x (s.trans y),λx y=>d.rt x (s.trans y),λx y=>d.bk x (s.trans y),λx y=>d.ct x (s.trans y)⟩
def Sv(K:FG)(B:Hp)(t:TS)(ρ:List PV)(R:Pn):Prop:=∀ E G0 H0 G H σ F D,Rl K B E G0 H0 G H σ ρ F->Dn K B E G0 H0 G R D->t D σ H
def Zm{t u:TS}{R:Pn}(h:Sv K B t ρ {R with nx:=fun ρ' => Sv K B u ρ' R}):Sv K B (zku t u) ρ R:=λE G0 H0 G H σ F D r d=>h E G0 H0 G H σ F {D with nx:=u D} r ⟨λhs s r' => hs E G0 H0 _ _ _ _ D r' (d.mono s),d.rt,d.bk,d.ct⟩
def ZV{R:Pn}(h:R.nx ρ):Sv K B zl6 ρ R:=λE G0 H0 G H σ F D r d=>d.nx h (Zr.refl _) r
def zlW{t:TS}{R R' : Pn}(h:Sv K B t ρ R)(n:∀ ρ,R.nx ρ->R'.nx ρ)(q:∀ r ρ,R.rt r ρ->R'.rt r ρ)(b:∀ ρ,R.bk ρ->R'.bk ρ)(c:∀ ρ,R.ct ρ->R'.ct ρ):Sv K B t ρ R':=λE G0 H0 G H σ F D r d=>h E G0 H0 G H σ F D r ⟨λx=>d.nx (n _ x),λx=>d.rt (q _ _ x),λx=>d.bk (b _ x),λx=>d.ct (c _ x)⟩
def Zu{R:Pn}(h:Eg K B te ρ λr ρ' => R.nx (ρ'.set i r)):Sv K B (zkx te (Wi i)) ρ R:=λE G0 H0 G H σ F D r d=>h E G0 H0 G H σ F r _ λv w ρ' G' H' F' L hR s r' sl n=>d.nx hR s (r'.set sl n)
def zab{c:TT}{t u:TS}{b:Bool}{R:Pn}(h:Et K B c ρ b)(k1:b=true->Sv K B t ρ R)(k2:b=false->Sv K B u ρ R):Sv K B (zkW c t u) ρ R:=λE G0 H0 G H σ F D r d=>by
 obtain⟨s1,s2,x⟩:=r.gpl;refine h _ σ x _ H (Zr.refl _) s2 _ λG' H' g=>?_;have r':=r.grow (Qm r.g.gh g.hh);cases b with
 |true=>rw[Iz rfl];exact k1 rfl E G0 H0 _ _ σ F D r' d
 |false=>rw[Iq Ii];exact k2 rfl E G0 H0 _ _ σ F D r' d
def zmn{c:TT}{t u:TS}{R:Pn}(h:Et K B c ρ true)(k1:Sv K B t ρ R):Sv K B (zkW c t u) ρ R:=zab h (λ_=>k1) λz=>(by cases z)
def XS{c:TT}{t u:TS}{R:Pn}(h:Et K B c ρ false)(k1:Sv K B u ρ R):Sv K B (zkW c t u) ρ R:=zab h (λz=>by cases z) λ_=>k1
def zjs{R:Pn}(h:Eg K B te ρ λ_ ρ' => R.nx ρ'):Sv K B (zgT te) ρ R:=λE G0 H0 G H σ F D r d=>h E G0 H0 G H σ F r _ λv w ρ' G' H' F' L hR s r' sl n=>d.nx hR s r'
def Yn{R:Pn}(h:Eg K B te ρ R.rt):Sv K B (zkZ te) ρ R:=λE G0 H0 G H σ F D r d=>h E G0 H0 G H σ F r _ λv w ρ' G' H' F' L hR s r' sl n=>d.rt hR s r' sl n
noncomputable def PV.frz:PV->PV
 |.own ds=>.dat (.list ds)
 |v=>v
noncomputable def PV.mlt:PV->PV
 |.dat d=>.dat d
 |.scr ns=>.scr ns
 |.val x=>.val x
 |.own ds=>.own ds
 |_=>.un
open Classical in
noncomputable def gFz(ρ:List PV)(F:Nat->List AD)(G H:Hp):Hp:=λb=>if ∃ i ds,ρ[i]?=some (.own ds)/\b∈F i then H b else G b
theorem Rl.frz(R:Rl K B E G0 H0 G H σ ρ F):∃ F',Zr G (gFz ρ F G H)/\Rx K B (gFz ρ F G H) σ (ρ.map PV.mlt)/\Rl K B E G0 H0 (gFz ρ F G H) H σ (ρ.map PV.frz) F':=by
 classical
 have s1:Zr G (gFz ρ F G H):=λb o h=>by
  unfold gFz;split
  .exact R.g.gh b o h
  .exact h
 have s2:Zr (gFz ρ F G H) H:=λb o h=>by
  unfold gFz at h;split at h
  .exact h
  .exact R.g.gh b o h
 have ow:∀ i ds,ρ[i]?=some (PV.own ds)->∃ x,σ[i]?=some (some x)/\Dat K (gFz ρ F G H) x (.list ds):=λi ds h=>by obtain⟨p,xs,e,hx,hp,hd⟩:=R.sl i _ h;refine⟨_,hx,Y8 (xs:=xs) ?_ (hd.same s1)⟩;unfold gFz;rw[Iz ⟨i,ds,h,by rw[e];simp⟩];exact hp
 refine⟨λk=>if ∃ ds,ρ[k]?=some (.own ds)then[]else F k,s1,⟨R.bb.trans s1,λi d h=>?_,λi u d h hu=>?_,λi T h=>?_,λi ns h=>?_,λi x h=>?_⟩,⟨R.g.gg.trans s1,s2,R.g.kp,R.g.al,λb o h=>?_⟩,R.bb.trans s1,by rw[Ie,R.ls],λi v h=>?_,λi a ha=>?_,λi j a ha hb=>?_,λi ds a h ha=>?_⟩
 .rw[Ik]at h;cases e:ρ[i]? with
  |none=>rw[e]at h;cases h
  |some v=>
   rw[e]at h;cases v with
   |dat d' =>cases h;obtain⟨_,x,hx,hd⟩:=R.sl i _ e;exact⟨x,hx,hd.same s1⟩
   |_=>cases h
 .rw[Ik]at h;cases e:ρ[i]? with
  |none=>rw[e]at h;cases h
  |some v=>
   rw[e]at h;cases v with
   |own d' =>cases h;cases hu;exact ow i _ e
   |_=>cases h <;> cases hu
 .rw[Ik]at h;cases e:ρ[i]? with
  |none=>rw[e]at h;cases h
  |some v=>rw[e]at h;cases v <;> cases h
 .rw[Ik]at h;cases e:ρ[i]? with
  |none=>rw[e]at h;cases h
  |some v=>
   rw[e]at h;cases v with
   |scr ms=>cases h;obtain⟨_,a,hx,hq⟩:=R.sl i _ e;exact⟨a,hx,s1.seq hq⟩
   |_=>cases h
 .rw[Ik]at h;cases e:ρ[i]? with
  |none=>rw[e]at h;cases h
  |some v=>
   rw[e]at h;cases v with
   |val y=>cases h;exact(R.sl i _ e).2
   |_=>cases h
 .unfold gFz at h;split at h
  .rename_i z
   obtain⟨i,ds,hi,hb⟩:=z;exact .inr (R.ow i ds b hi hb)
  .exact R.g.fr b o h
 .rw[Ik]at h;cases e:ρ[i]? with
  |none=>rw[e]at h;cases h
  |some u=>
   rw[e]at h;have keep:Sl K G H σ[i]? u (F i):=R.sl i _ e;cases u with
   |own ds=>cases h;rw[Iz ⟨ds,rfl⟩];exact⟨rfl,ow i ds e⟩
   |_=>cases h;rw[Iq (by rintro⟨ds,z⟩;cases z)];exact keep.grow s1 (λ_ _=>rfl)
 .split at ha
  .cases ha
  .rename_i hz
   obtain⟨h1,h2,h3⟩:=R.fr i a ha;refine⟨?_,h2,h3⟩;unfold gFz;rw[Iq ?_]
   .exact h1
   .rintro⟨j,ds,hj,haj⟩;have:=R.dj i j a ha haj;subst this;exact hz ⟨ds,hj⟩
 .split at ha
  .cases ha
  .split at hb
   .cases hb
   .exact R.dj i j a ha hb
 .rw[Ik]at h;cases e:ρ[i]? with
  |none=>rw[e]at h;cases h
  |some u=>rw[e]at h;cases u <;> cases h
def zia{t:TS}{R:Pn}(h:Sv K B t (ρ.map PV.frz) R):Sv K B t ρ R:=λE G0 H0 G H σ F D r dn=>by obtain⟨F',s1,_,r'⟩:=r.frz;exact h E G0 H0 _ H σ F' D r' (dn.mono s1)
def zf9{R:Pn}(h:Er K B te (ρ.map PV.mlt) d)(k:R.rt (.dat d) (ρ.map PV.frz)):Sv K B (zkZ te) ρ R:=λE G0 H0 G H σ F D r dn=>by obtain⟨F',s1,x,r'⟩:=r.frz;exact h _ σ x _ H (Zr.refl _) r'.g.gh _ λv G' H' g hv=>dn.rt k (s1.trans g.gg) (r'.grow g) ⟨rfl,v,rfl,hv⟩ Jv
def zjA{R:Pn}(hi:ρ[i]?=some (.own ds))(k:R.rt (.own ds) (ρ.set i .un)):Sv K B (zkZ (JB i)) ρ R:=λE G0 H0 G H σ F D r dn=>by
 obtain⟨p,xs,e,hx,hp,hd⟩:=r.sl i _ hi;have hpi:p∈F i:=by rw[e];simp
 have hlt:i<ρ.length:=(Io.mp hi).1;refine⟨_,hx,dn.rt (G:=G) (σ:=σ) (F:=λk=>if k=i then[]else F k) (L:=[p]) k (Zr.refl _) ?_ ⟨p,xs,rfl,rfl,hp,hd⟩ ⟨λa ha=>?_,λa ha j hj=>?_⟩⟩
 .refine⟨r.g,r.bb,by rw[Ob];exact r.ls,λj v h=>?_,λj a ha=>?_,λj k a ha hb=>?_,λj ds' a h ha=>?_⟩
  .by_cases z:j=i
   .subst z;rw[IW hlt]at h;cases h;rw[Iz rfl];rfl
   .rw[IS (Ne.symm z)]at h;rw[Iq z];exact r.sl j v h
  .by_cases z:j=i
   .rw[Iz z]at ha;cases ha
   .rw[Iq z]at ha;exact r.fr j a ha
  .by_cases z:j=i
   .rw[Iz z]at ha;cases ha
   .by_cases z' : k=i
    .rw[Iz z']at hb;cases hb
    .rw[Iq z]at ha;rw[Iq z']at hb;exact r.dj j k a ha hb
  .by_cases z:j=i
   .rw[Iz z]at ha;cases ha
   .rw[Iq z]at ha;rw[IS (Ne.symm z)]at h;exact r.ow j ds' a h ha
 .rw[Ij.mp ha];obtain⟨h1,h2,_⟩:=r.fr i p hpi;exact⟨h1,h2,r.ow i ds p hi hpi⟩
 .rw[Ij.mp ha]at hj;by_cases z:j=i
  .rw[Iz z]at hj;cases hj
  .rw[Iq z]at hj;exact z (r.dj j i p hj hpi)
end
section
variable {K:FG}{B:Hp}{E:AD->Prop}{G0 H0 G H G' H' : Hp}{σ:St}{ρ:List PV}{F:Nat->List AD}{ta tb te:TE}{a b d:PD}{ds es:List PD}
def Rx.mono(r:Rx K B G σ ρ)(s:Zr G G'):Rx K B G' σ ρ:=
 ⟨r.1.trans s,λi d h=>let ⟨x,hx,hd⟩:=r.2.1 i d h;⟨x,hx,hd.same s⟩,λi v d h hv=>let ⟨x,hx,hd⟩:=r.2.2.1 i v d h hv;⟨x,hx,hd.same s⟩,λi T h=>let ⟨p,fp,hx,ht⟩:=r.2.2.2.1 i T h;⟨p,fp,hx,T.st ht s λa ha=>by
  obtain⟨o,ho⟩:=T.live ht a ha;rw[ho,s a o ho]⟩,λi ns h=>let ⟨a,hx,hq⟩:=r.2.2.2.2.1 i ns h;⟨a,hx,s.seq hq⟩,r.2.2.2.2.2⟩
def Zb(h:ρ[i]?=some (.dat d)):Er K B (JB i) ρ d:=λG σ r=>let ⟨x,hx,hd⟩:=r.2.1 i d h;zih hx hd
def VD{u:PV}(h:ρ[i]?=some u)(hu:u.rd=some ds):Er K B (JB i) ρ (.list ds):=λG σ r=>let ⟨x,hx,hd⟩:=r.2.2.1 i u ds h hu;zih hx hd
def Zq{i:Int}:Er K B (tC (.int i)) ρ (.int i):=λ_ _ _=>zl5
def Wv :Er K B (tC (.str x)) ρ (.str x):=λ_ _ _=>zlZ
def zer{x:Bool}:Er K B (tC (.bl x)) ρ (.bool x):=λ_ _ _=>zmS
def Wf{g:Int->Int->V}{i j:Int}(ha:Er K B ta ρ (.int i))(hb:Er K B tb ρ (.int j))(hg:∀ G,Dat K G (g i j) d):Er K B (tOp (rI0 g) ta tb) ρ d:=λG σ r=>zhU (ha G σ r) (hb G σ r) (hg G)
def Q7{C:Int->Int->Prop}{g:Int->Int->V}{i j:Int}(ha:Er K B ta ρ (.int i))(hb:Er K B tb ρ (.int j))(hc:C i j)(hg:∀ G,Dat K G (g i j) d):Er K B (tOp (rI C g) ta tb) ρ d:=λG σ r=>zjf (ha G σ r) (hb G σ r) hc (hg G)
def Z3{i:Int}{n:Nat}(ha:Er K B ta ρ (.tuple ds))(hb:Er K B tb ρ (.int i))(hn:ixN ds.length i=some n)(hd:ds[n]?=some d):Er K B (tOp (zkz K) ta tb) ρ d:=λG σ r=>zlv (ha G σ r) (hb G σ r) hn hd
def zbF{i:Int}{n:Nat}(ha:Er K B ta ρ (.list ds))(hb:Er K B tb ρ (.int i))(hn:ixN ds.length i=some n)(hd:ds[n]?=some d):Er K B (tOp (zmj K) ta tb) ρ d:=λG σ r=>zlg (ha G σ r) (hb G σ r) hn hd
def VH{g:Bool->Bool}{n:Nat}(ha:Er K B ta ρ a)(hb:Er K B tb ρ b)(pa:Pl n a)(pb:Pl n b)(hn:n<=64):Er K B (tOp (zkv K g) ta tb) ρ (.bool (g (PySem.Spec.same a b))):=λG σ r=>zlX (ha G σ r) (hb G σ r) pa pb hn
def zhR{i j:Int}(ha:Er K B ta ρ (.int i))(hb:Er K B tb ρ (.int j)):Er K B (tOp rNe ta tb) ρ (.bool (!decide (i=j))):=λG σ r=>zlm (ha G σ r) (hb G σ r)
def Ju{i j:Int}(ha:Er K B ta ρ (.int i))(hb:Er K B tb ρ (.int j)):Er K B (tOp rEq ta tb) ρ (.bool (decide (i=j))):=λG σ r=>zh5 (ha G σ r) (hb G σ r)
def Zh:Ea K B V5 ρ []:=λ_ _ _=>zj3
def Zc(ha:Er K B ta ρ a)(hb:Ea K B t ρ ds):Ea K B (YQ ta t) ρ (a::ds):=λG σ r=>zgM (ha G σ r) (hb G σ r)
def YL(h:Ea K B t ρ ds)(hl:ds.length<=sizeLine):Er K B (zmN t) ρ (.tuple ds):=λG σ r=>zmx (h G σ r) hl
def Xk(h:Ea K B t ρ ds)(hl:ds.length<=sizeLine):Er K B (zmL t) ρ (.list ds):=λG σ r=>zld (h G σ r) hl
def Q9(h:Ea K B t ρ [.list ds]):Er K B (tCB (λxs H Q=>∃ p ys,xs=[.ref p]/\(SqL K H p ys\/SqT K H p ys)/\Q (.int ys.length) H) t) ρ (.int ds.length):=λG σ r=>zjg (h G σ r)
def JN(h:Ea K B t ρ [.tuple ds]):Er K B (tCB (λxs H Q=>∃ p ys,xs=[.ref p]/\(SqL K H p ys\/SqT K H p ys)/\Q (.int ys.length) H) t) ρ (.int ds.length):=λG σ r=>zj4 (h G σ r)
def XF(h:Ea K B t ρ [.list ds]):Er K B (tCB (λxs H Q=>∃ p ys,xs=[.ref p]/\((SqL K H p ys/\∀ l,H l=none->Q (.ref l) (upd H l (.tup ys)))\/(SqT K H p ys/\Q (.ref p) H))) t) ρ (.tuple ds):=λG σ r=>zeV (h G σ r)
def Zx{t:TE}(h:Er K B t ρ (.bool c)):Et K B (zg1 t) ρ c:=λG σ r=>zg8 (h G σ r)
def zbh{t:TE}(h:Er K B t ρ (.bool c)):Et K B (tB t) ρ c:=λG σ r=>zm4 (h G σ r)
def WN{t:TT}(h:Et K B t ρ c):Et K B (zna t) ρ (!c):=λG σ r=>ziT (h G σ r)
def QG{t u:TT}{e:Bool}(h:Et K B t ρ c)(h' : c=false->Et K B u ρ e):Et K B (tOr t u) ρ (c||e):=λG σ r=>zlx (h G σ r) λz=>h' z G σ r
def JR{t u:TT}{e:Bool}(h:Et K B t ρ c)(h' : c=true->Et K B u ρ e):Et K B (zmO t u) ρ (c&&e):=λG σ r=>zjo (h G σ r) λz=>h' z G σ r
def Wy{t:TT}{e:Bool}(h:Et K B t ρ c)(q:c=e):Et K B t ρ e:=q ▸ h
def Ve:Et K B zgI ρ true:=λ_ _ _=>zho
def YB{t:TE}{e:PD}(h:Er K B t ρ d)(q:d=e):Er K B t ρ e:=q ▸ h
def zl8{t:TT}(h:Et K B t ρ c)(h1:c=true->Er K B ta ρ d)(h2:c=false->Er K B tb ρ d):Er K B (tIf t ta tb) ρ d:=λG σ r=>zkR (h G σ r) (λz=>h1 z G σ r) λz=>h2 z G σ r
def Z8{R:List PD->PD->Prop}(h:Ea K B t ρ ds)(hR:R ds d):Er K B (Vn (spP K R) [] X t) ρ d:=λG σ r=>ziK (h G σ r) hR
def zhf{R:List PD->List PD->Prop}(h:Ea K B t ρ ds)(hR:R ds es):Er K B (Vn (spO K R) [] X t) ρ (.list es):=λG σ r=>zhY (h G σ r) hR
def Qk{n:String}(ha:Er K B ta ρ d)(e:kitOne K (.type (tyN d)) (.type n)=some c):Er K B (tCB (zm6 K) (YQ ta (YQ (tC (.ty n)) V5))) ρ (.bool c):=λG σ r=>zmo (ha G σ r) e
structure Wd(K:FG)(J:It)(G:Hp)(ds:List PD):Prop where
 go:∀ i H',Zr G H' -> i<ds.length->J.go i H'
 stop:∀ i H',Zr G H' -> i=ds.length->J.stop i H'
 yld:∀ i H1 x H2 G1 d,Zr G G1->Zr G1 H1->ds[i]?=some d->J.yld i H1 x H2->∃ G2,YW G1 H1 G2 H2/\Dat K G2 x d
def Ei(K:FG)(B:Hp)(wi:TI)(ρ:List PV)(ds:List PD):Prop:=∀ G H σ,Rx K B G σ ρ->Zr G H->∀ R:It->Hp->Prop,(∀ J G' H',YW G H G' H' -> Wd K J G' ds->R J H')->wi σ H R
def zba{lo:Int}{n:Nat}:Wd K (Itr lo n) G ((List.range n).map λ(i:Nat)=>PyData.int (lo+i)):=by
 refine⟨λi H' _ h=>by rw[Ie,Iy]at h;exact h,λi H' _ h=>by rw[Ie,Iy]at h;exact O5 h.symm,λi H1 x H2 G1 d s1 s2 hd y=>?_⟩;obtain⟨rfl,rfl⟩:=y;refine⟨G1,YW.refl s2,?_⟩;rw[Ik]at hd;by_cases h:i<n
 .rw[Dt h]at hd;cases hd;exact Zy _
 .rw[IU (by rw[Iy];omega)]at hd;cases hd
def zkD(h:G p=some (.lst xs))(hd:ZX K G xs ds):Wd K (Itl K p) G ds:=by refine⟨λi H' s hi=>⟨xs,_,SqL.of (s _ _ h),Ib (by rw[hd.length];exact hi)⟩,λi H' s hi=>⟨xs,SqL.of (s _ _ h),by rw[hd.length];exact O5 hi.symm⟩,λi H1 x H2 G1 d s1 s2 he y=>?_⟩;obtain⟨rfl,y⟩:=y;obtain⟨x',hx',hdx⟩:=hd.get he;have:=y xs (SqL.of (s2 _ _ (s1 _ _ h)));rw[hx']at this;cases this;exact⟨G1,YW.refl s2,hdx.same s1⟩
def zlr(h:SqT K G p xs)(hd:ZX K G xs ds):Wd K (Itt K p) G ds:=by refine⟨λi H' s hi=>⟨xs,_,s.tup h,Ib (by rw[hd.length];exact hi)⟩,λi H' s hi=>⟨xs,s.tup h,by rw[hd.length];exact O5 hi.symm⟩,λi H1 x H2 G1 d s1 s2 he y=>?_⟩;obtain⟨rfl,y⟩:=y;obtain⟨x',hx',hdx⟩:=hd.get he;have:=y xs (s2.tup (s1.tup h));rw[hx']at this;cases this;exact⟨G1,YW.refl s2,hdx.same s1⟩
def WF(h:Er K B te ρ (.list ds)):Ei K B (zk1 K te) ρ ds:=λG H σ r s R k=>h G σ r G H (Zr.refl _) s _ λv G' H' g hv=>by obtain⟨p,xs,rfl,hp,hx⟩:=hv.lst;exact⟨p,rfl,⟨xs,SqL.of (g.gh _ _ hp)⟩,k _ G' H' g (zkD hp hx)⟩
def Ql(h:Er K B te ρ (.tuple ds)):Ei K B (zm9 K te) ρ ds:=λG H σ r s R k=>h G σ r G H (Zr.refl _) s _ λv G' H' g hv=>by obtain⟨p,xs,rfl,hp,hx⟩:=hv.tup;exact⟨p,rfl,⟨xs,g.gh.tup hp⟩,k _ G' H' g (zlr hp hx)⟩
def zma{j:Int}(h:Ea K B t ρ [.int j])(hj:-(2^62)<=j/\j<2^62):Ei K B (zhb t) ρ ((List.range j.toNat).map λ(i:Nat)=>PyData.int (0+i)):=λG H σ r s R k=>h G σ r G H (Zr.refl _) s _ λvs G' H' g hv=>by obtain⟨y,ys,rfl,hy,r⟩:=hv.cons;rw[r.nil,hy.int];exact⟨j,rfl,hj.1,hj.2,k _ G' H' g zba⟩
def zkp{lo j:Int}(h:Ea K B t ρ [.int lo,.int j])(hj:-(2^62)<=lo/\lo<2^62/\-(2^62)<=j/\j<2^62):Ei K B (zlK t) ρ ((List.range (j-lo).toNat).map λ(i:Nat)=>PyData.int (lo+i)):=λG H σ r s R k=>h G σ r G H (Zr.refl _) s _ λvs G' H' g hv=>by obtain⟨y,ys,rfl,hy,r⟩:=hv.cons;obtain⟨y',ys',rfl,hy',r'⟩:=r.cons;rw[r'.nil,hy.int,hy'.int];exact⟨lo,j,rfl,hj,k _ G' H' g zba⟩
noncomputable def zcj(ds:List PD):List PD:=(List.range ds.length).map λ(i:Nat)=>PyData.tuple [.int i,ds.getD i .none]
def zey(h:(zcj ds)[i]?=some d):∃ e,ds[i]?=some e/\d = .tuple [.int i,e]:=by
 unfold zcj at h;rw[Ik]at h;by_cases hi:i<ds.length
 .rw[Dt hi]at h;cases h;exact⟨ds[i],Ib hi,by show PyData.tuple [.int i,ds.getD i .none]=_;rw[II,Ib hi];rfl⟩
 .rw[IU (by rw[Iy];omega)]at h;cases h
def zbV:(zcj ds).length=ds.length:=by unfold zcj;rw[Ie,Iy]
def zfv(h:Ea K B t ρ [.tuple ds]):Ei K B (zn3 K t) ρ (zcj ds):=λG H σ r s R k=>h G σ r G H (Zr.refl _) s _ λvs G' H' g hv=>by
 obtain⟨y,ys,rfl,hy,r⟩:=hv.cons;cases r.nil;obtain⟨p,xs,rfl,hp,hx⟩:=hy.tup;refine⟨p,rfl,⟨xs,g.gh.tup hp⟩,k _ G' H' g ⟨λi H' s hi=>?_,λi H' s hi=>?_,λi H1 x H2 G1 d s1 s2 he y=>?_⟩⟩
 .rw[zbV,← hx.length]at hi;exact⟨xs,_,s.tup hp,Ib hi⟩
 .rw[zbV,← hx.length]at hi;exact⟨xs,s.tup hp,O5 hi.symm⟩
 .obtain⟨e,he',rfl⟩:=zey he;obtain⟨q,z,hq,rfl,rfl,hz⟩:=y;obtain⟨x',hx',hdx⟩:=hx.get he';have:=hz xs (s2.tup (s1.tup hp));rw[hx']at this;cases this;have g:=Yh (o:=.tup [.int (i:Nat),z]) s2 hq;exact⟨_,g,XQ (SqT.of Zi) (Z4 (Zy _) (Z4 ((hdx.same s1).same g.gg) Yi))⟩
noncomputable def zdj(ρ:List PV)(js:List Nat):List PV:=js.map λj=>(ρ[j]?).getD .un
def zfq{x:V}(r:Rx K B G σ ρ)(hd:Dat K G x d):Rx K B G (some x::QL σ js) (.dat d::zdj ρ js):=by
 refine⟨r.1,λi e h=>?_,λi u e h hu=>?_,λi T h=>?_,λi ns h=>?_,λi y h=>?_⟩
 .cases i with
  |zero=>cases h;exact⟨x,rfl,hd⟩
  |succ i=>
   rw[Dg]at h ⊢;unfold zdj at h;unfold QL;rw[Ik]at h ⊢;cases q:js[i]? with
   |none=>rw[q]at h;cases h
   |some j=>
    rw[q]at h;have h:(ρ[j]?).getD .un = .dat e:=IA h;cases z:ρ[j]? with
    |none=>rw[z]at h;cases h
    |some u=>rw[z]at h;have h:u = .dat e:=h;subst h;obtain⟨y,hy,hyd⟩:=r.2.1 j e z;exact⟨y,by show some (σ[j]?).join=_;rw[hy];rfl,hyd⟩
 .cases i with
  |zero=>cases h;cases hu
  |succ i=>
   rw[Dg]at h ⊢;unfold zdj at h;unfold QL;rw[Ik]at h ⊢;cases q:js[i]? with
   |none=>rw[q]at h;cases h
   |some j=>
    rw[q]at h;have h:(ρ[j]?).getD .un=u:=IA h;cases z:ρ[j]? with
    |none=>rw[z]at h;subst h;cases hu
    |some u' =>rw[z]at h;have h:u'=u:=h;subst h;obtain⟨y,hy,hyd⟩:=r.2.2.1 j u' e z hu;exact⟨y,by show some (σ[j]?).join=_;rw[hy];rfl,hyd⟩
 .cases i with
  |zero=>cases h
  |succ i=>
   rw[Dg]at h ⊢;unfold zdj at h;unfold QL;rw[Ik]at h ⊢;cases q:js[i]? with
   |none=>rw[q]at h;cases h
   |some j=>
    rw[q]at h;have h:(ρ[j]?).getD .un = .thg T:=IA h;cases z:ρ[j]? with
    |none=>rw[z]at h;cases h
    |some u' =>rw[z]at h;have h:u' = .thg T:=h;subst h;obtain⟨p,fp,hy,hyd⟩:=r.2.2.2.1 j T z;exact⟨p,fp,by show some (σ[j]?).join=_;rw[hy];rfl,hyd⟩
 .cases i with
  |zero=>cases h
  |succ i=>
   rw[Dg]at h ⊢;unfold zdj at h;unfold QL;rw[Ik]at h ⊢;cases q:js[i]? with
   |none=>rw[q]at h;cases h
   |some j=>
    rw[q]at h;have h:(ρ[j]?).getD .un = .scr ns:=IA h;cases z:ρ[j]? with
    |none=>rw[z]at h;cases h
    |some u' =>rw[z]at h;have h:u' = .scr ns:=h;subst h;obtain⟨p,hy,hyd⟩:=r.2.2.2.2.1 j ns z;exact⟨p,by show some (σ[j]?).join=_;rw[hy];rfl,hyd⟩
 .cases i with
  |zero=>cases h
  |succ i=>
   rw[Dg]at h ⊢;unfold zdj at h;unfold QL;rw[Ik]at h ⊢;cases q:js[i]? with
   |none=>rw[q]at h;cases h
   |some j=>
    rw[q]at h;have h:(ρ[j]?).getD .un = .val y:=IA h;cases z:ρ[j]? with
    |none=>rw[z]at h;cases h
    |some u' =>rw[z]at h;have h:u' = .val y:=h;subst h;have hy:=r.2.2.2.2.2 j y z;show some (σ[j]?).join=_;rw[hy];rfl
def Lcx(K:FG)(B:Hp)(tt:TT)(te:TE)(ρ:List PV)(o:Option PD):Prop:=(∃ d,o=some d/\Et K B tt ρ true/\Er K B te ρ d)\/(o=none/\Et K B tt ρ false)
def lx1(ht:Et K B tt ρ true)(he:Er K B te ρ d):Lcx K B tt te ρ (some d):=.inl ⟨d,rfl,ht,he⟩
def lx0(ht:Et K B tt ρ false):Lcx K B tt te ρ none:=.inr ⟨rfl,ht⟩
def lxB(ht:Et K B tt ρ c)(he:c=true->Er K B te ρ d):Lcx K B tt te ρ (if c then some d else none):=by
 cases c with
 |true=>exact .inl ⟨d,rfl,ht,he rfl⟩
 |false=>exact .inr ⟨rfl,ht⟩
def zfl(as:List α)(enc:α->PD)(f:α->Option PD)(h:Ei K B wi ρ (as.map enc))(hn:as.length<sizeLine)(hc:∀ a∈as,Lcx K B tt te (.dat (enc a)::zdj ρ js) (f a))(r:Rx K B G σ ρ)(s:Zr G H){Q:VK}(k:∀ p xs G' H',YW G H G' H' -> H' p=none->ZX K G' xs (as.filterMap f)->Q (.ref p) (upd H' p (.lst xs))):tLC wi js tt te σ H Q:=by
 refine h G H σ r s _ λJ G2 H2 g2 W=>?_;have fl:∀ i (hi:i<as.length),((as.take (i+1)).filterMap f)=(as.take i).filterMap f++(f as[i]).toList:=λi hi=>by rw[take_succ,List.filterMap_append,Ib hi];show _++List.filterMap f [as[i]]=_;rw[N1];cases f as[i] <;> rfl
 refine⟨λi m ys H' => m=as.length-i/\i<=as.length/\ys.length<=i/\∃ G',YW G2 H2 G' H' /\ ZX K G' ys ((as.take i).filterMap f),⟨as.length,by omega,by omega,by simp,G2,YW.refl g2.gh,by simpa using Yi⟩,?_⟩;rintro i m ys H' ⟨rfl,hi,hl,G',g',hys⟩;refine⟨by omega,?_⟩;have sgh:Zr G2 H':=g'.gg.trans g'.gh;by_cases hin:i=as.length
 .subst hin;refine .inl ⟨W.stop _ H' sgh (by rw[Ie]),λp hp=>?_⟩;rw[Ov]at hys;exact k p ys G' H' (g2.trans g') hp hys
 .have hi' : i<as.length:=by omega
  refine .inr ⟨W.go i H' sgh (by rw[Ie];exact hi'),λx H'' hy=>?_⟩;obtain⟨G3,g3,hx⟩:=W.yld i H' x H'' G' (enc as[i]) g'.gg g'.gh (by rw[Ik,Ib hi'];rfl) hy;have rx:=zfq (js:=js) ((r.mono (g2.gg.trans g'.gg)).mono g3.gg) hx;rcases hc as[i] (Np hi')with⟨d,hf,ht,he⟩ | ⟨hf,ht⟩
  .refine ht _ _ rx G3 H'' (Zr.refl _) g3.gh _ λG4 H4 g4=>?_;rw[Iz rfl];refine he _ _ (rx.mono g4.gg) G4 H4 (Zr.refl _) g4.gh _ λv G5 H5 g5 hv=>⟨as.length-(i+1),by omega,rfl,by omega,by rw[Il];show ys.length+1<=i+1;omega,G5,((g'.trans g3).trans g4).trans g5,?_⟩
   rw[fl i hi',hf];exact Ur (hys.same ((g3.gg.trans g4.gg).trans g5.gg)) hv
  .refine ht _ _ rx G3 H'' (Zr.refl _) g3.gh _ λG4 H4 g4=>?_;rw[Iq Ii];refine⟨as.length-(i+1),by omega,rfl,by omega,by omega,G4,(g'.trans g3).trans g4,?_⟩;rw[fl i hi',hf];show ZX K G4 ys (_++[]);rw[Nx];exact hys.same (g3.gg.trans g4.gg)
def zbY(as:List α)(enc:α->PD)(f:α->Option PD)(h:Ei K B wi ρ (as.map enc))(hn:as.length<sizeLine)(hc:∀ a∈as,Lcx K B tt te (.dat (enc a)::zdj ρ js) (f a)):Er K B (tLC wi js tt te) ρ (.list (as.filterMap f)):=
 λG σ r G1 H s1 s2 Q k=>zfl as enc f h hn hc (r.mono s1) s2 λp xs G' H' g hp hd=>by have g3:=Yh (o:=.lst xs) g.gh hp;exact k _ _ _ (g.trans g3) (Y8 Zi (hd.same g3.gg))
def znF{R:PV->List PV->Prop}(as:List α)(enc:α->PD)(f:α->Option PD)(h:Ei K B wi (msk ρ) (as.map enc))(hn:as.length<sizeLine)(hc:∀ a∈as,Lcx K B tt te (.dat (enc a)::zdj (msk ρ) js) (f a))(k:R (.own (as.filterMap f)) ρ):Eg K B (tLC wi js tt te) ρ R:=
 λE G0 H0 G H σ F r Q q=>zfl as enc f h hn hc r.rx r.g.gh λp xs G' H' g hp hd=>by obtain⟨a,b,c⟩:=(r.grow g).zmK hp hd;exact q _ _ ρ G' _ F [p] k g.gg a b c
def Gt(K:FG)(B:Hp)(g:TG)(d:PD)(ρ:List PV)(P:List PV->Prop):Prop:=∀ E G0 H0 G H σ F x (Q:St->Hp->Prop),Rl K B E G0 H0 G H σ ρ F->Dat K G x d->(∀ σ' ρ' G' H' F',P ρ' -> Zr G G' -> Rl K B E G0 H0 G' H' σ' ρ' F' -> Q σ' H')->g x σ H Q
def Xy{P:List PV->Prop}(h:P (ρ.set i (.dat d))):Gt K B (Wi i) d ρ P:=λE G0 H0 G H σ F x Q r hd k=>k _ _ G H _ h (Zr.refl _) (r.zdH hd)
def Qh{j:Nat}{P:List PV->Prop}(h:P ((ρ.set i (.dat a)).set j (.dat b))):Gt K B (zkt K 2 (JC (Wi i) (JC (Wi j) ziL))) (.tuple [a,b]) ρ P:=λE G0 H0 G H σ F x Q r hd k=>by obtain⟨p,xs,rfl,hp,hx⟩:=hd.tup;obtain⟨y,ys,rfl,hy,hx⟩:=hx.cons;obtain⟨z,zs,rfl,hz,hx⟩:=hx.cons;cases hx.nil;exact⟨p,_,rfl,r.g.gh.tup hp,rfl,y,_,rfl,z,_,rfl,rfl,k _ _ G H _ h (Zr.refl _) ((r.zdH hy).zdH hz)⟩
def zch{g:TG}{R:Pn}(h:Ex K B te ρ d)(k:Gt K B g d ρ R.nx):Sv K B (zkx te g) ρ R:=λE G0 H0 G H σ F D r dn=>h E G0 H0 G H σ F r _ λv G' H' gr hv=>k E G0 H0 G' H' σ F v _ (r.grow gr) hv fun σ' ρ' G2 H2 F' hP s r' => dn.nx hP (gr.gg.trans s) r'
def Xh{g:TG}{tb:TS}{R:Pn}(as:List α)(enc:α->PD)(h:Ei K B wi (msk ρ) (as.map enc))(Iv:Nat->List PV->Prop)(h0:Iv 0 ρ)(hs:∀(i:Nat)(hi:i<as.length) ρ',Iv i ρ' -> Gt K B g (enc as[i]) ρ' fun ρ2=>Sv K B tb ρ2 {nx:=Iv (i+1),ct:=Iv (i+1),bk:=R.nx,rt:=R.rt})(hd:∀ ρ',Iv as.length ρ' -> R.nx ρ'):Sv K B (znw wi g tb) ρ R:=λE G0 H0 G H σ F D r dn=>by
 refine h G H σ r.rx r.g.gh _ λJ G1 H1 g1 W=>?_;refine⟨λi m σ' H' => m=as.length-i/\i<=as.length/\∃ ρ' G' F',Iv i ρ' /\ Rl K B E G0 H0 G' H' σ' ρ' F' /\ Zr G1 G',⟨as.length,by omega,by omega,ρ,G1,F,h0,r.grow g1,Zr.refl _⟩,?_⟩;rintro i m σ' H' ⟨rfl,hi,ρ',G',F',hI,r',s'⟩;by_cases hin:i=as.length
 .subst hin;exact .inl ⟨W.stop _ H' (s'.trans r'.g.gh) (by rw[Ie]),dn.nx (hd ρ' hI) (g1.gg.trans s') r'⟩
 .have hi' : i<as.length:=by omega
  refine .inr ⟨W.go i H' (s'.trans r'.g.gh) (by rw[Ie];exact hi'),fun σ2 H2=>∃ ρ2 G2 F2,Iv (i+1) ρ2/\Rl K B E G0 H0 G2 H2 σ2 ρ2 F2/\Zr G1 G2,fun σ2 H2 ⟨ρ2,G2,F2,q⟩=>⟨as.length-(i+1),by omega,rfl,by omega,ρ2,G2,F2,q⟩,λx H'' hy=>?_⟩;obtain⟨G3,g3,hx⟩:=W.yld i H' x H'' G' (enc as[i]) s' r'.g.gh (by rw[Ik,Ib hi'];rfl) hy;have r3:=r'.grow g3;have s3:Zr G1 G3:=s'.trans g3.gg;refine hs i hi' ρ' hI E G0 H0 G3 H'' σ' F' x _ r3 hx fun σ4 ρ4 G4 H4 F4 hP s4 r4=>?_
  have s14:=s3.trans s4;refine hP E G0 H0 G4 H4 σ4 F4 _ r4 ⟨λhI2 s5 r5=>⟨_,_,_,hI2,r5,s14.trans s5⟩,λhR s5 r5 sl n=>dn.rt hR (g1.gg.trans (s14.trans s5)) r5 sl n,λhR s5 r5=>dn.nx hR (g1.gg.trans (s14.trans s5)) r5,λhI2 s5 r5=>⟨_,_,_,hI2,r5,s14.trans s5⟩⟩
def V0{c:TT}{tb:TS}{R:Pn}(Iv:Nat->List PV->Prop)(m0:Nat)(h0:Iv m0 ρ)(hs:∀ m ρ',Iv m ρ' -> ∃ b,Et K B c ρ' b/\(b=true->Sv K B tb ρ' {nx:=fun ρ2=>∃ m',m'<m/\Iv m' ρ2,ct:=fun ρ2=>∃ m',m'<m/\Iv m' ρ2,bk:=R.nx,rt:=R.rt})/\(b=false->R.nx ρ')):Sv K B (zh3 c tb) ρ R:=λE G0 H0 G H σ F D r dn=>by
 refine⟨λm σ' H' => ∃ ρ' G' F',Iv m ρ' /\ Rl K B E G0 H0 G' H' σ' ρ' F' /\ Zr G G',⟨m0,ρ,G,F,h0,r,Zr.refl _⟩,?_⟩;rintro m σ' H' ⟨ρ',G',F',hI,r',s'⟩;obtain⟨b,hb,ht,hf⟩:=hs m ρ' hI;obtain⟨s1,s2,x⟩:=r'.gpl;refine hb _ σ' x _ H' (Zr.refl _) s2 _ λG2 H2 g=>?_;have r2:=r'.grow (Qm r'.g.gh g.hh);cases b with
 |false=>rw[Iq Ii];exact dn.nx (hf rfl) s' r2
 |true=>rw[Iz rfl];refine⟨fun σ3 H3=>∃ m',m'<m/\∃ ρ3 G3 F3,Iv m' ρ3/\Rl K B E G0 H0 G3 H3 σ3 ρ3 F3/\Zr G G3,fun σ3 H3 q=>q,?_⟩;refine ht rfl E G0 H0 G' H2 σ' F' _ r2 ⟨λ⟨m',hm,hI2⟩ s5 r5=>⟨m',hm,_,_,_,hI2,r5,s'.trans s5⟩,λhR s5 r5 sl n=>dn.rt hR (s'.trans s5) r5 sl n,λhR s5 r5=>dn.nx hR (s'.trans s5) r5,λ⟨m',hm,hI2⟩ s5 r5=>⟨m',hm,_,_,_,hI2,r5,s'.trans s5⟩⟩
noncomputable def PV.put:PV->List PD->PV
 |.own _,ds=>.own ds
 |.lnt p _,ds=>.lnt p ds
 |v,_=>v
theorem Rl.put{u:PV}(R:Rl K B E G0 H0 G H σ ρ F)(hi:ρ[i]?=some u)(hu:u.rd=some ds)(hx:σ[i]?=some (some (.ref p)))(hd:ZX K G xs es):Rl K B E G0 H0 G (upd H p (.lst xs)) σ (ρ.set i (u.put es)) F:=by
 obtain⟨p',xs',e,hx',hp,_⟩:=(R.sl i _ hi).rd hu;rw[hx]at hx';cases hx';have hpi:p∈F i:=by rw[e];simp
 obtain⟨gp,_,hE⟩:=R.fr i p hpi;have hlt:i<ρ.length:=(Io.mp hi).1;refine⟨⟨R.g.gg,zg0 R.g.gh gp,λb o n h=>?_,λb h=>?_,R.g.fr⟩,R.bb,by rw[Ob];exact R.ls,λj v h=>?_,λj a ha=>?_,R.dj,λj ds' a h ha=>?_⟩
 .have:b≠p:=λz=>by
   subst z;rcases hE with hE | hE
   .exact n hE
   .rw[hE]at h;cases h
  rw[Zk this];exact R.g.kp b o n h
 .by_cases z:b=p
  .subst z;rw[Zi]at h;cases h
  .rw[Zk z]at h;exact R.g.al b h
 .by_cases z:j=i
  .subst z;rw[IW hlt]at h;cases h;cases u with
   |own es' => exact⟨p,xs,e,hx,Zi,hd⟩
   |lnt q es' =>obtain⟨_,e2,hx2,_⟩:=R.sl j _ hi;rw[hx]at hx2;cases hx2;exact⟨xs,e,hx,Zi,hd⟩
   |_=>cases hu
  .rw[IS (Ne.symm z)]at h;refine(R.sl j v h).grow (Zr.refl _) λa ha=>Zk λq=>?_;subst q;exact z (R.dj j i a ha hpi)
 .obtain⟨h1,⟨o,h2⟩,h3⟩:=R.fr j a ha;refine⟨h1,?_,h3⟩;by_cases z:a=p
  .subst z;exact⟨_,Zi⟩
  .exact⟨o,by rw[Zk z];exact h2⟩
 .by_cases z:j=i
  .subst z;rw[IW hlt]at h;cases u with
   |own es' => exact R.ow j es' a hi ha
   |lnt q es' => cases h
   |_=>cases hu
  .rw[IS (Ne.symm z)]at h;exact R.ow j ds' a h ha
def VB{R:Pn}(h:Eg K B te ρ λr ρ' => ∃(d:PD)(u:PV)(ds:List PD),r = .dat d/\ρ'[i]?=some u/\u.rd=some ds/\ds.length<sizeLine/\R.nx (ρ'.set i (u.put (ds++[d])))){u0:PV}{ds0:List PD}(hi:ρ[i]?=some u0)(hu:u0.rd=some ds0):Sv K B (zgT (tBM K "list" zej (JB i) (YQ te V5))) ρ R:=λE G0 H0 G H σ F D r dn=>by obtain⟨p,xs,e,hx,hp,hd⟩:=(r.sl i _ hi).rd hu;refine⟨_,hx,.inl ⟨rfl,xs,SqL.of hp⟩,?_⟩;refine h E G0 H0 G H σ F r _ λv w ρ' G' H' F' L hR s r' sl n=>?_;obtain⟨d,u,ds,rfl,hi',hu',hl,hR⟩:=hR;obtain⟨p',xs',e',hx',hp',hd'⟩:=(r'.sl i _ hi').rd hu';rw[hx]at hx';cases hx';obtain⟨_,x,hxv,hxd⟩:=sl;cases hxv;refine⟨p,xs',v,rfl,rfl,hp',by rw[hd'.length];exact hl,?_⟩;exact dn.nx hR s (r'.put hi' hu' hx (Ur hd' hxd))
def zk9{R:Pn}(h:Eg K B te ρ λr ρ' => ∃(zs:List PD)(u:PV)(ds:List PD),r = .own zs/\ρ'[i]?=some u/\u.rd=some ds/\ds.length+zs.length<=sizeLine/\R.nx (ρ'.set i (u.put (ds++zs)))){u0:PV}{ds0:List PD}(hi:ρ[i]?=some u0)(hu:u0.rd=some ds0):Sv K B (zgT (tBM K "list" zfD (JB i) (YQ te V5))) ρ R:=λE G0 H0 G H σ F D r dn=>by obtain⟨p,xs,e,hx,hp,hd⟩:=(r.sl i _ hi).rd hu;refine⟨_,hx,.inl ⟨rfl,xs,SqL.of hp⟩,?_⟩;refine h E G0 H0 G H σ F r _ λv w ρ' G' H' F' L hR s r' sl n=>?_;obtain⟨zs,u,ds,rfl,hi',hu',hl,hR⟩:=hR;obtain⟨p',xs',e',hx',hp',hd'⟩:=(r'.sl i _ hi').rd hu';rw[hx]at hx';cases hx';obtain⟨q,ys,eq,hv,hq,hyd⟩:=sl;cases hv;refine⟨p,q,xs',ys,rfl,rfl,hp',hq,by rw[hd'.length,hyd.length];exact hl,?_⟩;exact dn.nx hR s (r'.put hi' hu' hx (Xe hd' hyd))
def zfj{ti:TE}{R:Pn}(h:Eg K B te ρ λr ρ' => ∃(d:PD)(u:PV)(ds:List PD)(j:Int)(n:Nat),r = .dat d/\ρ'[i]?=some u/\u.rd=some ds/\Er K B ti ρ' (.int j)/\ixN ds.length j=some n/\R.nx (ρ'.set i (u.put (ds.set n d)))):Sv K B (zkx te (znQ (JB i) ti zln)) ρ R:=λE G0 H0 G H σ F D r dn=>by refine h E G0 H0 G H σ F r _ λv w ρ' G' H' F' L hR s r' sl n=>?_;obtain⟨d,u,ds,j,n,rfl,hi',hu',he,hn,hR⟩:=hR;obtain⟨p',xs',e',hx',hp',hd'⟩:=(r'.sl i _ hi').rd hu';obtain⟨_,x,hxv,hxd⟩:=sl;cases hxv;obtain⟨s1,s2,x⟩:=r'.gpl;refine⟨_,hx',he _ σ x _ H' (Zr.refl _) s2 _ λiv G2 H2 g2 hiv=>?_⟩;have r2:=r'.grow (Qm r'.g.gh g2.hh);refine⟨p',xs',j,n,rfl,hiv.int,g2.hh _ _ hp',by rw[hd'.length];exact hn,?_⟩;exact dn.nx hR s (r2.put hi' hu' hx' (zdu n hd' hxd))
noncomputable def YK(N:List Str)(vs:List PV):List PV:=vs++List.replicate (N.length-vs.length) .un
def zaJ{vs:List V}(sb:Zr B G)(s:Zr G H)(hv:ZX K G vs ds):Rl K B (λ_=>False) G H G H (start N vs) (YK N (ds.map .dat)) (λ_=>[]):=by
 refine⟨Gw.refl s,sb,?_,λi v h=>?_,λ_ _ h=>(by cases h),λ_ _ _ h _=>(by cases h),λ_ _ _ _ h=>(by cases h)⟩
 .unfold start YK;rw[Il,Il,Ie,Ie,Nl,Nl,hv.length]
 .unfold YK at h;unfold start;by_cases hi:i<ds.length
  .rw[Ng (by rw[Ie];exact hi),Ik,Ib hi]at h;cases h;obtain⟨x,hx,hxd⟩:=hv.get (Ib hi);exact⟨rfl,x,by rw[Ng (by rw[Ie,hv.length];exact hi),Ik,hx];rfl,hxd⟩
  .rw[Ni (by rw[Ie];omega)]at h;have:=IM h;rw[(DB.mp this).2];rfl
variable {P:Program}{w:World}{mg:Str->Option Value}{base:Heap}
def zlF(K:FG)(B:Hp)(R:List PD->PD->Prop):Sp:=λvs H Q _=>∃(G:Hp)(ds:List PD)(d:PD),Zr B G/\Zr G H/\ZX K G vs ds/\R ds d/\∀ v G' H',YW G H G' H' -> Dat K G' v d->Q v H'
def zgH{R:List PD->PD->Prop}(h:Ea K B t ρ ds)(hR:R ds d):Er K B (Vn (zlF K B R) [] X t) ρ d:=λG σ r G1 H s1 s2 Q k=>by refine h G σ r G1 H s1 s2 _ λvs G2 H2 g hv=>?_;rw[Nx];exact⟨G2,ds,d,(r.1.trans s1).trans g.gg,g.gh,hv,hR,λv G' H' g' hv=>k v G' H' (g.trans g') hv⟩
def Fun.zn9{R:List PD->PD->Prop}(Fn:Fun K x qual st f fd)(S:ZD N ps (Zg st))(len:∀ ds d,R ds d->ds.length=ps.length)(hb:∀(cdv:Value)(A:Around)(outer:List Env)(s:SH)(H:Hp)(E:XK),Wt k (A.deeper (envOfC qual (Zg st) s.heap.objs.size f cdv))->∀ ds d,R ds d->
   ∃ t,PSs (zca CX0 P w K mg base N qual (Zg st) f cdv A outer s H E).nox (Z0 st) t/\Sv K B t (YK N (ds.map .dat)) {nx:=λ_=>d = .none,rt:=λr _=>r = .dat d}):Wb P w K mg base CX0 (k+1) f fd ps (zlF K B R):=by
 refine Fn.ok S (λvs H Q E h=>?_) λcdv A outer s H vs Q E hr h=>?_
 .obtain⟨G,ds,d,_,_,hv,hR,_⟩:=h;rw[hv.length];exact len ds d hR
 .obtain⟨G,ds,d,sb,sg,hv,hR,kk⟩:=h;obtain⟨t,ht,hs⟩:=hb cdv A outer s H E hr ds d hR;refine⟨t,ht,hs _ _ _ _ _ _ _ _ (zaJ sb sg hv) ⟨λe _ r=>?_,λe _ r sl n=>?_,λe=>e.elim,λe=>e.elim⟩⟩
  .have e:d = .none:=e;subst e;exact kk _ _ _ r.g.zaB Qu
  .subst e;obtain⟨_,y,hy,hd⟩:=sl;cases hy;exact kk _ _ _ r.g.zaB hd
abbrev B0:Hp:=λ_=>none
def b0:Zr B0 G:=λ_ _ h=>by cases h
def Fun.okP{R:List PD->PD->Prop}(Fn:Fun K x qual st f fd)(S:ZD N ps (Zg st))(len:∀ ds d,R ds d->ds.length=ps.length)(hb:∀(cdv:Value)(A:Around)(outer:List Env)(s:SH)(H:Hp)(E:XK),Wt k (A.deeper (envOfC qual (Zg st) s.heap.objs.size f cdv))->∀ ds d,R ds d->
   ∃ t,PSs (zca CX0 P w K mg base N qual (Zg st) f cdv A outer s H E).nox (Z0 st) t/\Sv K B0 t (YK N (ds.map .dat)) {nx:=λ_=>d = .none,rt:=λr _=>r = .dat d}):Wb P w K mg base CX0 (k+1) f fd ps (spP K R):=
 (Fn.zn9 S len hb).imp λvs H Q E ⟨G,ds,d,sg,hv,hR,kk⟩=>⟨G,ds,d,b0,sg,hv,hR,kk⟩
def Fun.okO{R:List PD->List PD->Prop}(Fn:Fun K x qual st f fd)(S:ZD N ps (Zg st))(len:∀ ds d,R ds d->ds.length=ps.length)(hb:∀(cdv:Value)(A:Around)(outer:List Env)(s:SH)(H:Hp)(E:XK),Wt k (A.deeper (envOfC qual (Zg st) s.heap.objs.size f cdv))->∀ ds es,R ds es->
   ∃ t,PSs (zca CX0 P w K mg base N qual (Zg st) f cdv A outer s H E).nox (Z0 st) t/\Sv K B0 t (YK N (ds.map .dat)) {nx:=λ_=>False,rt:=λr _=>r = .own es}):Wb P w K mg base CX0 (k+1) f fd ps (spO K R):=by
 refine Fn.ok S (λvs H Q E h=>?_) λcdv A outer s H vs Q E hr h=>?_
 .obtain⟨G,ds,d,_,hv,hR,_⟩:=h;rw[hv.length];exact len ds d hR
 .obtain⟨G,ds,es,sg,hv,hR,kk⟩:=h;obtain⟨t,ht,hs⟩:=hb cdv A outer s H E hr ds es hR;refine⟨t,ht,hs _ _ _ _ _ _ _ _ (zaJ b0 sg hv) ⟨λe _ r=>e.elim,λe _ r sl n=>?_,λe=>e.elim,λe=>e.elim⟩⟩;subst e;obtain⟨p,xs,rfl,hy,hp,hd⟩:=sl;cases hy;obtain⟨h1,_,h3⟩:=n.fr p (by simp);exact kk p xs _ _ r.g.zaB h1 h3 hp hd
def spL(K:FG)(Pre:List PD->List PD->Prop)(R:List PD->List PD->PD->List PD->Prop):Sp:=λvs H Q _=>∃(p:AD)(us:List V)(G:Hp)(xs:List V)(es ds:List PD),vs = .ref p::us/\Zr G H/\G p=none/\H p=some (.lst xs)/\ZX K G xs es/\ZX K G us ds/\Pre es ds/\
 ∀ v x es' xs' G' H',R es ds x es' -> Gw (· = p) G H G' H' -> G' p=none->H' p=some (.lst xs')->ZX K G' xs' es' -> Dat K G' v x->Q v H'
def zi4{us:List V}(sb:Zr B G)(s:Zr G H)(gp:G p=none)(hp:H p=some (.lst xs))(hx:ZX K G xs es)(hv:ZX K G us ds):Rl K B (· = p) G H G H (start N (.ref p::us)) (YK N (.lnt p es::ds.map .dat)) (λk=>if k=0 then[p]else[]):=by
 refine⟨Gw.refl s,sb,?_,λi v h=>?_,λi a ha=>?_,λi j a ha hb=>?_,λi ds' a h ha=>?_⟩
 .unfold start YK;rw[Il,Il,Ie,IL,IL,Ie,Nl,Nl,hv.length]
 .cases i with
  |zero=>have h:some (PV.lnt p es)=some v:=h;cases h;exact⟨xs,rfl,rfl,hp,hx⟩
  |succ i=>
   rw[Iq (by omega)];have h:(ds.map PV.dat++List.replicate (N.length-(ds.map PV.dat).length.succ) PV.un)[i]?=some v:=h;show Sl K G H ((us.map some++List.replicate (N.length-us.length.succ) none)[i]?) v [];by_cases hi:i<ds.length
   .rw[Ng (by rw[Ie];exact hi),Ik,Ib hi]at h;cases h;obtain⟨x,hx,hxd⟩:=hv.get (Ib hi);exact⟨rfl,x,by rw[Ng (by rw[Ie,hv.length];exact hi),Ik,hx];rfl,hxd⟩
   .rw[Ni (by rw[Ie];omega)]at h;have:=IM h;rw[(DB.mp this).2];rfl
 .split at ha
  .rw[Ij.mp ha];exact⟨gp,⟨_,hp⟩,.inl rfl⟩
  .cases ha
 .split at ha
  .split at hb
   .omega
   .cases hb
  .cases ha
 .split at ha
  .rename_i z
   subst z;have h:some (PV.lnt p es)=some (.own ds'):=h;cases h
  .cases ha
def Fun.okL{Pre:List PD->List PD->Prop}{R:List PD->List PD->PD->List PD->Prop}(Fn:Fun K x qual st f fd)(S:ZD N ps (Zg st))(len:∀ es ds,Pre es ds->ds.length+1=ps.length)(hb:∀(cdv:Value)(A:Around)(outer:List Env)(s:SH)(H:Hp)(E:XK),Wt k (A.deeper (envOfC qual (Zg st) s.heap.objs.size f cdv))->∀ p es ds,Pre es ds->
   ∃ t,PSs (zca CX0 P w K mg base N qual (Zg st) f cdv A outer s H E).nox (Z0 st) t/\Sv K B0 t (YK N (.lnt p es::ds.map .dat)) {nx:=fun ρ' => ∃ es',R es ds .none es' /\ ρ'[0]?=some (.lnt p es'),rt:=λr ρ' => ∃ d es',r = .dat d/\R es ds d es' /\ ρ'[0]?=some (.lnt p es')}):Wb P w K mg base CX0 (k+1) f fd ps (spL K Pre R):=by
 refine Fn.ok S (λvs H Q E h=>?_) λcdv A outer s H vs Q E hr h=>?_
 .obtain⟨p,us,G,xs,es,ds,rfl,_,_,_,_,hv,hP,_⟩:=h;rw[IL,hv.length];exact len es ds hP
 .obtain⟨p,us,G,xs,es,ds,rfl,sg,gp,hp,hx,hv,hP,kk⟩:=h;obtain⟨t,ht,hs⟩:=hb cdv A outer s H E hr p es ds hP;refine⟨t,ht,hs _ _ _ _ _ _ _ _ (zi4 b0 sg gp hp hx hv) ⟨λe _ r=>?_,λe _ r sl n=>?_,λe=>e.elim,λe=>e.elim⟩⟩
  .obtain⟨es',hR,h0⟩:=e;obtain⟨xs',e,hx',hp',hd'⟩:=r.sl 0 _ h0;exact kk _ _ es' xs' _ _ hR r.g (r.fr 0 p (by rw[e];simp)).1 hp' hd' Qu
  .obtain⟨d,es',rfl,hR,h0⟩:=e;obtain⟨xs',e,hx',hp',hd'⟩:=r.sl 0 _ h0;obtain⟨_,y,hy,hd⟩:=sl;cases hy;exact kk _ _ es' xs' _ _ hR r.g (r.fr 0 p (by rw[e];simp)).1 hp' hd' hd
def EgA(K:FG)(B:Hp)(t:TA)(ρ:List PV)(R:List PD->List PV->Prop):Prop:=∀ E G0 H0 G H σ F,Rl K B E G0 H0 G H σ ρ F->∀ Q:List V->Hp->Prop,
 (∀ vs ds ρ' G' H' F',R ds ρ' -> Zr G G' -> Rl K B E G0 H0 G' H' σ ρ' F' -> ZX K G' vs ds->Q vs H')->t σ H Q
def Wz{R:List PD->List PV->Prop}(h:Ea K B t (msk ρ) ds)(k:R ds ρ):EgA K B t ρ R:=λE G0 H0 G H σ F r Q q=>h G σ r.rx G H (Zr.refl _) r.g.gh Q λvs G' H' g hv=>q vs ds ρ G' H' F k g.gg (r.grow g) hv
def QJ{R:List PD->List PV->Prop}(h:Eg K B te ρ λr ρ1=>∃ d,r = .dat d/\EgA K B t ρ1 λds ρ2=>R (d::ds) ρ2):EgA K B (YQ te t) ρ R:=λE G0 H0 G H σ F r Q q=>
 h E G0 H0 G H σ F r _ λv w ρ1 G1 H1 F1 L hw s1 r1 sl n=>by obtain⟨d,rfl,h2⟩:=hw;obtain⟨_,y,hy,hd⟩:=sl;cases hy;exact h2 E G0 H0 G1 H1 σ F1 r1 _ λvs ds ρ2 G2 H2 F2 hR s2 r2 hv=>q _ _ ρ2 G2 H2 F2 hR (s1.trans s2) r2 (Z4 (hd.same s2) hv)
def zcB{r:R2}{R:PV->List PV->Prop}(h:Eg K B ta ρ λx ρ1=>∃ a,x = .dat a/\Eg K B tb ρ1 λy ρ2=>∃ b c,y = .dat b/\(∀ G σ va vb,Dat K G va a->Dat K G vb b->Ev K (tOp r (tC va) (tC vb)) σ G c)/\R (.dat c) ρ2):Eg K B (tOp r ta tb) ρ R:=λE G0 H0 G H σ F r Q q=>
 h E G0 H0 G H σ F r _ λv w ρ1 G1 H1 F1 L hw s1 r1 sl n=>by obtain⟨a,rfl,h2⟩:=hw;obtain⟨_,y,hy,hd⟩:=sl;cases hy;refine h2 E G0 H0 G1 H1 σ F1 r1 _ λv2 w2 ρ2 G2 H2 F2 L2 hw2 s2 r2 sl2 n2=>?_;obtain⟨b,c,rfl,hop,hR⟩:=hw2;obtain⟨_,y2,hy2,hd2⟩:=sl2;cases hy2;exact hop G2 σ v v2 (hd.same s2) hd2 G2 H2 (Zr.refl _) r2.g.gh Q λv3 G3 H3 g3 hv3=>q v3 _ ρ2 G3 H3 F2 [] hR ((s1.trans s2).trans g3.gg) (r2.grow g3) ⟨rfl,v3,rfl,hv3⟩ Jv
end
end L2
namespace HT
open PySem PySem.Spec PyProof.Rows
section
variable {prog:Program}{w:World}{A:Around}{E:Value->SH->Prop}{s:SH}
def Vh{t sl:AD}{items:Array Value}{vl vu:Value}{lo hi:Option Int}{Q:Value->SH->Prop}(ht:IsTup s.heap t items)(hs:s.heap.IsSliceOf sl vl vu .none)(pl:IsPart vl lo)(pu:IsPart vu hi)(hw:sIx items.size 0 lo=0/\sIx items.size items.size hi=items.size)(h:Q (.ref t) s):wpAny (model prog w) A (getItem (.ref t) (.ref sl)) Q E s:=by
 obtain⟨os,hos,hcs,hds⟩:=id hs;have hTs:s.TypeIs (.ref sl) "slice" := ⟨os,hos,hcs⟩
 unfold getItem
 try with_reducible refine I9 ?_
 first | refine Ia (Ic ?_) | skip
 refine Ia (wpAny_sequenceKey ht.typeIs (by decide) ?_);refine Ia (Ny (name:=Str.ofString "__getitem__") ht.typeIs Oi
  (Nn Oi ht.typeIs entry_tuple_getitem ?_ (args_tuple_getitem _ _)))
 show wpAny _ _ (Builtin.Tuple.tupleItemsOf (.ref t) >>= _) _ _ s;refine Ia (tupleItemsOf_ ht ?_);refine Ia (Db hTs ?_);rw[Iz (by decide)];refine Ia (Jy hs pl pu ?_);have hyes:(((sIx items.size 0 lo:Nat):Int)==0&&(1:Int)==1&&(sIx items.size items.size hi-sIx items.size 0 lo)==items.size)=true:=by rw[hw.1,hw.2];simp
 show wpAny _ _ (if(((sIx items.size 0 lo:Nat):Int)==0&&(1:Int)==1&&(sIx items.size items.size hi-sIx items.size 0 lo)==items.size)=true then _ else _) _ _ s;rw[Iz hyes];refine Ia (m:=Builtin.Tuple.tupleIsExact (.ref t)) ?_;unfold Builtin.Tuple.tupleIsExact;refine Ia (Db ht.typeIs (Ic ?_));rw[Iz (by decide)];refine Ia (Da ?_)
 first
  |exact Ic ⟨_,rfl,Ic h⟩
  |exact Ia (Ic (Ic ⟨_,rfl,Ic h⟩))
end
end HT
namespace L2
open PySem PySem.Spec PyProof.Rows
variable {te:TE}{tl th:TO}{lo hi:Option Int}{d:AD}{t:TA}{x:Str}{es:Array DictEntry}{ep i:Nat}{js:List Nat}{tt:TT}{wi:TI}{ns:List Int}{α:Type}{N:List Str}
section
variable {X:Cx}{K:FG}
def ziZ(K:FG):V->Option Int->Option Int->Hp->VK->Prop:=λx lo hi H Q=>∃ a xs,x = .ref a/\SqT K H a xs/\
 ((HT.sIx xs.length 0 lo=0/\HT.sIx xs.length xs.length hi=xs.length)->Q (.ref a) H)/\(¬ (HT.sIx xs.length 0 lo=0/\HT.sIx xs.length xs.length hi=xs.length)->∀ p,H p=none->Q (.ref p) (upd H p (.tup (zeL xs lo hi))))
def zjc(e:X.K=K):SlR X (ziZ K):=by
 subst e;intro aa s σ H x v vl vu lo hi sl Q I rx hs pl pu h;obtain⟨a,xs,rfl,hx,q1,q2⟩:=h;by_cases hw:HT.sIx xs.length 0 lo=0/\HT.sIx xs.length xs.length hi=xs.length
 .cases rx;obtain⟨its,r,ht,hz⟩:=I.tuple hx;have hlen:its.toArray.size=xs.length:=by rw[ID];exact r.length.symm
  exact⟨"tuple",_,PyProof.Rows.slot_tuple_getitem.lookup,ht.typeIs,HT.Vh ht hs pl pu (by rw[hlen];exact hw) ⟨.ref a,H,I,rfl,q1 hw⟩⟩
 .exact zkI aa s σ H _ v vl vu lo hi sl Q I rx hs pl pu ⟨a,xs,rfl,hx,hw,q2 hw⟩
def zlf{σ:St}{G:Hp}{ds:List PD}(h:Ev K te σ G (.tuple ds))(hl:∀ H (Q:Option Int->Hp->Prop),Q lo H->tl σ H Q)(hh:∀ H (Q:Option Int->Hp->Prop),Q hi H->th σ H Q):
  Ev K (tSl (ziZ K) te tl th) σ G (.tuple ((ds.drop (HT.sIx ds.length 0 lo)).take (HT.sIx ds.length ds.length hi-HT.sIx ds.length 0 lo))):=
 λG1 H s1 s2 Q k=>h G1 H s1 s2 _ λv G2 H2 g2 hv=>by
  obtain⟨p,xs,rfl,hp,hxs⟩:=hv.tup;have hlen:=hxs.length;refine hl _ _ (hh _ _ ⟨p,xs,rfl,g2.gh.tup hp,λhw=>?_,λhw q hq=>?_⟩)
  .refine k _ _ _ g2 ?_;rw[hlen]at hw;rw[hw.1,hw.2,drop_zero,Nat.sub_zero,List.take_of_length_le (Ih _)];exact XQ hp hxs
  .have g:=Yh (o:=.tup (zeL xs lo hi)) g2.gh hq;refine k _ _ _ (g2.trans g) (XQ (SqT.of Zi) ?_);have q:=UL (HT.sIx ds.length ds.length hi-HT.sIx ds.length 0 lo) (Us (HT.sIx ds.length 0 lo) (hxs.same g.gg));rw[← hlen]at q ⊢;exact q
end
section
variable {X:Cx}{aa:List (AD×Obj)}{σ:St}{H G:Hp}{s:SH}
open Classical in
noncomputable def Xx(s:SH)(d:PD)(u:Value):Bool:=decide (∃ as,Reads s.heap u d as)
def zgR{a b:PD}(ha:Pl 60 a)(hb:Pl 60 b):PyData.eqv a b=PySem.Spec.same a b:=(SeqAt.same_eq_eqv a b (ha.mix hb)).symm
theorem QW(I:Inv X aa σ H s)(e:Zr G H)(hu:X.A.units+64<cLine){d:PD}{v:Value}{as:List AD}(rd:Reads s.heap v d as)(pd:Pl 60 d):∀{ds:List PD}{xs:List V}{its:List Value},ZX X.K G xs ds->Vals xs its->(∀ e∈ds,Pl 60 e)->
  (∀ y∈its,SeqAt.EqAt X.A.in1 s y v (Xx s d y))/\its.any (Xx s d)=ds.any λe=>PySem.Spec.same e d
 |[],_,its,h,r,_=>by rw[h.nil]at r;cases r;exact⟨λy hy=>(by cases hy),rfl⟩
 |a::ds,_,its,h,r,hp=>by
  obtain⟨y,ys,rfl,hd,hr⟩:=h.cons;cases r with
  |@cons _ u _ us r1 r2=>
   obtain⟨h1,h2⟩:=QW I e hu rd pd hr r2 λx hx=>hp x (Im _ hx);obtain⟨bs,ra⟩:=Dat.reads I e hd r1;have pa:=hp a Ir;have key:Xx s d u=PySem.Spec.same a d:=by
    unfold Xx;by_cases h:a=d
    .subst h;rw[same_self];exact @Iw _ (Classical.propDecidable _) ⟨_,ra⟩
    .rw[zga h];exact @Ip _ (Classical.propDecidable _) λ⟨cs,rc⟩=>h (SeqAt.Reads.unique a d u _ _ pa.lay ra rc)
   refine⟨λz hz=>?_,by rw[DE,DE,key,h2]⟩;rcases IE.mp hz with rfl | hz
   .rw[key,← zgR pa pd];exact SeqAt.eqAt_reads a d X.A.in1 s z v bs as ra rd pa.lay pd.lay (by
     have:=pa.dep;show X.A.units+1+min a.depth d.depth<cLine;omega)
   .exact h1 z hz
def znX(K:FG)(neg:Bool):R2:=λx y H Q=>∃(G:Hp)(d:PD)(ds:List PD)(p:AD)(xs:List V),Zr G H/\Dat K G x d/\y = .ref p/\H p=some (.lst xs)/\ZX K G xs ds/\Pl 60 d/\(∀ e∈ds,Pl 60 e)/\
 Q (.bl (if neg=true then !ds.any (λe=>PySem.Spec.same e d)else ds.any λe=>PySem.Spec.same e d)) H
def U8{K:FG}(eK:X.K=K)(hu:X.A.units+64<cLine):OpR X (compareOp .NotIn) (znX K true):=by subst eK;intro aa s σ H x y v u Q I rx ry h;obtain⟨G,d,ds,p,xs,e,hd,rfl,hp,hx,pd,pds,q⟩:=h;cases ry;obtain⟨its,r,pl,hz⟩:=I.list (SqL.of hp);obtain⟨as,rd⟩:=Dat.reads I e hd rx;obtain⟨h1,h2⟩:=QW I e hu rd pd hx r pds;refine SeqAt.notIn_listAt (Xx s d) pl.isList (λw hw=>h1 w (by simpa using hw)) ⟨.bl _,H,I,rfl,?_⟩;rw[show its.toArray.any (Xx s d)=its.any (Xx s d)by simp,h2];exact q
end
section
variable {K:FG}{σ:St}{G:Hp}{ta tb:TE}
def zjU{b:Bool}(h:EvA K t σ G [.bool b]):Ev K (tCB (λxs H Q=>(∃ i,xs=[.int i]/\Q (.int i) H)\/∃ k,xs=[.bl k]/\Q (.int (if k then 1 else 0)) H) t) σ G (.int (if b then 1 else 0)):=
 za6 h λG1 H xs Q s1 s2 hx k=>by obtain⟨y,r,rfl,hy,hr⟩:=hx.cons;cases hr.nil;cases hy.bl;exact .inr ⟨b,rfl,k _ G1 H (YW.refl s2) (Zy _)⟩
end
def zhr(h:∀ c∈x.cps.toList,c<128):PyData.canLay0 (.str x)=true:=by unfold PyData.canLay0 PyData.strOk;rw[Array.all_eq_true'];intro c hc;have:=h c (mem_toList_iff.mpr hc);simp;omega
def zh1{n:Nat}(h:∀ c∈x.cps.toList,c<128):Pl n (.str x):=⟨zhr h,by unfold PyData.depth;omega,by unfold noBool;rfl⟩
def zjR(h:Heap)(d:AD)(es:Array DictEntry)(ep:Nat):Prop:=∃ o,h.get? d=some o/\o.ExactDict/\o.data = .dict es ep
section
variable {prog:Program}{w:World}{A:Around}{E:Value->SH->Prop}{s:SH}
def zjR.ty(x:zjR s.heap d es ep):s.TypeIs (.ref d) "dict" := let ⟨o,e,c,_⟩:=x;⟨o,e,c.1⟩
abbrev kIt(d:AD)(n ep:Nat):Obj:={cls:=.type "dict_keyiterator",data:=.fields #[.ref d,.int 0 0,.int n 0,.int ep 0]}
def zj7{Q:Value->SH->Prop}(hd:(d==sysModules)=false)(x:zjR s.heap d es ep)(q:Q (.ref s.heap.objs.size) {s with heap:=s.heap.push (kIt d es.size ep)}):wpAny (model prog w) A (pyIter (.ref d)) Q E s:=by have hT:=x.ty;obtain⟨o,e,_,hdat⟩:=x;refine wpAny_pyIter_slot hT F.slot_dict_iter (Nn F.slot_dict_iter hT F.entry_dict_iter ?_ (F.args_dict_iter_1 _));unfold Builtin.«dict.__iter__»;refine Ia ?_;unfold Builtin.Dict.dictSlotNone;refine Ia (wpAny_notOrdered_dict hT (Ic (a:=Value.ref d) ?_));refine Ia (m:=Builtin.Dict.showsAll d) ?_;unfold Builtin.Dict.showsAll;rw[Iq (by rw[hd];exact Ii)];exact Ic (Ia (wpAny_dictEntries e hdat (Ia (wpAny_dictEpoch e hdat (Ia (Na (Ic ⟨_,rfl, "dict_keyiterator",_,⟨_,Iu _ rfl,rfl⟩,F.slot_dict_keyiterator_next.lookup,q⟩)))))))
def ziH{it:AD}{en:DictEntry}{Q:Option Value->SH->Prop}(hit:s.heap.IsKeyIter it d i es.size ep)(x:zjR s.heap d es ep)(hx:es[i]?=some en)(q:∀ h',h'.IsKeyIter it d (i+1) es.size ep->SameBut it s.heap h' -> Q (some en.key) {s with heap:=h'}):wpAny (model prog w) A (pyNext (.ref it)) Q E s:=by
 obtain⟨o,ho,hc,hd⟩:=id hit;obtain⟨od,hod,_,hdd⟩:=x;have ty:=hit.typeIs;unfold pyNext;refine Ia (O0 (Ny (name:=Str.ofString "__next__") ty OA (Nn OA ty F.entry_dict_keyiterator_next (Ia (Ic (Ia (Ia ?_)))) (F.args_dict_keyiterator_next_1 _))))
 first | refine Ia (Ow ty (Ic (Ia (Du ho hd ?_)))) | refine Ia (O4 ty (Ic (Ia (Du ho hd ?_))))
 have own:Builtin.Dict_items.ownsTuple "dict_keyiterator" = false:=by decide
 simp only[own,IY,IF];show wpAny _ _ (if(Value.ref d==Value.none)=true then _ else _) _ _ s;rw[Iq (λz:(Value.ref d==Value.none)=true=>Ii z)];refine Ia (Ic (Ia (wpAny_dictEntries hod hdd ?_)));rw[Iq (by simp)];refine Ia (Ic (Ia (wpAny_dictEpoch hod hdd ?_)));rw[Iq (by simp)];refine Ic ?_;have lt:i<es.size:=by
  rcases Nat.lt_or_ge i es.size with h | h
  .exact h
  .rw[Df h]at hx;cases hx
 have ee:es[i]=en:=by rw[Ix lt]at hx;exact IA hx
 simp only[show ¬ ((i:Int)<0)by omega,IY,NP,Ix lt];refine Ia ?_
 first | refine Ia (Ow ty (Ic (Ia (wpAny_isOneOf_keyiter ty ?_)))) | refine Ia (O4 ty (Ic (Ia (wpAny_isOneOf_keyiter ty ?_))))
 refine Ia (m:=setField (.ref it) 1 (rawInt ((i:Int)+1))) (O7 ho hd (by simp) ?_);have hit' : (s.heap.update it (Obj.mapFields (·.setIfInBounds 1 (rawInt ((i:Int)+1))))).IsKeyIter it d (i+1) es.size ep:=⟨_,NI _ ho (Dj (NS hd _)),(Obj.cls_mapFields ..).trans hc,by rw[NS hd];simp[rawInt]⟩
 refine Ia (I9 (Ia (wpAny_isOneOf_keyiter (s:={s with heap:=s.heap.update it (Obj.mapFields (·.setIfInBounds 1 (rawInt ((i:Int)+1))))}) hit'.typeIs ?_)));show wpAny _ _ (pure es[i].key) _ _ _;rw[ee];exact Ic (Ic ⟨_,rfl,Ic (q _ hit' (Ot ..))⟩)
def zmC{it:AD}{Q:Option Value->SH->Prop}(hh:A.handled=none)(hit:s.heap.IsKeyIter it d i es.size ep)(x:zjR s.heap d es ep)(hx:es.size<=i)(q:∀ h',ExtBut it s.heap h' -> Q none {s with heap:=h'}):wpAny (model prog w) A (pyNext (.ref it)) Q E s:=by
 obtain⟨o,ho,hc,hd⟩:=id hit;obtain⟨od,hod,_,hdd⟩:=x;have ty:=hit.typeIs;unfold pyNext;refine Ia (O0 (Ny (name:=Str.ofString "__next__") ty OA (Nn OA ty F.entry_dict_keyiterator_next (Ia (Ic (Ia (Ia ?_)))) (F.args_dict_keyiterator_next_1 _))))
 first | refine Ia (Ow ty (Ic (Ia (Du ho hd ?_)))) | refine Ia (O4 ty (Ic (Ia (Du ho hd ?_))))
 have own:Builtin.Dict_items.ownsTuple "dict_keyiterator" = false:=by decide
 simp only[own,IY,IF];show wpAny _ _ (if(Value.ref d==Value.none)=true then _ else _) _ _ s;rw[Iq (λz:(Value.ref d==Value.none)=true=>Ii z)];refine Ia (Ic (Ia (wpAny_dictEntries hod hdd ?_)));rw[Iq (by simp)];refine Ia (Ic (Ia (wpAny_dictEpoch hod hdd ?_)));rw[Iq (by simp)];refine Ic ?_;simp only[show ¬ ((i:Int)<0)by omega,IY,NP,Df hx];refine Ia ?_
 first | refine Ia (Ow ty (Ic ?_)) | refine Ia (O4 ty (Ic ?_))
 refine Ia (m:=setField (.ref it) 0 .none) (O7 ho hd (by simp) (Ia (m:=newExc (.type "StopIteration") []) ?_));simp only[newTuple,newExc];refine Ia (Na (Ia (m:=firstArgMember _ _) (wpAny_of_eq (a:=Value.none) (by first | rfl | (simp only[firstArgMember];rfl)) (Na ?_ (by size_fits)))) (by size_fits));simp only[raiseNew];refine Ia (wpAny_handled ?_);rw[show A.in1.handled=none from hh];refine Ia (Ic (wpAny_throw ?_));exact Ia (N8 (T:= "StopIteration") (b:=true) ⟨_,Iu _ rfl,rfl⟩ isSubtype_stop (Ic (q _ (((Ot ..).extBut.push _).push _))))
end
section
variable {K:FG}{σ:St}{G:Hp}{ta tb:TE}{a b d:PD}
noncomputable def kD:Key->PD
 |.inl i=>.int i
 |.inr x=>.str x
def zoc{v:V}{k:Key}(h:Dat K G v (kD k)):v=kV k:=by
 cases k with
 |inl i=>exact h.int
 |inr x=>exact h.str
end
abbrev KF:=List Key
noncomputable def Ug(k:KF):PD:=.tuple (k.map kD)
def zcF{zs:List (KF×AD×Value)}{k:KF}(h:k∉zs.map (·.1)):atKey zs k=none:=by unfold atKey;rw[Option.map_eq_none_iff,find?_eq_none];intro z hz e;exact h (IB.mpr ⟨z,hz,IC e⟩)
section
variable {X:Cx}{aa:List (AD×Obj)}{σ:St}{H G:Hp}{s:SH}
def zbq(I:Inv X aa σ H s)(sg:Zr G H){k:KF}{b:AD}(h:Dat X.K G (.ref b) (Ug k)):(tupleKind (Y6 X.prog X.w)).is s.heap k b:=by
 obtain⟨p,zs,e,hp,hz⟩:=Dat.tup h;cases e;obtain⟨its,r,⟨o,h1,h2,n,h3⟩,zz⟩:=I.tuple (sg.tup hp);clear zz;have e:zs=k.map kV:=by
  clear r hp h
  induction k generalizing zs with
  |nil=>exact hz.nil
  |cons q l ih=>obtain⟨u,us,rfl,hu,hus⟩:=hz.cons;rw[zoc hu,ih us hus];rfl
 subst e;exact⟨o,its.toArray,n,h1,h2,h3,by simpa using zb5 r⟩
end
def zke(K:FG):R2:=λx y H Q=>∃ a b xs ys,x = .ref a/\y = .ref b/\SqT K H a xs/\SqT K H b ys/\xs.length+ys.length<=sizeLine/\(xs=[]->Q (.ref b) H)/\(xs≠[]->ys=[]->Q (.ref a) H)/\(xs≠[]->ys≠[]->∀ p,H p=none->Q (.ref p) (upd H p (.tup (xs++ys))))
def zhm{X:Cx}{K:FG}(e:X.K=K):OpR X (binaryOp .Add) (zke K):=by
 subst e;intro aa s σ H x y v u Q I rx ry h;obtain⟨a,b,xs,ys,ex,ey,ha,hb,hz,q0,q1,q2⟩:=h;by_cases hx:xs=[]
 .subst ex ey;cases rx;cases ry;obtain⟨its,r1,p1,_⟩:=I.tuple ha;obtain⟨its2,r2,p2,_⟩:=I.tuple hb;have e0:its=[]:=r1.JX.mpr hx;obtain⟨⟨cls,dd,data,sl⟩,ho,hc,n,hd⟩:=id p1;obtain⟨⟨cls2,dd2,data2,sl2⟩,ho2,hc2,n2,hd2⟩:=id p2;simp only at hc hd hc2 hd2;subst hc hd hc2 hd2;exact concat_meets ⟨_,ho,rfl⟩ ⟨_,ho2,rfl⟩ noFill_tuple_add seq_tuple_add F.slot_tuple_add F.entry_tuple_add (F.args_tuple_add_2 _ _) (tuple_addW0 a b its.toArray its2.toArray n n2 dd dd2 sl sl2 (by simp[e0])) ⟨ho,ho2,.ref b,H,I,rfl,q0 hx⟩
 .exact zks aa s σ H x y v u Q I rx ry ⟨a,b,xs,ys,ex,ey,ha,hb,hx,hz,q1 hx,q2 hx⟩
def zjO{K:FG}{σ:St}{G:Hp}{ta tb:TE}{ds es:List PD}(ha:Ev K ta σ G (.tuple ds))(hb:Ev K tb σ G (.tuple es))(hz:ds.length+es.length<=sizeLine):Ev K (tOp (zke K) ta tb) σ G (.tuple (ds++es)):=
 QB ha hb λG1 H x y Q s1 s2 hx hy k=>by
  obtain⟨p,us,rfl,hp,hus⟩:=hx.tup;obtain⟨q,vs,rfl,hq,hvs⟩:=hy.tup;have l1:=hus.length;have l2:=hvs.length;refine⟨p,q,us,vs,rfl,rfl,s2.tup hp,s2.tup hq,by omega,λz=>?_,λz z2=>?_,λz z2 l hl=>?_⟩
  .subst z;have:ds=[]:=by cases ds with | nil=>rfl | cons=>simp at l1
   subst this;exact k _ G1 H (YW.refl s2) (XQ hq hvs)
  .subst z2;have:es=[]:=by cases es with | nil=>rfl | cons=>simp at l2
   subst this;rw[Nx]at k;exact k _ G1 H (YW.refl s2) (XQ hp hus)
  .have g:=Yh (o:=.tup (us++vs)) s2 hl;exact k _ _ _ g (XQ (SqT.of Zi) ((Xe hus hvs).same g.gg))
structure Wa(fr sc:Scope)(x x2:Str)(cap:List Str):Prop where
 kind:sc.kind = .function
 cell:∀ p∈sc.names,p.2≠.cell
 names:∀ p∈sc.names,p.2 = .local->sc.names.lookup p.1=some .local
 tgt:sc.names.lookup x=some .local
 tgt2:sc.names.lookup x2=some .local
 free:∀ p∈sc.names,p.2 = .free->fr.names.lookup p.1=some .cell
 caps:∀ y∈cap,(y,NameKind.free)∈sc.names
 nd:(x::x2::cap).Nodup
 noboth:∀ y∈cap,sc.names.lookup y≠some .local
section
variable {X:Cx}{aa:List (AD×Obj)}{σ:St}{H:Hp}{s:SH}{sc:Scope}{x x2:Str}{cap:List Str}
def zn2(K:FG)(J:It)(js:List Nat)(σ:St)(tt:TT)(te:TE)(Q:VK)(W:Nat->Nat->List V->Hp->Prop):Prop:=
 ∀ i m ys H,W i m ys H->ys.length<sizeLine/\
  ((J.stop i H/\∀ p,H p=none->Q (.ref p) (upd H p (.lst ys)))\/
   (J.go i H/\∀ x H',J.yld i H x H' -> ∃ p u1 u2,x = .ref p/\SqT K H' p [u1,u2]/\tt (some u1::some u2::QL σ js) H' λb H2=>if b=true then te (some u1::some u2::QL σ js) H2 λv H3=>∃ m',m'<m/\W (i+1) m' (ys++[v]) H3 else ∃ m',m'<m/\W (i+1) m' ys H2))
def zmI(K:FG)(wi:TI)(js:List Nat)(tt:TT)(te:TE):TE:=fun σ H Q=>wi σ H λJ H1=>∃ W:Nat->Nat->List V->Hp->Prop,(∃ m,W 0 m [] H1)/\zn2 K J js σ tt te Q W
def zij{K:FG}{J:It}{Q:VK}{W:Nat->Nat->List V->Hp->Prop}(h:zn2 K J js σ tt te Q W):zne 2 J js σ (zkt K 2 (JC (Wi 0) (JC (Wi 1) ziL))) tt te Q W:=λi m ys H w=>by
 obtain⟨a,b⟩:=h i m ys H w;refine⟨a,b.imp id λ⟨go,st⟩=>⟨go,λx H' y ws hw=>?_⟩⟩;obtain⟨pv',u1,u2,rfl,hsq,st'⟩:=st x H' y
 match ws,hw with
 |[v,v'],_=>exact⟨pv',[u1,u2],rfl,hsq,rfl,u1,[u2],rfl,u2,[],rfl,rfl,[some u1,some u2],rfl,rfl,st'⟩
def Wa.n{fr:Scope}(S:Wa fr sc x x2 cap):YZ fr sc [x,x2] cap:=⟨S.kind,S.cell,S.names,S.free,S.caps,S.noboth⟩
def Wa.pg(S:Wa X.env.scope sc x x2 cap)(hc:X.calm=true){px py tpos:Pos}{tk:Nat}(C:AD)(s0:SH)(H0:Hp)(ex:List AD):PG (YG X sc ([x,x2]++cap) C s0 H0 ex) (.Tuple [.Name x px,.Name x2 py] tk tpos) (zkt X.K 2 (JC (Wi 0) (JC (Wi 1) ziL))):=Jx hc (ZK (Zz S.nd rfl (.inl (Os S.tgt)) (.inr (Os S.tgt))) (ZK (Zz S.nd rfl (.inl (Os S.tgt2)) (.inr (Os S.tgt2))) Xv))
def zaw(S:Wa X.env.scope sc x x2 cap)(hjs:js.map (λj=>X.N[j]?)=cap.map some)(hc:X.calm=true)(hxe:∀ e s,¬ X.xe e s){elt iter:Expr}{ifs:List Expr}{pos px py tpos:Pos}{tk:Nat}(hi:PI X (.Tuple [.Name x px,.Name x2 py] tk tpos) iter wi)(hb:∀ C s0 H0 ex,PIf (YG X sc (x::x2::cap) C s0 H0 ex) ifs tt/\PE (YG X sc (x::x2::cap) C s0 H0 ex) elt te)(hs:∀ x,foldedSetIterable iter X.env x=pure x:=by intro _;rfl):PE X (.ListComp elt [⟨(.Tuple [.Name x px,.Name x2 py] tk tpos),iter,ifs,0⟩] sc pos) (zmI X.K wi js tt te):=by
 intro aa s σ H Q I h;rw[eval_ListComp];refine OZ (use:=none) rfl hs (Xo (S.n.cells I.ok)) S.kind S.names (thn (hi aa s σ H _ I h) λxv s₁ h₁=>thn h₁ λitv s₂ h₂=>?_);obtain⟨it,fp,tn,J,H2,e,I2,T,st2,f2,W,w0,turn⟩:=h₂;subst e;refine QH (xs:=[x,x2]) (Q:=Q) (RR:=λacc C=>compPost (model X.prog X.w) X.A X.xe none (EP X aa σ Q) acc C) S.n hjs (λ_ _ _ _=>hc) (S.pg hc) (λC=>hb C _ _ _) I2 T st2 f2 w0 (zij turn) ?_;intro D C s' σ' H' ys its k hD hC J' rv hz q;obtain⟨m,hn,_⟩:=J'.loc;have pinD:=J'.pin (D,{cls:=.type "list",data:=.seq its.toArray k}) (IG _ (Ij.mpr rfl));exact⟨m,hn,λh' hs' => ⟨.ref D,_,QQ (xs:=[x,x2]) S.n I2 f2 hD hC J' pinD.2.1 pinD.1 rv hz hs',rfl,q D pinD.2.1⟩⟩
end
open PySem PySem.Spec PyProof.Rows Lw
section
variable {K:FG}{B:Hp}{E:AD->Prop}{G0 H0 G H G' H' : Hp}{σ:St}{ρ:List PV}{F:Nat->List AD}{ta tb te:TE}{a b d:PD}{ds es:List PD}
def zgC{r:List V->Hp->VK->Prop}(h:Ea K B t ρ ds)(hr:∀ G1 H xs (Q:VK),Zr G1 H->ZX K G1 xs ds->(∀ v G' H',YW G1 H G' H' -> Dat K G' v d->Q v H')->r xs H Q):Er K B (tCB r t) ρ d:=λG σ r' => za6 (h G σ r') λG1 H xs Q _ s2 hx k=>hr G1 H xs Q s2 hx k
def zmB{i:Int}(h:Er K B te ρ (.int i)):Er K B (tUn (rU λi=>.int (-i)) te) ρ (.int (-i)):=λG σ r G1 H s1 s2 Q k=>h G σ r G1 H s1 s2 _ λv G2 H2 g hv=>⟨i,hv.int,k _ G2 H2 g (Zy _)⟩
def Eo(K:FG)(B:Hp)(t:TO)(ρ:List PV)(o:Option Int):Prop:=∀ G σ,Rx K B G σ ρ->∀ H (Q:Option Int->Hp->Prop),Q o H->t σ H Q
def zfM:Eo K B zei ρ none:=λ_ _ _ _ _ q=>q
def zis{i:Int}:Eo K B (zkJ (tC (.int i))) ρ (some i):=λ_ _ _ _ _ q=>⟨i,rfl,q⟩
abbrev slD(ds:List PD)(lo hi:Option Int):List PD:=(ds.drop (HT.sIx ds.length 0 lo)).take (HT.sIx ds.length ds.length hi-HT.sIx ds.length 0 lo)
def zmp(h:Er K B te ρ (.tuple ds))(hl:Eo K B tl ρ lo)(hh:Eo K B th ρ hi):Er K B (tSl (ziZ K) te tl th) ρ (.tuple (slD ds lo hi)):=λG σ r=>zlf (h G σ r) (hl G σ r) (hh G σ r)
def zjp(ha:Er K B ta ρ (.tuple ds))(hb:Er K B tb ρ (.tuple es))(hz:ds.length+es.length<=sizeLine):Er K B (tOp (zke K) ta tb) ρ (.tuple (ds++es)):=λG σ r=>zjO (ha G σ r) (hb G σ r) hz
def zi7{ta tb:TE}(ha:Ev K ta σ G (.list ds))(hb:Ev K tb σ G (.list es))(hz:ds.length+es.length<=sizeLine):Ev K (tOp zm1 ta tb) σ G (.list (ds++es)):=QB ha hb λG1 H x y Q s1 s2 hx hy k=>by obtain⟨p,xs,rfl,hp,hxs⟩:=hx.lst;obtain⟨q,ys,rfl,hq,hys⟩:=hy.lst;refine⟨p,q,xs,ys,rfl,rfl,s2 _ _ hp,s2 _ _ hq,by rw[hxs.length,hys.length];exact hz,λl hl=>?_⟩;have g:=Yh (o:=.lst (xs++ys)) s2 hl;exact k _ _ _ g (Y8 Zi ((Xe hxs hys).same g.gg))
def XR(ha:Er K B ta ρ (.list ds))(hb:Er K B tb ρ (.list es))(hz:ds.length+es.length<=sizeLine):Er K B (tOp zm1 ta tb) ρ (.list (ds++es)):=λG σ r=>zi7 (ha G σ r) (hb G σ r) hz
def zmk{bs:List Bool}(h:Ea K B t ρ [.list (bs.map .bool)]):Er K B (tCB (λxs H Q=>∃(p:AD)(bs:List Bool),xs=[.ref p]/\SqL K H p (bs.map V.bl)/\Q (.bl (bs.all id)) H) t) ρ (.bool (bs.all id)):=zgC h λG1 H xs Q s2 hx k=>by
 obtain⟨y,ys,rfl,hy,hn⟩:=hx.cons;cases hn.nil;obtain⟨p,zs,rfl,hp,hz⟩:=hy.lst;have e:zs=bs.map V.bl:=by
  clear h hy hp k hx hn
  induction bs generalizing zs with
  |nil=>exact hz.nil
  |cons q l ih=>obtain⟨u,us,rfl,hu,hus⟩:=hz.cons;rw[hu.bl,ih us hus];rfl
 subst e;exact⟨p,bs,rfl,SqL.of (s2 _ _ hp),k _ G1 H (YW.refl s2) (Yr _)⟩
def EgT(K:FG)(B:Hp)(t:TT)(ρ:List PV)(R:Bool->List PV->Prop):Prop:=∀ E G0 H0 G H σ F,Rl K B E G0 H0 G H σ ρ F->∀ Q:Bool->Hp->Prop,
 (∀ b ρ' G' H' F',R b ρ' -> Zr G G' -> Rl K B E G0 H0 G' H' σ ρ' F' -> Q b H')->t σ H Q
def zbE{t:TT}{c:Bool}{R:Bool->List PV->Prop}(h:Et K B t ρ c)(k:R c ρ):EgT K B t ρ R:=λE G0 H0 G H σ F r Q q=>by obtain⟨s1,s2,x⟩:=r.gpl;exact h _ σ x _ H (Zr.refl _) s2 _ λG' H' g=>q c ρ G H' F k (Zr.refl _) (r.grow (Qm r.g.gh g.hh))
def zaH{R:Bool->List PV->Prop}(h:Eg K B te ρ λr ρ' => ∃ c,r = .dat (.bool c)/\R c ρ'):EgT K B (zg1 te) ρ R:=λE G0 H0 G H σ F r Q q=>
 h E G0 H0 G H σ F r _ λv w ρ1 G1 H1 F1 L hw s1 r1 sl n=>by obtain⟨c,rfl,hR⟩:=hw;obtain⟨_,y,hy,hd⟩:=sl;cases hy;exact⟨c,hd.bl,q c ρ1 G1 H1 F1 hR s1 r1⟩
def zcm{t u:TT}{R:Bool->List PV->Prop}(h:EgT K B t ρ λc ρ1=>if c=true then EgT K B u ρ1 R else R false ρ1):EgT K B (zmO t u) ρ R:=λE G0 H0 G H σ F r Q q=>
 h E G0 H0 G H σ F r _ λc ρ1 G1 H1 F1 hR s1 r1=>by
  cases c with
  |true=>rw[Iz rfl]at hR ⊢;exact hR E G0 H0 G1 H1 σ F1 r1 Q λb ρ' G' H' F' hb s r' => q b ρ' G' H' F' hb (s1.trans s) r'
  |false=>rw[Iq Ii]at hR ⊢;exact q _ _ _ _ _ hR s1 r1
def zif{t u:TT}{R:Bool->List PV->Prop}(h:EgT K B t ρ λc ρ1=>if c=true then R true ρ1 else EgT K B u ρ1 R):EgT K B (tOr t u) ρ R:=λE G0 H0 G H σ F r Q q=>
 h E G0 H0 G H σ F r _ λc ρ1 G1 H1 F1 hR s1 r1=>by
  cases c with
  |false=>rw[Iq Ii]at hR ⊢;exact hR E G0 H0 G1 H1 σ F1 r1 Q λb ρ' G' H' F' hb s r' => q b ρ' G' H' F' hb (s1.trans s) r'
  |true=>rw[Iz rfl]at hR ⊢;exact q _ _ _ _ _ hR s1 r1
def zgn{c:TT}{t u:TS}{R:Pn}(h:EgT K B c ρ λb ρ' => if b=true then Sv K B t ρ' R else Sv K B u ρ' R):Sv K B (zkW c t u) ρ R:=λE G0 H0 G H σ F D r d=>
 h E G0 H0 G H σ F r _ λc ρ1 G1 H1 F1 hR s1 r1=>by
  cases c with
  |true=>rw[Iz rfl]at hR ⊢;exact hR E G0 H0 _ _ σ F1 D r1 (d.mono s1)
  |false=>rw[Iq Ii]at hR ⊢;exact hR E G0 H0 _ _ σ F1 D r1 (d.mono s1)
def zju{t:TS}{R:Pn}(i:Nat)(hi:ρ[i]?=some (.own ds))(h:Sv K B t (ρ.set i (.dat (.list ds))) R):Sv K B t ρ R:=λE G0 H0 G H σ F D r dn=>by
 obtain⟨p,xs,e,hx,hp,hd⟩:=r.sl i _ hi;have hpi:p∈F i:=by rw[e];simp
 obtain⟨gp,_,_⟩:=r.fr i p hpi;have h0:=r.ow i ds p hi hpi;have hlt:i<ρ.length:=(Io.mp hi).1;have s1:Zr G (upd G p (.lst xs)):=X6 gp;refine h E G0 H0 (upd G p (.lst xs)) H σ (λk=>if k=i then[]else F k) D ⟨⟨r.g.gg.trans s1,λb o eb=>?_,r.g.kp,r.g.al,λb o eb=>?_⟩,r.bb.trans s1,by rw[Ob];exact r.ls,λj v hj=>?_,λj a ha=>?_,λj k a ha hb=>?_,λj ds' a hj ha=>?_⟩ (dn.mono s1)
 .by_cases z:b=p
  .subst z;rw[Zi]at eb;rw[hp,eb]
  .rw[Zk z]at eb;exact r.g.gh b o eb
 .by_cases z:b=p
  .subst z;exact .inr h0
  .rw[Zk z]at eb;exact r.g.fr b o eb
 .by_cases z:j=i
  .subst z;rw[IW hlt]at hj;cases hj;rw[Iz rfl];exact⟨rfl,_,hx,Y8 Zi (hd.same s1)⟩
  .rw[IS (Ne.symm z)]at hj;rw[Iq z];exact(r.sl j v hj).grow s1 λ_ _=>rfl
 .by_cases z:j=i
  .rw[Iz z]at ha;cases ha
  .rw[Iq z]at ha;obtain⟨h1,h2,h3⟩:=r.fr j a ha;refine⟨?_,h2,h3⟩;rw[Zk λq=>by subst q;exact z (r.dj j i a ha hpi)];exact h1
 .by_cases z:j=i
  .rw[Iz z]at ha;cases ha
  .by_cases z' : k=i
   .rw[Iz z']at hb;cases hb
   .rw[Iq z]at ha;rw[Iq z']at hb;exact r.dj j k a ha hb
 .by_cases z:j=i
  .rw[Iz z]at ha;cases ha
  .rw[Iq z]at ha;rw[IS (Ne.symm z)]at hj;exact r.ow j ds' a hj ha
variable {P:Program}{w:World}
def zg3{xs:List V}(h:ZX K G xs ds):ZX K G (zeL xs lo hi) (slD ds lo hi):=by unfold zeL slD;rw[h.length];exact UL _ (Us _ h)
def zgJ(h:ρ[i]?=some (.scr ns))(hl:Eo K B tl ρ lo)(hh:Eo K B th ρ hi):Er K B (tSl (zmW K) (JB i) tl th) ρ (.list (slD (ns.map .int) lo hi)):=λG σ r G1 H s1 s2 Q k=>by obtain⟨a,hx,hq⟩:=r.2.2.2.2.1 i ns h;refine⟨_,hx,hl G σ r _ _ (hh G σ r _ _ ⟨a,_,rfl,(s1.trans s2).seq hq,λp hp=>?_⟩)⟩;have g:=Yh (o:=.lst (zeL (ns.map V.int) lo hi)) s2 hp;exact k _ _ _ g (Y8 Zi (zg3 (zby ns)))
def zj1(f:α->PD)(l:List α)(lo hi:Option Int):∃ m:List α,slD (l.map f) lo hi=m.map f/\m.length<=l.length/\∀ x∈m,x∈l:=⟨(l.drop (HT.sIx (l.map f).length 0 lo)).take (HT.sIx (l.map f).length (l.map f).length hi-HT.sIx (l.map f).length 0 lo),by unfold slD;rw[map_take,map_drop],by rw[OE,length_drop];omega,λx hx=>List.mem_of_mem_drop (List.mem_of_mem_take hx)⟩
variable {P:Program}{w:World}{mg:Str->Option Value}{base:Heap}
def zlM{p:AD}(sb:Zr B H)(hq:SqL K H p (ns.map V.int)):Rl K B (λ_=>False) H H H H (start N [.ref p]) (YK N [.scr ns]) (λ_=>[]):=by
 refine⟨Gw.refl (Zr.refl _),sb,?_,λi v h=>?_,λ_ _ h=>(by cases h),λ_ _ _ h _=>(by cases h),λ_ _ _ _ h=>(by cases h)⟩
 .unfold start YK;rw[Il,Il,Ie,Nl,Nl];rfl
 .unfold YK at h;unfold start;cases i with
  |zero=>have h:some (PV.scr ns)=some v:=h;cases h;exact⟨rfl,p,rfl,hq⟩
  |succ i=>rw[Ni (by show 1<=i+1;omega)]at h;have:=IM h;rw[(DB.mp this).2];rfl
noncomputable def zkw(tabs:ziG):Hp:=λb=>(tabs.find? λp=>decide (p.1=b)).map λp=>HO.tbl p.2
def zjb{tabs:ziG}(h:zbv H tabs):Zr (zkw tabs) H:=λb o e=>by
 unfold zkw at e;cases q:tabs.find? λp=>decide (p.1=b)with
 |none=>rw[q]at e;cases e
 |some p=>rw[q]at e;have e:HO.tbl p.2=o:=IA e;have:=List.find?_some q;have z:p.1=b:=IC this;subst z;rw[← e];exact h p (List.mem_of_find?_eq_some q)
def Fun.zlD{qual:Str}{st:Stmt}{f:AD}{fd:FuncData}{k:Nat}{tabs:ziG}(Fn:Fun K x qual st f fd)(S:ZD N ["script"] (Zg st))(hb:∀(cdv:Value)(A:Around)(outer:List Env)(s:SH)(H:Hp)(E:XK),Wt k (A.deeper (envOfC qual (Zg st) s.heap.objs.size f cdv))->∀ ns:List Int,ns.length<=63->
   ∃ t,PSs (zca CX0 P w K mg base N qual (Zg st) f cdv A outer s H E).nox (Z0 st) t/\Sv K (zkw tabs) t (YK N [.scr ns]) {nx:=λ_=>False,rt:=λr _=>r = .dat (.bool true)}):Wb P w K mg base CX0 (k+1) f fd ["script"] (Uv K tabs):=by
 refine Fn.ok S (λvs H Q E h=>?_) λcdv A outer s H vs Q E hr h=>?_
 .obtain⟨a,ns,rfl,_⟩:=h;rfl
 .obtain⟨a,ns,rfl,hq,hl,hT,kk⟩:=h;obtain⟨t,ht,hs⟩:=hb cdv A outer s H E hr ns hl;refine⟨t,ht,hs _ _ _ _ _ _ _ _ (zlM (zjb hT) hq) ⟨λe _ r=>e.elim,λe _ r sl n=>?_,λe=>e.elim,λe=>e.elim⟩⟩;subst e;obtain⟨_,y,hy,hd⟩:=sl;cases hy;rw[hd.bl];exact kk _
def zeS{X:Cx}(e:X.K=K)(hc:X.calm=true):Jk X (.builtin "all") (λxs H Q=>∃(p:AD)(bs:List Bool),xs=[.ref p]/\SqL K H p (bs.map V.bl)/\Q (.bl (bs.all id)) H):=by subst e;exact zhx hc
end
section
variable {X:Cx}
variable {K:FG}{B:Hp}{ρ:List PV}{ta te:TE}{ds:List PD}
def Qx{n:Nat}(h:Ea K B t ρ [.int (n:Nat)])(hj:n<2^60):Ei K B (zhb t) ρ ((List.range n).map λ(i:Nat)=>PyData.int (i:Nat)):=by
 have:=zma h ⟨by omega,by omega⟩;rw[NP]at this;have e:(List.range n).map (λ(i:Nat)=>PyData.int (0+i))=(List.range n).map λ(i:Nat)=>PyData.int (i:Nat):=Oe λi _=>by congr 1;omega
 rwa [e]at this
def zlQ(K:FG):List V->Hp->VK->Prop:=λxs H Q=>∃(p:AD)(ns:List Int),xs=[.ref p]/\SqL K H p (ns.map V.int)/\ns≠[]/\∀ M,M∈ns->(∀ a∈ns,a<=M)->Q (.int M) H
def zi5{xs:Array (Int×Tok)}(e1:ns=xs.toList.map (·.1))(hsz:0<xs.size):numAt xs (argBest (λi j=>decide (numAt xs i>numAt xs j)) (xs.size-1))∈ns/\∀ a∈ns,a<=numAt xs (argBest (λi j=>decide (numAt xs i>numAt xs j)) (xs.size-1)):=by
 obtain⟨h1,h2⟩:=argBest_gt (numAt xs) (xs.size-1);constructor
 .rw[e1,numAt_eq];exact getD_mem (by rw[Ie,IQ];omega)
 .intro a ha;rw[e1]at ha;obtain⟨j,hj,rfl⟩:=mem_getD ha;rw[Ie,IQ]at hj;rw[← numAt_eq];exact h2 j (by omega)
def zgg{K:FG}{aa:List (AD×Obj)}{σ:St}{H:Hp}{s:SH}{p:AD}(e:X.K=K)(I:Inv X aa σ H s)(hq:SqL K H p (ns.map V.int)):∃ xs:Array (Int×Tok),s.heap.IsList p (intItems xs)/\ns=xs.toList.map (·.1):=by subst e;obtain⟨its,rv,pl,hz⟩:=I.list hq;have hi:IntsAre its ns:=intsAre_of rv;obtain⟨xs,hx⟩:=hi.allInts.items;exact⟨xs,hx ▸ pl.isList,by rw[← nums_intItems,← hx];exact(show numsOf its.toArray.toList=ns from hi.numsOf).symm⟩
def zcb{K:FG}(e:X.K=K)(hc:X.calm=true):Jk X (.builtin "max") (zlQ K):=by intro aa s σ H xs us Q I r h;obtain⟨p,ns,rfl,hq,hne,q⟩:=h;obtain⟨u,rfl,rx⟩:=vals1 r;cases rx;obtain⟨xs,hl,e1⟩:=zgg e I hq;have hsz:0<xs.size:=Nat.pos_of_ne_zero λz=>hne (by rw[e1,map_eq_nil_iff];exact N2 (by rw[IQ];exact z));refine max_intList (I.ok.hd hc) hl hsz λv h' tk hv hk=>?_;obtain⟨t,rfl⟩:=intItems_at hv;obtain⟨b1,b2⟩:=zi5 e1 hsz;exact⟨.int _,H,I.kept hk,⟨t,rfl⟩,q _ b1 b2⟩
end
section
variable {K:FG}{B:Hp}{ρ:List PV}
def zeK{M:Int}(h:Ea K B t ρ [.list (ns.map .int)])(hM:M∈ns)(hle:∀ a∈ns,a<=M):Er K B (tCB (zlQ K) t) ρ (.int M):=zgC h λG1 H xs Q s1 hx k=>by obtain⟨y,ys,rfl,hy,hn⟩:=hx.cons;cases hn.nil;obtain⟨p,zs,rfl,hp,hz⟩:=hy.lst;have e:=hz.ints;subst e;refine⟨p,ns,rfl,SqL.of (s1 _ _ hp),ne_nil_of_mem hM,λM' h1 h2=>?_⟩;rw[Int.le_antisymm (hle _ h1) (h2 _ hM)];exact k _ G1 H (YW.refl s1) (Zy _)
end
structure TF(K:FG)(S:Type) where
 pv:S->AD->List AD->PV
 I:S->AD->List AD->Hp->Hp->Prop
 sl:∀{s:S}{p:AD}{fp:List AD}{G H:Hp}{o:Option (Option V)}{F:List AD},Sl K G H o (pv s p fp) F↔(F=p::fp/\o=some (some (.ref p))/\I s p fp G H)
 no:∀ s p fp ds,pv s p fp≠.own ds
noncomputable def zmU{K:FG}{S:Type}(I:S->AD->List AD->Hp->Hp->Prop)(st:∀{s:S}{p:AD}{fp:List AD}{G H G' H' : Hp},I s p fp G H->Zr G G' -> (∀ a∈p::fp,H' a=H a)->I s p fp G' H')(lv:∀{s:S}{p:AD}{fp:List AD}{G H:Hp},I s p fp G H->∀ a∈p::fp,∃ o,H a=some o):TF K S where
 pv:=λs p fp=>.thg {ok:=λp' fp' G H=>p'=p/\fp'=fp/\I s p fp G H,st:=λ{p' fp' G H G' H'} ⟨h1,h2,h3⟩ sg k=>⟨h1,h2,st h3 sg λa ha=>k a (by rw[h1,h2];exact ha)⟩,live:=λ{p' fp' G H} ⟨h1,h2,h3⟩ a ha=>lv h3 a (by rw[h1,h2]at ha;exact ha)}
 I:=I
 sl:=λ{s p fp G H o F}=>by
  constructor
  .rintro⟨p',fp',h1,h2,rfl,rfl,h3⟩;exact⟨h1,h2,h3⟩
  .rintro⟨h1,h2,h3⟩;exact⟨p,fp,h1,h2,rfl,rfl,h3⟩
 no:=λ_ _ _ _=>nofun
section
variable {K:FG}{B:Hp}{E:AD->Prop}{G0 H0 G H G1 H1 G2 H2:Hp}{σ:St}{ρ:List PV}{F:Nat->List AD}{ta tb te:TE}{a b d:PD}{ds es:List PD}{S:Type}{D:TF K S}{s s' : S}{p:AD}{fp:List AD}
def zkH{i0:Nat}(sb:Zr B G)(gh:Zr G H)(hl:σ.length=ρ.length)(h0:ρ[i0]?=some (D.pv s p fp))(hσ:σ[i0]?=some (some (.ref p)))(hI:D.I s p fp G H)(gn:∀ a∈p::fp,G a=none)(lv:∀ a∈p::fp,∃ o,H a=some o)(hx:∀ i v,i≠i0->ρ[i]?=some v->Sl K G H σ[i]? v []/\∀ ds,v≠.own ds):Rl K B (· ∈ p::fp) G H G H σ ρ (λk=>if k=i0 then p::fp else[]):=by
 refine⟨Gw.refl gh,sb,hl,λi v h=>?_,λi a ha=>?_,λi j a ha hb=>?_,λi ds' a h ha=>?_⟩
 .by_cases z:i=i0
  .subst z;rw[h0]at h;cases h;rw[Iz rfl];exact D.sl.mpr ⟨rfl,hσ,hI⟩
  .rw[Iq z];exact(hx i v z h).1
 .split at ha
  .exact⟨gn a ha,lv a ha,.inl ha⟩
  .cases ha
 .split at ha
  .split at hb
   .omega
   .cases hb
  .cases ha
 .split at ha
  .rename_i z
   subst z;rw[h0]at h;exact absurd (IA h) (D.no _ _ _ _)
  .cases ha
def Rl.zj5(r1:Rl K B E G0 H0 G1 H1 σ ρ F)(hi:ρ[i]?=some (D.pv s p fp))(gw:Gw (· ∈ p::fp) G1 H1 G2 H2)(gn:∀ a∈p::fp,G2 a=none)(lv:∀ a∈p::fp,∃ o,H2 a=some o)(hI:D.I s' p fp G2 H2):Rl K B E G0 H0 G2 H2 σ (ρ.set i (D.pv s' p fp)) F:=by
 obtain⟨e1,hx,_⟩:=D.sl.mp (r1.sl i _ hi);have hlt:i<ρ.length:=(Io.mp hi).1;refine⟨⟨r1.g.gg.trans gw.gg,gw.gh,λb o n h=>?_,λb h=>r1.g.al b (gw.al b h),λb o h=>?_⟩,r1.bb.trans gw.gg,by rw[Ob];exact r1.ls,λj v h=>?_,λj a ha=>?_,r1.dj,λj ds' a h ha=>?_⟩
 .refine gw.kp b o (λz=>?_) (r1.g.kp b o n h);rcases(r1.fr i b (by rw[e1];exact z)).2.2 with hE | hE
  .exact n hE
  .rw[hE]at h;cases h
 .rcases gw.fr b o h with h | h
  .exact r1.g.fr b o h
  .exact .inr (r1.g.al b h)
 .by_cases z:j=i
  .subst z;rw[IW hlt]at h;cases h;exact D.sl.mpr ⟨e1,hx,hI⟩
  .rw[IS (Ne.symm z)]at h;refine(r1.sl j v h).grow gw.gg λa ha=>?_;obtain⟨_,⟨o,ho⟩,_⟩:=r1.fr j a ha;rw[ho];exact gw.kp a o (λq=>z (r1.dj j i a ha (by rw[e1];exact q))) ho
 .obtain⟨h1,⟨o,h2⟩,h3⟩:=r1.fr j a ha;by_cases z:a∈p::fp
  .exact⟨gn a z,lv a z,h3⟩
  .refine⟨?_,⟨o,gw.kp a o z h2⟩,h3⟩;cases hg:G2 a with
   |none=>rfl
   |some o' =>
    rcases gw.fr a o' hg with h | h
    .rw[h1]at h;cases h
    .rw[h2]at h;cases h
 .by_cases z:j=i
  .subst z;rw[IW hlt]at h;exact absurd (IA h) (D.no _ _ _ _)
  .rw[IS (Ne.symm z)]at h;exact r1.ow j ds' a h ha
def spT(D:TF K S)(Pre:S->List PD->Prop)(R:S->List PD->PD->S->Prop):Sp:=λvs H Q _=>∃(p:AD)(fp:List AD)(us:List V)(G:Hp)(s:S)(ds:List PD),vs = .ref p::us/\Zr G H/\(∀ a∈p::fp,G a=none)/\(∀ a∈p::fp,∃ o,H a=some o)/\D.I s p fp G H/\ZX K G us ds/\Pre s ds/\
 ∀ v x s' G' H',R s ds x s' -> Gw (· ∈ p::fp) G H G' H' -> (∀ a∈p::fp,G' a=none)->(∀ a∈p::fp,∃ o,H' a=some o)->D.I s' p fp G' H' -> Dat K G' v x->Q v H'
def zhg{us:List V}(sb:Zr B G)(gh:Zr G H)(hI:D.I s p fp G H)(gn:∀ a∈p::fp,G a=none)(lv:∀ a∈p::fp,∃ o,H a=some o)(hv:ZX K G us ds):Rl K B (· ∈ p::fp) G H G H (start N (.ref p::us)) (YK N (D.pv s p fp::ds.map .dat)) (λk=>if k=0 then p::fp else[]):=by
 refine zkH sb gh ?_ rfl rfl hI gn lv λi v hi0 h=>?_
 .unfold start YK;rw[Il,Il,Ie,IL,IL,Ie,Nl,Nl,hv.length]
 .cases i with
  |zero=>exact absurd rfl hi0
  |succ i=>
   have h:(ds.map PV.dat++List.replicate (N.length-(ds.map PV.dat).length.succ) PV.un)[i]?=some v:=h;show Sl K G H ((us.map some++List.replicate (N.length-us.length.succ) none)[i]?) v []/\_;by_cases hi:i<ds.length
   .rw[Ng (by rw[Ie];exact hi),Ik,Ib hi]at h;cases h;obtain⟨x,hx,hxd⟩:=hv.get (Ib hi);exact⟨⟨rfl,x,by rw[Ng (by rw[Ie,hv.length];exact hi),Ik,hx];rfl,hxd⟩,λ_=>nofun⟩
   .rw[Ni (by rw[Ie];omega)]at h;have:=IM h;rw[(DB.mp this).2];exact⟨rfl,λ_=>nofun⟩
variable {P:Program}{w:World}{mg:Str->Option Value}{base:Heap}
def Fun.okT{qual:Str}{st:Stmt}{f:AD}{fd:FuncData}{ps:List Str}{k:Nat}{Pre:S->List PD->Prop}{R:S->List PD->PD->S->Prop}(Fn:Fun K x qual st f fd)(S' : ZD N ps (Zg st))(len:∀ s ds,Pre s ds->ds.length+1=ps.length)(hb:∀(cdv:Value)(A:Around)(outer:List Env)(s:SH)(H:Hp)(E:XK),Wt k (A.deeper (envOfC qual (Zg st) s.heap.objs.size f cdv))->∀ p fp t0 ds,Pre t0 ds->
   ∃ t,PSs (zca CX0 P w K mg base N qual (Zg st) f cdv A outer s H E).nox (Z0 st) t/\Sv K B0 t (YK N (D.pv t0 p fp::ds.map .dat)) {nx:=fun ρ' => ∃ t1,R t0 ds .none t1/\ρ'[0]?=some (D.pv t1 p fp),rt:=λr ρ' => ∃ d t1,r = .dat d/\R t0 ds d t1/\ρ'[0]?=some (D.pv t1 p fp)}):Wb P w K mg base CX0 (k+1) f fd ps (spT D Pre R):=by
 refine Fn.ok S' (λvs H Q E h=>?_) λcdv A outer s H vs Q E hr h=>?_
 .obtain⟨p,fp,us,G,t0,ds,rfl,_,_,_,_,hv,hP,_⟩:=h;rw[IL,hv.length];exact len t0 ds hP
 .obtain⟨p,fp,us,G,t0,ds,rfl,sg,gn,lv,hI,hv,hP,kk⟩:=h;obtain⟨t,ht,hs⟩:=hb cdv A outer s H E hr p fp t0 ds hP;refine⟨t,ht,hs _ _ _ _ _ _ _ _ (zhg b0 sg hI gn lv hv) ⟨λe _ r=>?_,λe _ r sl n=>?_,λe=>e.elim,λe=>e.elim⟩⟩
  .obtain⟨t1,hR,h0⟩:=e;obtain⟨e1,_,hI'⟩:=D.sl.mp (r.sl 0 _ h0);exact kk _ _ t1 _ _ hR r.g (λa ha=>(r.fr 0 a (by rw[e1];exact ha)).1) (λa ha=>(r.fr 0 a (by rw[e1];exact ha)).2.1) hI' Qu
  .obtain⟨d,t1,rfl,hR,h0⟩:=e;obtain⟨e1,_,hI'⟩:=D.sl.mp (r.sl 0 _ h0);obtain⟨_,y,hy,hd⟩:=sl;cases hy;exact kk _ _ t1 _ _ hR r.g (λa ha=>(r.fr 0 a (by rw[e1];exact ha)).1) (λa ha=>(r.fr 0 a (by rw[e1];exact ha)).2.1) hI' hd
def zaK{Pre:S->List PD->Prop}{Rf:S->List PD->PD->S->Prop}{X:XK}{R:PV->List PV->Prop}(hi:ρ[i]?=some (D.pv s p fp))(h:EgA K B t ρ λds ρ1=>∃ s1,ρ1[i]?=some (D.pv s1 p fp)/\Pre s1 ds/\∀ x s2,Rf s1 ds x s2->R (.dat x) (ρ1.set i (D.pv s2 p fp))):Eg K B (Vn (spT D Pre Rf) [] X (YQ (JB i) t)) ρ R:=λE G0 H0 G H σ F r Q q=>by
 obtain⟨_,hx,_⟩:=D.sl.mp (r.sl i _ hi);refine⟨_,hx,h E G0 H0 G H σ F r _ λvs ds ρ1 G1 H1 F1 hh s1 r1 hv=>?_⟩;obtain⟨t1,hi1,hP,hk⟩:=hh;obtain⟨e1,_,hI⟩:=D.sl.mp (r1.sl i _ hi1);rw[Nx];refine⟨p,fp,vs,G1,t1,ds,rfl,r1.g.gh,λa ha=>(r1.fr i a (by rw[e1];exact ha)).1,λa ha=>(r1.fr i a (by rw[e1];exact ha)).2.1,hI,hv,hP,λv x t2 G2 H2 hR gw gn lv hI2 hd=>?_⟩;exact q v _ _ G2 H2 F1 [] (hk x t2 hR) (s1.trans gw.gg) (r1.zj5 hi1 gw gn lv hI2) ⟨rfl,v,rfl,hd⟩ Jv
def EgI(K:FG)(B:Hp)(wi:TI)(ρ:List PV)(R:List PD->List PV->Prop):Prop:=∀ E G0 H0 G H σ F,Rl K B E G0 H0 G H σ ρ F->∀ Q:It->Hp->Prop,
 (∀ J ds ρ' G' H' F',R ds ρ' -> Zr G G' -> Rl K B E G0 H0 G' H' σ ρ' F' -> Wd K J G' ds->Q J H')->wi σ H Q
def zjW{R:List PD->List PV->Prop}(h:EgA K B t ρ λds ρ' => ∃ n:Nat,ds=[.int (n:Nat)]/\n<2^60/\R ((List.range n).map λ(i:Nat)=>PyData.int (i:Nat)) ρ'):EgI K B (zhb t) ρ R:=λE G0 H0 G H σ F r Q q=>
 h E G0 H0 G H σ F r _ λvs ds ρ1 G1 H1 F1 hR s1 r1 hv=>by
  obtain⟨n,rfl,hn,hR⟩:=hR;obtain⟨y,ys,rfl,hy,hr⟩:=hv.cons;rw[hr.nil,hy.int];have e:(List.range n).map (λ(i:Nat)=>PyData.int (0+i))=(List.range n).map λ(i:Nat)=>PyData.int (i:Nat):=Oe λi _=>by congr 1;omega
  refine⟨n,rfl,by omega,by omega,q _ _ ρ1 G1 H1 F1 hR s1 r1 ?_⟩;rw[NP,← e];exact zba
def zjt{g:TG}{tb:TS}{R:Pn}(h:EgI K B wi ρ λds ρ1=>∃ Iv:Nat->List PV->Prop,Iv 0 ρ1/\
   (∀(i:Nat)(hi:i<ds.length) ρ',Iv i ρ' -> Gt K B g ds[i] ρ' fun ρ2=>Sv K B tb ρ2 {nx:=Iv (i+1),ct:=Iv (i+1),bk:=R.nx,rt:=R.rt})/\∀ ρ',Iv ds.length ρ' -> R.nx ρ'):Sv K B (znw wi g tb) ρ R:=λE G0 H0 G H σ F D r dn=>by
 refine h E G0 H0 G H σ F r _ λJ ds ρ1 G1 H1 F1 hI s1 r1 W=>?_;obtain⟨Iv,h0,hs,hd⟩:=hI;refine⟨λi m σ' H' => m=ds.length-i/\i<=ds.length/\∃ ρ' G' F',Iv i ρ' /\ Rl K B E G0 H0 G' H' σ' ρ' F' /\ Zr G1 G',⟨ds.length,by omega,by omega,ρ1,G1,F1,h0,r1,Zr.refl _⟩,?_⟩;rintro i m σ' H' ⟨rfl,hi,ρ',G',F',hI,r',s'⟩;by_cases hin:i=ds.length
 .subst hin;exact .inl ⟨W.stop _ H' (s'.trans r'.g.gh) rfl,dn.nx (hd ρ' hI) (s1.trans s') r'⟩
 .have hi' : i<ds.length:=by omega
  refine .inr ⟨W.go i H' (s'.trans r'.g.gh) hi',fun σ2 H2=>∃ ρ2 G2 F2,Iv (i+1) ρ2/\Rl K B E G0 H0 G2 H2 σ2 ρ2 F2/\Zr G1 G2,fun σ2 H2 ⟨ρ2,G2,F2,q⟩=>⟨ds.length-(i+1),by omega,rfl,by omega,ρ2,G2,F2,q⟩,λx H'' hy=>?_⟩;obtain⟨G3,g3,hx⟩:=W.yld i H' x H'' G' ds[i] s' r'.g.gh (Ib hi') hy;have r3:=r'.grow g3;have s3:Zr G1 G3:=s'.trans g3.gg;refine hs i hi' ρ' hI E G0 H0 G3 H'' σ' F' x _ r3 hx fun σ4 ρ4 G4 H4 F4 hP s4 r4=>?_
  have s14:=s3.trans s4;refine hP E G0 H0 G4 H4 σ4 F4 _ r4 ⟨λhI2 s5 r5=>⟨_,_,_,hI2,r5,s14.trans s5⟩,λhR s5 r5 sl n=>dn.rt hR (s1.trans (s14.trans s5)) r5 sl n,λhR s5 r5=>dn.nx hR (s1.trans (s14.trans s5)) r5,λhI2 s5 r5=>⟨_,_,_,hI2,r5,s14.trans s5⟩⟩
end
def zci{K:FG}{B:Hp}{ρ:List PV}{b:Bool}(h:Ea K B t ρ [.bool b]):Er K B (tCB (λxs H Q=>(∃ i,xs=[.int i]/\Q (.int i) H)\/∃ k,xs=[.bl k]/\Q (.int (if k then 1 else 0)) H) t) ρ (.int (if b then 1 else 0)):=λG σ r=>zjU (h G σ r)
def zcL{K:FG}{B:Hp}{ρ:List PV}{t u:TS}{R:Pn}(N:List PV->Prop)(h:Sv K B t ρ {R with nx:=N})(k:∀ ρ',N ρ' -> Sv K B u ρ' R):Sv K B (zku t u) ρ R:=Zm (zlW h (fun ρ hn=>k ρ hn) (λ_ _ h=>h) (λ_ h=>h) (λ_ h=>h))
section
variable {X:Cx}{pos:Pos}
def znZ(K:FG)(n:Nat)(t:TGs):TG:=λv σ H Q=>∃ a xs,v = .ref a/\SqL K H a xs/\xs.length=n/\t xs σ H Q
def zkN{es:List Expr}{k:Nat}{t:TGs}{n:Nat}(hc:X.calm=true)(h:PGs X es t)(hn:(assignEach es X.env).length=n:=by rfl)(hst:(assignEach es X.env).findIdx? (·.1)=none:=by rfl):PG X (.Tuple es k pos) (znZ X.K n t):=by
 intro aa s σ H v u Q I r hw;obtain⟨a,xs,e1,hq,hl,hw⟩:=hw;subst e1;cases r;obtain⟨its,rv,ht,hz⟩:=I.list hq;rw[assign_Tuple];refine Ia (Dz ?_);unfold unpack;rw[show(assignEach es X.env).length=its.toArray.size by simp[hn,← hl,rv.length],hst];refine Ia (I9 (PySem.W.kun_itemsOf (I.ok.hd hc) ht.isList λh' hx=>?_));have I1:Inv X aa σ H {s with heap:=h'}:=I.kept (t':=s.toks) λb o e=>hx b o (IX (IN e)) e;exact h aa _ σ H xs _ Q I1 (by simpa using rv) hw
end
section
variable {K:FG}{B:Hp}{ρ:List PV}{a b c:PD}
def zkm{j:Nat}{P:List PV->Prop}(h:P ((ρ.set i (.dat a)).set j (.dat b))):Gt K B (znZ K 2 (JC (Wi i) (JC (Wi j) ziL))) (.list [a,b]) ρ P:=λE G0 H0 G H σ F x Q r hd k=>by obtain⟨p,xs,rfl,hp,hx⟩:=hd.lst;obtain⟨y,ys,rfl,hy,hx⟩:=hx.cons;obtain⟨z,zs,rfl,hz,hx⟩:=hx.cons;cases hx.nil;exact⟨p,_,rfl,SqL.of (r.g.gh _ _ hp),rfl,y,_,rfl,z,_,rfl,rfl,k _ _ G H _ h (Zr.refl _) ((r.zdH hy).zdH hz)⟩
end
def zka{X:Cx}{K:FG}(eK:X.K=K){tg l:Expr}{tl:TE}(hl:PE X l tl):PI X tg l (zm9 K tl):=by subst eK;exact JK hl
section
variable {K:FG}{B:Hp}{ρ:List PV}{σ:St}{G H:Hp}{te:TE}{a b:PD}
def zjz{x y:V}(r:Rx K B G σ ρ)(hx:Dat K G x a)(hy:Dat K G y b):Rx K B G (some x::some y::QL σ js) (.dat a :: .dat b::zdj ρ js):=by
 have r1:=zfq (js:=js) r hy;refine⟨r1.1,λk e h=>?_,λk u e h hu=>?_,λk T h=>?_,λk ns h=>?_,λk z h=>?_⟩
 .cases k with
  |zero=>cases h;exact⟨x,rfl,hx⟩
  |succ k=>exact r1.2.1 k e h
 .cases k with
  |zero=>cases h;cases hu
  |succ k=>exact r1.2.2.1 k u e h hu
 .cases k with
  |zero=>cases h
  |succ k=>exact r1.2.2.2.1 k T h
 .cases k with
  |zero=>cases h
  |succ k=>exact r1.2.2.2.2.1 k ns h
 .cases k with
  |zero=>cases h
  |succ k=>exact r1.2.2.2.2.2 k z h
def zjT(as:List α)(ea eb:α->PD)(f:α->Option PD)(h:Ei K B wi ρ (as.map λa=>.tuple [ea a,eb a]))(hn:as.length<sizeLine)(hc:∀ a∈as,Lcx K B tt te (.dat (ea a) :: .dat (eb a)::zdj ρ js) (f a))(r:Rx K B G σ ρ)(s:Zr G H){Q:VK}(k:∀ p xs G' H',YW G H G' H' -> H' p=none->ZX K G' xs (as.filterMap f)->Q (.ref p) (upd H' p (.lst xs))):zmI K wi js tt te σ H Q:=by
 refine h G H σ r s _ λJ G2 H2 g2 W=>?_;have fl:∀ i (hi:i<as.length),((as.take (i+1)).filterMap f)=(as.take i).filterMap f++(f as[i]).toList:=λi hi=>by rw[take_succ,List.filterMap_append,Ib hi];show _++List.filterMap f [as[i]]=_;rw[N1];cases f as[i] <;> rfl
 refine⟨λi m ys H' => m=as.length-i/\i<=as.length/\ys.length<=i/\∃ G',YW G2 H2 G' H' /\ ZX K G' ys ((as.take i).filterMap f),⟨as.length,by omega,by omega,by simp,G2,YW.refl g2.gh,by simpa using Yi⟩,?_⟩;rintro i m ys H' ⟨rfl,hi,hl,G',g',hys⟩;refine⟨by omega,?_⟩;have sgh:Zr G2 H':=g'.gg.trans g'.gh;by_cases hin:i=as.length
 .subst hin;refine .inl ⟨W.stop _ H' sgh (by rw[Ie]),λp hp=>?_⟩;rw[Ov]at hys;exact k p ys G' H' (g2.trans g') hp hys
 .have hi' : i<as.length:=by omega
  refine .inr ⟨W.go i H' sgh (by rw[Ie];exact hi'),λx H'' hy=>?_⟩;obtain⟨G3,g3,hx⟩:=W.yld i H' x H'' G' (.tuple [ea as[i],eb as[i]]) g'.gg g'.gh (by rw[Ik,Ib hi'];rfl) hy;obtain⟨p,xs,rfl,hp,hx⟩:=hx.tup;obtain⟨y,r1,rfl,hy1,hx⟩:=hx.cons;obtain⟨z,r2,rfl,hz1,hx⟩:=hx.cons;cases hx.nil;have rx:=zjz (js:=js) ((r.mono (g2.gg.trans g'.gg)).mono g3.gg) hy1 hz1;refine⟨p,y,z,rfl,g3.gh.tup hp,?_⟩;rcases hc as[i] (Np hi')with⟨d,hf,ht,he⟩ | ⟨hf,ht⟩
  .refine ht _ _ rx G3 H'' (Zr.refl _) g3.gh _ λG4 H4 g4=>?_;rw[Iz rfl];refine he _ _ (rx.mono g4.gg) G4 H4 (Zr.refl _) g4.gh _ λv G5 H5 g5 hv=>⟨as.length-(i+1),by omega,rfl,by omega,by rw[Il];show ys.length+1<=i+1;omega,G5,((g'.trans g3).trans g4).trans g5,?_⟩
   rw[fl i hi',hf];exact Ur (hys.same ((g3.gg.trans g4.gg).trans g5.gg)) hv
  .refine ht _ _ rx G3 H'' (Zr.refl _) g3.gh _ λG4 H4 g4=>?_;rw[Iq Ii];refine⟨as.length-(i+1),by omega,rfl,by omega,by omega,G4,(g'.trans g3).trans g4,?_⟩;rw[fl i hi',hf];show ZX K G4 ys (_++[]);rw[Nx];exact hys.same (g3.gg.trans g4.gg)
def zaA(as:List α)(ea eb:α->PD)(f:α->Option PD)(h:Ei K B wi ρ (as.map λa=>.tuple [ea a,eb a]))(hn:as.length<sizeLine)(hc:∀ a∈as,Lcx K B tt te (.dat (ea a) :: .dat (eb a)::zdj ρ js) (f a)):Er K B (zmI K wi js tt te) ρ (.list (as.filterMap f)):=λG σ r G1 H s1 s2 Q k=>
 zjT as ea eb f h hn hc (r.mono s1) s2 λp xs G' H' g hp hd=>by have g3:=Yh (o:=.lst xs) g.gh hp;exact k _ _ _ (g.trans g3) (Y8 Zi (hd.same g3.gg))
end
noncomputable def zob(sc fr:Scope):List (Str×NameKind):=sc.names.map λ(n,k)=>if(k==NameKind.free&&fr.kind == .function&&(fr.names.lookup n)==some .cell)=true then(n,NameKind.cell)else(n,k)
end L2
namespace Look
open PySem
theorem zbT{α:Type}{r:α->α->Prop}(as:∀ x y,r x y->¬ r y x):∀{a b:List α},a.Perm b->a.Pairwise r->b.Pairwise r->a=b
 |[],b,p,_,_=>by rw[List.nil_perm.mp p]
 |x::a,[],p,_,_=>by have:=p.length_eq;simp at this
 |x::a,y::b,p,h1,h2=>by
  obtain⟨p1,p2⟩:=NX.mp h1;obtain⟨q1,q2⟩:=NX.mp h2;have hx:x∈y::b:=p.mem_iff.mp Ir;have hy:y∈x::a:=p.mem_iff.mpr Ir;have e:x=y:=by
   rcases IE.mp hx with e | hx
   .exact e
   .rcases IE.mp hy with e | hy
    .exact e.symm
    .exact absurd (p1 y hy) (as _ _ (q1 x hx))
  subst e;rw[zbT as (List.perm_cons x |>.mp p) p2 q2]
def ltN(g:Nat->Int)(i j:Nat):Prop:=g i<g j\/(g i=g j/\i<j)
def zml(g:Nat->Int)(i j:Nat)(h:ltN g i j):¬ ltN g j i:=by unfold ltN at *;omega
noncomputable def zcC(g:Nat->Int)(n:Nat):List Nat:=(List.range n).mergeSort λi j=>decide (g i<g j\/(g i=g j/\i<=j))
def QS(g:Nat->Int)(n:Nat):(zcC g n).Perm (List.range n):=List.mergeSort_perm _ _
def zao(g:Nat->Int)(n:Nat):(zcC g n).Nodup:=(QS g n).nodup_iff.mpr OX
def zc0(g:Nat->Int)(n:Nat):(zcC g n).Pairwise (ltN g):=by
 have h:(zcC g n).Pairwise λi j=>(decide (g i<g j\/(g i=g j/\i<=j)))=true:=List.pairwise_mergeSort (λa b c h1 h2=>by
  have:=IC h1;have:=IC h2;exact Iw (by omega)) (λa b=>by
  rw[Oh,decide_eq_true_iff,decide_eq_true_iff];omega) _
 have nd:=zao g n;refine(h.and nd).imp λ{i j} ⟨a,b⟩=>?_;have:=IC a;unfold ltN;have:i≠j:=b;omega
def zkk{g:Nat->Int}{n:Nat}{out:List Nat}(h:out.Perm (List.range n))(s:out.Pairwise (ltN g)):out=zcC g n:=zbT (zml g) (h.trans (QS g n).symm) s (zc0 g n)
end Look
namespace L2
open PySem PySem.Spec PyProof.Rows Lw
variable {js:List Nat}{t:TA}{ps:List (Int×Int)}{k:Nat}{ds:List PD}
def zjd(K:FG)(P:AD)(cr:Nat->Nat->Option Str)(js:List Nat)(t0 te:TE):TE:=fun σ H Q=>t0 σ H λv H1=>H1 P=some (.tbl cr)/\∃(n:Nat)(g:Nat->Int),v = .int (n:Nat)/\n<64/\
 (∀ i,i<n->Ev K te (some (.int (i:Nat))::QL σ js) H1 (.int (g i)))/\∀ l H' (out:List Nat),Zr H1 H' -> H1 l=none->H' l=some (.lst (out.map λi=>V.int (i:Nat)))->out.Perm (List.range n)->out.Pairwise (λi j=>g i<g j\/(g i=g j/\i<j))->Q (.ref l) H'
def zha:bootBuiltins "sorted" = some (.builtin "sorted"):=by decide +kernel
section
variable {X:Cx}{kk:Nat}{y:Str}{c P:AD}{cr:Nat->Nat->Option Str}{q:Str}{params:Arguments}{body a:Expr}{sc:Scope}{cap:List Str}{t0 te:TE}{p1 p2 pos q2 lpos kpos:Pos}
def ziQ(hr:Wt (kk+3) X.A)(hc:X.calm=true)(hg1:Gl X "sorted")(hm1:X.mg "sorted" = none)(hg2:Gl X "range")(hm2:X.mg "range" = none)(S:XC X.env.scope sc [y] cap)(hjs:js.map (λj=>X.N[j]?)=cap.map some)(hcode:X.env.code = .ref c)(C:CodeHd X.base c P)(hbm:BM X.mg X.base)(hq:q=X.env.qual ++ "<lambda>")(hcr:cr lpos.line lpos.col=some q)(hbind:∀(u pm ctv:Value)(c' : AD)(cl:List (Str×AD)),bindArgs (kla_fn "<lambda>" q params body sc cl pm (.ref c') ctv) ⟨[u],[]⟩=pure [(y,u)])(ha:PE X a t0)(hbody:∀ A outer s H f c' cl,Wt kk (A.deeper (PySem.W.envX q sc s.heap.objs.size f (.ref c') cl))->PE (zfs X.prog X.w X.K X.mg X.base ([y]++cap) q sc f c' cl A outer s H) body te)(hdef:defaultsOf params X.env=([],[]):=by rfl)(hs1:starEach [.Call (.Name "range" p2) [a] [] q2] X.env=[(false,eval (.Call (.Name "range" p2) [a] [] q2) X.env)]:=by rfl)(hs2:starEach [a] X.env=[(false,eval a X.env)]:=by rfl)(hks:(backToKw pos (keywordEach [⟨some "key",.Lambda params body sc lpos,kpos⟩] X.env)).filterMap (·.1)=[Str.ofString "key"]:=by rfl)(hall:(backToKw pos (keywordEach [⟨some "key",.Lambda params body sc lpos,kpos⟩] X.env)).all (·.1.isSome)=true:=by rfl)(hkw:(backToKw pos (keywordEach [⟨some "key",.Lambda params body sc lpos,kpos⟩] X.env)).any (·.1.isNone)=false:=by rfl):
  PE X (.Call (.Name "sorted" p1) [.Call (.Name "range" p2) [a] [] q2] [⟨some "key",.Lambda params body sc lpos,kpos⟩] pos) (zjd X.K P cr js t0 te):=by
 intro aa s σ H Q I h;refine Nr (Wo I hg1 hm1 zha ?_);have z:sizeLine<2^62:=by decide
 refine callWith_kw (id:= "sorted") ?_ (by rw[hs1];rfl) (by rw[hs1];rfl) hall hkw;rw[hs1];show wpAny _ _ (spliced [(false,eval (.Call (.Name "range" p2) [a] [] q2) X.env)]) _ _ s;refine Dw (Nr (Wo I hg2 hm2 boot_range (Nm (thn (Za ha Ze (by rw[hs2];rfl) q2 aa s σ H (λvs H1=>match vs with
  |[v]=>H1 P=some (.tbl cr)/\∃(n:Nat)(g:Nat->Int),v = .int (n:Nat)/\n<64/\(∀ i,i<n->Ev X.K te (some (.int (i:Nat))::QL σ js) H1 (.int (g i)))/\∀ l H' (out:List Nat),Zr H1 H' -> H1 l=none->H' l=some (.lst (out.map λi=>V.int (i:Nat)))->out.Perm (List.range n)->out.Pairwise (λi j=>g i<g j\/(g i=g j/\i<j))->Q (.ref l) H'
  |_=>False) I h) λus s1 ⟨vs,H1,I1,r1,q1⟩=>?_) hs2 rfl)))
 match vs,r1,q1 with
 |[v],r1,⟨hP,n,g,ev,n64,hev,hQ⟩=>
 subst ev;obtain⟨u,rfl,r⟩:=Vals.one r1;obtain⟨t,rfl⟩:=r;refine call_range_1 (spliced_nil ?_);refine thn (zeq (zlL (c:=c) (cr:=cr) S hcode C hbm hq hcr hdef) zh2 pos aa _ σ _ (λvs H2=>∃ f,vs=[.ref f]/\Zr (upd H1 s1.heap.objs.size (exO s1.heap.objs.size _)) H2/\zcq H2 f q params body sc (zaa X.env sc.names [])) (I1.laid (a:=s1.heap.objs.size) (o:=exO s1.heap.objs.size _) (λb o e=>Ig _ e) (Ih _) (zit (Iu _ rfl))) ⟨by rw[Zk (ZC hP (I1.ab.fresh (Ih _)))];exact hP,λf H' hf sm L=>⟨f,rfl,sm,L⟩⟩) λws s2 ⟨vs2,H2,I2,r2,f,e2,sm,L⟩=>?_;subst e2;obtain⟨u2,rfl,r2'⟩:=Vals.one r2;obtain rfl:u2=Value.ref f:=r2';rw[hks];have fr1:H1 s1.heap.objs.size=none:=I1.ab.fresh (Ih _);have sm1:=(X6 fr1).trans sm;have hR:=I2.exO (sm _ _ Zi);have zl:(2000:Nat)<=sizeLine:=by decide
 have z24:(64:Nat)<=2^24:=by decide
 generalize s1.heap.objs.size=rr at hR sm fr1;show wpAny _ _ (call (.builtin "sorted") [.ref rr] [(Str.ofString "key",.ref f)]) _ _ s2;refine call_function_entry_kw kind_sorted plain_sorted entry_sorted (ksk_s1 _ _) ?_;unfold Builtin.«sorted»;refine Ia (m:=checkCount "sorted" 1 1 _) (Ic ?_);refine Ia (zcI (A:=X.A.in1) (n:=n) (show X.A.in1.handled=none from hr.hd) (r:=rr) (a:=0) (b:=(n:Int)) (c:=1) hR (small_one (by omega) (by omega) (by omega) (by omega)) (by rw[rangeSize_one];split <;> omega) (by omega) λh' tk acc hk hacc=>?_);have ha' : Vals (gV (λi=>(i:Nat)) n) acc.toList:=by
  have:=zgQ hacc;have e:((List.range n).map λ(i:Nat)=>V.int (0+i))=gV (λi=>(i:Nat)) n:=Oe λi _=>by rw[Int.zero_add]
  rw[e]at this;exact this
 have al:=ha'.length;rw[Ie,Iy]at al;have I3:=I2.kept (t':=tk) hk;refine Ia (wpAny_newList ?_ (by omega));have hoL:(h'.push (seqObj "list" acc.toList.toArray 0)).get? h'.objs.size=some (seqObj "list" acc.toList.toArray 0):=Iu _ rfl;obtain⟨e1,ho1⟩:∃ e1,((h'.push (seqObj "list" acc.toList.toArray 0)).update h'.objs.size (Obj.mapSeq λ_=>(#[]:Array Value))).get? h'.objs.size=some (seqObj "list" #[] e1):=⟨_,get?_update_seq hoL λ_=>#[]⟩
 have fD:H2 h'.objs.size=none:=I3.ab.fresh (Ih _);refine Ia (I9 (wpAny_call_entry_kw slot_list_sort ⟨_,hoL,rfl⟩ entry_list_sort ?body (ksk_l1 _ _)))
 case body=>
  show wpAny (model X.prog X.w) X.A.in1.in1 (Builtin.«list.sort» ⟨[.ref h'.objs.size],[(Str.ofString "key",.ref f)]⟩) _ _ _;rw[ksk_t1];unfold ksk_tree;refine Ia (listItems_at hoL rfl ?_);refine Ia (listUpdate_at hoL rfl ?_ (by rw[ID];omega) (NN _));refine Ia (seqEpoch_at ho1 rfl ?_);refine Ia (wpAny_newTuple ?_ (by show acc.toList.toArray.toList.length<=_;rw[List.toList_toArray];omega));refine Ia (wpAny_newList (I9 ?_) (NN _));have I4:Inv X aa σ (upd H2 h'.objs.size (exO h'.objs.size (seqObj "list" #[] e1))) {s2 with heap:=(h'.push (seqObj "list" acc.toList.toArray 0)).update h'.objs.size (Obj.mapSeq λ_=>(#[]:Array Value)),toks:=tk}:=I3.laid (t':=tk) (λb o e=>(Nb _ _ (ne_of_gt (IN e))).trans (Ig _ e)) (Ih _) (zit ho1)
  have I5:=I4.kept (t':=tk) (h':=((h'.push (seqObj "list" acc.toList.toArray 0)).update h'.objs.size (Obj.mapSeq λ_=>(#[]:Array Value))).push (seqObj "tuple" acc.toList.toArray.toList.toArray 0)) λb o e=>Ig _ e;have I6:=I5.zns (ys:=[]) (its:=[]) (t':=tk) .nil (NN _);have fK:=I5.ab.fresh (Ih _);have nKD:(((h'.push (seqObj "list" acc.toList.toArray 0)).update h'.objs.size (Obj.mapSeq λ_=>(#[]:Array Value))).push (seqObj "tuple" acc.toList.toArray.toList.toArray 0)).objs.size≠h'.objs.size:=λzz=>by have zz2:upd H2 h'.objs.size (exO h'.objs.size (seqObj "list" #[] e1)) _=none:=fK;rw[zz,Zi]at zz2;cases zz2
  refine zhH (kk:=kk) (H0:=H2) (n:=n) (g:=g) hr.in1.in1 rfl S hjs hbind hbody L (λi hi=>(hev i hi).mono sm1) I6 ?_ ?_ Zi nKD fD ?_ n64 ha' λout o1 o2 s' H' sH hD I' => ⟨_,rfl,Ic ⟨_,rfl,.ref h'.objs.size,H',I',rfl,hQ _ H' out (sm1.trans sH) (sm1.free fD) hD o1 o2⟩⟩
  .exact(X6 fD).trans (X6 fK)
  .rw[Zk (Ne.symm nKD)];exact Zi
  .have:=fK;rw[Zk nKD]at this;exact this
end
open PySem PySem.Spec PyProof.Rows Look
def zkj{K:FG}{P:AD}{cr:Nat->Nat->Option Str}{t0 te:TE}{σ:St}{G:Hp}{n:Nat}{g:Nat->Int}(hP:G P=some (.tbl cr))(h0:Ev K t0 σ G (.int (n:Nat)))(hn:n<64)(he:∀ i,i<n->Ev K te (some (.int (i:Nat))::QL σ js) G (.int (g i))):
  Ev K (zjd K P cr js t0 te) σ G (.list ((zcC g n).map λi=>PyData.int (i:Nat))):=λG1 H s1 s2 Q k=>h0 G1 H s1 s2 _ λv G2 H2 g2 hv=>by
 refine⟨g2.gh _ _ (g2.gg _ _ (s1 _ _ hP)),n,g,hv.int,hn,λi hi=>(he i hi).mono ((s1.trans g2.gg).trans g2.gh),λl H' out sm fl hl o1 o2=>?_⟩;have e:out=zcC g n:=zkk o1 o2;subst e;have gl:G2 l=none:=g2.gh.free fl;have g3:YW G2 H2 (upd G2 l (.lst ((zcC g n).map λi=>V.int (i:Nat)))) H':=by
  refine⟨λb o e=>by rw[Zk (ZC e gl)];exact e,λb o e=>?_,sm,λb o e=>?_⟩
  .by_cases h:b=l
   .subst h;rw[Zi]at e;rw[hl,e]
   .rw[Zk h]at e;exact sm _ _ (g2.gh _ _ e)
  .by_cases h:b=l
   .subst h;exact .inr fl
   .rw[Zk h]at e;exact .inl e
 exact k _ _ _ (g2.trans g3) (Y8 Zi (zb9 _))
section
variable {K:FG}{B:Hp}{ρ:List PV}{te ta tb tx:TE}{E:AD->Prop}{G0 H0 G H:Hp}{σ:St}{F:Nat->List AD}
def zjh{qs:List (Int×Int)}(h:Ea K B t ρ [.list (ps.map dPr)])(h64:ps.length<64)(hps:∀ q∈ps,0<=q.2/\q.2<1000)(hq:∀ rs:List (Int×Int),rs.Perm ps->rs.Pairwise (λa b=>a.1*1000+a.2<=b.1*1000+b.2)->rs=qs):Er K B (tCB (zjv K) t) ρ (.list (qs.map dPr)):=λG σ r=>zi8 (h G σ r) h64 hps hq
def zi9{P:AD}{cr:Nat->Nat->Option Str}{t0:TE}{n:Nat}{g:Nat->Int}(hB:B P=some (.tbl cr))(h0:Er K B t0 ρ (.int (n:Nat)))(hn:n<64)(he:∀ i,i<n->Er K B te (.dat (.int (i:Nat))::zdj ρ js) (.int (g i))):Er K B (zjd K P cr js t0 te) ρ (.list ((Look.zcC g n).map λi=>PyData.int (i:Nat))):=λG σ r=>zkj (r.1 _ _ hB) (h0 G σ r) hn λi hi=>he i hi _ _ (zfq r (Zy _))
def SvE(E:AD->Prop)(K:FG)(B:Hp)(t:TS)(ρ:List PV)(R:Pn):Prop:=∀ G0 H0 G H σ F D,Rl K B E G0 H0 G H σ ρ F->Dn K B E G0 H0 G R D->t D σ H
def svE{t:TS}{R:Pn}(h:Sv K B t ρ R):SvE E K B t ρ R:=λG0 H0 G H σ F D=>h _ G0 H0 G H σ F D
def zjD{t u:TS}{R:Pn}(h:Sv K B t ρ {R with nx:=fun ρ' => SvE E K B u ρ' R}):SvE E K B (zku t u) ρ R:=λG0 H0 G H σ F D r d=>h _ G0 H0 G H σ F {D with nx:=u D} r ⟨λhs s r' => hs G0 H0 _ _ _ _ D r' (d.mono s),d.rt,d.bk,d.ct⟩
abbrev Sv0(K:FG)(B:Hp)(t:TS)(ρ:List PV)(R:Pn):Prop:=SvE (λ_=>False) K B t ρ R
def sv0{t:TS}{R:Pn}(h:Sv K B t ρ R):Sv0 K B t ρ R:=svE h
def Ud{t u:TS}{R:Pn}(h:Sv K B t ρ {R with nx:=fun ρ' => Sv0 K B u ρ' R}):Sv0 K B (zku t u) ρ R:=zjD h
def Fun.zl9{P:Program}{w:World}{mg:Str->Option Value}{base:Heap}{x qual:Str}{st:Stmt}{f:AD}{fd:FuncData}{N ps:List Str}{R:List PD->PD->Prop}(Fn:Fun K x qual st f fd)(S:ZD N ps (Zg st))(len:∀ ds d,R ds d->ds.length=ps.length)(hb:∀(cdv:Value)(A:Around)(outer:List Env)(s:SH)(H:Hp)(E:XK),cdv=fd.code->Wt k (A.deeper (envOfC qual (Zg st) s.heap.objs.size f cdv))->∀ ds d,R ds d->
   ∃ t,PSs (zca CX0 P w K mg base N qual (Zg st) f cdv A outer s H E).nox (Z0 st) t/\Sv0 K B t (YK N (ds.map .dat)) {nx:=λ_=>d = .none,rt:=λr _=>r = .dat d}):Wb P w K mg base CX0 (k+1) f fd ps (zlF K B R):=by
 refine Fn.okC S (λvs H Q E h=>?_) λcdv A outer s H vs Q E hcd hr h=>?_
 .obtain⟨G,ds,d,_,_,hv,hR,_⟩:=h;rw[hv.length];exact len ds d hR
 .obtain⟨G,ds,d,sb,sg,hv,hR,kk⟩:=h;obtain⟨t,ht,hs⟩:=hb cdv A outer s H E hcd hr ds d hR;refine⟨t,ht,hs _ _ _ _ _ _ _ (zaJ sb sg hv) ⟨λe _ r=>?_,λe _ r sl n=>?_,λe=>e.elim,λe=>e.elim⟩⟩
  .have e:d = .none:=e;subst e;exact kk _ _ _ r.g.zaB Qu
  .subst e;obtain⟨_,y,hy,hd⟩:=sl;cases hy;exact kk _ _ _ r.g.zaB hd
def Rl.mut{i:Nat}{v' : PV}{L' : List AD}{H' : Hp}(R:Rl K B E G0 H0 G H σ ρ F)(hlt:i<ρ.length)(sub:∀ a∈F i,a∈L')(new:∀ a∈L',a∈F i\/H a=none)(same:∀ b,b∉L' -> H' b=H b)(lv:∀ a∈L',∃ o,H' a=some o)(sl:Sl K G H' σ[i]? v' L')(no:∀ ds,v' ≠ .own ds):Rl K B E G0 H0 G H' σ (ρ.set i v') (λk=>if k=i then L' else F k):=by
 have gn:∀ a∈L',G a=none:=λa ha=>by
  rcases new a ha with h | h
  .exact(R.fr i a h).1
  .exact R.g.gh.free h
 have hE:∀ a∈L',E a\/H0 a=none:=λa ha=>by
  rcases new a ha with h | h
  .exact(R.fr i a h).2.2
  .exact .inr (R.g.al a h)
 have nF:∀ j a,j≠i->a∈F j->a∉L':=λj a hj ha hl=>by
  rcases new a hl with h | h
  .exact hj (R.dj j i a ha h)
  .obtain⟨_,⟨o,ho⟩,_⟩:=R.fr j a ha;rw[h]at ho;cases ho
 refine⟨⟨R.g.gg,λb o h=>?_,λb o hb h=>?_,λb h=>?_,R.g.fr⟩,R.bb,by rw[Ob];exact R.ls,λj v h=>?_,λj a ha=>?_,λj k a ha hb=>?_,λj ds' a h ha=>?_⟩
 .rw[same b λhl=>by rw[gn b hl]at h;cases h];exact R.g.gh b o h
 .rw[same b λhl=>?_]
  .exact R.g.kp b o hb h
  .rcases hE b hl with z | z
   .exact hb z
   .rw[z]at h;cases h
 .by_cases hl:b∈L'
  .obtain⟨o,ho⟩:=lv b hl;rw[ho]at h;cases h
  .rw[same b hl]at h;exact R.g.al b h
 .by_cases z:j=i
  .subst z;rw[IW hlt]at h;cases h;rw[Iz rfl];exact sl
  .rw[IS (Ne.symm z)]at h;rw[Iq z];exact(R.sl j v h).grow (Zr.refl _) λa ha=>same a (nF j a z ha)
 .by_cases z:j=i
  .rw[Iz z]at ha;exact⟨gn a ha,lv a ha,hE a ha⟩
  .rw[Iq z]at ha;obtain⟨a1,a2,a3⟩:=R.fr j a ha;exact⟨a1,by rw[same a (nF j a z ha)];exact a2,a3⟩
 .by_cases z:j=i
  .by_cases z' : k=i
   .rw[z,z']
   .rw[Iz z]at ha;rw[Iq z']at hb;exact absurd ha (nF k a z' hb)
  .by_cases z' : k=i
   .rw[Iq z]at ha;rw[Iz z']at hb;exact absurd hb (nF j a z ha)
   .rw[Iq z]at ha;rw[Iq z']at hb;exact R.dj j k a ha hb
 .by_cases z:j=i
  .subst z;rw[IW hlt]at h;cases h;exact absurd rfl (no ds')
  .rw[Iq z]at ha;rw[IS (Ne.symm z)]at h;exact R.ow j ds' a h ha
end
open PySem PySem.Spec PyProof.Rows StbG
structure znR{α:Type}(lt:α->α->Bool):Prop where
 irr:∀ a,lt a a=false
 tr:∀ a b c,lt a b=true->lt b c=true->lt a c=true
 tri:∀ a b,lt a b=false->lt b a=false->a=b
def zd7{α:Type}{lt:α->α->Bool}(h:znR lt){a b:List α}(hp:a.Perm b)(ha:a.Pairwise λx y=>lt y x=false)(hb:b.Pairwise λx y=>lt y x=false):a=b:=hp.eq_of_pairwise (λx y _ _ h1 h2=>h.tri _ _ h2 h1) ha hb
open PySem PySem.Spec PyProof.Rows StbG zaE
noncomputable def zgx(n:Nat):List (Int×Int):=(List.range n).flatMap λ(i:Nat)=>(List.range n).map λ(j:Nat)=>(Int.ofNat i,Int.ofNat j)
noncomputable def zgv(n:Nat)(ps:List (Int×Int)):List (Int×Int):=(zgx n).filter λq=>decide (q∈ps)
noncomputable def ltP(a b:Int×Int):Bool:=decide (a.1<b.1\/a.1=b.1/\a.2<b.2)
def zg6:znR ltP:=⟨λa=>Ip (by omega),λa b c h1 h2=>Iw (by have:=IC h1;have:=IC h2;omega),λa b h1 h2=>by
 have h1:=De h1;have h2:=De h2;exact DA (by omega) (by omega)⟩
def V4{n:Nat}{q:Int×Int}:q∈zgx n↔0<=q.1/\q.1<n/\0<=q.2/\q.2<n:=by
 unfold zgx;rw[OF];constructor
 .rintro⟨i,hi,h⟩;obtain⟨j,hj,rfl⟩:=IB.mp h;have hi:=IJ.mp hi;have hj:=IJ.mp hj;show 0<=(i:Int)/\(i:Int)<n/\0<=(j:Int)/\(j:Int)<n;omega
 .intro⟨h1,h2,h3,h4⟩;refine⟨q.1.toNat,IJ.mpr (by omega),IB.mpr ⟨q.2.toNat,IJ.mpr (by omega),?_⟩⟩;exact DA (Int.toNat_of_nonneg h1) (Int.toNat_of_nonneg h3)
def zji(n:Nat):(zgx n).Pairwise λx y=>ltP x y=true:=by
 unfold zgx;refine Dl.mpr ⟨λi hi=>?_,?_⟩
 .rw[OY];exact List.pairwise_lt_range.imp λ{a b} h=>Iw (.inr ⟨rfl,Int.ofNat_lt.mpr h⟩)
 .refine List.pairwise_lt_range.imp ?_;intro a b h x hx y hy;obtain⟨_,_,rfl⟩:=IB.mp hx;obtain⟨_,_,rfl⟩:=IB.mp hy;exact Iw (.inl (Int.ofNat_lt.mpr h))
def zgW{n:Nat}(hps:∀ q∈ps,0<=q.1/\q.1<n/\0<=q.2/\q.2<n){q:Int×Int}:q∈zgv n ps↔q∈ps:=by unfold zgv;rw[Nj,V4,Nf];exact⟨λh=>h.2,λh=>⟨hps q h,h⟩⟩
def zcx(n:Nat)(ps:List (Int×Int)):(zgv n ps).Pairwise λx y=>ltP x y=true:=(zji n).filter _
def zge(n:Nat)(ps:List (Int×Int)):(zgv n ps).Nodup:=(zcx n ps).imp λh e=>by rw[e]at h;have:=IC h;omega
def zdi{n:Nat}{rs:List (Int×Int)}(hn:n<=1000)(hps:∀ q∈ps,0<=q.1/\q.1<n/\0<=q.2/\q.2<n)(nd:rs.Nodup)(hm:∀ q,q∈rs↔q∈ps)(hpw:rs.Pairwise (λa b=>a.1*1000+a.2<=b.1*1000+b.2)):rs=zgv n ps:=by
 refine zd7 zg6 ((OS nd (zge n ps)).mpr λq=>by rw[hm q,zgW hps]) ?_ ?_
 .refine O3 (λ{a b} ha hb h=>Ip ?_) hpw;have h1:=hps a ((hm a).mp ha);have h2:=hps b ((hm b).mp hb);omega
 .exact(zcx n ps).imp λh=>Ip (by have:=IC h;omega)
def zdo{n:Nat}(hn:n<=7)(hps:∀ q∈ps,0<=q.1/\q.1<n/\0<=q.2/\q.2<n)(L:List (Int×Int))(nd:L.Nodup)(h:∀ q∈L,q∈ps):L.length<64:=by
 have hle:L.length<=(zgx n).length:=by have:=NJ nd (l₂:=zgx n) λq hq=>V4.mpr (hps q (h q hq));exact this
 have:(zgx n).length<=49:=by
  have:n=0\/n=1\/n=2\/n=3\/n=4\/n=5\/n=6\/n=7:=by omega
  rcases this with rfl | rfl | rfl | rfl | rfl | rfl | rfl | rfl <;> decide
 omega
section
variable {K:FG}{B:Hp}{ρ:List PV}
def zf7{n:Nat}(h:Ea K B t ρ [.list (ps.map dPr)])(hn:n<=7)(hps:∀ q∈ps,0<=q.1/\q.1<n/\0<=q.2/\q.2<n):Er K B (tCB (zeG K) t) ρ (.list ((zgv n ps).map dPr)):=λG σ r=>zjj (h G σ r) (zdo hn hps) (λq hq=>by have:=hps q hq;omega) λrs nd hm hpw=>zdi (by omega) hps nd hm hpw
end
open PySem
def zcT(a:Nat):Builtin.bitNot (a:Int) = -(a:Int)-1:=by unfold Builtin.bitNot;omega
def zhK(a b:Nat):Builtin.bitAnd (a:Int) (b:Int)=((a &&& b:Nat):Int):=by unfold Builtin.bitAnd;rw[Iw (Int.natCast_nonneg a),Iw (Int.natCast_nonneg b)];rfl
def zjB(a b:Nat):Builtin.bitOr (a:Int) (b:Int)=((a ||| b:Nat):Int):=by
 unfold Builtin.bitOr;have ha:¬ (0:Int)<=Builtin.bitNot (a:Int):=by rw[zcT];omega
 have hb:¬ (0:Int)<=Builtin.bitNot (b:Int):=by rw[zcT];omega
 have nn:∀ c:Nat,Builtin.bitNot (Builtin.bitNot (c:Int))=(c:Int):=λc=>by unfold Builtin.bitNot;omega
 unfold Builtin.bitAnd;rw[Ip ha,Ip hb];show Builtin.bitNot (Builtin.bitNot _)=_;rw[nn,nn a,nn b];rfl
def zg7(a k:Nat):(a:Int) / 2^(k:Int).toNat=((a >>> k:Nat):Int):=by rw[Nat.shiftRight_eq_div_pow,NP];simp
def zlk(a k:Nat):Builtin.bitAnd ((a >>> k:Nat):Int) ((1:Nat):Int)=if a.testBit k then 1 else 0:=by
 rw[zhK,Nat.and_one_is_mod];have:a.testBit k=decide (a >>> k % 2=1):=by rw[Nat.testBit,Nat.one_and_eq_mod_two];rcases Nat.mod_two_eq_zero_or_one (a >>> k)with h | h <;> rw[h] <;> rfl
 rw[this];rcases Nat.mod_two_eq_zero_or_one (a >>> k)with h | h <;> rw[h] <;> rfl
open PySem PySem.Spec PyProof.Rows
mutual
noncomputable def noL:PD->Bool
 |.list _=>false
 |.tuple ds=>znT ds
 |.dict _=>false
 |_=>true
noncomputable def znT:List PD->Bool
 |[]=>true
 |d::r=>noL d&&znT r
end
section
variable {X:Cx}
def zgo(K:FG)(neg:Bool):R2:=λx y H Q=>∃(G:Hp)(d:PD)(ds:List PD)(p:AD)(xs:List V),Zr G H/\Dat K G x d/\y = .ref p/\SqT K G p xs/\ZX K G xs ds/\Pl 60 d/\(∀ e∈ds,Pl 60 e)/\
 Q (.bl (if neg=true then !ds.any (λe=>PySem.Spec.same e d)else ds.any λe=>PySem.Spec.same e d)) H
def zjk{K:FG}(eK:X.K=K)(hu:X.A.units+64<cLine):OpR X (compareOp .In) (zgo K false):=by subst eK;intro aa s σ H x y v u Q I rx ry h;obtain⟨G,d,ds,p,xs,e,hd,rfl,hp,hx,pd,pds,q⟩:=h;cases ry;obtain⟨its,r,pl,hz⟩:=I.tuple (e.tup hp);obtain⟨as,rd⟩:=Dat.reads I e hd rx;obtain⟨h1,h2⟩:=QW I e hu rd pd hx r pds;refine SeqAt.in_tupleAt (Xx s d) pl (λw hw=>h1 w (by simpa using hw)) ⟨.bl _,H,I,rfl,?_⟩;rw[show its.toArray.any (Xx s d)=its.any (Xx s d)by simp,h2];exact q
def Qa{K:FG}(eK:X.K=K)(hu:X.A.units+64<cLine):OpR X (compareOp .NotIn) (zgo K true):=by subst eK;intro aa s σ H x y v u Q I rx ry h;obtain⟨G,d,ds,p,xs,e,hd,rfl,hp,hx,pd,pds,q⟩:=h;cases ry;obtain⟨its,r,pl,hz⟩:=I.tuple (e.tup hp);obtain⟨as,rd⟩:=Dat.reads I e hd rx;obtain⟨h1,h2⟩:=QW I e hu rd pd hx r pds;refine SeqAt.notIn_tupleAt (Xx s d) pl (λw hw=>h1 w (by simpa using hw)) ⟨.bl _,H,I,rfl,?_⟩;rw[show its.toArray.any (Xx s d)=its.any (Xx s d)by simp,h2];exact q
end
section
variable {K:FG}{B:Hp}{ρ:List PV}{te ta tb tx:TE}
def Ue{neg:Bool}{d:PD}(ha:Er K B ta ρ d)(hb:Er K B tb ρ (.tuple ds))(pd:Pl 60 d)(pds:∀ e∈ds,Pl 60 e):Er K B (tOp (zgo K neg) ta tb) ρ (.bool (if neg=true then !ds.any (λe=>PySem.Spec.same e d)else ds.any λe=>PySem.Spec.same e d)):=λG σ r=>
 QB (ha G σ r) (hb G σ r) λG1 H u v Q s1 s2 hu hv k=>by obtain⟨p,xs,rfl,hp,hxs⟩:=hv.tup;exact⟨G1,d,ds,p,xs,s2,hu,rfl,hp,hxs,pd,pds,k _ G1 H (YW.refl s2) (Yr _)⟩
def V2(h:Ea K B t ρ [.tuple ds]):Er K B (tCB (λxs H Q=>∃ p ys,xs=[.ref p]/\(SqL K H p ys\/SqT K H p ys)/\∀ l,H l=none->Q (.ref l) (upd H l (.lst ys))) t) ρ (.list ds):=zgC h λG1 H xs Q s1 hx k=>by obtain⟨y,ys,rfl,hy,hn⟩:=hx.cons;cases hn.nil;obtain⟨p,zs,rfl,hp,hz⟩:=hy.tup;refine⟨p,zs,rfl,.inr (s1.tup hp),λl hl=>?_⟩;have g:=Yh (o:=.lst zs) s1 hl;exact k _ _ _ g (Y8 Zi (hz.same g.gg))
end
def zgc(a b:Value):argsOk "sum" ⟨[a,b],[]⟩:=by unfold argsOk;kernel_rfl
section
variable {X:Cx}{aa:List (AD×Obj)}{σ:St}{A:Around}{E:Value->SH->Prop}
def zoa{K:FG}{H G:Hp}{s:SH}{a b:AD}{es:List PD}{Q:Value->SH->Prop}(eK:X.K=K)(I:Inv X aa σ H s)(sg:Zr G H)(ha:Dat K G (.ref a) (.tuple ds))(hb:Dat K G (.ref b) (.tuple es))(hz:ds.length+es.length<=sizeLine)(q:∀ c G2 H2 h2,YW G H G2 H2->Inv X aa σ H2 {s with heap:=h2}->Dat K G2 (.ref c) (.tuple (ds++es))->(∀ b o,s.heap.get? b=some o->h2.get? b=some o)->(∀ b,b<s.heap.objs.size->H2 b=H b)->Q (.ref c) {s with heap:=h2}):wpAny (model X.prog X.w) A (binaryOp .Add (.ref a) (.ref b)) Q E s:=by
 subst eK;obtain⟨p,us,e1,hp,hus⟩:=ha.tup;obtain⟨p',vs,e2,hp',hvs⟩:=hb.tup;cases e1;cases e2;have l1:=hus.length;have l2:=hvs.length;obtain⟨its,r1,p1,_⟩:=I.tuple (sg.tup hp);obtain⟨its2,r2,p2,_⟩:=I.tuple (sg.tup hp');by_cases hx:us=[]
 .have e0:its=[]:=r1.JX.mpr hx;have:ds=[]:=by cases ds with | nil=>rfl | cons=>rw[hx]at l1;cases l1
  subst this;obtain⟨⟨cls,dd,data,sl⟩,ho,hc,n,hd⟩:=id p1;obtain⟨⟨cls2,dd2,data2,sl2⟩,ho2,hc2,n2,hd2⟩:=id p2;simp only at hc hd hc2 hd2;subst hc hd hc2 hd2;exact concat_meets ⟨_,ho,rfl⟩ ⟨_,ho2,rfl⟩ noFill_tuple_add seq_tuple_add F.slot_tuple_add F.entry_tuple_add (F.args_tuple_add_2 _ _) (tuple_addW0 a b its.toArray its2.toArray n n2 dd dd2 sl sl2 (by simp[e0])) ⟨ho,ho2,q b G H s.heap (YW.refl sg) I hb (λ_ _ e=>e) λ_ _=>rfl⟩
 .refine HT.zfz p1 p2 (λz=>hx (r1.JX.mp z)) (λz=>?_) (λz=>?_) (by rw[← r1.length,← r2.length,l1,l2];exact hz)
  .have hv:vs=[]:=r2.JX.mp z;have:es=[]:=by cases es with | nil=>rfl | cons=>rw[hv]at l2;cases l2
   subst this;exact q a G H s.heap (YW.refl sg) I (by rw[Nx];exact ha) (λ_ _ e=>e) λ_ _=>rfl
  .have hf:H s.heap.objs.size=none:=I.ab.fresh (Ih _);have g:=Yh (o:=.tup (us++vs)) sg hf;refine q _ _ _ _ g (I.laid (t':=s.toks) (o:=.tup (us++vs)) (λb ob q=>Ig _ q) (Ih _) ?_) (XQ (SqT.of Zi) ((Xe hus hvs).same g.gg)) (λb ob q=>Ig _ q) λb hb=>Zk (IX hb);exact⟨by rw[Il,l1,l2];exact hz,_,r1.append r2,IsTup.new _ _,_,Iu _ rfl,rfl⟩
def ze8{K:FG}{G0 H0:Hp}{I S:AD}{fp wr:List AD}{n:Nat}{P:Nat->Value->Prop}{St:Nat->SH->Prop}{R:Result->SH->Prop}{dss:List (List PD)}(eK:X.K=K)(W:WalksS X.prog X.w A.in1 I fp wr (λa b=>b=a) n P St)(hn:n=dss.length)(hz:dss.flatten.length<=sizeLine)(hP:∀ i v,P i v->∃ b es,v = .ref b/\dss[i]?=some es/\Dat K G0 (.ref b) (.tuple es))(hf:∀ b∈S::wr,∀ H',H' b=none->zdJ X aa H' b)(hw:∀ j s,St j s->∀ b∈wr,∃ o,s.heap.get? b=some o)(hSf:S∉fp)(hR:∀ c G1 H1 s',YW G0 H0 G1 H1->Inv X aa σ H1 s' -> Dat K G1 (.ref c) (.tuple dss.flatten)->R (.ok (.ret (.ref c))) s'):
  ∀(k j:Nat)(s:SH)(a:AD)(c:Nat)(G1 H1:Hp),n-j=k->j<=n->St j s->YW G0 H0 G1 H1->Inv X aa σ H1 s->(∀ b∈S::wr,H1 b=none)->Dat K G1 (.ref a) (.tuple (dss.take j).flatten)->
  s.heap.get? S=some {cls:=.type "list",dict:=none,data:=.seq #[.ref a] c,slots:=#[]}->codeAny (model X.prog X.w) A (.builtin "sum.loop" ⟨[.ref I,.ref S,rawInt 2,rawInt 0],[]⟩) R s:=by
 have hSw:S∉wr:=λh=>hSf (W.sub _ h);have mv:∀{s s' : SH}{H1:Hp},Inv X aa σ H1 s->(∀ b∈S::wr,H1 b=none)->Moved wr (λa b=>b=a) s s' -> Inv X aa σ H1 s':=λ{s s' H1} i hb hm=>by obtain⟨h',g',d',t',os'⟩:=s';obtain rfl:g'=s.gens:=hm.gens;obtain rfl:d'=s.drawn:=hm.drawn;obtain rfl:os'=s.os:=hm.os;exact i.turns (fp:=S::wr) (λb u hb e=>hm.heap b u (λz=>hb (Im _ z)) e) λb z=>hf b z _ (hb b z)
 intro k
 induction k with
 |zero=>
  intro j s a c G1 H1 hk hj hst g inv hb hd hS;obtain rfl:j=n:=by omega
  refine Nu F.entry_sum_loop ?_;rw[NV F.plain_sum_loop _];show wpAny _ A.in1 (seqItems? (.ref S) >>= _) _ _ s;refine Ia (Oc hS rfl ?_);show wpAny _ A.in1 (tryCatch (pyNext (.ref I)) _ >>= _) _ _ s;refine Ia (OT (W.done s _ _ hst λs' hm=>?_));rw[hn,Ov]at hd;exact Ic (hR a G1 H1 s' g (mv inv hb hm) hd)
 |succ k ih=>
  intro j s a c G1 H1 hk hj hst g inv hb hd hS;have hlt:j<n:=by omega
  refine Nu F.entry_sum_loop ?_;rw[NV F.plain_sum_loop _];show wpAny _ A.in1 (seqItems? (.ref S) >>= _) _ _ s;refine Ia (Oc hS rfl ?_);show wpAny _ A.in1 (tryCatch (pyNext (.ref I)) _ >>= _) _ _ s;refine Ia (OT (W.item j s _ _ hlt hst λv s' hPv hst' hm=>?_));obtain⟨b,es,rfl,he,hbd⟩:=hP j v hPv;have hS':=hm.heap S _ hSw hS;have ef:(dss.take (j+1)).flatten=(dss.take j).flatten++es:=by rw[take_succ,he];simp
  have el:(dss.take j).flatten.length+es.length<=sizeLine:=by
   rw[← Il,← ef];have h1:((dss.take (j+1))++(dss.drop (j+1))).flatten.length=dss.flatten.length:=by rw[OJ]
   rw[List.flatten_append,Il]at h1;omega
  have inv':=mv inv hb hm;show wpAny _ A.in1 ((holding [Value.ref b] (binaryOp .Add (.ref a) (.ref b))).attempt >>= _) _ _ _;refine Ia (O0 (I9 (zoa eK inv' g.gh hd (hbd.same g.gg) el λc2 G2 H2 h2 g2 inv2 hd2 hk2 hs2=>?_)));show wpAny _ A.in1 (updateSeq S (λ_=>#[.ref c2]) >>= _) _ _ _;have hS2:=hk2 S _ hS';refine Ia (OW hS2 rfl ?_);have hS₂:=NI (Obj.mapSeq λ_=>#[Value.ref c2]) hS2 rfl;refine Ia (wpAny_letGo ?_);have hb2:∀ b∈S::wr,H2 b=none:=λx hx=>by
   rw[hs2 x ?_]
   .exact hb x hx
   .rcases IE.mp hx with rfl | hx
    .exact IN hS'
    .obtain⟨o,ho⟩:=hw _ _ hst' x hx;exact IN ho
  have inv3:Inv X aa σ H2 {s' with heap:=(h2.update S (Obj.mapSeq λ_=>#[Value.ref c2])).update S (Obj.mapSeq λ_=>#[Value.ref c2])}:=Inv.turns (s:={s' with heap:=h2}) inv2 (fp:=S::wr) (h':=(h2.update S (Obj.mapSeq λ_=>#[Value.ref c2])).update S (Obj.mapSeq λ_=>#[Value.ref c2])) (t':=s'.toks) (λb u hb e=>by
   have nS:S≠b:=λh=>hb (by rw[h];exact Ir);exact(Nb _ _ nS).trans ((Nb _ _ nS).trans (show h2.get? b=some u from e))) λx hx=>hf x hx _ (hb2 x hx)
  refine Ia (OW hS₂ rfl (Ic ⟨NW F.plain_sum_loop _,ih (j+1) _ c2 _ G2 H2 (by omega) hlt (W.frame _ s' _ s'.toks hst' (Ih _) λb hb o e=>?_) (g.trans g2) inv3 hb2 (by rw[ef];exact hd2) (NI _ hS₂ rfl)⟩))
  .have nS:S≠b:=λh=>hSf (by rw[h];exact hb);exact(Nb _ _ nS).trans ((Nb _ _ nS).trans (hk2 _ _ e))
end
section
variable {X:Cx}
def zlo(K:FG):List V->Hp->VK->Prop:=λxs H Q=>∃(G:Hp)(t e:AD)(dss:List (List PD)),xs=[.ref t,.ref e]/\Zr G H/\Dat K G (.ref t) (.tuple (dss.map .tuple))/\Dat K G (.ref e) (.tuple [])/\dss.flatten.length<=sizeLine/\∀ v G' H',YW G H G' H' -> Dat K G' v (.tuple dss.flatten)->Q v H'
def zeX{K:FG}(eK:X.K=K)(hc:X.calm=true):Jk X (.builtin "sum") (zlo K):=by
 intro aa s σ H xs us Q I r h;obtain⟨G,t,e0,dss,rfl,sg,ht,he,hz,q⟩:=h;obtain⟨u1,u2,rfl,q1,q2⟩:=vals2 r;cases q1;cases q2;obtain⟨p,vs,ep,hp,hvs⟩:=ht.tup;cases ep;obtain⟨p',vs',ep,hp',hvs'⟩:=he.tup;cases ep;have hK:=eK;subst hK;obtain⟨its,r1,p1,_⟩:=I.tuple (sg.tup hp);obtain⟨its0,r0,p0,_⟩:=I.tuple (sg.tup hp');have tI:s.heap.IsTuple t its.toArray:=p1;obtain⟨o,ho,hcl,n,hd⟩:=id p1;have hne:t≠s.heap.objs.size:=IX (IN ho);have W:=(Walks.tuple (prog:=X.prog) (w:=X.w) (A:=X.A.in1) (I.ok.hd hc) s.heap.objs.size t hne its.toArray).toS;refine call_function_tree F.kind_sum F.plain_sum F.entry_sum (zgc _ _) ?_;unfold Builtin.«sum»;simp only[IL,List.length_nil];rw[Iq (by decide)];refine Ia (wpAny_of_eq (show Builtin.Builtins.bindParams "sum" ["start"] 0 ⟨[.ref e0],[]⟩=pure [some (.ref e0)]from rfl) ?_);refine Ia (OM tI ?_);refine Ia (Ic ?_);have tE:({s with heap:=s.heap.push {cls:=.type "tuple_iterator",data:=.fields #[.ref t,.int 0 0]}}:SH).TypeIs (.ref e0) "tuple" := by obtain⟨o,ho,hcl,_⟩:=id p0;exact⟨o,Ig _ ho,hcl⟩
 simp only[List.forIn_cons,List.forIn_nil];refine Ia (Ia (Ia (N8 (T:= "tuple") (b:=false) tE F.sub_tuple_str ?_)));simp only[IF,IY];refine Ic (Ia (Ia (N8 (T:= "tuple") (b:=false) tE F.sub_tuple_bytes ?_)));simp only[IF,IY];refine Ic (Ia (Ia (N8 (T:= "tuple") (b:=false) tE F.sub_tuple_bytearray ?_)));simp only[IF,IY];refine Ic (Ic ?_);refine Ia (Na ?_);have hsz:(s.heap.push {cls:=.type "tuple_iterator",data:=.fields #[.ref t,.int 0 0]}).objs.size=s.heap.objs.size+1:=by simp[Heap.push]
 have len:its.toArray.size=dss.length:=by rw[ID,← r1.length,hvs.length,Ie]
 have kp:∀ b u,s.heap.get? b=some u->((s.heap.push {cls:=.type "tuple_iterator",data:=.fields #[.ref t,.int 0 0]}).push {cls:=.type "list",data:=.seq #[Value.ref e0]}).get? b=some u:=λb u e=>Ig _ (Ig _ e);refine Ic ⟨NW F.plain_sum_loop _,ze8 (S:=(s.heap.push {cls:=.type "tuple_iterator",data:=.fields #[.ref t,.int 0 0]}).objs.size) (G0:=G) (H0:=H) (dss:=dss) rfl W len hz (λi v hv=>?_) (λb hb H' hn=>?_) (λj s' st b hb=>?_) (λhm=>?_) (λc G1 H1 s' g inv hd=>⟨.ref c,H1,inv,rfl,q _ _ _ g hd⟩) _ 0 _ e0 _ G H rfl (NN _) ⟨⟨_,Ig _ (Iu _ rfl),rfl,rfl⟩,tI.at λo e=>kp _ _ e⟩ (YW.refl sg) (I.kept (t':=s.toks) kp) (λb hb=>?_) he (Iu _ rfl)⟩
 .have hv:its.toArray[i]?=some v:=hv;rw[List.getElem?_toArray]at hv;have hi:=(Io.mp hv).1;have hi2:i<vs.length:=by rw[r1.length];exact hi
  obtain⟨u,hu,rel⟩:=r1.get (Ib hi2);rw[hv]at hu;cases hu;obtain⟨d,hd1,hd2⟩:=hvs.zoj (Ib hi2);rw[Ik]at hd1;cases e1:dss[i]? with
  |none=>rw[e1]at hd1;cases hd1
  |some es=>rw[e1]at hd1;cases hd1;obtain⟨pb,xb,ex,_,_⟩:=hd2.tup;rw[ex]at rel hd2;cases rel;exact⟨pb,es,rfl,rfl,hd2⟩
 .refine I.zkA ?_ hn;rcases IE.mp hb with rfl | hb
  .rw[hsz];omega
  .rw[Ij.mp hb];exact Ih _
 .rw[Ij.mp hb];obtain⟨o,e,_⟩:=st.1;exact⟨o,e⟩
 .rw[hsz]at hm;rcases IE.mp hm with h | h
  .exact absurd h (Nat.succ_ne_self _)
  .have h:=Ij.mp h;exact absurd (IN ho) (by rw[← h];exact Nat.not_lt.mpr (le_succ _))
 .refine I.ab.fresh ?_;rcases IE.mp hb with rfl | hb
  .rw[hsz];omega
  .rw[Ij.mp hb];exact Ih _
end
section
variable {K:FG}{B:Hp}{ρ:List PV}{te ta:TE}
def zjY{dss:List (List PD)}(ha:Er K B ta ρ (.tuple (dss.map .tuple)))(hb:Er K B te ρ (.tuple []))(hz:dss.flatten.length<=sizeLine):Er K B (tCB (zlo K) (YQ ta (YQ te V5))) ρ (.tuple dss.flatten):=λG σ r G1 H s1 s2 Q k=>
 ha G σ r G1 H s1 s2 _ λx G2 H2 g2 hx=>hb G2 σ (r.mono (s1.trans g2.gg)) G2 H2 (Zr.refl _) g2.gh _ λy G3 H3 g3 hy=>by have hx':=hx.same g3.gg;obtain⟨p,us,rfl,_,_⟩:=hx'.tup;obtain⟨p',us',rfl,_,_⟩:=hy.tup;exact⟨G3,p,p',dss,rfl,g3.gh,hx',hy,hz,λv G4 H4 g4 hv=>k v G4 H4 ((g2.trans g3).trans g4) hv⟩
end
section
variable {K:FG}{B:Hp}{ρ:List PV}{ta tb tc td te:TE}
def zlA{ns:List Int}(h:Ea K B t ρ [.list (ns.map .int)]):Er K B (tCB (λxs H Q=>∃(p:AD)(ns:List Int),xs=[.ref p]/\SqL K H p (ns.map V.int)/\Q (.int ns.sum) H) t) ρ (.int ns.sum):=λG σ r=>za6 (h G σ r) λG1 H xs Q s1 s2 hx k=>by obtain⟨v,vs,rfl,hv,hx⟩:=hx.cons;rw[hx.nil];obtain⟨p,ys,rfl,hp,hys⟩:=hv.lst;rw[ZX.ints hys]at hp;exact⟨p,ns,rfl,SqL.of (s2 _ _ hp),k _ _ _ (YW.refl s2) (Zy _)⟩
end
section
variable {K:FG}{B:Hp}{ρ:List PV}{G H:Hp}{ta tb te td:TE}{a b d:PD}{ds:List PD}
theorem Uw{xs:List V}(h:ZX K G xs ds):∀ n:Nat,ZX K G (List.replicate n xs).flatten (List.replicate n ds).flatten
 |0=>Yi
 |n+1=>by rw[Oq,Oq,Dc,Dc];exact Xe h (Uw h n)
def zjn{σ:St}{n:Nat}(ha:Ev K ta σ G (.list ds))(hb:Ev K tb σ G (.int (n:Nat)))(hn:n<2^63)(hz:ds.length*n<=sizeLine):Ev K (tOp znu ta tb) σ G (.list (List.replicate n ds).flatten):=QB ha hb λG1 H x y Q s1 s2 hx hy k=>by obtain⟨p,xs,rfl,hp,hxs⟩:=hx.lst;rw[hy.int];refine⟨p,n,xs,rfl,rfl,s2 _ _ hp,by omega,by omega,by rw[NP,hxs.length];exact hz,λq hq=>?_⟩;rw[NP];have g:=Yh (o:=.lst (List.replicate n xs).flatten) s2 hq;exact k _ _ _ g (Y8 Zi ((Uw hxs n).same g.gg))
end
def tBI(t:TE):TT:=fun σ H Q=>t σ H λx H1=>∃ i:Int,x = .int i/\Q (i != 0) H1
def zfP{X:Cx}{e:Expr}{t:TE}(h:PE X e t)(he:∀ whole,isTrue e X.env whole=(do let v ← whole;standAt e.pos;holding [v] (truthy v)):=by intro _;rfl):PT X e (tBI t):=by intro aa s σ H Q I hw;refine isTrue_plain (thn (h aa s σ H _ I hw) λv s1 ⟨x,H1,I1,r1,q1⟩=>?_) (he _);obtain⟨d,rfl,q⟩:=q1;obtain⟨t,rfl⟩:=r1;exact PySem.P.truthy_int ⟨H1,I1,q⟩
section
variable {K:FG}{B:Hp}{ρ:List PV}{ta tb te:TE}
def zny{t:TE}{i:Int}{b:Bool}(h:Er K B t ρ (.int i))(e:(i != 0)=b):Et K B (tBI t) ρ b:=λG σ r G1 H s1 s2 Q k=>h G σ r G1 H s1 s2 _ λv G' H' g hv=>⟨i,hv.int,e ▸ k G' H' g⟩
def zeP{a:Nat}(ha:Er K B ta ρ (.int (a:Nat)))(hk:Er K B tb ρ (.int (k:Nat))):Er K B (tOp (rI0 λi j=>.int (Builtin.bitAnd i j)) (tOp (rI (λ_ j=>0<=j) λi j=>.int (i / 2^j.toNat)) ta tb) (tC (.int 1))) ρ (.int (if a.testBit k then 1 else 0)):=Wf (i:=((a >>> k:Nat):Int)) (j:=((1:Nat):Int)) (Q7 ha hk (Int.natCast_nonneg _) λG=>by rw[zg7];exact Zy _) Zq λG=>by rw[zlk];exact Zy _
def zh0{a:Nat}(ha:Er K B ta ρ (.int (a:Nat)))(hk:Er K B tb ρ (.int (k:Nat))):Et K B (tBI (tOp (rI0 λi j=>.int (Builtin.bitAnd i j)) (tOp (rI (λ_ j=>0<=j) λi j=>.int (i / 2^j.toNat)) ta tb) (tC (.int 1)))) ρ (a.testBit k):=zny (zeP ha hk) (by cases a.testBit k <;> rfl)
def zic{a b:Nat}(ha:Er K B ta ρ (.int (a:Nat)))(hb:Er K B tb ρ (.int (b:Nat))):Er K B (tOp (rI0 λi j=>.int (Builtin.bitOr i j)) ta tb) ρ (.int ((a ||| b:Nat))):=Wf ha hb λG=>by rw[zjB];exact Zy _
def zk6(hb:Er K B tb ρ (.int (k:Nat)))(hk:k<60):Er K B (tOp (rI zm5 λi j=>.int (i*2^j.toNat)) (tC (.int 1)) tb) ρ (.int ((1 <<< k:Nat))):=
 Q7 Zq hb (by unfold zm5;omega) λG=>by rw[show(1:Int)*(2:Int)^(k:Int).toNat=((1 <<< k:Nat):Int)by rw[NP,Nat.one_shiftLeft];simp];exact Zy _
end
end L2
namespace M41
variable {i:Nat}{ps:List (Nat×Nat)}{q:Nat×Nat}
abbrev Kn:Type:=List Nat
noncomputable def ah(k:Kn)(i j:Nat):Bool:=(k.getD i 0).testBit j
noncomputable def wl(k:Kn)(i j:Nat):Kn:=(List.range k.length).map λt=>if t==i||ah k t i then(k.getD t 0) ||| ((k.getD j 0) ||| (1 <<< j))else k.getD t 0
noncomputable def YJ(ps:List (Nat×Nat))(n:Nat):Kn:=ps.foldl (λk q=>wl k q.1 q.2) (List.replicate n 0)
noncomputable def zht(k:Kn)(i:Nat):List (Nat×Nat):=((List.range k.length).filter λj=>ah k i j).map λj=>(i,j)
noncomputable def pairsOf(k:Kn):List (Nat×Nat):=(List.range k.length).flatMap (zht k)
noncomputable def opq(k:Kn)(i j:Nat):Bool:=!ah k i j && !ah k j i
noncomputable def zdC(k:Kn)(i m:Nat):List (Nat×Nat):=((List.range m).filter λd=>opq k i (i+1+d)).map λd=>(i,i+1+d)
noncomputable def unp(k:Kn):List (Nat×Nat):=(List.range k.length).flatMap λi=>zdC k i (k.length-(i+1))
noncomputable def orow(k:Kn)(j:Nat):List (Nat×Nat):=((List.range j).filter λi=>opq k i j).map λi=>(i,j)
noncomputable def opn(k:Kn):List (Nat×Nat):=(List.range k.length).flatMap (orow k)
noncomputable def best(f:Kn->Nat)(k:Kn)(a:Option Nat)(q:Nat×Nat):Option Nat:=
 let c:=1+max (f (wl k q.1 q.2)) (f (wl k q.2 q.1))
 match a with
 |none=>some c
 |some b=>if c<b then some c else some b
noncomputable def lst:Nat->Kn->Nat
 |0,_=>0
 |f+1,k=>((unp k).foldl (best (lst f) k) none).getD 0
def Yq{k:Kn}{j:Nat}:(wl k i j).length=k.length:=by unfold wl;rw[Ie,Iy]
def zli{k:Kn}{j t:Nat}(h:t<k.length):(wl k i j).getD t 0=if t==i||ah k t i then(k.getD t 0) ||| ((k.getD j 0) ||| (1 <<< j))else k.getD t 0:=by unfold wl;rw[II,Ik,Dt h];rfl
def Qy{k:Kn}{j a b:Nat}(h:a<k.length):ah (wl k i j) a b=(ah k a b||((a==i||ah k a i)&&(b==j||ah k j b))):=by
 show((wl k i j).getD a 0).testBit b=_;rw[zli h];by_cases c:(a==i||ah k a i)=true
 .rw[Iz c,c,Nat.testBit_or,Nat.testBit_or,Bool.true_and,Nat.one_shiftLeft,Nat.testBit_two_pow];show(ah k a b||(ah k j b||decide (j=b)))=_;rw[Bool.or_comm (ah k j b)];congr 2;by_cases e:b=j
  .subst e;simp
  .have:¬ j=b:=λz=>e z.symm;simp[e,this]
 .rw[Iq c];have c' : (a==i||ah k a i)=false:=by simpa using c
  rw[c',Bool.false_and,Bool.or_false];rfl
def zaf{n:Nat}:(YJ ps n).length=n:=by
 unfold YJ
 suffices h:∀(ps:List (Nat×Nat))(k:Kn),(ps.foldl (λk q=>wl k q.1 q.2) k).length=k.length by rw[h,Nl]
 intro ps
 induction ps with
 |nil=>intro k;rfl
 |cons q r ih=>intro k;rw[Dd,ih,Yq]
def Tr(k:Kn):Prop:=∀ a b c,a<k.length->b<k.length->ah k a b=true->ah k b c=true->ah k a c=true
theorem Tr.wl{k:Kn}{j:Nat}(h:Tr k)(hi:i<k.length)(hj:j<k.length)(low:∀ a,a<k.length->∀ b,ah k a b=true->b<k.length):Tr (wl k i j):=by
 intro a b c ha hb h1 h2;rw[Yq]at ha hb;rw[Qy ha]at h1 ⊢;rw[Qy hb]at h2;simp only[Oh,NR,Oz]at h1 h2 ⊢;rcases h1 with h1 | ⟨h1,h1'⟩
 .rcases h2 with h2 | ⟨h2,h2'⟩
  .exact .inl (h a b c ha hb h1 h2)
  .refine .inr ⟨.inr ?_,h2'⟩;rcases h2 with rfl | h2
   .exact h1
   .exact h a b i ha hb h1 h2
 .rcases h2 with h2 | ⟨h2,h2'⟩
  .refine .inr ⟨h1,.inr ?_⟩;rcases h1' with rfl | h1'
   .exact h2
   .exact h j b c hj hb h1' h2
  .exact .inr ⟨h1,h2'⟩
def Lo(k:Kn):Prop:=∀ a,a<k.length->∀ b,ah k a b=true->b<k.length
theorem Lo.wl{k:Kn}{j:Nat}(h:Lo k)(hj:j<k.length):Lo (wl k i j):=by
 intro a ha b hb;rw[Yq]at ha ⊢;rw[Qy ha]at hb;simp only[Oh,NR,Oz]at hb;rcases hb with hb | ⟨_,rfl | hb⟩
 .exact h a ha b hb
 .exact hj
 .exact h j hj b hb
def zbX{n a b:Nat}:ah (List.replicate n 0) a b=false:=by
 unfold ah;have:(List.replicate n 0).getD a 0=0:=by rw[II,List.getElem?_replicate];split <;> rfl
 rw[this];exact Nat.zero_testBit b
theorem Va{n:Nat}:∀(ps:List (Nat×Nat)),(∀ q∈ps,q.1<n/\q.2<n)->∀ k:Kn,k.length=n->Tr k->Lo k->Tr (ps.foldl (λk q=>wl k q.1 q.2) k)/\Lo (ps.foldl (λk q=>wl k q.1 q.2) k)/\(∀ a b,a<n->ah k a b=true->ah (ps.foldl (λk q=>wl k q.1 q.2) k) a b=true)/\(∀ q∈ps,ah (ps.foldl (λk q=>wl k q.1 q.2) k) q.1 q.2=true)/\
  ∀ R:Nat->Nat->Prop,(∀ a b c,R a b->R b c->R a c)->(∀ a b,a<n->ah k a b=true->R a b)->(∀ q∈ps,R q.1 q.2)->∀ a b,a<n->ah (ps.foldl (λk q=>wl k q.1 q.2) k) a b=true->R a b
 |[],_,k,_,ht,hl=>⟨ht,hl,λ_ _ _ h=>h,nofun,λR _ h _=>h⟩
 |q::r,hq,k,hk,ht,hl=>by
  obtain⟨q1,q2⟩:=hq q Ir;have e:∀ a b,a<n->ah (wl k q.1 q.2) a b=(ah k a b||((a==q.1||ah k a q.1)&&(b==q.2||ah k q.2 b))):=λa b ha=>Qy (by omega);obtain⟨h1,h2,h3,h4,h5⟩:=Va r (λx hx=>hq x (Im _ hx)) (wl k q.1 q.2) (by rw[Yq];exact hk) (ht.wl (by omega) (by omega) hl) (hl.wl (by omega));refine⟨h1,h2,λa b ha h=>h3 a b ha (by rw[e a b ha,h];rfl),λx hx=>?_,λR tr h0 hR a b ha h=>h5 R tr (λa b ha h=>?_) (λx hx=>hR x (Im _ hx)) a b ha h⟩
  .rcases IE.mp hx with rfl | hx
   .exact h3 _ _ q1 (by rw[e _ _ q1];simp)
   .exact h4 x hx
  .rw[e a b ha]at h;simp only[Oh,NR,Oz]at h;have hq':=hR q Ir;rcases h with h | ⟨h1,h2⟩
   .exact h0 a b ha h
   .have z:R a q.2:=by
     rcases h1 with rfl | h1
     .exact hq'
     .exact tr _ _ _ (h0 _ _ ha h1) hq'
    rcases h2 with rfl | h2
    .exact z
    .exact tr _ _ _ z (h0 _ _ q2 h2)
def Qj{n:Nat}:Tr (List.replicate n 0)/\Lo (List.replicate n 0):=⟨λa b c _ _ h=>absurd h (by rw[zbX];exact Ii),λa _ b h=>absurd h (by rw[zbX];exact Ii)⟩
def ZJ{k:Kn}:q∈pairsOf k↔q.1<k.length/\q.2<k.length/\ah k q.1 q.2=true:=by
 unfold pairsOf zht;constructor
 .intro h;obtain⟨i,hi,h⟩:=OF.mp h;obtain⟨j,hj,rfl⟩:=IB.mp h;obtain⟨hj,h⟩:=Nj.mp hj;exact⟨IJ.mp hi,IJ.mp hj,h⟩
 .rintro⟨h1,h2,h3⟩;exact OF.mpr ⟨q.1,IJ.mpr h1,IB.mpr ⟨q.2,Nj.mpr ⟨IJ.mpr h2,h3⟩,rfl⟩⟩
open L2
noncomputable def zbo(n:Nat):List (Nat×Nat):=(List.range n).flatMap λi=>(List.range n).map λj=>(i,j)
noncomputable def Yc(n:Nat)(ps:List (Nat×Nat)):List (Nat×Nat):=(zbo n).filter λq=>decide (q∈ps)
noncomputable def up(q:Nat×Nat):Int×Int:=((q.1:Int),(q.2:Int))
def zmc{a b:Nat×Nat}(h:up a=up b):a=b:=by unfold up at h;injection h with h1 h2;exact DA (by omega) (by omega)
def zlp :up q∈ps.map up↔q∈ps:=⟨λh=>by
 obtain⟨a,ha,e⟩:=IB.mp h;rw[← zmc e];exact ha,λh=>Ds h⟩
def V3{n:Nat}:q∈zbo n↔q.1<n/\q.2<n:=by
 unfold zbo;constructor
 .intro h;obtain⟨i,hi,h⟩:=OF.mp h;obtain⟨j,hj,rfl⟩:=IB.mp h;exact⟨IJ.mp hi,IJ.mp hj⟩
 .rintro⟨h1,h2⟩;exact OF.mpr ⟨q.1,IJ.mpr h1,IB.mpr ⟨q.2,IJ.mpr h2,rfl⟩⟩
def zki(n:Nat):zgx n=(zbo n).map up:=by unfold zgx zbo;rw[List.map_flatMap];congr 1;funext i;rw[NQ];rfl
def Q3{n:Nat}:zgv n (ps.map up)=(Yc n ps).map up:=by unfold zgv Yc;rw[zki,filter_map];congr 1;refine Dy λq _=>?_;show decide (up q∈ps.map up)=decide (q∈ps);exact Nq.mpr zlp
def Z5{n:Nat}:q∈Yc n ps↔(q.1<n/\q.2<n)/\q∈ps:=by unfold Yc;rw[Nj,V3,Nf]
def zc6(n:Nat)(ps:List (Nat×Nat)):(Yc n ps).Nodup:=by have:=zge n (ps.map up);rw[Q3]at this;exact List.Pairwise.of_map up (λa b h e=>h (by rw[e])) this
def J3(n:Nat):(zbo n).length=n*n:=by
 unfold zbo
 suffices h:∀ m,((List.range m).flatMap λi=>(List.range n).map λj=>(i,j)).length=m*n from h n
 intro m
 induction m with
 |zero=>simp
 |succ m ih=>rw[OP,NL,Il,ih,Nv,Ie,Iy,Dr]
def zb4{n:Nat}:(Yc n ps).length<=n*n:=by unfold Yc;exact IH (IT _ _) (O5 (J3 n))
def zaC{n:Nat}{a b:List (Nat×Nat)}(h:∀ x∈Yc n a,x∈b)(hq:q∈b)(hn:q.1<n/\q.2<n)(hq' : q∉Yc n a):(Yc n a).length<(Yc n b).length:=by
 have:=NJ (l₁:=q::Yc n a) (l₂:=Yc n b) (NT.mpr ⟨hq',zc6 n a⟩) λx hx=>by
  rcases IE.mp hx with rfl | hx
  .exact Z5.mpr ⟨hn,hq⟩
  .exact Z5.mpr ⟨(Z5.mp hx).1,h x hx⟩
 exact this
def YT(k:Kn):pairsOf k=(zbo k.length).filter λq=>ah k q.1 q.2:=by unfold pairsOf zbo zht;rw[List.filter_flatMap];congr 1;funext i;rw[filter_map];rfl
noncomputable def ziy(F:List (Nat×Nat))(q:Nat×Nat):List (Nat×Nat):=(F.filter λr=>decide (q.2=r.1) && !decide ((q.1,r.2)∈F)).map λr=>(q.1,r.2)
noncomputable def zbg(F:List (Nat×Nat))(m:Nat):List (Nat×Nat):=(F.take m).flatMap (ziy F)
def zaF{F:List (Nat×Nat)}:q∈zbg F F.length↔q∉F/\∃ j,(q.1,j)∈F/\(j,q.2)∈F:=by
 unfold zbg ziy;rw[Ov];constructor
 .intro h;obtain⟨a,ha,h⟩:=OF.mp h;obtain⟨r,hr,rfl⟩:=IB.mp h;obtain⟨hr,h⟩:=Nj.mp hr;simp only[NR,Nf,not_eq_true',decide_eq_false_iff_not]at h;exact⟨h.2,a.2,ha,by rw[h.1];exact hr⟩
 .rintro⟨h,j,h1,h2⟩;refine OF.mpr ⟨_,h1,IB.mpr ⟨_,Nj.mpr ⟨h2,?_⟩,rfl⟩⟩;simp only[NR,Nf,not_eq_true',decide_eq_false_iff_not];exact⟨trivial,h⟩
def zbU{n:Nat}{qs:List (Nat×Nat)}(hps:∀ q∈ps,q.1<n/\q.2<n)(h1:∀ q∈ps,q∈qs)(h2:∀ q∈Yc n qs,ah (YJ ps n) q.1 q.2=true)(tr:zbg (Yc n qs) (Yc n qs).length=[]):Yc n qs=pairsOf (YJ ps n):=by
 have hl:(YJ ps n).length=n:=zaf;rw[YT,hl];unfold Yc;refine Dy λq hq=>?_;have hq:=V3.mp hq;obtain⟨_,lo,_,_,mn⟩:=Va ps hps (List.replicate n 0) Nl Qj.1 Qj.2;by_cases h:q∈qs
 .rw[Iw h,h2 q (Z5.mpr ⟨hq,h⟩)]
 .rw[Ip h];cases e:ah (YJ ps n) q.1 q.2 with
  |false=>rfl
  |true=>
   refine absurd ?_ h;have:=mn (λa b=>(a,b)∈Yc n qs) (λa b c hab hbc=>?_) (λa b _ hab=>absurd hab (by rw[zbX];exact Ii)) (λx hx=>Z5.mpr ⟨hps x hx,h1 x hx⟩) q.1 q.2 hq.1 e
   .exact(Z5.mp this).2
   .refine NZ λz=>?_;have:(a,c)∈zbg (Yc n qs) (Yc n qs).length:=zaF.mpr ⟨z,b,hab,hbc⟩;rw[tr]at this;cases this
structure IsO(k:Kn):Prop where
 tr:Tr k
 lo:Lo k
 ir:∀ t,t<k.length->ah k t t=false
def X8{k:Kn}(h:IsO k):YJ (pairsOf k) k.length=k:=by
 obtain⟨_,lo,_,hold,mn⟩:=Va (pairsOf k) (λq hq=>⟨(ZJ.mp hq).1,(ZJ.mp hq).2.1⟩) (List.replicate k.length 0) Nl Qj.1 Qj.2;refine Dx λt=>?_;by_cases ht:t<k.length
 .have hl:(YJ (pairsOf k) k.length).length=k.length:=zaf;rw[Ib ht,Ib (by rw[hl];exact ht)];congr 1;refine Nat.eq_of_testBit_eq λb=>?_;have e1:∀(l:Kn)(h:t<l.length),l[t]=l.getD t 0:=λl h=>by rw[II,Ib h];rfl
  rw[e1,e1];show ah (YJ (pairsOf k) k.length) t b=ah k t b;rw[N4];constructor
  .intro e;have:=mn (λa b=>a<k.length/\ah k a b=true) (λa b c hab hbc=>⟨hab.1,h.tr a b c hab.1 hbc.1 hab.2 hbc.2⟩) (λa b _ hab=>absurd hab (by rw[zbX];exact Ii)) (λx hx=>⟨(ZJ.mp hx).1,(ZJ.mp hx).2.2⟩) t b ht e;exact this.2
  .intro e;exact hold (t,b) (ZJ.mpr ⟨ht,h.lo t ht b e,e⟩)
 .have hl:(YJ (pairsOf k) k.length).length=k.length:=zaf;rw[IU (by omega),IU (by omega)]
def IsO.bits{n:Nat}(hps:∀ q∈ps,q.1<n/\q.2<n)(R:Nat->Nat->Prop)(tr:∀ a b c,R a b->R b c->R a c)(ir:∀ a,¬ R a a)(h:∀ q∈ps,R q.1 q.2):IsO (YJ ps n):=by
 obtain⟨h1,h2,_,_,mn⟩:=Va ps hps (List.replicate n 0) Nl Qj.1 Qj.2;refine⟨h1,h2,λt ht=>?_⟩;rw[zaf]at ht;cases e:ah (YJ ps n) t t with
 |false=>rfl
 |true=>exact absurd (mn R tr (λa b _ hab=>absurd hab (by rw[zbX];exact Ii)) h t t ht e) (ir t)
theorem IsO.wl{k:Kn}{j:Nat}(h:IsO k)(hi:i<k.length)(hj:j<k.length)(n:i≠j)(no:ah k j i=false):IsO (M41.wl k i j):=by
 refine⟨h.tr.wl hi hj h.lo,h.lo.wl hj,λt ht=>?_⟩;rw[Yq]at ht;rw[Qy ht,h.ir t ht,Bool.false_or];cases e:(t==i||ah k t i)&&(t==j||ah k j t)with
 |false=>rfl
 |true=>
  simp only[Oh,NR,Oz]at e;rcases e with⟨rfl | e1,rfl | e2⟩
  .exact absurd rfl n
  .rw[no]at e2;cases e2
  .rw[no]at e1;cases e1
  .have:=h.tr j t i hj ht e2 e1;rw[no]at this;cases this
end M41
namespace L2
open PySem PySem.Spec PyProof.Rows
variable {k:KF}{v:V}{i:Nat}{d:PD}{α β:Type}
abbrev GE:=KF×AD×V
def zfG(x:GE)(z:KF×AD×Value):Prop:=z.1=x.1/\z.2.1=x.2.1/\RelV x.2.2 z.2.2
def znW(P:Program)(w:World)(a:AD)(xs:List GE)(h:Heap):Prop:=(a==sysModules)=false/\xs.length<=sizeLine/\∃(zs:List (KF×AD×Value))(o:Obj)(es:Array DictEntry)(ep:Nat),h.get? a=some o/\o.ExactDict/\o.data = .dict es ep/\es.toList=zs.map (entryOfKey (tupleKind (Y6 P w)))/\Paired zfG xs zs/\(xs.map (·.1)).Nodup
noncomputable def dGl(P:Program)(w:World)(a:AD)(xs:List GE):HO:=.ext (znW P w a xs)
def zeI{P:Program}{w:World}{H:Hp}{h:Heap}{a:AD}{xs:List GE}(x:znW P w a xs h):Yu P w H h a (dGl P w a xs):=by
 refine⟨x,?_,λh1 h2 y k=>?_⟩
 .obtain⟨_,_,_,o,_,_,e,_⟩:=x;exact⟨o,e⟩
 .obtain⟨z1,z2,zs,o,es,ep,e,r⟩:=y;exact⟨z1,z2,zs,o,es,ep,k o e,r⟩
theorem gk:∀{xs:List GE}{zs:List (KF×AD×Value)},Paired zfG xs zs->zs.map (·.1)=xs.map (·.1)/\∀ z∈zs,∃ x∈xs,zfG x z
 |_,_,.nil=>⟨rfl,λ_ h=>by cases h⟩
 |_,_,.cons r t=>by
  obtain⟨h1,h2⟩:=gk t;refine⟨by rw[Nt,Nt,h1,r.1],λz hz=>?_⟩;rcases IE.mp hz with rfl | hz
  .exact⟨_,Ir,r⟩
  .obtain⟨x,hx,e⟩:=h2 z hz;exact⟨x,Im _ hx,e⟩
theorem zcz:∀{xs:List GE}{zs:List (KF×AD×Value)},Paired zfG xs zs->∀{k:KF}{b:AD}{n:V},(xs.map (·.1)).Nodup->(k,b,n)∈xs->∃ u,atKey zs k=some (b,u)/\RelV n u
 |_,_,.nil,k,b,n,_,h=>by cases h
 |_,_,.cons (a:=x) (b:=z) r t,k,b,n,hn,h=>by
  unfold atKey;rcases IE.mp h with e | h
  .obtain⟨r1,r2,r3⟩:=r;subst e;refine⟨z.2.2,?_,r3⟩;rw[Dv,Iw r1];show some z.2=some (b,z.2.2);congr 1;exact DA r2 rfl
  .have hn' : x.1∉_/\_:=NT.mp hn;have ne:¬ z.1=k:=λe=>hn'.1 (IB.mpr ⟨_,h,by rw[← e,r.1]⟩);rw[Dv,Ip ne];exact zcz t hn'.2 h
noncomputable def zir(xs:List GE)(k:KF):Bool:=xs.any λx=>decide (x.1=k)
def zdB{xs:List GE}:zir xs k=true↔k∈xs.map (·.1):=by
 unfold zir;rw[OG];constructor
 .rintro⟨x,hx,e⟩;exact IB.mpr ⟨x,hx,IC e⟩
 .intro h;obtain⟨x,hx,e⟩:=IB.mp h;exact⟨x,hx,Iw e⟩
def QZ{xs:List GE}{zs:List (KF×AD×Value)}(pr:Paired zfG xs zs)(hnd:(xs.map (·.1)).Nodup)(k:KF):(atKey zs k).isSome=zir xs k:=by
 by_cases h:k∈xs.map (·.1)
 .obtain⟨⟨k',b,n⟩,hx,rfl⟩:=IB.mp h;obtain⟨t,ht,_⟩:=zcz pr hnd hx;rw[ht,zdB.mpr h];rfl
 .rw[zcF (by rw[(gk pr).1];exact h),Od.mpr λz=>h (zdB.mp z)];rfl
noncomputable def zlJ(k:KF)(v:V)(x:GE):GE:=if x.1=k then(x.1,x.2.1,v)else x
noncomputable def zhd(xs:List GE)(k:KF)(b:AD)(v:V):List GE:=if zir xs k then xs.map (zlJ k v)else xs++[(k,b,v)]
theorem zcO{u:Value}(r:RelV v u):∀{xs:List GE}{zs:List (KF×AD×Value)},Paired zfG xs zs->Paired zfG (xs.map (zlJ k v)) (zs.map (putAt k u))
 |_,_,.nil=>.nil
 |_,_,.cons (a:=x) (b:=z) h t=>by
  refine .cons ?_ (zcO r t);obtain⟨h1,h2,h3⟩:=h;unfold zlJ putAt;rw[h1];by_cases e:x.1=k
  .rw[Iz e,Iz e];exact⟨rfl,h2,r⟩
  .rw[Iq e,Iq e];exact⟨h1,h2,h3⟩
def zgZ{b:AD}{u:Value}(r:RelV v u){xs:List GE}{zs:List (KF×AD×Value)}(pr:Paired zfG xs zs)(hnd:(xs.map (·.1)).Nodup):Paired zfG (zhd xs k b v) (storedH zs k b u):=by
 unfold zhd storedH;rw[QZ pr hnd];split
 .exact zcO r pr
 .exact pr.snoc ⟨rfl,rfl,r⟩
def zhv{xs:List GE}{b:AD}:(zhd xs k b v).length<=xs.length+1:=by
 unfold zhd;split
 .rw[Ie];omega
 .rw[Il];exact Ih _
section
variable {X:Cx}{aa:List (AD×Obj)}{σ:St}{H G:Hp}{s:SH}
def zlT(P:Program)(w:World):TE:=λ_ H Q=>∀ p,H p=none->Q (.ref p) (upd H p (dGl P w p []))
def zdw{P:Program}{w:World}(eP:X.prog=P)(ew:X.w=w){pos:Pos}:PE X (.Dict [] [] pos) (zlT P w):=by
 subst eP ew;exact λaa s σ H Q I h=>
 wpAny_Dict_empty ⟨.ref s.heap.objs.size,_,I.laid (a:=s.heap.objs.size) (o:=dGl X.prog X.w s.heap.objs.size []) (t':=s.toks) (λ_ _ q=>Ig _ q) (Ih _)
  (zeI ⟨NF.mpr (Ne.symm (IX I.big)),NN _,[],_,#[],0,Iu _ rfl,⟨rfl,rfl,rfl⟩,rfl,rfl,.nil,nodup_nil⟩),rfl,h _ (I.ab.fresh (Ih _))⟩
def zi1(I:Inv X aa σ H s)(sg:Zr G H){a:AD}{xs:List GE}(ha:Rd H a (dGl X.prog X.w a xs))(hxs:∀ z∈xs,Dat X.K G (.ref z.2.1) (Ug z.1)):(a==sysModules)=false/\∃ zs,Paired zfG xs zs/\s.heap.DictOfH (tupleKind (Y6 X.prog X.w)) a zs/\(xs.map (·.1)).Nodup:=by
 obtain⟨⟨hsm,_,zs,o',es,ep,h1,h2,h3,h4,h5,h6⟩,_⟩:=(show Yu X.prog X.w H s.heap a (dGl X.prog X.w a xs)from ha.ok I.ab)
 obtain⟨q1,q2⟩:=gk h5;refine⟨hsm,zs,h5,⟨o',es,ep,h1,h2,h3,h4,λz hz=>?_,by rw[q1];exact h6⟩,h6⟩;obtain⟨x,hx,r⟩:=q2 z hz;have:=zbq I sg (hxs x hx);rw[← r.1,← r.2.1]at this;exact this
def ziF(P:Program)(w:World)(K:FG)(td ty tv:TE):TS:=λD σ H=>tv σ H λv H1=>td σ H1 λx H2=>ty σ H2 λy H3=>∃(a b:AD)(k:KF)(xs:List GE)(G:Hp),x = .ref a/\y = .ref b/\H3 a=some (dGl P w a xs)/\Zr G H3/\Dat K G (.ref b) (Ug k)/\(∀ z∈xs,Dat K G (.ref z.2.1) (Ug z.1))/\xs.length<sizeLine/\D.nx σ (upd H3 a (dGl P w a (zhd xs k b v)))
def zcW{P:Program}{w:World}{K:FG}(eP:X.prog=P)(ew:X.w=w)(eK:X.K=K){o i value:Expr}{pos pos' : Pos}{td ty tv:TE}(hu:X.A.units+64<cLine)(ho:PE X o td)(hi:PE X i ty)(hv:PE X value tv)(hs:swapsWith value (some (.Subscript o i pos')) pos.line X.env=pure false):
  PS X (.Assign [.Subscript o i pos'] value pos) (ziF P w K td ty tv):=by
 subst eP ew eK;intro aa s σ H D I h;refine wpAny_Assign_Subscript (thn (hv aa s σ H _ I h) λr s1 ⟨v,H1,I1,rv,q1⟩=>thn (ho aa s1 σ H1 _ I1 q1) λu s2 ⟨x,H2,I2,rx,q2⟩=>thn (hi aa s2 σ H2 _ I2 q2) λiv s3 ⟨y,H3,I3,ry,a,b,k,xs,G,ex,ey,ha,sg,hb,hxs,hl,q3⟩=>?_) hs;subst ex ey;obtain rfl:u=Value.ref a:=rx;obtain rfl:iv=Value.ref b:=ry;obtain⟨hsm,zs,pr,dd,hnd⟩:=zi1 I3 sg (.inl ha) hxs;obtain⟨q1,_⟩:=gk pr;have hlz:zs.length=xs.length:=by have:=ND List.length q1;simpa using this
 refine wpAny_setItem_heap (hsz:=by omega) (tupleKind_room_in1 (show X.A.units+1<cLine by omega)) (zbq I3 sg hb) dd λh' dd' hs=>?_;obtain⟨q,es',ep',hq,g2,g3,g4,_,g5⟩:=dd';have pr':=zgZ (k:=k) (b:=b) rv pr hnd;refine⟨σ,_,zgf I3 (by rw[ha];exact True.intro) hs ⟨q,hq⟩ (zeI ⟨hsm,?_,_,q,es',ep',hq,g2,g3,g4,pr',?_⟩),q3⟩
 .have:=zhv (xs:=xs) (k:=k) (b:=b) (v:=v);omega
 .rw[← (gk pr').1];exact g5
def zmH(P:Program)(w:World)(K:FG):R2:=λx y H Q=>∃(n:V)(a b b' : AD)(k:KF)(xs:List GE)(G:Hp),x = .ref a/\y = .ref b/\Rd H a (dGl P w a xs)/\Zr G H/\Dat K G (.ref b) (Ug k)/\(∀ z∈xs,Dat K G (.ref z.2.1) (Ug z.1))/\(k,b',n)∈xs/\Q n H
def zjm{P:Program}{w:World}{K:FG}(eP:X.prog=P)(ew:X.w=w)(eK:X.K=K)(hu:X.A.units+64<cLine):IxR X (zmH P w K):=by
 subst eP ew eK;intro value slice aa s σ H x y v u Q I rx ry h hs;obtain⟨n,a,b,b',k,xs,G,rfl,rfl,ha,sg,hb,hxs,hm,q⟩:=h;cases rx;cases ry;obtain⟨hsm,zs,pr,dd,hnd⟩:=zi1 I sg ha hxs;obtain⟨t,ht,rt⟩:=zcz pr hnd hm;have hT:s.TypeIs (.ref a) "dict" := dd.typeIs;have h2:wpAny (model X.prog X.w) X.A (getItem (.ref a) (.ref b)) (EP X aa σ Q) X.xe s:=wpAny_getItem_heap (tupleKind_room_in1 (show X.A.units+1<cLine by omega)) (zbq I sg hb) dd ht ⟨n,H,I.tok _,rt,q⟩;unfold subscriptTail;refine Ia ?_;rw[getitemInPython_of_ne hT.not_modules];refine Ia (OV hT slot_dict_getitem.lookup ?_);have fin:wpAny (model X.prog X.w) X.A (subscripted slice false (.ref a) (.ref b)) (λr s₃=>wpAny (model X.prog X.w) X.A (letTemporaryGo value (.ref a) r >>= λ_=>pure r) (EP X aa σ Q) X.xe s₃) X.xe s:=by rw[hs];exact wpAny_operating (N0 h2 (λr s₃ h₃=>Ia (wpAny_letTemporaryGo (Ic h₃))) λ_ _ x=>x)
 first
  |exact Ic (Ia fin)
  |exact Ia (Ic (Ia fin))
  |exact Ia fin
def znS(P:Program)(w:World)(K:FG)(g:Bool->Bool):R2:=λx y H Q=>∃(a b:AD)(k:KF)(xs:List GE)(G:Hp),x = .ref b/\y = .ref a/\H a=some (dGl P w a xs)/\Zr G H/\Dat K G (.ref b) (Ug k)/\(∀ z∈xs,Dat K G (.ref z.2.1) (Ug z.1))/\Q (.bl (g (zir xs k))) H
def Ul{P:Program}{w:World}{K:FG}(eP:X.prog=P)(ew:X.w=w)(eK:X.K=K)(hu:X.A.units+64<cLine):OpR X (compareOp .NotIn) (znS P w K λb=>!b):=by subst eP ew eK;intro aa s σ H x y v u Q I rx ry h;obtain⟨a,b,k,xs,G,rfl,rfl,ha,sg,hb,hxs,q⟩:=h;cases rx;cases ry;obtain⟨hsm,zs,pr,dd,hnd⟩:=zi1 I sg (.inl ha) hxs;refine wpAny_notIn_heap (tupleKind_room_in1 (show X.A.units+1<cLine by omega)) (zbq I sg hb) hsm dd ?_;rw[QZ pr hnd];exact⟨.bl (!zir xs k),H,I.tok _,rfl,q⟩
end
section
variable {K:FG}{B:Hp}{ρ:List PV}
def zgS{te:TE}{R:PV->List PV->Prop}{u0:PV}{ds0:List PD}(hi:ρ[i]?=some u0)(hu:u0.rd=some ds0)(h:Eg K B te ρ λr ρ' => ∃(u:PV)(ds:List PD)(j:Nat)(d:PD),r = .dat (.int (j:Nat))/\ρ'[i]?=some u/\u.rd=some ds/\ds[j]?=some d/\j<=10^6/\R (.dat d) (ρ'.set i (u.put (ds.eraseIdx j)))):Eg K B (tBM K "list" zh7 (JB i) (YQ te V5)) ρ R:=λE G0 H0 G H σ F r Q q=>by obtain⟨p,xs,e,hx,hp,hd⟩:=(r.sl i _ hi).rd hu;refine⟨_,hx,.inl ⟨rfl,xs,SqL.of hp⟩,?_⟩;refine h E G0 H0 G H σ F r _ λv w ρ' G' H' F' L hR s r' sl n=>?_;obtain⟨u,ds,j,d,rfl,hi',hu',hj,hz,hR⟩:=hR;obtain⟨p',xs',e',hx',hp',hd'⟩:=(r'.sl i _ hi').rd hu';rw[hx]at hx';cases hx';obtain⟨_,x,hxv,hxd⟩:=sl;cases hxv;rw[hxd.int];obtain⟨y,hy,hyd⟩:=hd'.get hj;have hjl:j<xs'.length:=(Io.mp hy).1;refine⟨p,xs',(j:Nat),j,y,rfl,rfl,hp',by omega,by omega,(zcn (Wq hjl)).1,hy,?_⟩;exact q y _ _ G' _ F' [] hR s (r'.put hi' hu' hx (zaq j hd')) ⟨rfl,y,rfl,hyd⟩ Jv
def zhc{t:TA}{R:PV->List PV->Prop}(h:EgA K B t ρ λds ρ' => ∃ n:Nat,ds=[.int (n:Nat)]/\n<=10^6/\R (.own ((List.range n).map λ(i:Nat)=>PyData.int (i:Nat))) ρ'):Eg K B (zlU t) ρ R:=λE G0 H0 G H σ F r Q q=>
 h E G0 H0 G H σ F r _ λvs ds ρ1 G1 H1 F1 hh s1 r1 hv=>by
  obtain⟨n,rfl,hn,hR⟩:=hh;obtain⟨y,ys,rfl,hy,hn0⟩:=hv.cons;cases hn0.nil;rw[hy.int];refine⟨(n:Nat),rfl,by omega,by rw[NP];exact IH hn (show(10:Nat)^6<=2^24 by decide),λl hl=>?_⟩;rw[NP];have hd:ZX K G1 ((List.range n).map λ(i:Nat)=>V.int i) ((List.range n).map λ(i:Nat)=>PyData.int (i:Nat)):=by
   induction List.range n with
   |nil=>exact Yi
   |cons a r ih=>exact Z4 (Zy _) ih
  obtain⟨a,b,c⟩:=r1.zmK hl hd;exact q _ _ ρ1 G1 _ F1 [l] hR s1 a b c
def za1{ta tb:TE}{neg:Bool}{ds:List PD}(ha:Er K B ta ρ d)(hb:Er K B tb ρ (.list ds))(pd:Pl 60 d)(pds:∀ e∈ds,Pl 60 e):Er K B (tOp (znX K neg) ta tb) ρ (.bool (if neg=true then !ds.any (λe=>PySem.Spec.same e d)else ds.any λe=>PySem.Spec.same e d)):=λG σ r=>
 QB (ha G σ r) (hb G σ r) λG1 H u v Q s1 s2 hu hv k=>by obtain⟨p,xs,rfl,hp,hxs⟩:=hv.lst;exact⟨G1,d,ds,p,xs,s2,hu,rfl,s2 _ _ hp,hxs,pd,pds,k _ G1 H (YW.refl s2) (Yr _)⟩
end
abbrev MD:=List (KF×PD)
def gD(K:FG)(G:Hp)(x:GE)(y:KF×PD):Prop:=x.1=y.1/\Dat K G (.ref x.2.1) (Ug x.1)/\Dat K G x.2.2 y.2
noncomputable def YF(m:MD)(k:KF):Bool:=m.any λx=>decide (x.1=k)
noncomputable def putD(k:KF)(d:PD)(x:KF×PD):KF×PD:=if x.1=k then(x.1,d)else x
noncomputable def VG(m:MD)(k:KF)(d:PD):MD:=if YF m k then m.map (putD k d)else m++[(k,d)]
section
variable {K:FG}{G G' H H' : Hp}
theorem Js{F F' : α->β->Prop}(h:∀ a b,F a b->F' a b):∀{l:List α}{m:List β},Paired F l m->Paired F' l m
 |_,_,.nil=>.nil
 |_,_,.cons r t=>.cons (h _ _ r) (Js h t)
theorem XX{F:α->β->Prop}:∀{l:List α}{m:List β},Paired F l m->(∀ a∈l,∃ b∈m,F a b)/\(∀ b∈m,∃ a∈l,F a b)/\l.length=m.length
 |_,_,.nil=>⟨nofun,nofun,rfl⟩
 |_,_,.cons r t=>by
  obtain⟨h1,h2,h3⟩:=XX t;refine⟨λa ha=>?_,λb hb=>?_,by rw[IL,IL,h3]⟩
  .rcases IE.mp ha with rfl | ha
   .exact⟨_,Ir,r⟩
   .obtain⟨b,hb,e⟩:=h1 a ha;exact⟨b,Im _ hb,e⟩
  .rcases IE.mp hb with rfl | hb
   .exact⟨_,Ir,r⟩
   .obtain⟨a,ha,e⟩:=h2 b hb;exact⟨a,Im _ ha,e⟩
theorem gD.same{x:GE}{y:KF×PD}(h:gD K G x y)(s:Zr G G'):gD K G' x y:=⟨h.1,h.2.1.same s,h.2.2.same s⟩
theorem ze3:∀{xs:List GE}{m:MD},Paired (gD K G) xs m->∀ k,zir xs k=YF m k
 |_,_,.nil,_=>rfl
 |_,_,.cons r t,k=>by unfold zir YF;rw[DE,DE,r.1];congr 1;exact ze3 t k
def zmf{b:AD}(hb:Dat K G (.ref b) (Ug k))(hv:Dat K G v d){xs:List GE}{m:MD}(h:Paired (gD K G) xs m):Paired (gD K G) (zhd xs k b v) (VG m k d):=by
 unfold zhd VG;rw[ze3 h];split
 .have go:∀{xs:List GE}{m:MD},Paired (gD K G) xs m->Paired (gD K G) (xs.map (zlJ k v)) (m.map (putD k d)):=λ{xs m} h=>by
   induction h with
   |nil=>exact .nil
   |cons r t ih=>
    refine .cons ?_ ih;obtain⟨r1,r2,r3⟩:=r;unfold zlJ putD;rw[r1];split
    .exact⟨rfl,by rw[← r1];exact r2,hv⟩
    .exact⟨r1,r2,r3⟩
  exact go h
 .exact h.snoc ⟨rfl,hb,hv⟩
def V8{m:MD}:YF m k=true↔k∈m.map (·.1):=by
 unfold YF;rw[OG];constructor
 .rintro⟨x,hx,e⟩;exact IB.mpr ⟨x,hx,IC e⟩
 .intro h;obtain⟨x,hx,e⟩:=IB.mp h;exact⟨x,hx,Iw e⟩
end
def DgI(P:Program)(w:World)(K:FG)(m:MD)(a:AD)(G H:Hp):Prop:=∃ xs:List GE,H a=some (dGl P w a xs)/\Paired (gD K G) xs m
abbrev SS:=MD×MD
noncomputable def nmS:Bool->Str
 |true=> "found"
 |false=> "best"
noncomputable def SS.sel(s:SS):Bool->MD
 |true=>s.1
 |false=>s.2
noncomputable def SS.put(s:SS)(m:MD):Bool->SS
 |true=>(m,s.2)
 |false=>(s.1,m)
abbrev fS(a1 a2:AD):List (Str×V):=[("found",.ref a1),("best",.ref a2)]
def srI(P:Program)(w:World)(K:FG)(C:AD)(s:SS)(p:AD)(fp:List AD)(G H:Hp):Prop:=∃ dx a1 a2,fp=[dx,a1,a2]/\(p≠dx/\p≠a1/\p≠a2/\dx≠a1/\dx≠a2/\a1≠a2)/\H p=some (.ins C dx (fS a1 a2))/\H dx=some (.own p)/\DgI P w K s.1 a1 G H/\DgI P w K s.2 a2 G H
noncomputable def srT(P:Program)(w:World)(K:FG)(C:AD):TF K SS:=zmU (srI P w K C) (λ{s p fp G H G' H'} h sg k=>by
  obtain⟨dx,a1,a2,rfl,hne,h1,h2,⟨xs,h3,h4⟩,⟨ys,h5,h6⟩⟩:=h;exact⟨dx,a1,a2,rfl,hne,by rw[k p (by simp)];exact h1,by rw[k dx (by simp)];exact h2,⟨xs,by rw[k a1 (by simp)];exact h3,Js (λ_ _ z=>z.same sg) h4⟩,⟨ys,by rw[k a2 (by simp)];exact h5,Js (λ_ _ z=>z.same sg) h6⟩⟩)
 (λ{s p fp G H} h a ha=>by
  obtain⟨dx,a1,a2,rfl,hne,h1,h2,⟨xs,h3,h4⟩,⟨ys,h5,h6⟩⟩:=h;simp only[IE,O9,or_false]at ha;rcases ha with rfl | rfl | rfl | rfl
  .exact⟨_,h1⟩
  .exact⟨_,h2⟩
  .exact⟨_,h3⟩
  .exact⟨_,h5⟩)
section
variable {P:Program}{w:World}{K:FG}{C:AD}{B:Hp}{ρ:List PV}{te ta tb ty tv:TE}{s:SS}{p:AD}{fp:List AD}{G H:Hp}
def srI.ad(h:srI P w K C s p fp G H)(b:Bool):∃ dx a1 a2 a,H p=some (.ins C dx (fS a1 a2))/\(fS a1 a2).lookup (nmS b)=some (.ref a)/\a∈fp/\DgI P w K (s.sel b) a G H/\∀(xs:List GE) m G' H',(∀ c,c≠a->H' c=H c)->Zr G G' -> H' a=some (dGl P w a xs)->Paired (gD K G') xs m->srI P w K C (s.put m b) p fp G' H':=by
 obtain⟨dx,a1,a2,rfl,hne,h1,h2,h3,h5⟩:=h;obtain⟨n1,n2,n3,n4,n5,n6⟩:=hne;have mono:∀{m:MD}{a:AD}{G' H' : Hp},DgI P w K m a G H->Zr G G' -> H' a=H a->DgI P w K m a G' H':=λ⟨xs,e,q⟩ sg k=>⟨xs,by rw[k];exact e,Js (λ_ _ z=>z.same sg) q⟩
 cases b with
 |true=>exact⟨dx,a1,a2,a1,h1,rfl,by simp,h3,λxs m G' H' k sg e q=>⟨dx,a1,a2,rfl,⟨n1,n2,n3,n4,n5,n6⟩,by rw[k p n2];exact h1,by rw[k dx n4];exact h2,⟨xs,e,q⟩,mono h5 sg (k a2 (Ne.symm n6))⟩⟩
 |false=>exact⟨dx,a1,a2,a2,h1,rfl,by simp,h5,λxs m G' H' k sg e q=>⟨dx,a1,a2,rfl,⟨n1,n2,n3,n4,n5,n6⟩,by rw[k p n3];exact h1,by rw[k dx n5];exact h2,mono h3 sg (k a1 n6),⟨xs,e,q⟩⟩⟩
def zeY{b:Bool}(cl:Cls K C)(na:W7 K C (nmS b))(hi:ρ[i]?=some ((srT P w K C).pv s p fp))(hk:Er K B te ρ (Ug k)):Er K B (tOp (znS P w K λb=>!b) te (ziB K (JB i) (nmS b))) ρ (.bool (!YF (s.sel b) k)):=λG σ r G1 H s1 s2 Q kk=>by
 obtain⟨p',fp',hx,rfl,rfl,hI⟩:=r.2.2.2.1 i _ hi;obtain⟨dx,a1,a2,a,hp,hl,_,⟨xs,hxs,pd⟩,_⟩:=hI.ad b;refine hk G σ r G1 H s1 s2 _ λv G2 H2 g2 hv=>?_;obtain⟨q,ys,rfl,hq,hys⟩:=Dat.tup hv;have sG:Zr G H2:=(s1.trans g2.gg).trans g2.gh;refine⟨_,hx,p',C,dx,_,_,rfl,sG _ _ hp,cl,na,hl,a,q,k,xs,G2,rfl,rfl,sG _ _ hxs,g2.gh,hv,λz hz=>?_,?_⟩
 .obtain⟨_,_,e⟩:=(XX pd).1 z hz;exact(e.same (s1.trans g2.gg)).2.1
 .rw[ze3 pd];exact kk _ G2 H2 g2 (Yr _)
def ziD{b:Bool}(cl:Cls K C)(na:W7 K C (nmS b))(hi:ρ[i]?=some ((srT P w K C).pv s p fp))(hk:Er K B te (msk ρ) (Ug k))(hm:(k,d)∈s.sel b):Ex K B (tOp (zmH P w K) (ziB K (JB i) (nmS b)) te) ρ d:=λE G0 H0 G H σ F r Q kk=>by obtain⟨_,hx,hI⟩:=(srT P w K C).sl.mp (r.sl i _ hi);obtain⟨dx,a1,a2,a,hp,hl,_,⟨xs,hxs,pd⟩,_⟩:=hI.ad b;refine⟨_,hx,p,C,dx,_,_,rfl,hp,cl,na,hl,hk G σ r.rx G H (Zr.refl _) r.g.gh _ λv G2 H2 g2 hv=>?_⟩;obtain⟨q,ys,rfl,hq,hys⟩:=Dat.tup hv;obtain⟨⟨k',b',v'⟩,hx',e1,e2,e3⟩:=(XX pd).2.1 _ hm;cases e1;refine⟨v',a,q,b',_,xs,G2,rfl,rfl,.inl (g2.hh _ _ hxs),g2.gh,hv,λz hz=>?_,hx',kk _ G2 H2 g2 (e3.same g2.gg)⟩;obtain⟨_,_,e⟩:=(XX pd).1 z hz;exact(e.same g2.gg).2.1
def zff{b:Bool}{R:Pn}(cl:Cls K C)(na:W7 K C (nmS b))(h:Eg K B tv ρ λr ρ' => ∃(d:PD)(s:SS)(k:KF),r = .dat d/\ρ'[i]?=some ((srT P w K C).pv s p fp)/\Er K B ty (msk ρ') (Ug k)/\(s.sel b).length<sizeLine/\R.nx (ρ'.set i ((srT P w K C).pv (s.put (VG (s.sel b) k d) b) p fp))):Sv K B (ziF P w K (ziB K (JB i) (nmS b)) ty tv) ρ R:=λE G0 H0 G H σ F D r dn=>by
 refine h E G0 H0 G H σ F r _ λv x ρ' G1 H1 F1 L hh s1 r1 sl n=>?_;obtain⟨d,s,k,rfl,hi,hk,hl0,hR⟩:=hh;obtain⟨_,v',hv',hd⟩:=sl;cases hv';obtain⟨e1,hx,hI⟩:=(srT P w K C).sl.mp (r1.sl i _ hi);obtain⟨dx,a1,a2,a,hp,hl,hfp,⟨xs,hxs,pd⟩,fin⟩:=hI.ad b;refine⟨_,hx,p,C,dx,_,_,rfl,hp,cl,na,hl,hk G1 σ r1.rx G1 H1 (Zr.refl _) r1.g.gh _ λy G2 H2 g2 hy=>?_⟩;obtain⟨q,ys,rfl,hq,hys⟩:=Dat.tup hy;have r2:=r1.grow g2;have hlt:i<ρ'.length:=(Io.mp hi).1;refine⟨a,q,k,xs,G2,rfl,rfl,g2.hh _ _ hxs,g2.gh,hy,λz hz=>?_,by rw[(XX pd).2.2];exact hl0,?_⟩
 .obtain⟨_,_,e⟩:=(XX pd).1 z hz;exact(e.same g2.gg).2.1
 .have frz:∀ c,c≠a->upd H2 a (dGl P w a (zhd xs k q v)) c=H2 c:=λc hc=>Zk hc;obtain⟨_,_,hI2⟩:=(srT P w K C).sl.mp (r2.sl i _ hi);obtain⟨dx',b1,b2,a',hp',hl',hfp',_,fin2⟩:=hI2.ad b;have ea:a'=a:=by have h1:H2 p=some (.ins C dx (fS a1 a2)):=g2.hh _ _ hp;rw[h1]at hp';injection hp' with hp';injection hp' with _ _ e;rw[← e,hl]at hl';injection hl' with hl';injection hl' with hl';exact hl'.symm
  subst ea;have hI3:=fin2 (zhd xs k q v) (VG (s.sel b) k d) G2 _ frz (Zr.refl _) Zi (zmf hy (hd.same g2.gg) (Js (λ_ _ z=>z.same g2.gg) pd));refine dn.nx hR (s1.trans g2.gg) (r2.mut hlt (L':=p::fp) (λc hc=>by rw[e1]at hc;exact hc) (λc hc=>.inl (by rw[e1];exact hc)) (λc hc=>frz c λz=>hc (by rw[z];exact Im _ hfp)) (λc hc=>?_) ((srT P w K C).sl.mpr ⟨rfl,hx,hI3⟩) ((srT P w K C).no _ _ _));by_cases z:c=a'
  .rw[z];exact⟨_,Zi⟩
  .rw[frz c z];exact(r2.fr i c (by rw[e1];exact hc)).2.1
end
section
variable {X:Cx}{K:FG}{o e value:Expr}{f:Str}{pos pos' : Pos}{ta tv:TE}
def Jr(eK:X.K=K)(he:PE X e ta)(hb:attributeBase e f X.env (eval e X.env)=eval e X.env):PE X (.Attribute e f pos) (ziB K ta f):=by subst eK;exact zlw he hb
def zgm(eK:X.K=K)(ha:PE X o ta)(hv:PE X value tv)(hs:swapsWith value (some (.Attribute o f pos')) pos.line X.env=pure false):PS X (.Assign [.Attribute o f pos'] value pos) (znV K ta tv f):=by subst eK;exact zmq ha hv hs
end
def za3{P:Program}{w:World}{K:FG}{mg:Str->Option Value}{base:Heap}{k:Nat}{f:AD}{fd:FuncData}{ps:List Str}:Wb P w K mg base CX0 k f fd ps (λ_ _ _ _=>False):=⟨λ_ _ _ _ h=>h.elim,λ_ _ _ _ _ _ _ _ _ _ _ _ _ h=>h.elim⟩
section
variable {K:FG}{B:Hp}{E:AD->Prop}{G0 H0 G H G1 H1 G2 H2:Hp}{σ:St}{ρ:List PV}{F:Nat->List AD}{ta tb te:TE}{t:TA}{ds es:List PD}{S:Type}{D:TF K S}{s s' : S}{p q:AD}{fp:List AD}{C:AD}{m:Str}
def VN{Pre:S->List PD->Prop}{Rf:S->List PD->PD->S->Prop}{X:XK}{R:PV->List PV->Prop}(hi:ρ[i]?=some (D.pv s p fp))(hC:∀ s' G H,D.I s' p fp G H->∃ dx fs,H p=some (.ins C dx fs)/\fs.lookup m=none)(h:EgA K B t ρ λds ρ1=>∃ s1,ρ1[i]?=some (D.pv s1 p fp)/\Pre s1 ds/\∀ x s2,Rf s1 ds x s2->R (.dat x) (ρ1.set i (D.pv s2 p fp))):Eg K B (zje C m (spT D Pre Rf) [] X (JB i) t) ρ R:=λE G0 H0 G H σ F r Q q=>by
 obtain⟨_,hx,hI0⟩:=D.sl.mp (r.sl i _ hi);obtain⟨dx,fs,hp,hl⟩:=hC _ _ _ hI0;refine⟨_,hx,p,dx,fs,rfl,hp,hl,h E G0 H0 G H σ F r _ λvs ds ρ1 G1 H1 F1 hh s1 r1 hv=>?_⟩;obtain⟨t1,hi1,hP,hk⟩:=hh;obtain⟨e1,_,hI⟩:=D.sl.mp (r1.sl i _ hi1);rw[Nx];refine⟨p,fp,vs,G1,t1,ds,rfl,r1.g.gh,λa ha=>(r1.fr i a (by rw[e1];exact ha)).1,λa ha=>(r1.fr i a (by rw[e1];exact ha)).2.1,hI,hv,hP,λv x t2 G2 H2 hR gw gn lv hI2 hd=>?_⟩;exact q v _ _ G2 H2 F1 [] (hk x t2 hR) (s1.trans gw.gg) (r1.zj5 hi1 gw gn lv hI2) ⟨rfl,v,rfl,hd⟩ Jv
def zeQ{R:PV->List PV->Prop}(h:EgA K B t ρ λds ρ' => ∃ a b:Int,ds=[.int a,.int b]/\R (.dat (.int (if b>a then b else a))) ρ'):Eg K B (tCB (λxs H Q=>∃ i j,xs=[.int i,.int j]/\Q (.int (if j>i then j else i)) H) t) ρ R:=λE G0 H0 G H σ F r Q q=>
 h E G0 H0 G H σ F r _ λvs ds ρ1 G1 H1 F1 hh s1 r1 hv=>by obtain⟨a,b,rfl,hR⟩:=hh;obtain⟨y,ys,rfl,hy,hv⟩:=hv.cons;obtain⟨y2,ys,rfl,hy2,hv⟩:=hv.cons;cases hv.nil;rw[hy.int,hy2.int];exact⟨a,b,rfl,q _ _ ρ1 G1 H1 F1 [] hR s1 r1 ⟨rfl,_,rfl,Zy _⟩ Jv⟩
def zjK(B:Hp)(D:TF K S)(Pre:S->List PD->List PD->Prop)(R:S->List PD->List PD->PD->List PD->Prop):Sp:=λvs H Q _=>∃(p:AD)(fp:List AD)(q:AD)(us:List V)(G:Hp)(s:S)(es:List PD)(xs:List V)(ds:List PD),vs = .ref p :: .ref q::us/\Zr B G/\Zr G H/\(∀ a∈q::p::fp,G a=none)/\(∀ a∈q::p::fp,∃ o,H a=some o)/\q∉p::fp/\D.I s p fp G H/\H q=some (.lst xs)/\ZX K G xs es/\ZX K G us ds/\Pre s es ds/\
 ∀ v x es' xs' G' H',R s es ds x es' -> Gw (· ∈ q::p::fp) G H G' H' -> (∀ a∈q::p::fp,G' a=none)->(∀ a∈q::p::fp,∃ o,H' a=some o)->D.I s p fp G' H' -> H' q=some (.lst xs')->ZX K G' xs' es' -> Dat K G' v x->Q v H'
def zfB{us xs:List V}{N:List Str}(sb:Zr B G)(gh:Zr G H)(hI:D.I s p fp G H)(gn:∀ a∈q::p::fp,G a=none)(lv:∀ a∈q::p::fp,∃ o,H a=some o)(nq:q∉p::fp)(hq:H q=some (.lst xs))(hx:ZX K G xs es)(hv:ZX K G us ds):Rl K B (· ∈ q::p::fp) G H G H (start N (.ref p :: .ref q::us)) (YK N (D.pv s p fp :: .lnt q es::ds.map .dat)) (λk=>if k=0 then p::fp else if k=1 then[q]else[]):=by
 refine⟨Gw.refl gh,sb,?_,λi v h=>?_,λi a ha=>?_,λi j a ha hb=>?_,λi ds' a h ha=>?_⟩
 .unfold start YK;rw[Il,Il,Ie,IL,IL,IL,IL,Ie,Nl,Nl,hv.length]
 .match i with
  |0=>have h:some (D.pv s p fp)=some v:=h;cases h;exact D.sl.mpr ⟨rfl,rfl,hI⟩
  |1=>have h:some (PV.lnt q es)=some v:=h;cases h;exact⟨xs,rfl,rfl,hq,hx⟩
  |i+2=>
   have h:(ds.map PV.dat++List.replicate (N.length-(ds.map PV.dat).length.succ.succ) PV.un)[i]?=some v:=h;show Sl K G H ((us.map some++List.replicate (N.length-us.length.succ.succ) none)[i]?) v [];by_cases hi:i<ds.length
   .rw[Ng (by rw[Ie];exact hi),Ik,Ib hi]at h;cases h;obtain⟨x,hx,hxd⟩:=hv.get (Ib hi);exact⟨rfl,x,by rw[Ng (by rw[Ie,hv.length];exact hi),Ik,hx];rfl,hxd⟩
   .rw[Ni (by rw[Ie];omega)]at h;have:=IM h;rw[(DB.mp this).2];rfl
 .have ha' : a∈q::p::fp:=by
   split at ha
   .exact Im _ ha
   .split at ha
    .rw[Ij.mp ha];exact Ir
    .cases ha
  exact⟨gn a ha',lv a ha',.inl ha'⟩
 .split at ha
  .split at hb
   .omega
   .split at hb
    .rw[Ij.mp hb]at ha;exact absurd ha nq
    .cases hb
  .split at ha
   .split at hb
    .rw[Ij.mp ha]at hb;exact absurd hb nq
    .split at hb
     .omega
     .cases hb
   .cases ha
 .match i with
  |0=>have h:some (D.pv s p fp)=some (PV.own ds'):=h;exact absurd (IA h) (D.no _ _ _ _)
  |1=>have h:some (PV.lnt q es)=some (PV.own ds'):=h;cases h
  |i+2=>cases ha
variable {P:Program}{w:World}{mg:Str->Option Value}{base:Heap}
def Fun.zod{x qual:Str}{st:Stmt}{f:AD}{fd:FuncData}{N ps:List Str}{k:Nat}{Pre:S->List PD->List PD->Prop}{R:S->List PD->List PD->PD->List PD->Prop}(Fn:Fun K x qual st f fd)(S' : ZD N ps (Zg st))(len:∀ s es ds,Pre s es ds->ds.length+2=ps.length)(hb:∀(cdv:Value)(A:Around)(outer:List Env)(s:SH)(H:Hp)(E:XK),Wt k (A.deeper (envOfC qual (Zg st) s.heap.objs.size f cdv))->∀ p fp q t0 es ds,Pre t0 es ds->
   ∃ t,PSs (zca CX0 P w K mg base N qual (Zg st) f cdv A outer s H E).nox (Z0 st) t/\Sv K B t (YK N (D.pv t0 p fp :: .lnt q es::ds.map .dat)) {nx:=λ_=>False,rt:=λr ρ' => ∃ d es',r = .dat d/\R t0 es ds d es' /\ ρ'[0]?=some (D.pv t0 p fp)/\ρ'[1]?=some (.lnt q es')}):Wb P w K mg base CX0 (k+1) f fd ps (zjK B D Pre R):=by
 refine Fn.ok S' (λvs H Q E h=>?_) λcdv A outer s H vs Q E hr h=>?_
 .obtain⟨p,fp,q,us,G,t0,es,xs,ds,rfl,_,_,_,_,_,_,_,_,hv,hP,_⟩:=h;rw[IL,IL,hv.length];exact len t0 es ds hP
 .obtain⟨p,fp,q,us,G,t0,es,xs,ds,rfl,sb,sg,gn,lv,nq,hI,hq,hx,hv,hP,kk⟩:=h;obtain⟨t,ht,hs⟩:=hb cdv A outer s H E hr p fp q t0 es ds hP;refine⟨t,ht,hs _ _ _ _ _ _ _ _ (zfB sb sg hI gn lv nq hq hx hv) ⟨λe _ r=>e.elim,λe _ r sl n=>?_,λe=>e.elim,λe=>e.elim⟩⟩;obtain⟨d,es',rfl,hR,h0,h1⟩:=e;obtain⟨e1,_,hI'⟩:=D.sl.mp (r.sl 0 _ h0);obtain⟨xs',e2,_,hq',hx'⟩:=r.sl 1 _ h1;obtain⟨_,y,hy,hd⟩:=sl;cases hy;have fr:∀ a∈q::p::fp,_/\(∃ o,_)/\_:=λa ha=>by
   rcases IE.mp ha with e | ha
   .exact r.fr 1 a (by rw[e2];exact Ij.mpr e)
   .exact r.fr 0 a (by rw[e1];exact ha)
  exact kk _ _ es' xs' _ _ hR r.g (λa ha=>(fr a ha).1) (λa ha=>(fr a ha).2.1) hI' hq' hx' hd
def Rl.znf{j:Nat}{u:PV}{xs' : List V}{es0 es' : List PD}(r1:Rl K B E G0 H0 G1 H1 σ ρ F)(nij:i≠j)(hi:ρ[i]?=some (D.pv s p fp))(hj:ρ[j]?=some u)(hu:u.rd=some es0)(hF:F j=[q])(hσ:σ[j]?=some (some (.ref q)))(gw:Gw (· ∈ q::p::fp) G1 H1 G2 H2)(gn:∀ a∈q::p::fp,G2 a=none)(lv:∀ a∈q::p::fp,∃ o,H2 a=some o)(hI:D.I s p fp G2 H2)(hq:H2 q=some (.lst xs'))(hx:ZX K G2 xs' es'):Rl K B E G0 H0 G2 H2 σ (ρ.set j (u.put es')) F:=by
 obtain⟨e1,hxi,_⟩:=D.sl.mp (r1.sl i _ hi);have hlt:j<ρ.length:=(Io.mp hj).1;have own:∀ a∈q::p::fp,a∈F i\/a∈F j:=λa ha=>by
  rcases IE.mp ha with e | ha
  .exact .inr (by rw[hF];exact Ij.mpr e)
  .exact .inl (by rw[e1];exact ha)
 have frE:∀ a∈q::p::fp,E a\/H0 a=none:=λa ha=>by
  rcases own a ha with h | h
  .exact(r1.fr i a h).2.2
  .exact(r1.fr j a h).2.2
 refine⟨⟨r1.g.gg.trans gw.gg,gw.gh,λb o n h=>?_,λb h=>r1.g.al b (gw.al b h),λb o h=>?_⟩,r1.bb.trans gw.gg,by rw[Ob];exact r1.ls,λk v h=>?_,λk a ha=>?_,r1.dj,λk ds' a h ha=>?_⟩
 .refine gw.kp b o (λz=>?_) (r1.g.kp b o n h);rcases frE b z with hE | hE
  .exact n hE
  .rw[hE]at h;cases h
 .rcases gw.fr b o h with h | h
  .exact r1.g.fr b o h
  .exact .inr (r1.g.al b h)
 .by_cases z:k=j
  .subst z;rw[IW hlt]at h;cases h;cases u with
   |own _=>exact⟨q,xs',hF,hσ,hq,hx⟩
   |lnt p' _=>obtain⟨_,e,_⟩:=r1.sl k _ hj;rw[hF]at e;cases e;exact⟨xs',hF,hσ,hq,hx⟩
   |_=>cases hu
  .rw[IS (Ne.symm z)]at h;by_cases z2:k=i
   .subst z2;rw[hi]at h;cases h;exact D.sl.mpr ⟨e1,hxi,hI⟩
   .refine(r1.sl k v h).grow gw.gg λa ha=>?_;obtain⟨_,⟨o,ho⟩,_⟩:=r1.fr k a ha;rw[ho];refine gw.kp a o (λw=>?_) ho;rcases own a w with h' | h'
    .exact z2 (r1.dj k i a ha h')
    .exact z (r1.dj k j a ha h')
 .obtain⟨h1,⟨o,h2⟩,h3⟩:=r1.fr k a ha;by_cases z:a∈q::p::fp
  .exact⟨gn a z,lv a z,h3⟩
  .refine⟨?_,⟨o,gw.kp a o z h2⟩,h3⟩;cases hg:G2 a with
   |none=>rfl
   |some o' =>
    rcases gw.fr a o' hg with h | h
    .rw[h1]at h;cases h
    .rw[h2]at h;cases h
 .by_cases z:k=j
  .subst z;rw[IW hlt]at h;cases u with
   |own d0=>exact r1.ow k d0 a hj ha
   |lnt p' _=>cases h
   |_=>cases hu
  .rw[IS (Ne.symm z)]at h;exact r1.ow k ds' a h ha
def zaG{Pre:S->List PD->List PD->Prop}{Rf:S->List PD->List PD->PD->List PD->Prop}{X:XK}{j:Nat}{u:PV}{R:PV->List PV->Prop}(nij:i≠j)(hi:ρ[i]?=some (D.pv s p fp))(hj:ρ[j]?=some u)(hu:u.rd=some es)(hC:∀ G H,D.I s p fp G H->∃ dx fs,H p=some (.ins C dx fs)/\fs.lookup m=none)(h:Ea K B t (msk ρ) ds)(hP:Pre s es ds)(k:∀ x es',Rf s es ds x es' -> R (.dat x) (ρ.set j (u.put es'))):Eg K B (zje C m (zjK B D Pre Rf) [] X (JB i) (YQ (JB j) t)) ρ R:=λE G0 H0 G H σ F r Q kk=>by
 obtain⟨_,hx,hI0⟩:=D.sl.mp (r.sl i _ hi);obtain⟨dx,fs,hp,hl⟩:=hC _ _ hI0;obtain⟨q,xs,eF,hxj,hq,hd⟩:=(r.sl j _ hj).rd hu;refine⟨_,hx,p,dx,fs,rfl,hp,hl,_,hxj,h G σ r.rx G H (Zr.refl _) r.g.gh _ λvs G1 H1 g1 hv=>?_⟩;have r1:=r.grow g1;obtain⟨e1,_,hI⟩:=D.sl.mp (r1.sl i _ hi);have fr:∀ a∈q::p::fp,G1 a=none/\(∃ o,H1 a=some o):=λa ha=>by
  rcases IE.mp ha with e | ha
  .have:=r1.fr j a (by rw[eF];exact Ij.mpr e);exact⟨this.1,this.2.1⟩
  .have:=r1.fr i a (by rw[e1];exact ha);exact⟨this.1,this.2.1⟩
 show zjK B D Pre Rf (V.ref p::((V.ref q::vs)++[])) H1 Q X;rw[Nx];refine⟨p,fp,q,vs,G1,s,es,xs,ds,rfl,r1.bb,r1.g.gh,λa ha=>(fr a ha).1,λa ha=>(fr a ha).2,λz=>?_,hI,g1.hh _ _ hq,hd.same g1.gg,hv,hP,λv x es' xs' G2 H2 hR gw gn lv hI2 hq2 hx2 hdv=>?_⟩
 .exact nij (r1.dj i j q (by rw[e1];exact z) (by rw[eF];exact Ij.mpr rfl))
 .exact kk v _ _ G2 H2 F [] (k x es' hR) (g1.gg.trans gw.gg) (r1.znf nij hi hj hu eF hxj gw gn lv hI2 hq2 hx2) ⟨rfl,v,rfl,hdv⟩ Jv
def zgr(P:Program)(w:World)(C:AD):Sp:=λvs H Q _=>∃ x dx,vs=[.ref x]/\H x=some (.ins C dx [])/\H dx=some (.own x)/\∀ a1 a2,H a1=none->H a2=none->a1≠a2->Q .non (upd (upd (upd (upd H a1 (dGl P w a1 [])) x (.ins C dx [("found",.ref a1)])) a2 (dGl P w a2 [])) x (.ins C dx (fS a1 a2)))
def zhA{X:XK}{R:PV->List PV->Prop}(k:∀ p fp,R ((srT P w K C).pv ([],[]) p fp) ρ):Eg K B (zkU C (zgr P w C) [] X V5) ρ R:=λE G0 H0 G H σ F r Q kk=>by
 intro x dx hx hdx ne;refine⟨x,dx,rfl,Zi,by rw[Zk ne];exact Zi,λa1 a2 h1 h2 n12=>⟨rfl,?_⟩⟩;have z1:a1≠x:=λz=>by subst z;rw[Zi]at h1;cases h1
 have z2:a2≠x:=λz=>by subst z;rw[Zi]at h2;cases h2
 rw[Zk z1]at h1;rw[Zk z2]at h2;have y1:a1≠dx:=λz=>by subst z;rw[Zi]at h1;cases h1
 have y2:a2≠dx:=λz=>by subst z;rw[Zi]at h2;cases h2
 rw[Zk y1]at h1;rw[Zk y2]at h2;generalize hH:upd (upd (upd (upd (upd (upd H dx (HO.own x)) x (HO.ins C dx [])) a1 (dGl P w a1 [])) x (.ins C dx [("found",.ref a1)])) a2 (dGl P w a2 [])) x (.ins C dx (fS a1 a2))=H';have ex:H' x=some (.ins C dx (fS a1 a2)):=by rw[← hH];exact Zi
 have e2:H' a2=some (dGl P w a2 []):=by rw[← hH,Zk z2];exact Zi
 have e1:H' a1=some (dGl P w a1 []):=by rw[← hH,Zk z1,Zk n12,Zk z1];exact Zi
 have ed:H' dx=some (.own x):=by rw[← hH,Zk ne,Zk (Ne.symm y2),Zk ne,Zk (Ne.symm y1),Zk ne];exact Zi
 have eo:∀ b,b≠x->b≠dx->b≠a1->b≠a2->H' b=H b:=λb h1 h2 h3 h4=>by rw[← hH,Zk h1,Zk h4,Zk h1,Zk h3,Zk h1,Zk h2]
 have non:∀ a∈[x,dx,a1,a2],H a=none:=λa ha=>by simp only[IE,O9,or_false]at ha;rcases ha with rfl | rfl | rfl | rfl <;> assumption
 have sm:Zr H H':=λb o hb=>by rw[eo b (λz=>by rw[z,hx]at hb;cases hb) (λz=>by rw[z,hdx]at hb;cases hb) (λz=>by rw[z,h1]at hb;cases hb) (λz=>by rw[z,h2]at hb;cases hb)];exact hb
 refine kk _ _ ρ G H' F [x,dx,a1,a2] (k x [dx,a1,a2]) (Zr.refl _) (r.grow (Qm r.g.gh sm)) ((srT P w K C).sl.mpr ⟨rfl,rfl,dx,a1,a2,rfl,⟨Ne.symm ne,Ne.symm z1,Ne.symm z2,Ne.symm y1,Ne.symm y2,n12⟩,ex,ed,⟨[],e1,.nil⟩,⟨[],e2,.nil⟩⟩) ⟨λa ha=>⟨r.g.gh.free (non a ha),?_,r.g.al a (non a ha)⟩,λa ha j hj=>?_⟩
 .simp only[IE,O9,or_false]at ha;rcases ha with rfl | rfl | rfl | rfl
  .exact⟨_,ex⟩
  .exact⟨_,ed⟩
  .exact⟨_,e1⟩
  .exact⟨_,e2⟩
 .obtain⟨_,⟨o,ho⟩,_⟩:=r.fr j a hj;rw[non a ha]at ho;cases ho
end
section
variable {X:Cx}
abbrev frG(o:Obj)(P:Program)(w:World)(a:AD)(xs:List GE):HO:=.frz o (dGl P w a xs)
noncomputable def znb(P:Program)(w:World)(a:AD)(o:Obj)(xs:List GE):It:=⟨λi H=>i<xs.length/\H a=some (frG o P w a xs),λi H x H' => H'=H/\∃ k b v,xs[i]?=some (k,b,v)/\x = .ref b,λi H=>xs.length<=i/\H a=some (frG o P w a xs)⟩
theorem zfp{F:α->β->Prop}:∀{l:List α}{m:List β}{i:Nat}{a:α},Paired F l m->l[i]?=some a->∃ b,m[i]?=some b/\F a b
 |_,_,0,a,.cons r t,h=>⟨_,rfl,by cases h;exact r⟩
 |_,_,i+1,a,.cons r t,h=>zfp (i:=i) t h
def zd3{P:Program}{w:World}{K:FG}{tg:Expr}(a it:AD)(o:Obj)(xs:List GE)(zs:List (KF×AD×Value))(es:Array DictEntry)(ep:Nat)(pr:Paired zfG xs zs)(he:es.toList=zs.map (entryOfKey (tupleKind (Y6 P w))))(hD:∀ h:Heap,h.get? a=some o->zjR h a es ep):Turn P w K tg (znb P w a o xs) [it] it (λi h=>h.IsKeyIter it a i es.size ep) where
 mem:=by simp
 obj:=λi h st b hb=>by
  obtain rfl:b=it:=by simpa using hb
  obtain⟨o,e,c,d⟩:=st;exact⟨o,e,λv z=>by rw[d]at z;cases z⟩
 keep:=λi h h' st k=>st.at λo e=>k it (by simp) o e
 item:=by
  intro X hP hw hK hc i aa s σ H E I hf st hg;subst hP hw hK;obtain⟨hi,ha⟩:=hg;obtain⟨f0,f1,f2,f3,f4,f5⟩:=hf it (by simp);have ho:s.heap.get? a=some o:=(show Yu X.prog X.w H s.heap a (frG o X.prog X.w a xs)from I.ab a _ ha).1;obtain⟨⟨k,b,v⟩,hx⟩:∃ x,xs[i]?=some x:=⟨_,Ib hi⟩
  obtain⟨⟨k',b',v'⟩,hz,e1,e2,e3⟩:=zfp pr hx;have e2:b'=b:=e2;subst e2;have hen:es[i]?=some (entryOfKey (tupleKind (Y6 X.prog X.w)) (k',b',v')):=by rw[← NU,he,Ik,hz];rfl
  refine ziH st (hD _ ho) hen λh' st' sb=>?_;have I1:Inv X aa σ H {s with heap:=h'}:=I.turned (t':=s.toks) (λb o hb e=>(sb.2 b hb).trans e) f0 f1 f3 f4 f5;obtain⟨o2,e4,c2,d2⟩:=id st';exact⟨.ref b',rfl,zgF (s:={s with heap:=h'}) e4 c2 d2 (by decide) ⟨.ref b',H,I1,rfl,⟨rfl,k,b',v,hx,rfl⟩,st',λb hb=>(hf b hb).1⟩⟩
 done:=by
  intro X hP hw hK hc i aa s σ H E I hf st hg;subst hP hw hK;obtain⟨hi,ha⟩:=hg;obtain⟨f0,f1,f2,f3,f4,f5⟩:=hf it (by simp);have ho:s.heap.get? a=some o:=(show Yu X.prog X.w H s.heap a (frG o X.prog X.w a xs)from I.ab a _ ha).1;have hl:es.size=xs.length:=by rw[← IQ,he,Ie];have:=ND List.length (gk pr).1;simpa using this
  exact zmC (I.ok.hd hc) st (hD _ ho) (by omega) λh' eb=>⟨rfl,I.turned (t':=s.toks) (λb o hb e=>eb b o hb e) f0 f1 f3 f4 f5⟩
 self:=λ_ _ _ _ _ st h=>wpAny_pyIter_keyiter st h
def ziC(P:Program)(w:World)(td:TE):TI:=fun σ H R=>td σ H λx H1=>∃ a xs,x = .ref a/\H1 a=some (dGl P w a xs)/\∀ o,R (znb P w a o xs) (upd H1 a (frG o P w a xs))
def zgG{P:Program}{w:World}(eP:X.prog=P)(ew:X.w=w){tg l:Expr}{tl:TE}(hl:PE X l tl):PI X tg l (ziC P w tl):=by
 subst eP ew;intro aa s σ H R I h;refine thn (hl aa s σ H _ I h) λv s1 ⟨x,H1,I1,r1,q1⟩=>?_;obtain⟨a,xs,e,ha,q⟩:=q1;subst e;cases r1;have ok0:=(show Yu X.prog X.w H1 s1.heap a (dGl X.prog X.w a xs)from I1.ab a _ ha)
 obtain⟨hm,_,zs,o,es,ep,ho,x1,x2,he,pr,_⟩:=ok0.1;have hD:∀ h:Heap,h.get? a=some o->zjR h a es ep:=λh e=>⟨o,e,x1,x2⟩
 have I2:Inv X aa σ (upd H1 a (frG o X.prog X.w a xs)) s1:=I1.write (h':=s1.heap) (t':=s1.toks) (x:=a) (e:=a) (o:=frG o X.prog X.w a xs) (by rw[ha];trivial) (.inl rfl) (λb u _ e=>e) ⟨o,ho⟩ ⟨ho,zeI ok0.1⟩;refine zj7 hm (hD _ ho) ?_;refine⟨s1.heap.objs.size,[s1.heap.objs.size],_,_,upd H1 a (frG o X.prog X.w a xs),rfl,I2.kept (t':=s1.toks) λb o e=>Ig _ e,zd3 a _ o xs zs es ep pr he hD,⟨_,Iu _ rfl,rfl,rfl⟩,λb hb=>?_,q o⟩;obtain rfl:b=s1.heap.objs.size:=by simpa using hb
 exact I2.zkA (Ih _) (I2.ab.fresh (Ih _))
end
section
variable {P:Program}{w:World}{K:FG}{C:AD}{B:Hp}{ρ:List PV}{te ty:TE}{s:SS}{p:AD}{fp:List AD}
def zkf{j:Nat}{js:List Nat}{f:KF×PD->PD}{R:Pn}(cl:Cls K C)(na:W7 K C "found")(hi:ρ[i]?=some ((srT P w K C).pv s p fp))(hn:s.1.length<sizeLine)(hc:∀ B' : Hp,Zr B B' -> ∀ dx a1 a2 xs o,B' p=some (.ins C dx (fS a1 a2))->B' a1=some (frG o P w a1 xs)->Paired (gD K B') xs s.1->∀ y∈s.1,Er K B' te (.dat (Ug y.1)::zdj (msk (ρ.set i (.val (.ref p)))) js) (f y))(k:R.nx ((ρ.set i (.val (.ref p))).set j (.own (s.1.map f)))):Sv0 K B (zkx (tLC (ziC P w (ziB K (JB i) "found")) js zgI te) (Wi j)) ρ R:=λG0 H0 G H σ F D r dn=>by
 obtain⟨eF,hx,dx,a1,a2,rfl,⟨n1,n2,n3,n4,n5,n6⟩,hp,hdx,⟨xs,hxs,pd⟩,⟨ys,hys,pd2⟩⟩:=(srT P w K C).sl.mp (r.sl i _ hi);refine⟨_,hx,p,C,dx,_,_,rfl,hp,cl,na,rfl,a1,xs,rfl,hxs,λo=>?_⟩;generalize hH1:upd H a1 (frG o P w a1 xs)=H1;have h1o:∀ b,b≠a1->H1 b=H b:=λb hb=>by rw[← hH1];exact Zk hb
 have h1a:H1 a1=some (frG o P w a1 xs):=by rw[← hH1];exact Zi
 have mem1:a1∈p::[dx,a1,a2]:=by simp
 have out:∀ b∈p::[dx,a1,a2],G b=none/\(∃ o,H b=some o)/\H0 b=none:=λb hb=>by obtain⟨h1,h2,h3⟩:=r.fr i b (by rw[eF];exact hb);exact⟨h1,h2,h3.resolve_left λz=>z⟩
 let G' : Hp:=λb=>if b∈p::[dx,a1,a2]then H1 b else G b
 have gin:∀ b,b∈p::[dx,a1,a2]->G' b=H1 b:=λb hb=>Iz hb;have gout:∀ b,b∉p::[dx,a1,a2]->G' b=G b:=λb hb=>Iq hb;have sGG:Zr G G':=λb u hb=>by rw[gout b λz=>by rw[(out b z).1]at hb;cases hb];exact hb
 have sGH:Zr G' H1:=λb u hb=>by
  by_cases z:b∈p::[dx,a1,a2]
  .rw[gin b z]at hb;exact hb
  .rw[gout b z]at hb;rw[h1o b λy=>z (by rw[y];exact mem1)];exact r.g.gh b u hb
 have hlt:i<ρ.length:=(Io.mp hi).1;have r1:Rl K B (λ_=>False) G0 H0 G' H1 σ (ρ.set i (.val (.ref p))) (λk=>if k=i then[]else F k):=by
  refine⟨⟨r.g.gg.trans sGG,sGH,λb u n hb=>?_,λb hb=>?_,λb u hb=>?_⟩,r.bb.trans sGG,by rw[Ob];exact r.ls,λl v h=>?_,λl a ha=>?_,λl m a ha hb=>?_,λl ds a h ha=>?_⟩
  .have hb':=r.g.kp b u n hb;rw[h1o b λz=>by rw[z,(out a1 mem1).2.2]at hb;cases hb];exact hb'
  .by_cases z:b=a1
   .rw[z,h1a]at hb;cases hb
   .rw[h1o b z]at hb;exact r.g.al b hb
  .by_cases z:b∈p::[dx,a1,a2]
   .exact .inr (out b z).2.2
   .rw[gout b z]at hb;exact r.g.fr b u hb
  .by_cases z:l=i
   .subst z;rw[IW hlt]at h;cases h;rw[Iz rfl];exact⟨rfl,hx⟩
   .rw[IS (Ne.symm z)]at h;rw[Iq z];exact(r.sl l v h).grow sGG λa ha=>h1o a λy=>by rw[y]at ha;exact z (r.dj l i a1 ha (by rw[eF];exact mem1))
  .by_cases z:l=i
   .rw[Iz z]at ha;cases ha
   .rw[Iq z]at ha;obtain⟨h1,⟨u,h2⟩,h3⟩:=r.fr l a ha;have na' : a∉p::[dx,a1,a2]:=λy=>z (r.dj l i a ha (by rw[eF];exact y));exact⟨by rw[gout a na'];exact h1,⟨u,by rw[h1o a λy=>na' (by rw[y];exact mem1)];exact h2⟩,h3⟩
  .by_cases z:l=i
   .rw[Iz z]at ha;cases ha
   .rw[Iq z]at ha;by_cases z2:m=i
    .rw[Iz z2]at hb;cases hb
    .rw[Iq z2]at hb;exact r.dj l m a ha hb
  .by_cases z:l=i
   .rw[Iz z]at ha;cases ha
   .rw[Iq z]at ha;rw[IS (Ne.symm z)]at h;exact r.ow l ds a h ha
 have pdG:Paired (gD K G') xs s.1:=Js (λ_ _ z=>z.same sGG) pd;have gp:G' p=some (.ins C dx (fS a1 a2)):=by rw[gin p (by simp),h1o p n2];exact hp
 have ga:G' a1=some (frG o P w a1 xs):=by rw[gin a1 mem1];exact h1a
 refine zfl (K:=K) (B:=G') (wi:=λ_ H R=>R (znb P w a1 o xs) H) (ρ:=msk (ρ.set i (.val (.ref p)))) s.1 (λy=>Ug y.1) (λy=>some (f y)) (λG2 H2 σ2 rx sg R' kk=>kk _ G2 H2 (YW.refl sg) ⟨λn H3 s3 hl=>?_,λn H3 s3 hl=>?_,λn H3 x H4 G4 d s4 s5 hd hy=>?_⟩) hn (λy hy=>lx1 Ve (hc G' (r.bb.trans sGG) dx a1 a2 xs o gp ga pdG y hy)) ⟨Zr.refl _,r1.rx.2⟩ sGH λq zs G2 H2 g hq hd=>?_
 .rw[Ie]at hl;exact⟨by rw[(XX pd).2.2];exact hl,s3 _ _ (rx.1 _ _ ga)⟩
 .rw[Ie]at hl;exact⟨by rw[(XX pd).2.2,hl];exact Ih _,s3 _ _ (rx.1 _ _ ga)⟩
 .obtain⟨rfl,k',b',v',hx',rfl⟩:=hy;obtain⟨y,hy,e1,e2,_⟩:=zfp pdG hx';rw[Ik,hy]at hd;cases hd;refine⟨G4,YW.refl s5,?_⟩;have e1:k'=y.1:=e1;show Dat K G4 (V.ref b') (Ug y.1);rw[← e1];exact e2.same (rx.1.trans s4)
 .obtain⟨a,b,c⟩:=(r1.grow g).zmK hq (ds:=s.1.map f) (by rw[← Vo];exact hd);exact dn.nx k (sGG.trans g.gg) (a.set b c)
def zlG{B' : Hp}{dx a1 a2:AD}{xs:List GE}{o:Obj}{m:MD}(cl:Cls K C)(na:W7 K C "found")(hi:ρ[i]?=some (.val (.ref p)))(gp:B' p=some (.ins C dx (fS a1 a2)))(ga:B' a1=some (frG o P w a1 xs))(pd:Paired (gD K B') xs m)(hk:Er K B' te ρ (Ug k))(hm:(k,d)∈m):Er K B' (tOp (zmH P w K) (ziB K (JB i) "found") te) ρ d:=λG σ r G1 H s1 s2 Q kk=>by have hx:=r.2.2.2.2.2 i _ hi;have sB:Zr B' H:=(r.1.trans s1).trans s2;refine⟨_,hx,p,C,dx,_,_,rfl,sB _ _ gp,cl,na,rfl,hk G σ r G1 H s1 s2 _ λv G2 H2 g2 hv=>?_⟩;obtain⟨q,ys,rfl,hq,hys⟩:=Dat.tup hv;obtain⟨⟨k',b',v'⟩,hx',e1,e2,e3⟩:=(XX pd).2.1 _ hm;have sB2:Zr B' G2:=(r.1.trans s1).trans g2.gg;cases e1;refine⟨v',a1,q,b',_,xs,G2,rfl,rfl,.inr ⟨o,g2.gh _ _ (sB2 _ _ ga)⟩,g2.gh,hv,λz hz=>?_,hx',kk _ G2 H2 g2 (e3.same sB2)⟩;obtain⟨_,_,e⟩:=(XX pd).1 z hz;exact(e.same sB2).2.1
end
end L2
namespace M41
open L2 PySem
variable {i:Nat}{k:Kn}{m:MD}
def zf5(n:Nat):(zbo n).Nodup:=by
 have:Yc n (zbo n)=zbo n:=by unfold Yc;rw[List.filter_eq_self];intro a ha;exact Iw ha
 rw[← this];exact zc6 n _
def zgb{n:Nat}(hi:i<n)(q:Nat->Bool):((List.range n).filter λj=>decide (i<j)&&q j)=((List.range (n-(i+1))).filter λd=>q (i+1+d)).map λd=>i+1+d:=by
 have e:n=(i+1)+(n-(i+1)):=by omega
 conv=>lhs;rw[e,List.range_add]
 rw[List.filter_append,filter_map];have z:((List.range (i+1)).filter λj=>decide (i<j)&&q j)=[]:=by rw[List.filter_eq_nil_iff];intro a ha;have:=IJ.mp ha;rw[Ip (by omega)];exact Ii
 rw[z,nil_append];congr 1;refine Dy λd _=>?_;show(decide (i<i+1+d)&&q (i+1+d))=_;rw[Iw (by omega),Bool.true_and]
def Vl(k:Kn):unp k=(zbo k.length).filter λq=>decide (q.1<q.2)&&opq k q.1 q.2:=by
 unfold unp zbo;rw[List.filter_flatMap];have go:∀ l:List Nat,(∀ i∈l,i<k.length)->(l.flatMap λi=>zdC k i (k.length-(i+1)))=l.flatMap λi=>((List.range k.length).map λj=>(i,j)).filter λq=>decide (q.1<q.2)&&opq k q.1 q.2:=λl=>by
  induction l with
  |nil=>intro _;rfl
  |cons a r ih=>intro h;rw[flatMap_cons,flatMap_cons,ih λi hi=>h i (Im _ hi)];congr 1;rw[filter_map];show _=List.map (λj=>(a,j)) ((List.range k.length).filter λj=>decide (a<j)&&opq k a j);rw[zgb (h a Ir),NQ];rfl
 exact go _ λi hi=>IJ.mp hi
def Y7{q:Nat×Nat}:q∈unp k↔q.1<q.2/\q.2<k.length/\opq k q.1 q.2=true:=by rw[Vl,Nj,V3,NR,Nf];exact⟨λ⟨⟨_,h1⟩,h2,h3⟩=>⟨h2,h1,h3⟩,λ⟨h1,h2,h3⟩=>⟨⟨by omega,h2⟩,h1,h3⟩⟩
def zlq(k:Kn):(unp k).Nodup:=by rw[Vl];exact(zf5 _).filter _
noncomputable def u(k:Kn):Nat:=(unp k).length
def zlR{j a b:Nat}(ha:a<k.length)(hb:b<k.length)(h:opq (wl k i j) a b=true):opq k a b=true:=by unfold opq at h ⊢;rw[Qy ha,Qy hb]at h;simp only[NR,not_eq_true',Bool.or_eq_false_iff]at h ⊢;exact⟨h.1.1,h.2.1⟩
def zik{j:Nat}{q:Nat×Nat}(hq:q∈unp k)(h:opq (wl k i j) q.1 q.2=false):u (wl k i j)<u k:=by
 have:=NJ (l₁:=q::unp (wl k i j)) (l₂:=unp k) (NT.mpr ⟨λz=>absurd (Y7.mp z).2.2 (by rw[h];exact Ii),zlq _⟩) λx hx=>by
  rcases IE.mp hx with rfl | hx
  .exact hq
  .obtain⟨h1,h2,h3⟩:=Y7.mp hx;rw[Yq]at h2;exact Y7.mpr ⟨h1,h2,zlR (by omega) h2 h3⟩
 exact this
def zky{j:Nat}(h:(i,j)∈unp k):u (wl k i j)<u k/\u (wl k j i)<u k:=by
 obtain⟨h1,h2,h3⟩:=Y7.mp h;have h1:i<j:=h1;have h2:j<k.length:=h2;refine⟨zik h ?_,zik h ?_⟩
 .show opq (wl k i j) i j=false;unfold opq;rw[Qy (by omega)];simp
 .show opq (wl k j i) i j=false;unfold opq;rw[Qy (b:=i) h2];simp
theorem Vp{α β:Type}{f g:β->α->β}:∀(l:List α)(b:β),(∀ b,∀ a∈l,f b a=g b a)->l.foldl f b=l.foldl g b
 |[],_,_=>rfl
 |a::r,b,h=>by rw[Dd,Dd,h b a Ir];exact Vp r _ λb a ha=>h b a (Im _ ha)
theorem za4(h:u k=0):∀ f,lst f k=0
 |0=>rfl
 |f+1=>by unfold lst;rw[N2 h];rfl
theorem ze1:∀(f g:Nat)(k:Kn),u k<=f->u k<=g->lst f k=lst g k
 |0,g,k,h,_=>by rw[za4 (by omega),za4 (by omega)]
 |f+1,0,k,_,h=>by rw[za4 (by omega),za4 (by omega)]
 |f+1,g+1,k,h1,h2=>by unfold lst;congr 1;refine Vp _ _ λb a ha=>?_;obtain⟨z1,z2⟩:=zky (i:=a.1) (j:=a.2) ha;unfold best;rw[ze1 f g _ (by omega) (by omega),ze1 f g _ (by omega) (by omega)]
noncomputable def L(k:Kn):Nat:=lst (u k) k
def zjV{f:Nat}(h:u k<=f):lst f k=L k:=ze1 _ _ _ h (Ih _)
def zkF(k:Kn):L k=((unp k).foldl (best L k) none).getD 0:=by have e:L k=lst (u k+1) k:=(zjV (le_succ _)).symm;rw[e];unfold lst;congr 1;refine Vp _ _ λb a ha=>?_;obtain⟨z1,z2⟩:=zky (i:=a.1) (j:=a.2) ha;unfold best;rw[zjV (by omega),zjV (by omega)]
noncomputable def cc:Nat->Nat
 |0=>1
 |n+1=>1+(n+1)*(2*cc n+1)
theorem zh9:∀ n,1<=cc n
 |0=>Ih _
 |n+1=>Nat.le_add_right _ _
def Wk{a b:Nat}(h:a<=b):cc a<=cc b:=by
 induction h with
 |refl=>exact Ih _
 |step h ih=>
  rename_i m
  have:cc m<=cc (m+1):=by show cc m<=1+(m+1)*(2*cc m+1);have:1*(2*cc m+1)<=(m+1)*(2*cc m+1):=NY _ (by omega);omega
  exact IH ih this
noncomputable def kk(k:Kn):KF:=k.map λ(b:Nat)=>Sum.inl (b:Int)
def VM{a b:Kn}(h:kk a=kk b):a=b:=by unfold kk at h;refine(List.map_inj_right λx y e=>?_).mp h;injection e with e;omega
structure Gs(n:Nat)(s:SS):Prop where
 fnd:∀ e∈s.1,∃ k:Kn,e.1=kk k/\IsO k/\k.length=n/\e.2 = .int (L k:Nat)
 bst:∀ e∈s.2,∃(k:Kn)(q:Nat×Nat),e.1=kk k/\IsO k/\k.length=n/\q∈unp k/\e.2 = .tuple [.int (q.1:Nat),.int (q.2:Nat)]
def zdg{k:KF}{d:PD}{e:KF×PD}(h:e∈VG m k d):e∈m\/e=(k,d):=by
 unfold VG at h;split at h
 .obtain⟨x,hx,rfl⟩:=IB.mp h;unfold putD;split
  .rename_i e;rw[e];exact .inr rfl
  .exact .inl hx
 .rcases Nz.mp h with h | h
  .exact .inl h
  .exact .inr (Ij.mp h)
def Xz{k q:KF}{d:PD}:YF (VG m k d) q=(YF m q||decide (k=q)):=by
 rw[N4,Oh,Nf,V8,V8];unfold VG;split
 .rename_i h
  have e:(m.map (putD k d)).map (·.1)=m.map (·.1):=by rw[NQ];refine Oe λx _=>?_;show(putD k d x).1=x.1;unfold putD;split <;> rfl
  rw[e];exact⟨.inl,λz=>z.elim id λz=>by rw[← z];exact V8.mp h⟩
 .rw[Nk,Nz];constructor
  .rintro(z | z)
   .exact .inl z
   .rcases Ij.mp z with z;exact .inr z.symm
  .rintro(z | rfl)
   .exact .inl z
   .exact .inr (Ij.mpr rfl)
def zcX{k:KF}{d:PD}:(VG m k d).length<=m.length+1:=by
 unfold VG;split
 .rw[Ie];omega
 .rw[Il];exact Ih _
def zaX{k:KF}(h:YF m k=true):∃ d,(k,d)∈m:=by obtain⟨x,hx,e⟩:=IB.mp (V8.mp h);exact⟨x.2,by rw[← e];exact hx⟩
end M41
namespace L2
open PySem PySem.Spec PyProof.Rows
section
variable {K:FG}{B:Hp}{ρ:List PV}{t:TA}{ds:List PD}
def znn(K:FG)(B:Hp)(Pre:List PD->Prop)(R:List PD->PD->Prop):Sp:=λvs H Q _=>∃(G:Hp)(ds:List PD),Zr B G/\Zr G H/\ZX K G vs ds/\Pre ds/\∀ v d G' H',R ds d->YW G H G' H' -> Dat K G' v d->Q v H'
def Fun.zoo{P:Program}{w:World}{mg:Str->Option Value}{base:Heap}{x qual:Str}{st:Stmt}{f:AD}{fd:FuncData}{N ps:List Str}{k:Nat}{Pre:List PD->Prop}{R:List PD->PD->Prop}(Fn:Fun K x qual st f fd)(S:ZD N ps (Zg st))(len:∀ ds,Pre ds->ds.length=ps.length)(hb:∀(cdv:Value)(A:Around)(outer:List Env)(s:SH)(H:Hp)(E:XK),Wt k (A.deeper (envOfC qual (Zg st) s.heap.objs.size f cdv))->∀ ds,Pre ds->
   ∃ t,PSs (zca CX0 P w K mg base N qual (Zg st) f cdv A outer s H E).nox (Z0 st) t/\Sv0 K B t (YK N (ds.map .dat)) {nx:=λ_=>False,rt:=λr _=>∃ d,r = .dat d/\R ds d}):Wb P w K mg base CX0 (k+1) f fd ps (znn K B Pre R):=by
 refine Fn.ok S (λvs H Q E h=>?_) λcdv A outer s H vs Q E hr h=>?_
 .obtain⟨G,ds,_,_,hv,hR,_⟩:=h;rw[hv.length];exact len ds hR
 .obtain⟨G,ds,sb,sg,hv,hR,kk⟩:=h;obtain⟨t,ht,hs⟩:=hb cdv A outer s H E hr ds hR;refine⟨t,ht,hs _ _ _ _ _ _ _ (zaJ sb sg hv) ⟨λe _ r=>e.elim,λe _ r sl n=>?_,λe=>e.elim,λe=>e.elim⟩⟩;obtain⟨d,rfl,hd⟩:=e;obtain⟨_,y,hy,hd'⟩:=sl;cases hy;exact kk _ _ _ _ hd r.g.zaB hd'
def zhy{t u:TS}{R:Pn}(h:Sv0 K B t ρ {R with nx:=fun ρ' => Sv0 K B u ρ' R}):Sv0 K B (zku t u) ρ R:=λG0 H0 G H σ F D r d=>h G0 H0 G H σ F {D with nx:=u D} r ⟨λhs s r' => hs G0 H0 _ _ _ _ D r' (d.mono s),d.rt,d.bk,d.ct⟩
end
open PySem PySem.Spec PyProof.Rows Lw
def zfx(a v:Value):argsOk "min" ⟨[a],[(Str.ofString "default",v)]⟩:=by unfold argsOk;kernel_rfl
section
variable {prog:Program}{w:World}{A:Around}{E:Value->SH->Prop}{s:SH}{I:AD}{fp wr:List AD}{G:Array GenState->Array GenState->Prop}{n:Nat}{P:Nat->Value->Prop}{St:Nat->SH->Prop}{R:Result->SH->Prop}
def zf8(W:WalksS prog w A.in1 I fp wr G n P St)(bt:Nat->Nat->Bool)(hcmp:CmpOf prog w A.in1 .Lt P bt)(S:AD)(hSf:S∉fp)(dv:Value):
  ∀(k j:Nat)(s:SH)(old:Array Value)(c:Nat),n-j=k->j<=n->St j s->((j=0/\old = #[])\/∃ i vb,j=i+1/\P (argBest bt i) vb/\old = #[vb,vb])->
  s.heap.get? S=some {cls:=.type "list",dict:=none,data:=.seq old c,slots:=#[]}->
  (∀ v s',(n=0->v=dv)->(0<n->P (argBest bt (n-1)) v)->Moved (S::wr) G s s' -> R (.ok (.ret v)) s')->codeAny (model prog w) A (.builtin "min.loop" ⟨[.ref I,.none,.ref S],[(Str.ofString "default",dv)]⟩) R s:=by
 have hSw:S∉wr:=λh=>hSf (W.sub _ h);have su:∀ b∈wr,b∈S::wr:=λb hb=>Im _ hb;have nm:(toString "min" ++ toString ".loop" : String) = "min.loop" := by decide
 have nS:∀{b:AD},b∉S::wr->S≠b:=λhb h=>hb (by rw[h];exact Ir);have nF:∀{b:AD},b∈fp->S≠b:=λhb h=>hSf (by rw[h];exact hb);intro k
 induction k with
 |zero=>
  intro j s old c hk hj hst ho hS hR;obtain rfl:j=n:=by omega
  refine Nu F.entry_min_loop ?_;rw[NV O8 _];show wpAny _ A.in1 (seqItems? (.ref S) >>= _) _ _ s;refine Ia (Oc hS rfl ?_);rcases ho with⟨rfl,rfl⟩ | ⟨i,vb,rfl,hP,rfl⟩
  .show wpAny _ A.in1 (tryCatch (pyNext (.ref I)) _ >>= _) _ _ s;refine Ia (OT (W.done s _ _ hst λs' hm=>?_));refine Ia (Da (Ic ?_));exact hR dv _ (λ_=>rfl) (λz=>absurd z (by omega)) (hm.mono su)
  .show wpAny _ A.in1 (tryCatch (pyNext (.ref I)) _ >>= _) _ _ s;refine Ia (OT (W.done s _ _ hst λs' hm=>?_));have hS':=hm.heap S _ hSw hS;show wpAny _ A.in1 (updateSeq S (λ_=>#[]) >>= _) _ _ _;refine Ia (OW hS' rfl (Ia (wpAny_letGo (Ic ?_))));exact hR vb _ (λz=>absurd z (by omega)) (λ_=>hP) ((hm.mono su).then_heap (tk:=s'.toks) (Ih _) λb o hb e=>(Nb _ _ (nS hb)).trans e)
 |succ k ih=>
  intro j s old c hk hj hst ho hS hR;have hlt:j<n:=by omega
  refine Nu F.entry_min_loop ?_;rw[NV O8 _];show wpAny _ A.in1 (seqItems? (.ref S) >>= _) _ _ s;refine Ia (Oc hS rfl ?_);rcases ho with⟨rfl,rfl⟩ | ⟨i,vb,rfl,hP,rfl⟩
  .show wpAny _ A.in1 (tryCatch (pyNext (.ref I)) _ >>= _) _ _ s;refine Ia (OT (W.item 0 s _ _ hlt hst λv s' hPv hst' hm=>?_));have hS':=hm.heap S _ hSw hS;show wpAny _ A.in1 (updateSeq S (λ_=>#[v,v]) >>= _) _ _ _;refine Ia (OW hS' rfl ?_);rw[nm];refine Ic ⟨NW O8 _,ih 1 _ #[v,v] _ (by omega) hlt (W.frame _ s' _ s'.toks hst' (Ih _) λb hb o e=>(Nb _ _ (nF hb)).trans e) (.inr ⟨0,v,rfl,hPv,rfl⟩) (NI _ hS' rfl) λv' s'' h1 h2 hm' => ?_⟩;exact hR v' s'' h1 h2 (Moved.trans W.gtrans ((hm.mono su).then_heap (Ih _) λb o hb e=>(Nb _ _ (nS hb)).trans e) hm')
  .show wpAny _ A.in1 (tryCatch (pyNext (.ref I)) _ >>= _) _ _ s;refine Ia (OT (W.item (i+1) s _ _ hlt hst λv s' hPv hst' hm=>?_));have hS':=hm.heap S _ hSw hS;show wpAny _ A.in1 (tryCatch (holding [v,v] (richCompare .Lt v vb >>= _)) _ >>= _) _ _ _;refine Ia (OT (I9 (Ia (hcmp (i+1) (argBest bt i) v vb _ _ _ hPv hP ?_))));refine Ia (I9 (Ox (Ia (wpAny_letGo (Ic ?_)))));cases hb:bt (i+1) (argBest bt i)with
   |true=>rw[Iz rfl];refine Ia (OW hS' rfl (Ia (wpAny_letGo ?_)));rw[nm];refine Ic ⟨NW O8 _,ih (i+2) _ #[v,v] _ (by omega) hlt (W.frame _ s' _ s'.toks hst' (Ih _) λb hb o e=>(Nb _ _ (nF hb)).trans e) (.inr ⟨i+1,v,rfl,by simp only[argBest,hb,Om];exact hPv,rfl⟩) (NI _ hS' rfl) λv' s'' h1 h2 hm' => ?_⟩;exact hR v' s'' h1 h2 (Moved.trans W.gtrans ((hm.mono su).then_heap (Ih _) λb o hb e=>(Nb _ _ (nS hb)).trans e) hm')
   |false=>rw[Iq Ii];refine Ia (wpAny_letGo ?_);rw[nm];refine Ic ⟨NW O8 _,ih (i+2) _ #[vb,vb] c (by omega) hlt hst' (.inr ⟨i+1,vb,rfl,by simp only[argBest,hb,IF,IY];exact hP,rfl⟩) hS' λv' s'' h1 h2 hm' => ?_⟩;exact hR v' s'' h1 h2 (Moved.trans W.gtrans (hm.mono su) hm')
def zdM{l:AD}{xs:Array (Int×Tok)}{dv:Value}{Q:Value->SH->Prop}(hh:A.handled=none)(hl:s.heap.IsList l (intItems xs))(h:∀ v h' tk,(xs.size=0->v=dv)->(0<xs.size->(intItems xs)[argBest (λi j=>decide (numAt xs i<numAt xs j)) (xs.size-1)]?=some v)->(∀ b o,s.heap.get? b=some o->h'.get? b=some o)->Q v {s with heap:=h',toks:=tk}):
  wpAny (model prog w) A (call (.builtin "min") [.ref l] [(Str.ofString "default",dv)]) Q E s:=by
 have nm:(toString "min" ++ toString ".loop" : String) = "min.loop" := by decide
 refine kmb_tree F.kind_min F.plain_min F.entry_min (zfx _ _) ?_;show wpAny _ A.in1 (Builtin.Builtins.bindParams "min" ["key", "default"] 0 ⟨[],[(Str.ofString "default",dv)]⟩ >>= _) _ _ s;refine Ia (wpAny_of_eq (show Builtin.Builtins.bindParams "min" ["key", "default"] 0 ⟨[],[(Str.ofString "default",dv)]⟩=pure [none,some dv]from rfl) ?_);refine Ia (Ic (Ia (iter_intList hl λs₂ e st hfp hlI=>?_)));subst e;refine Ia (Na ?_);have W:=(Walks.list (prog:=prog) (w:=w) (A:=A.in1) hh s.heap.objs.size l hlI (intItems xs)).toS;have hSf:(s.heap.push {cls:=.type "list_iterator",data:=.fields #[.ref l,.int 0 0]}).objs.size∉[s.heap.objs.size,l]:=λhm=>OI _ (hfp _ hm);rw[nm];have hz:(intItems xs).size=xs.size:=by simp[intItems]
 refine Ic ⟨NW O8 _,zf8 W (λi j=>decide (numAt xs i<numAt xs j)) (CmpOf.ints_lt (numAt xs) (λ_ _=>intItems_at)) _ hSf dv _ 0 _ #[] 0 rfl (NN _) (W.frame 0 _ _ s.toks st (Ih _) λb _ o e=>Ig _ e) (.inl ⟨rfl,rfl⟩) (Iu _ rfl) λv s' h1 h2 hm=>?_⟩;have hm2:=Moved.drop_new (s₂:={s with heap:=s.heap.push {cls:=.type "list_iterator",data:=.fields #[.ref l,.int 0 0]}}) (tk:=s.toks) hm (Ih _);obtain⟨h',g',d',t',os'⟩:=s';obtain rfl:g'=s.gens:=hm2.gens;obtain rfl:d'=s.drawn:=hm2.drawn;obtain rfl:os'=s.os:=hm2.os;rw[hz]at h1 h2;exact h v h' t' h1 h2 (old_kept hm2.heap)
end
section
variable {X:Cx}
def zhl{xs:Array (Int×Tok)}{ns:List Int}(e1:ns=xs.toList.map (·.1))(hsz:0<xs.size):numAt xs (argBest (λi j=>decide (numAt xs i<numAt xs j)) (xs.size-1))∈ns/\∀ a∈ns,numAt xs (argBest (λi j=>decide (numAt xs i<numAt xs j)) (xs.size-1))<=a:=by
 obtain⟨h1,h2⟩:=argBest_lt (numAt xs) (xs.size-1);constructor
 .rw[e1,numAt_eq];exact getD_mem (by rw[Ie,IQ];omega)
 .intro a ha;rw[e1]at ha;obtain⟨j,hj,rfl⟩:=mem_getD ha;rw[Ie,IQ]at hj;rw[← numAt_eq];exact h2 j (by omega)
def zl4(K:FG)(te td:TE):TE:=fun σ H Q=>te σ H λx H1=>td σ H1 λy H2=>∃(p:AD)(ns:List Int)(d:Int),x = .ref p/\y = .int d/\SqL K H2 p (ns.map V.int)/\∀ M,(ns=[]->M=d)->(ns≠[]->M∈ns/\∀ a∈ns,M<=a)->Q (.int M) H2
def zjC{K:FG}(eK:X.K=K)(hc:X.calm=true)(hg:Gl X "min")(hm:X.mg "min" = none){a d:Expr}{te td:TE}{p1 pos kpos:Pos}(ha:PE X a te)(hd:PE X d td)(hs1:starEach [a] X.env=[(false,eval a X.env)]:=by rfl)(hks:(backToKw pos (keywordEach [⟨some "default",d,kpos⟩] X.env)).filterMap (·.1)=[Str.ofString "default"]:=by rfl)(hall:(backToKw pos (keywordEach [⟨some "default",d,kpos⟩] X.env)).all (·.1.isSome)=true:=by rfl)(hkw:(backToKw pos (keywordEach [⟨some "default",d,kpos⟩] X.env)).any (·.1.isNone)=false:=by rfl):
  PE X (.Call (.Name "min" p1) [a] [⟨some "default",d,kpos⟩] pos) (zl4 K te td):=by
 intro aa s σ H Q I h;refine Nr (Wo I hg hm boot_min ?_);refine callWith_kw (id:= "min") ?_ (by rw[hs1];rfl) (by rw[hs1];rfl) hall hkw;refine thn (Za ha Ze (by rw[hs1];rfl) pos aa s σ H (λvs H1=>match vs with
  |[x]=>td σ H1 λy H2=>∃(p:AD)(ns:List Int)(d:Int),x = .ref p/\y = .int d/\SqL K H2 p (ns.map V.int)/\∀ M,(ns=[]->M=d)->(ns≠[]->M∈ns/\∀ a∈ns,M<=a)->Q (.int M) H2
  |_=>False) I h) λus s1 ⟨vs,H1,I1,r1,q1⟩=>?_
 match vs,r1,q1 with
 |[x],r1,q1=>
 obtain⟨u,rfl,rx⟩:=Vals.one r1;refine thn (zeq hd zh2 pos aa s1 σ H1 (λvs H2=>match vs with
  |[y]=>∃(p:AD)(ns:List Int)(d:Int),x = .ref p/\y = .int d/\SqL K H2 p (ns.map V.int)/\∀ M,(ns=[]->M=d)->(ns≠[]->M∈ns/\∀ a∈ns,M<=a)->Q (.int M) H2
  |_=>False) I1 q1) λws s2 ⟨vs2,H2,I2,r2,q2⟩=>?_
 match vs2,r2,q2 with
 |[y],r2,⟨p,ns,d,e1,e2,hq,q⟩=>
 subst e1 e2;obtain⟨u2,rfl,ry⟩:=Vals.one r2;obtain⟨t,rfl⟩:=ry;cases rx;rw[hks];obtain⟨xs,hl,e1⟩:=zgg eK I2 hq;refine zdM (I2.ok.hd hc) hl λv h' tk h0 h1 hk=>?_;by_cases hz:xs.size=0
 .rw[h0 hz];refine⟨.int d,H2,I2.kept hk,⟨t,rfl⟩,q d (λ_=>rfl) λhne=>absurd ?_ hne⟩;rw[e1,map_eq_nil_iff];exact N2 (by rw[IQ];exact hz)
 .obtain⟨t',rfl⟩:=intItems_at (h1 (Nat.pos_of_ne_zero hz));obtain⟨b1,b2⟩:=zhl e1 (Nat.pos_of_ne_zero hz);refine⟨.int _,H2,I2.kept hk,⟨t',rfl⟩,q _ (λhn=>?_) λ_=>⟨b1,b2⟩⟩;rw[hn]at b1;cases b1
end
section
variable {K:FG}{B:Hp}{ρ:List PV}
def zjx{te td:TE}{ns:List Int}{d M:Int}(h:Er K B te ρ (.list (ns.map .int)))(hd:Er K B td ρ (.int d))(h0:ns=[]->M=d)(h1:ns≠[]->M∈ns/\∀ a∈ns,M<=a):Er K B (zl4 K te td) ρ (.int M):=λG σ r G1 H s1 s2 Q k=>by
 refine h G σ r G1 H s1 s2 _ λv G2 H2 g2 hv=>?_;refine hd G σ r G2 H2 (s1.trans g2.gg) g2.gh _ λu G3 H3 g3 hu=>?_;obtain⟨p,zs,rfl,hp,hz⟩:=(hv.same g3.gg).lst;have e:=hz.ints;subst e;refine⟨p,ns,d,rfl,hu.int,SqL.of (g3.gh _ _ hp),λM' q0 q1=>?_⟩;have:M'=M:=by
  by_cases hn:ns=[]
  .rw[q0 hn,h0 hn]
  .exact Int.le_antisymm ((q1 hn).2 _ (h1 hn).1) ((h1 hn).2 _ (q1 hn).1)
 rw[this];exact k _ G3 H3 (g2.trans g3) (Zy _)
end
end L2
namespace M41
noncomputable def cost(k:Kn)(q:Nat×Nat):Nat:=1+max (L (wl k q.1 q.2)) (L (wl k q.2 q.1))
theorem Q0(k:Kn):∀(l:List (Nat×Nat))(a:Option Nat),(∀ b,a=some b->∃ m,l.foldl (best L k) a=some m/\m<=b/\(∀ q∈l,m<=cost k q)/\(m=b\/∃ q∈l,m=cost k q))/\(a=none->l≠[]->∃ m,l.foldl (best L k) a=some m/\(∀ q∈l,m<=cost k q)/\∃ q∈l,m=cost k q)
 |[],a=>⟨λb e=>⟨b,e,Ih _,nofun,.inl rfl⟩,λ_ h=>absurd rfl h⟩
 |q::r,a=>by
  constructor
  .intro b e;subst e;by_cases h:cost k q<b
   .obtain⟨m,e,h1,h2,h3⟩:=(Q0 k r (some (cost k q))).1 _ rfl;refine⟨m,?_,by omega,λx hx=>?_,?_⟩
    .rw[Dd];have:best L k (some b) q=some (cost k q):=Iz h;rw[this];exact e
    .rcases IE.mp hx with rfl | hx
     .exact h1
     .exact h2 x hx
    .rcases h3 with h3 | ⟨x,hx,h3⟩
     .exact .inr ⟨q,Ir,h3⟩
     .exact .inr ⟨x,Im _ hx,h3⟩
   .obtain⟨m,e,h1,h2,h3⟩:=(Q0 k r (some b)).1 _ rfl;refine⟨m,?_,h1,λx hx=>?_,?_⟩
    .rw[Dd];have:best L k (some b) q=some b:=Iq h;rw[this];exact e
    .rcases IE.mp hx with rfl | hx
     .omega
     .exact h2 x hx
    .rcases h3 with h3 | ⟨x,hx,h3⟩
     .exact .inl h3
     .exact .inr ⟨x,Im _ hx,h3⟩
  .intro e _;subst e;obtain⟨m,e,h1,h2,h3⟩:=(Q0 k r (some (cost k q))).1 _ rfl;refine⟨m,?_,λx hx=>?_,?_⟩
   .rw[Dd];exact e
   .rcases IE.mp hx with rfl | hx
    .exact h1
    .exact h2 x hx
   .rcases h3 with h3 | ⟨x,hx,h3⟩
    .exact⟨q,Ir,h3⟩
    .exact⟨x,Im _ hx,h3⟩
def zhI{k:Kn}(h:unp k=[]):L k=0:=by rw[zkF,h];rfl
def zlS{k:Kn}{q:Nat×Nat}(h:q∈unp k):L k<=cost k q:=by obtain⟨m,e,h1,_⟩:=(Q0 k (unp k) none).2 rfl (ne_nil_of_mem h);rw[zkF,e];exact h1 q h
def znt{k:Kn}(h:unp k≠[]):∃ q∈unp k,L k=cost k q:=by obtain⟨m,e,_,q,hq,h2⟩:=(Q0 k (unp k) none).2 rfl h;exact⟨q,hq,by rw[zkF,e];exact h2⟩
def V1(k:Kn)(i j:Nat):opq k i j=opq k j i:=by unfold opq;rw[Bool.and_comm]
def Jf{k:Kn}{q:Nat×Nat}:q∈opn k↔q∈unp k:=by
 rw[Y7];unfold opn orow;constructor
 .intro h;obtain⟨j,hj,h⟩:=OF.mp h;obtain⟨i,hi,rfl⟩:=IB.mp h;obtain⟨hi,h⟩:=Nj.mp hi;exact⟨IJ.mp hi,IJ.mp hj,h⟩
 .rintro⟨h1,h2,h3⟩;exact OF.mpr ⟨q.2,IJ.mpr h2,IB.mpr ⟨q.1,Nj.mpr ⟨IJ.mpr h1,h3⟩,rfl⟩⟩
end M41
namespace L2
open PySem PySem.Spec PyProof.Rows
section
variable {K:FG}{X:Cx}
def J8(e:X.K=K):Jk X (.type "list") (λxs H Q=>∃ p ys,xs=[.ref p]/\(SqL K H p ys\/SqT K H p ys)/\∀ l,H l=none->Q (.ref l) (upd H l (.lst ys))):=by subst e;exact zbw
end
def range_any:∀ bs:List Bool,((List.range bs.length).any λi=>(bs[i]?).getD true)=bs.any id:=λbs=>by
 rw[N4,OG,OG];constructor
 .rintro⟨i,hi,h⟩;have hi:=IJ.mp hi;rw[Ib hi]at h;exact⟨bs[i],Np hi,h⟩
 .rintro⟨b,hb,h⟩;obtain⟨i,hi,rfl⟩:=NA hb;exact⟨i,IJ.mpr hi,by rw[Ib hi];exact h⟩
def zep{X:Cx}{K:FG}(e:X.K=K)(hc:X.calm=true):Jk X (.builtin "any") (λxs H Q=>∃(p:AD)(bs:List Bool),xs=[.ref p]/\SqL K H p (bs.map V.bl)/\Q (.bl (bs.any id)) H):=by
 subst e;intro aa s σ H xs us Q I r h;obtain⟨p,bs,rfl,hq,q⟩:=h;obtain⟨u,rfl,r1⟩:=vals1 r;cases r1;obtain⟨its,rv,pl,hz⟩:=I.list hq;have hl:=plainIs pl;have hlt:p<s.heap.objs.size:=by obtain⟨_,e,_⟩:=hl;exact IN e
 have hlen:its.length=bs.length:=by rw[← rv.length,Ie]
 refine call_any_walk (wpAny_pyIter_list hl ?_);refine⟨s.heap.objs.size,[s.heap.objs.size,p],[s.heap.objs.size],its.toArray.size,_,_,λi=>(bs[i]?).getD true,rfl,Walks.list (A:=X.A.in1) (I.ok.hd hc) _ p (IX hlt) its.toArray,
  ⟨⟨_,Iu _ rfl,rfl,rfl⟩,hl.push _⟩,λi v s' Q' E' hP hQ=>?_,λh' tk hk=>?_⟩
 .have hP' : its[i]?=some v:=by simpa using hP
  have hi:i<bs.length:=by rw[← hlen];exact(Io.mp hP').1
  obtain⟨u,hu,ru⟩:=rv.get (i:=i) (x:=V.bl bs[i]) (by rw[Ik,Ib hi];rfl);rw[hP']at hu;cases hu;cases(show v=Value.bool bs[i]from ru);simp only[Ib hi,getD_some]at hQ;exact Ox hQ
 .have e:((List.range its.toArray.size).any λi=>(bs[i]?).getD true)=bs.any id:=by rw[ID,hlen];exact range_any bs
  rw[e];exact⟨.bl (bs.any id),H,I.kept λb o e=>hk b o (λhm=>by rw[Ij.mp hm]at e;exact OI _ (IN e)) (Ig _ e),rfl,q⟩
def zoi:bootBuiltins "any" = some (.builtin "any"):=by decide +kernel
section
variable {K:FG}{B:Hp}{ρ:List PV}
def zk4{t:TA}{bs:List Bool}(h:Ea K B t ρ [.list (bs.map .bool)]):Er K B (tCB (λxs H Q=>∃(p:AD)(bs:List Bool),xs=[.ref p]/\SqL K H p (bs.map V.bl)/\Q (.bl (bs.any id)) H) t) ρ (.bool (bs.any id)):=zgC h λG1 H xs Q s2 hx k=>by
 obtain⟨y,ys,rfl,hy,hn⟩:=hx.cons;cases hn.nil;obtain⟨p,zs,rfl,hp,hz⟩:=hy.lst;have e:zs=bs.map V.bl:=by
  clear h hy hp k hx hn
  induction bs generalizing zs with
  |nil=>exact hz.nil
  |cons q l ih=>obtain⟨u,us,rfl,hu,hus⟩:=hz.cons;rw[hu.bl,ih us hus];rfl
 subst e;exact⟨p,bs,rfl,SqL.of (s2 _ _ hp),k _ G1 H (YW.refl s2) (Yr _)⟩
end
def zfd(l:AD)(items:Array Value)(n:Nat)(x:Int)(t:Tok)(dct:Option AD)(sl:Array (Option Value))(h2:0<=x)(h3:x<=1000)(he:items.isEmpty=true):
  Meets (Builtin.«tuple.__mul__» ⟨[.ref l,.int x t],[]⟩) (λ_ R s=>s.heap.get? l=some {cls:=.type "tuple",dict:=dct,data:=.seq items n,slots:=sl}/\R (.ok (.ret (Value.ref l))) s):=
 .of_wp λprog w A R s h=>by
  obtain⟨hp,g,d,tk,os⟩:=s;obtain⟨q1,h⟩:=h;have b1:(decide (x < -(2^63))||decide (x ≥ 2^63))=false:=by rw[Ip (by omega),Ip (by omega)];rfl
  have b2:(items.isEmpty||x==1)=true:=by rw[he];rfl
  wp_walk using IV q1
  rw[Iq (by rw[b1];exact Ii)]
  wp_walk using IV q1
  exact⟨_,rfl,h⟩
def zfL(l:AD)(items:Array Value)(n:Nat)(t:Tok)(dct:Option AD)(sl:Array (Option Value))(he:items.isEmpty=false):
  Meets (Builtin.«tuple.__mul__» ⟨[.ref l,.int 0 t],[]⟩) (λ_ R s=>s.heap.get? l=some {cls:=.type "tuple",dict:=dct,data:=.seq items n,slots:=sl}/\
   R (.ok (.ret (Value.ref s.heap.objs.size))) {s with heap:=s.heap.push {cls:=.type "tuple",data:=.seq #[]}}):=
 .of_wp λprog w A R s h=>by
  obtain⟨hp,g,d,tk,os⟩:=s;obtain⟨q1,h⟩:=h;have b2:(items.isEmpty||(0:Int)==1)=false:=by rw[he];rfl
  have b3:(decide ((0:Int)<=0)||items.isEmpty)=true:=by rw[Iw (by omega)];rfl
  wp_walk using IV q1
  exact⟨_,rfl,h⟩
section
variable {X:Cx}{K:FG}
def zlH(K:FG):R2:=λx y H Q=>∃ l k xs,x = .ref l/\y = .int k/\SqT K H l xs/\0<=k/\k<=1000/\xs.length<=1000/\(k=1\/xs=[]->Q (.ref l) H)/\(k≠1->xs≠[]->∀ p,H p=none->Q (.ref p) (upd H p (.tup (List.replicate k.toNat xs).flatten)))
def zjZ(eK:X.K=K):OpR X (binaryOp .Mult) (zlH K):=by
 subst eK;intro aa s σ H x y v u Q I rx ry h;obtain⟨l,k,xs,rfl,rfl,hq,k1,k2,hz,q1,q2⟩:=h;cases rx;obtain⟨t,rfl⟩:=ry;obtain⟨its,r,p,_⟩:=I.tuple hq;obtain⟨⟨c,dct,dt,sl⟩,e1,e2,n,e3⟩:=p
 replace e2:c = .type "tuple" := e2
 replace e3:dt = .seq its.toArray n:=e3
 subst e2 e3;have hl:=r.length;refine wpAny_binaryOp_repeat_ref (T:= "tuple") (U:= "int") (by decide) ⟨_,e1,rfl⟩ (λs' => typeIs_int s' k t) zct F.fills_int_mul F.slot_int_rmul zkd F.slot_int_index.lookup
  (ON F.slot_int_rmul (typeIs_int s k t) F.entry_int_rmul (F.args_int_rmul_2 _ _) (zbI k t l its.toArray n dct sl) ⟨e1,rfl,⟨_,e1,rfl⟩,?_⟩)
 by_cases h1:k=1
 .subst h1;exact ON F.slot_tuple_mul ⟨_,e1,rfl⟩ F.entry_tuple_mul (F.args_tuple_mul_2 _ _) (ze6 l its.toArray n t dct sl) ⟨e1,.ref l,H,I,rfl,q1 (.inl rfl)⟩
 by_cases hne:xs=[]
 .have hemp:its.toArray.isEmpty=true:=by
   cases its with
   |nil=>rfl
   |cons a b=>rw[hne]at hl;cases hl
  exact ON F.slot_tuple_mul ⟨_,e1,rfl⟩ F.entry_tuple_mul (F.args_tuple_mul_2 _ _) (zfd l its.toArray n k t dct sl k1 k2 hemp) ⟨e1,.ref l,H,I,rfl,q1 (.inr hne)⟩
 have hemp:its.toArray.isEmpty=false:=by
  cases its with
  |nil=>exact absurd (r.JX.mp rfl) hne
  |cons a b=>simp
 have hlen:(List.replicate k.toNat xs).flatten.length<=sizeLine:=by
  rw[len_rep];have z:(1000:Nat)*1000<=sizeLine:=by decide
  have:=OQ (show k.toNat<=1000 by omega) hz;omega
 have e4:List.foldl (λx1 x2=>x1++x2) #[] (List.replicate k.toNat its.toArray)=(List.replicate k.toNat its).flatten.toArray:=by have:=foldl_rep its k.toNat [];rw[nil_append]at this;exact this
 have fin:=λ(hh:Heap)(e:hh=s.heap.push {cls:=.type "tuple",data:=.seq (List.replicate k.toNat its).flatten.toArray})=>(show EP X aa σ Q (.ref s.heap.objs.size) {s with heap:=hh} from by
  subst e;exact⟨.ref s.heap.objs.size,_,I.laid (t':=s.toks) (o:=.tup (List.replicate k.toNat xs).flatten) (λb ob q=>Ig _ q) (Ih _) ⟨hlen,_,r.rep k.toNat,IsTup.new _ _,_,Iu _ rfl,rfl⟩,rfl,q2 h1 hne _ (I.ab.fresh (Ih _))⟩)
 by_cases h0:k=0
 .subst h0;exact ON F.slot_tuple_mul ⟨_,e1,rfl⟩ F.entry_tuple_mul (F.args_tuple_mul_2 _ _) (zfL l its.toArray n t dct sl hemp) ⟨e1,fin _ rfl⟩
 .refine ON F.slot_tuple_mul ⟨_,e1,rfl⟩ F.entry_tuple_mul (F.args_tuple_mul_2 _ _) (zfZ l its.toArray n k t dct sl (by omega) k2 hemp (by simp;omega)) ⟨e1,fin _ (by rw[e4])⟩
end
section
variable {K:FG}{B:Hp}{ρ:List PV}{ta tb:TE}
def ziX{ds:List PD}{n:Nat}(ha:Er K B ta ρ (.tuple ds))(hb:Er K B tb ρ (.int (n:Nat)))(h2:n<=1000)(hz:ds.length<=1000):Er K B (tOp (zlH K) ta tb) ρ (.tuple (List.replicate n ds).flatten):=λG σ r=>QB (ha G σ r) (hb G σ r) λG1 H x y Q s1 s2 hx hy k=>by
 obtain⟨p,us,rfl,hp,hus⟩:=hx.tup;rw[hy.int];have hl:=hus.length;refine⟨p,n,us,rfl,rfl,s2.tup hp,by omega,by omega,by omega,λz=>?_,λz zn q hq=>?_⟩
 .have e:(List.replicate n ds).flatten=ds:=by
   rcases z with z | z
   .have:n=1:=by omega
    subst this;simp
   .have:ds=[]:=N2 (by rw[← hl,z];rfl);subst this;simp
  rw[e]at k;exact k _ G1 H (YW.refl s2) (XQ hp hus)
 .rw[NP];have g:=Yh (o:=.tup (List.replicate n us).flatten) s2 hq;exact k _ _ _ g (XQ (SqT.of Zi) ((Uw hus n).same g.gg))
end
end L2
namespace zaE
open PySem PySem.SetTable
section
variable {prog:Program}{w:World}{A:Around}{E:Value->SH->Prop}{s:SH}
def za9{l:AD}{items:Array Value}{its:Nat->AD×List Int}{Q:Value->SH->Prop}(hh:A.handled=none)(hu:∀ A' : Around,A'.units<=A.units+8->A'.units<cLine)(hl:s.heap.IsTuple l items)(hits:∀(i:Nat)(v:Value),items[i]?=some v->v = .ref (its i).1)(hT:∀ i,i<items.size->Qf prog w s.heap (its i).2 (its i).1)(few:Few items.size its)(h:∀(h' : Heap)(tk:Nat)(M:List (AD×List Int)),TSt prog w h' s.heap.objs.size (ldd w) M->Met its items.size M->(∀ b o,b<s.heap.objs.size->s.heap.get? b=some o->h'.get? b=some o)->s.toks<=tk->Q (.ref s.heap.objs.size) {s with heap:=h',toks:=tk}):
  wpAny (model prog w) A (call (.type "set") [.ref l]) Q E s:=by
 have ct:=F.called_set;obtain⟨c,tl,hmro⟩:=ct.mro;have c1:=ct.made;have c2:=ct.sub;have c3:=ct.notType;have c4:=ct.canCreate;have c5:=F.typeCall_set_1 (.ref l);refine wpAny_call (codeAny_of_tree ?_);show wpAny _ _ (callAny (.type "set") _) _ _ _;refine Ic ⟨Code.quiet_builtin _ (by decide +kernel),Nu F.entry_type_call ?_⟩;rw[Around.under_plain (weight_type_call_type "set" [.ref l] []) rfl]
 repeat (any_goals (first | assumption | wp_step))
 refine OC (zfO (.ref l) (E:=E) (Q:=λv s1=>v = .ref s.heap.objs.size/\s1={s with heap:=s.heap.push (zbb w)}) ⟨rfl,rfl⟩) λr s1 hr=>?_
 match r,hr with
 |.ok (.ret v),hr=>
  obtain⟨rfl,rfl⟩:=hr;have gS:(s.heap.push (zbb w)).get? s.heap.objs.size=some (zbb w):=Iu _ rfl;have tS:TypeIs {s with heap:=s.heap.push (zbb w)} (.ref s.heap.objs.size) "set" := ⟨_,gS,rfl⟩
  have i1:=ct.init.lookup;have i2:=ct.init.bind (.ref s.heap.objs.size)
  repeat (any_goals (first | assumption | wp_step))
  refine OC (codeAny_call_builtin (R:=wants (λv s2=>v = .none/\∃ h' tk M,s2={s with heap:=h',toks:=tk}/\TSt prog w h' s.heap.objs.size (ldd w) M/\Met its items.size M/\(∀ b o,b<s.heap.objs.size->s.heap.get? b=some o->h'.get? b=some o)/\s.toks<=tk) E) ct.init.plain F.entry_set_init (check_set_init_1 tS ?_)) λr2 s2 hr2=>?_
  .have hl1:=hl.push (zbb w);obtain⟨⟨ocls,odict,odata,oslots⟩,hol,hcl,nl,hdl⟩:=hl;simp only at hcl hdl;subst hcl;subst hdl;have hol':=Ig (zbb w) hol;have n1:=F.sub_tuple_set;have n2:=F.sub_tuple_frozenset;have n3:(Value.type "tuple" == Value.type "dict")=false:=by decide
   unfold Builtin.«set.__init__» noKeywords Builtin.Frozenset.updateFrom;generalize hPI:pyIter=PI
   wp_walk
   subst hPI;refine OM hl1 ?_;refine Ia (wpAny_runValue ?_);have hlt:l<s.heap.objs.size:=IN hol;have hh3:A.in1.in1.in1.handled=none:=by simp[hh]
   have nI:l≠(s.heap.push (zbb w)).objs.size:=by rw[NH];exact IX (NO hlt)
   have nS:s.heap.objs.size∉[(s.heap.push (zbb w)).objs.size,l]:=by
    rw[NH];intro z;rcases IE.mp z with z | z
    .exact absurd z (IX (OB _))
    .rw[Ij]at z;exact absurd z (ne_of_gt hlt)
   have low:∀ i,i<items.size->(its i).1<s.heap.objs.size:=λi hi=>by obtain⟨o,_,_,ho,_⟩:=hT i hi;exact IN ho
   refine zmA ((Walks.tuple hh3 _ l nI items).toS) (hu _ (by simp <;> omega)) s.heap.objs.size (ldd w) nS its hits (λi hi z=>?_) few (items.size-0) 0 _ [] (by omega) (NN _) ⟨⟨_,Iu _ rfl,rfl,rfl⟩,hl1.push _⟩ (λm hm=>Qf.at (hT m hm) λo e=>Ig _ (Ig _ e)) ((TSt.new s.heap).at (λo e=>Ig _ e) λq hq=>(by cases hq)) (Met.zero its) λs' M mv T mt=>?_
   .have:=low i hi;rw[NH]at z;rcases IE.mp z with z | z
    .exact absurd z (IX this)
    .rw[Ij]at z;exact absurd z (IX (NO this))
   .obtain⟨h',g',d',tk',os'⟩:=s';have eg:g'=s.gens:=mv.gens;have ed:d'=s.drawn:=mv.drawn;have eo:os'=s.os:=mv.os;subst eg;subst ed;subst eo;show wpAny _ _ _ _ _ _;refine Ic ?_;show wpAny _ _ (ret Value.none) _ _ _;refine Ic ⟨rfl,h',tk',M,rfl,T,mt,λb o hb e=>?_,mv.toks⟩;refine mv.heap b o (λz=>?_) (Ig _ (Ig _ e));rw[NH]at z;rcases IE.mp z with z | z
    .exact absurd z (IX hb)
    .rw[Ij]at z;exact absurd z (IX (NO hb))
  .match r2,hr2 with
   |.ok (.ret v),hr2=>
    obtain⟨rfl,h',tk,M,rfl,T,mt,kp,ht⟩:=hr2
    repeat (any_goals (first | assumption | wp_step))
    exact h _ _ _ T mt kp ht
   |.error e,hr2=>exact hr2
 |.error e,hr=>exact hr
end
end zaE
namespace L2
open PySem PySem.Spec PyProof.Rows StbG zaE
section
variable {X:Cx}{aa:List (AD×Obj)}{σ:St}{H G:Hp}{s:SH}
def zck{p:AD}{vs:List V}{ps:List (Int×Int)}{Q:VK}(hc:X.calm=true)(hu:X.A.units+8<cLine)(I:Inv X aa σ H s)(sg:Zr G H)(hq:SqT X.K H p vs)(hd:ZX X.K G vs (ps.map dPr))(few:∀ L:List (Int×Int),L.Nodup->(∀ q∈L,q∈ps)->L.length<64)(hps:∀ q∈ps,0<=q.2/\q.2<1000)(k:∀(l:AD)(us:List V)(qs:List (Int×Int)),H l=none->qs.Nodup->(∀ q,q∈qs↔q∈ps)->ZX X.K G us (qs.map dPr)->qs.Pairwise (λa b=>a.1*1000+a.2<=b.1*1000+b.2)->Q (.ref l) (upd H l (.lst us))):
  wpAny (model X.prog X.w) X.A (call (.type "set") [.ref p]) (λv s1=>wpAny (model X.prog X.w) X.A (call (.builtin "sorted") [v]) (EP X aa σ Q) X.xe s1) X.xe s:=by
 obtain⟨its,r',pl,hz⟩:=I.tuple hq;obtain⟨Z,z1,z2,z3⟩:=triples I sg r' hd;have hZl:Z.length=its.length:=by rw[← z1,Ie]
 let f:Nat->AD×List Int:=λi=>match Z[i]? with | some z=>(adr z.1,Qz z.2.2) | none=>(0,[])
 have fz:∀{i z},Z[i]?=some z->f i=(adr z.1,Qz z.2.2):=λ{i z} e=>by show(match Z[i]? with | some z=>_ | none=>_)=_;rw[e]
 have fex:∀ i,i<its.toArray.size->∃ z,Z[i]?=some z/\z∈Z:=λi hi=>by
  have hi:i<Z.length:=by rw[hZl];simpa using hi
  exact⟨Z[i],Ib hi,Np hi⟩
 have keyps:∀{m:Nat}{kk:List Int},m<its.toArray.size->(f m).2=kk->∃ q∈ps,kk=Qz q:=λ{m kk} hm e=>by obtain⟨z,e1,e2⟩:=fex m hm;refine⟨z.2.2,by rw[← z2];exact Ds e2,?_⟩;rw[← e,fz e1]
 have psm:∀ q∈ps,∃ m,m<its.toArray.size/\(f m).2=Qz q:=λq hq=>by rw[← z2]at hq;obtain⟨z,hz,rfl⟩:=IB.mp hq;obtain⟨i,hi,e⟩:=NA hz;exact⟨i,by simpa [← hZl]using hi,by rw[fz (by rw[Ib hi,e])]⟩
 have few' : ∀ L:List (List Int),L.Nodup->(∀ kk∈L,∃ m,m<its.toArray.size/\(f m).2=kk)->L.length<64:=λL nd h=>by
  obtain⟨P,e,hP⟩:=Uj (R:=λ(kk:List Int)(q:Int×Int)=>q∈ps/\kk=Qz q) (M:=L) λkk hk=>by obtain⟨m,hm,e⟩:=h kk hk;obtain⟨q,hq,e⟩:=keyps hm e;exact⟨q,hq,e⟩
  have em:P.map Qz=L.map id:=J2 e λi q z h1 h2=>(hP i q z h1 h2).2.symm;rw[map_id]at em;rw[← e];refine few P (zgL (f:=Qz) (by rw[em];exact nd)) λq hq=>?_;obtain⟨i,hi,e3⟩:=NA hq;exact(hP i (L[i]'(by omega)) q (Ib (by omega)) (by rw[Ib hi,e3])).1
 refine za9 (its:=f) (I.ok.hd hc) (λA' hA=>by omega) pl (λi v hv=>?_) (λi hi=>?_) (λL nd h=>Op (few' L nd h)) λh1 tk1 M T mt kp ht=>?_
 .have hi:i<its.toArray.size:=(OR.mp hv).1;obtain⟨z,e1,e2⟩:=fex i hi;have ev:its[i]?=some v:=by simpa using hv
  rw[← z1,Ik,e1]at ev;have ev:z.1=v:=IA ev;rw[fz e1,← ev];exact(J9 (prog:=X.prog) (w:=X.w) (z3 z e2).2.2).2
 .obtain⟨z,e1,e2⟩:=fex i hi;rw[fz e1];exact(J9 (z3 z e2).2.2).1
 have ndM:(M.map Prod.snd).Nodup:=by obtain⟨_,_,_,_,_,_,_,_,_,_,_,_,nd,_⟩:=T;exact nd
 have hMl:M.length<64:=by
  have:=few' (M.map Prod.snd) ndM λkk hk=>(mt.1 kk).mp hk
  rwa [Ie]at this
 refine Ua (s:={s with heap:=h1,toks:=tk1}) (I.ok.hd hc) T (λq hq=>?_) hMl λs2 M' st' pm kp2 eg ed eo ht2 a1 a2=>?_
 .obtain⟨m,hm,e⟩:=mt.2 q hq;obtain⟨q',hq',e'⟩:=keyps hm rfl;exact⟨q'.1,q'.2,by rw[e,e'],hps q' hq'⟩
 have old:∀ b o,s.heap.get? b=some o->h1.get? b=some o:=λb o e=>kp b o (IN e) e;obtain⟨Z1,zl1,hZ1⟩:=Uj (R:=λ(q:AD×List Int)(z:Value×V×(Int×Int))=>z∈Z/\z.1 = .ref q.1/\Qz z.2.2=q.2) (M:=M') λq hq=>by
  obtain⟨m,hm,e⟩:=mt.2 q (pm.mem_iff.mp hq);obtain⟨z,e1,e2⟩:=fex m hm;rw[fz e1]at e;refine⟨z,e2,?_,?_⟩
  .rw[e];exact(J9 (prog:=X.prog) (w:=X.w) (z3 z e2).2.2).2
  .rw[e]
 have zz1:Z1.map (·.1)=M'.map λq=>Value.ref q.1:=J2 zl1 λi q z h1 h2=>(hZ1 i q z h1 h2).2.1;have zz2:Z1.map (λz=>Qz z.2.2)=M'.map Prod.snd:=J2 zl1 λi q z h1 h2=>(hZ1 i q z h1 h2).2.2;have zz3:∀ z∈Z1,RelV z.2.1 z.1/\Dat X.K G z.2.1 (dPr z.2.2)/\Ys h1 z.1 z.2.2.1 z.2.2.2:=λz hz' => by obtain⟨i,hi,e⟩:=NA hz';obtain⟨b1,b2,b3⟩:=z3 z (hZ1 i (M'[i]'(by omega)) z (Ib (by omega)) (by rw[Ib hi,e])).1;exact⟨b1,b2,b3.keep old⟩
 obtain⟨Z',p1,hV,hD,hpw⟩:=zdp zz1 zz3 a1 a2;have nd1:(Z1.map (·.2.2)).Nodup:=by refine zgL (f:=Qz) ?_;rw[NQ];show(Z1.map λz=>Qz z.2.2).Nodup;rw[zz2];exact((pm.map Prod.snd).nodup_iff).mpr ndM
 have hmem:∀ q,q∈Z'.map (·.2.2)↔q∈ps:=λq=>by
  rw[(p1.map (·.2.2)).mem_iff];constructor
  .intro h;obtain⟨z,hz',rfl⟩:=IB.mp h;have:Qz z.2.2∈M'.map Prod.snd:=by rw[← zz2];exact IB.mpr ⟨z,hz',rfl⟩
   obtain⟨m,hm,e⟩:=(mt.1 _).mp (((pm.map Prod.snd).mem_iff).mp this);obtain⟨q',hq',e'⟩:=keyps hm e;rw[VR e'];exact hq'
  .intro h;have:Qz q∈Z1.map (λz=>Qz z.2.2):=by rw[zz2,(pm.map Prod.snd).mem_iff];exact(mt.1 _).mpr (psm q h)
   obtain⟨z,hz',e⟩:=IB.mp this;exact IB.mpr ⟨z,hz',VR e⟩
 obtain⟨h2,g2,d2,tk2,os2⟩:=s2;have eg:g2=s.gens:=eg;have ed:d2=s.drawn:=ed;have eo:os2=s.os:=eo;subst eg ed eo;have big:s.heap.objs.size<=h2.objs.size:=by obtain⟨oS,_,_,_,_,gS,_⟩:=T;exact Op (IN (kp2 _ _ gS))
 obtain⟨c,hcc⟩:=sortedHeap_at (h:=h2.push (seqObj "list" (M'.map λq=>Value.ref q.1).toArray 0)) (a:=h2.objs.size) (vs:=M'.map λq=>Value.ref q.1) (out:=(arrOf st').map (·.2)) (n:=0) (Iu _ rfl);have zlen:(Z'.map (·.2.1)).length<=sizeLine:=by
  have:(64:Nat)<=sizeLine:=by decide
  rw[Ie,p1.length_eq,zl1,pm.length_eq];omega
 refine⟨.ref h2.objs.size,_,I.laid (t':=tk2) (λb o e=>?_) big (show Yu X.prog X.w _ (sortedHeap (h2.push (seqObj "list" (M'.map λq=>Value.ref q.1).toArray 0)) h2.objs.size (M'.map λq=>Value.ref q.1) ((arrOf st').map (·.2))) _ (.lst (Z'.map (·.2.1)))from⟨zlen,((arrOf st').map (·.2)).toList,c,hV,hcc⟩),rfl,k _ _ (Z'.map (·.2.2)) (I.ab.fresh big) (((p1.map (·.2.2)).nodup_iff).mpr nd1) hmem hD hpw⟩;have e2:=kp2 b o (old b o e);have lt:=IN e2;have lt:b<h2.objs.size:=lt;rw[sortedHeap_old (IX lt) (by rw[size_push'];exact NO lt)];exact Ig _ e2
def zcA(K:FG):List V->Hp->VK->Prop:=λxs H Q=>∃(G:Hp)(p:AD)(vs:List V)(ps:List (Int×Int)),xs=[.ref p]/\Zr G H/\SqT K H p vs/\ZX K G vs (ps.map dPr)/\(∀ L:List (Int×Int),L.Nodup->(∀ q∈L,q∈ps)->L.length<64)/\(∀ q∈ps,0<=q.2/\q.2<1000)/\
 ∀(l:AD)(us:List V)(qs:List (Int×Int)),H l=none->qs.Nodup->(∀ q,q∈qs↔q∈ps)->ZX K G us (qs.map dPr)->qs.Pairwise (λa b=>a.1*1000+a.2<=b.1*1000+b.2)->Q (.ref l) (upd H l (.lst us))
def zfg{K:FG}(eK:X.K=K)(hc:X.calm=true)(hu:X.A.units+8<cLine)(hg:Gl X "sorted")(hm:X.mg "sorted" = none)(hg2:Gl X "set")(hm2:X.mg "set" = none){e:Expr}{t:TA}{p1 p2 q1 q2:Pos}(ha:PA X [e] t)(he1:starEach [.Call (.Name "set" p2) [e] [] q2] X.env=[(false,eval (.Call (.Name "set" p2) [e] [] q2) X.env)]:=by rfl)(he2:starEach [e] X.env=(false,eval e X.env)::starEach [] X.env:=by rfl):
  PE X (.Call (.Name "sorted" p1) [.Call (.Name "set" p2) [e] [] q2] [] q1) (tCB (zcA K) t):=by
 subst eK;intro aa s σ H Q I h;refine Nr (Wo I hg hm U7 (PyProof.Rows.callWith_builtin1 ?_ he1 rfl));rw[he1];show wpAny _ _ (spliced [(false,eval (.Call (.Name "set" p2) [e] [] q2) X.env)]) _ _ s;refine Dw (Nr (Wo I hg2 hm2 boot_set (Nm (thn (ha q2 aa s σ H _ I h) λus s1 ⟨vs,H1,I1,r1,z1⟩=>?_) he2 rfl)));obtain⟨G,p,vs',ps,rfl,sg,hq,hd,few,hps,k⟩:=z1;obtain⟨u,rfl,rx⟩:=vals1 r1;cases rx;exact thn (zck (Q:=Q) hc hu I1 sg hq hd few hps k) λv s2 z=>spliced_nil z
def zfJ{K:FG}{t:TA}{ps qs:List (Int×Int)}(h:EvA K t σ G [.tuple (ps.map dPr)])(few:∀ L:List (Int×Int),L.Nodup->(∀ q∈L,q∈ps)->L.length<64)(hps:∀ q∈ps,0<=q.2/\q.2<1000)(hq:∀ rs:List (Int×Int),rs.Nodup->(∀ q,q∈rs↔q∈ps)->rs.Pairwise (λa b=>a.1*1000+a.2<=b.1*1000+b.2)->rs=qs):Ev K (tCB (zcA K) t) σ G (.list (qs.map dPr)):=
 za6 h λG1 H xs Q s1 s2 hx k=>by obtain⟨v,r,rfl,hv,hx⟩:=hx.cons;rw[hx.nil];obtain⟨p,ys,rfl,hp,hys⟩:=Dat.tup hv;refine⟨G1,p,ys,ps,rfl,s2,s2.tup hp,hys,few,hps,λl us rs hl nd hmem hd hs=>?_⟩;have e:=hq rs nd hmem hs;subst e;have g:=Yh (o:=.lst us) s2 hl;exact k _ _ _ g (Y8 Zi (hd.same g.gg))
end
section
variable {K:FG}{B:Hp}{ρ:List PV}
def zes{t:TA}{n:Nat}{ps:List (Int×Int)}(h:Ea K B t ρ [.tuple (ps.map dPr)])(hn:n<=7)(hps:∀ q∈ps,0<=q.1/\q.1<n/\0<=q.2/\q.2<n):Er K B (tCB (zcA K) t) ρ (.list ((zgv n ps).map dPr)):=λG σ r=>zfJ (h G σ r) (zdo hn hps) (λq hq=>by have:=hps q hq;omega) λrs nd hm hpw=>zdi (by omega) hps nd hm hpw
end
open PySem PySem.Spec PyProof.Rows Lw
section
variable {K:FG}{B:Hp}{ρ:List PV}{ta tb te:TE}{ds:List PD}{d:PD}{x y:Str}
def Vy(ha:Er K B ta ρ (.str x))(hb:Er K B tb ρ (.str y)):Er K B (tOp rEq ta tb) ρ (.bool (decide (x=y))):=λG σ r=>QB (ha G σ r) (hb G σ r) λG1 H u v Q s1 s2 hu hv k=>by rw[hu.str,hv.str];refine⟨rfl,?_⟩;have:=k (.bl (decide (x=y))) G1 H (YW.refl s2) (Yr _);rw[show decide (V.str x=V.str y)=decide (x=y)from Nq.mpr ⟨λe=>by injection e,λe=>by rw[e]⟩];exact this
def zhu{a b c:PD}{i j l:Nat}{P:List PV->Prop}(h:P (((ρ.set i (.dat a)).set j (.dat b)).set l (.dat c))):Gt K B (zkt K 3 (JC (Wi i) (JC (Wi j) (JC (Wi l) ziL)))) (.tuple [a,b,c]) ρ P:=λE G0 H0 G H σ F x Q r hd k=>by obtain⟨p,xs,rfl,hp,hx⟩:=hd.tup;obtain⟨y,ys,rfl,hy,hx⟩:=hx.cons;obtain⟨z,zs,rfl,hz,hx⟩:=hx.cons;obtain⟨z',zs',rfl,hz',hx⟩:=hx.cons;cases hx.nil;exact⟨p,_,rfl,r.g.gh.tup hp,rfl,y,_,rfl,z,_,rfl,z',_,rfl,rfl,k _ _ G H _ h (Zr.refl _) (((r.zdH hy).zdH hz).zdH hz')⟩
end
end L2
namespace M41
variable {k:Kn}{l:List Nat}
noncomputable def may(k:Kn)(row:List Nat)(p:Nat):Bool:=!decide (p∈row)&&decide (((pairsOf k).filter λq=>decide (q.2=p) && !decide (q.1∈row)).map Prod.fst=[])
noncomputable def XM(k:Kn)(row:List Nat):List (List Nat):=((List.range k.length).filter (may k row)).map λp=>row++[p]
noncomputable def Yw(k:Kn):Nat->List (List Nat)
 |0=>[[]]
 |t+1=>(Yw k t).flatMap (XM k)
structure Vd(k:Kn)(l:List Nat):Prop where
 nd:l.Nodup
 lt:∀ x∈l,x<k.length
 pr:∀ pre x post,l=pre++x::post->∀ i,i<k.length->ah k i x=true->i∈pre
def ziW{row:List Nat}{p:Nat}(hp:p<k.length):may k row p=true↔p∉row/\∀ i,i<k.length->ah k i p=true->i∈row:=by
 unfold may;rw[NR,not_eq_true',decide_eq_false_iff_not,Nf,map_eq_nil_iff,List.filter_eq_nil_iff];refine and_congr_right λ_=>⟨λh i hi ha=>?_,λh q hq=>?_⟩
 .have:=h (i,p) (ZJ.mpr ⟨hi,hp,ha⟩);simpa using this
 .obtain⟨h1,h2,h3⟩:=ZJ.mp hq;by_cases z:q.2=p
  .subst z;have:=h q.1 h1 h3;simp[this]
  .simp[z]
def Vd.snoc{p:Nat}(hp:p<k.length):Vd k (l++[p])↔Vd k l/\may k l p=true:=by
 rw[ziW hp];constructor
 .intro h;have nd:=h.nd;rw[nodup_append]at nd;refine⟨⟨nd.1,λx hx=>h.lt x (N3 _ hx),λpre x post e i hi ha=>h.pr pre x (post++[p]) (by rw[e,OD];rfl) i hi ha⟩,λz=>nd.2.2 p z p (N6 _) rfl,λi hi ha=>h.pr l p [] rfl i hi ha⟩
 .rintro⟨h,h1,h2⟩;refine⟨?_,λx hx=>?_,λpre x post e i hi ha=>?_⟩
  .rw[nodup_append];refine⟨h.nd,List.pairwise_singleton _ _,λa ha b hb e=>?_⟩;rw[Ij.mp hb]at e;subst e;exact h1 ha
  .rcases Nz.mp hx with hx | hx
   .exact h.lt x hx
   .rw[Ij.mp hx];exact hp
  .rcases List.append_eq_append_iff.mp e with⟨r,e1,e2⟩ | ⟨r,e1,e2⟩
   .cases r with
    |nil=>rw[Nx]at e1;rw[e1];injection e2 with e3 e4;subst e3;exact h2 i hi ha
    |cons a r=>injection e2 with e3 e4;cases r <;> cases e4
   .cases r with
    |nil=>rw[Nx]at e1;rw[← e1];injection e2 with e3 e4;subst e3;exact h2 i hi ha
    |cons a r=>injection e2 with e3 e4;subst e3;exact h.pr pre x r e1 i hi ha
theorem WK :∀{t:Nat}{l:List Nat},l∈Yw k t↔l.length=t/\Vd k l
 |0,l=>by
  show l∈[[]]↔_;rw[Ij];constructor
  .rintro rfl;exact⟨rfl,nodup_nil,(λx hx=>nomatch hx),(λpre x post e=>by cases pre <;> cases e)⟩
  .rintro⟨h,_⟩;exact N2 h
 |t+1,l=>by
  show l∈(Yw k t).flatMap (XM k)↔_;rw[OF];constructor
  .rintro⟨r,hr,hl⟩;obtain⟨p,hp,rfl⟩:=IB.mp hl;obtain⟨hp,hm⟩:=Nj.mp hp;obtain⟨h1,h2⟩:=WK.mp hr;exact⟨by rw[Il,h1];rfl,(Vd.snoc (IJ.mp hp)).mpr ⟨h2,hm⟩⟩
  .rintro⟨h1,h2⟩;have hne:l≠[]:=λz=>by rw[z]at h1;cases h1
   obtain⟨r,p,rfl⟩:∃ r p,l=r++[p]:=⟨l.dropLast,l.getLast hne,(List.dropLast_concat_getLast hne).symm⟩
   have hp:p<k.length:=h2.lt p (IG _ (N6 _));obtain⟨h3,h4⟩:=(Vd.snoc hp).mp h2;rw[Il]at h1;exact⟨r,WK.mpr ⟨by simpa using h1,h3⟩,IB.mpr ⟨p,Nj.mpr ⟨IJ.mpr hp,h4⟩,rfl⟩⟩
theorem zgh(k:Kn):∀ t,(Yw k t).Nodup
 |0=>List.pairwise_singleton _ _
 |t+1=>by
  show((Yw k t).flatMap (XM k)).Pairwise (· ≠ ·);rw[Dl];refine⟨λr _=>?_,(zgh k t).imp λ{a b} hab x hx y hy e=>?_⟩
  .unfold XM;rw[OY];exact(List.Pairwise.filter _ List.nodup_range).imp λ{a b} hab e=>hab (by simpa using e)
  .obtain⟨p,_,rfl⟩:=IB.mp hx;obtain⟨q,_,rfl⟩:=IB.mp hy;exact hab (List.append_inj_left' e rfl)
theorem zaO(k:Kn):∀ t,(Yw k t).length<=k.length^t
 |0=>Ih _
 |t+1=>by
  have h:∀ l:List (List Nat),(l.flatMap (XM k)).length<=l.length*k.length:=λl=>by
   induction l with
   |nil=>simp
   |cons a r ih=>
    rw[flatMap_cons,Il,IL,Dr];have:(XM k a).length<=k.length:=by unfold XM;rw[Ie];exact IH (IT _ _) (O5 Iy)
    omega
  exact IH (h _) (NY _ (zaO k t))
def zcy(h:Vd k l)(hl:l.length=k.length):l.Perm (List.range k.length):=by
 refine(OS h.nd OX).mpr λa=>⟨λha=>IJ.mpr (h.lt a ha),λha=>NZ λz=>?_⟩
 have:=NJ (l₁:=a::l) (l₂:=List.range k.length) (NT.mpr ⟨z,h.nd⟩) λx hx=>by
  rcases IE.mp hx with rfl | hx
  .exact ha
  .exact IJ.mpr (h.lt x hx)
 rw[IL,Iy]at this;omega
noncomputable def lj(k:Kn)(l:List Nat):Bool:=decide (l.Perm (List.range k.length))&&(l.zip (l.drop 1)).all λp=>ah k p.1 p.2
theorem U3{α:Type}{R:α->α->Prop}:∀{l:List α},(∀ p∈l.zip (l.drop 1),R p.1 p.2)↔∀ pre a b post,l=pre++a::b::post->R a b
 |[]=>⟨(λ_ pre a b post e=>by cases pre <;> cases e),(λ_ p hp=>by cases hp)⟩
 |[x]=>⟨(λ_ pre a b post e=>by
   cases pre with
   |nil=>cases e
   |cons y r=>injection e with _ e;cases r <;> cases e),(λ_ p hp=>by simp at hp)⟩
 |x::y::r=>by
  rw[List.drop_succ_cons,drop_zero,zip_cons_cons];have ih:=@U3 α R (y::r);rw[List.drop_succ_cons,drop_zero]at ih;constructor
  .intro h pre a b post e;cases pre with
   |nil=>injection e with e1 e2;injection e2 with e2 e3;subst e1 e2;exact h (x,y) Ir
   |cons z pre=>injection e with e1 e2;exact ih.mp (λp hp=>h p (Im _ hp)) pre a b post e2
  .intro h p hp;rcases IE.mp hp with rfl | hp
   .exact h [] x y r rfl
   .exact ih.mpr (λpre a b post e=>h (x::pre) a b post (by rw[e];rfl)) p hp
theorem zdv(o:IsO k):∀{l:List Nat},(∀ x∈l,x<k.length)->(∀ p∈l.zip (l.drop 1),ah k p.1 p.2=true)->l.Pairwise λa b=>ah k a b=true
 |[],_,_=>.nil
 |[a],_,_=>List.pairwise_singleton _ _
 |a::b::r,hl,h=>by
  rw[List.drop_succ_cons,drop_zero,zip_cons_cons]at h;have h1:=h (a,b) Ir;have ih:=zdv o (l:=b::r) (λx hx=>hl x (Im _ hx)) (λp hp=>h p (Im _ hp));refine NX.mpr ⟨λc hc=>?_,ih⟩;rcases IE.mp hc with rfl | hc
  .exact h1
  .exact o.tr a b c (hl a Ir) (hl b (Im _ Ir)) h1 ((NX.mp ih).1 c hc)
def zcg(h:Vd k l):l.Pairwise λa b=>ah k b a=false:=by
 have:∀(pre l:List Nat),Vd k (pre++l)->l.Pairwise λa b=>ah k b a=false:=by
  intro pre l
  induction l generalizing pre with
  |nil=>intro _;exact .nil
  |cons a r ih=>intro h;refine NX.mpr ⟨λb hb=>?_,ih (pre++[a]) (by rw[OD];exact h)⟩;refine Od.mpr λz=>?_;have hi:=h.pr pre a r rfl b (h.lt b (IG _ (Im _ hb))) z;have nd:=h.nd;rw[nodup_append]at nd;exact nd.2.2 b hi b (Im _ hb) rfl
 exact this [] l h
def zla(o:IsO k)(hp:l.Perm (List.range k.length))(hw:l.Pairwise λa b=>ah k b a=false):Vd k l:=by
 refine⟨hp.nodup_iff.mpr OX,λx hx=>IJ.mp (hp.mem_iff.mp hx),λpre x post e i hi ha=>?_⟩;have hm:i∈l:=hp.mem_iff.mpr (IJ.mpr hi);rw[e]at hm hw;rcases Nz.mp hm with hm | hm
 .exact hm
 rcases IE.mp hm with rfl | hm
 .rw[o.ir i hi]at ha;cases ha
 .have:=(NX.mp (Dh.mp hw).2.1).1 i hm;rw[this]at ha;cases ha
def ziY(o:IsO k):lj k l=true↔Yw k k.length=[l]:=by
 unfold lj;rw[NR,Nf,all_eq_true];constructor
 .rintro⟨hp,hc⟩;have hlt:∀ x∈l,x<k.length:=λx hx=>IJ.mp (hp.mem_iff.mp hx);have pw:=zdv o hlt hc;have asym:∀{a b},a<k.length->b<k.length->ah k a b=true->ah k b a=false:=λ{a b} ha hb h=>Od.mpr λz=>by have:=o.tr a b a ha hb h z;rw[o.ir a ha]at this;cases this
  have vl:Vd k l:=zla o hp (pw.imp_of_mem λ{a b} ha hb h=>asym (hlt a ha) (hlt b hb) h);have hm:l∈Yw k k.length:=WK.mpr ⟨by rw[hp.length_eq,Iy],vl⟩;have un:∀ r∈Yw k k.length,r=l:=λr hr=>by
   obtain⟨h1,h2⟩:=WK.mp hr;refine(List.Perm.eq_of_pairwise (le:=λa b=>ah k b a=false) (l₁:=r) (l₂:=l) (λa b ha hb h3 h4=>?_) (zcg h2) (zcg vl) ((zcy h2 h1).trans hp.symm));have ha:=h2.lt a ha;have ha2:a∈l:=hp.mem_iff.mpr (IJ.mpr ha);refine NZ λne=>?_;have tot:∀(m:List Nat),m.Pairwise (λa b=>ah k a b=true)->a∈m->b∈m->ah k a b=true\/ah k b a=true:=by
    intro m
    induction m with
    |nil=>intro _ h;cases h
    |cons x m ih=>
     intro h ha hb;obtain⟨h5,h6⟩:=NX.mp h;rcases IE.mp ha with za | za
     .rcases IE.mp hb with zb | zb
      .exact absurd (za.trans zb.symm) ne
      .rw[za];exact .inl (h5 b zb)
     .rcases IE.mp hb with zb | zb
      .rw[zb];exact .inr (h5 a za)
      .exact ih h6 za zb
   rcases tot l pw ha2 hb with z | z
   .rw[h4]at z;cases z
   .rw[h3]at z;cases z
  have nd:=zgh k k.length;generalize Yw k k.length=R at *;cases R with
  |nil=>cases hm
  |cons a R=>
   have ea:=un a Ir;subst ea;cases R with
   |nil=>rfl
   |cons b R=>have eb:=un b (Im _ Ir);subst eb;exact absurd Ir (NT.mp nd).1
 .intro e;obtain⟨h1,h2⟩:=WK.mp (show l∈Yw k k.length by rw[e];exact N6 _);have hp:=zcy h2 h1;refine⟨hp,?_⟩;have:∀ p∈l.zip (l.drop 1),ah k p.1 p.2=true:=(U3 (R:=λa b=>ah k a b=true)).mpr λpre a b post e2=>by
   refine NZ λne=>?_;have ne:ah k a b=false:=Od.mpr ne;subst e2;have pm:(pre++b::a::post).Perm (pre++a::b::post):=(List.Perm.swap a b post).append_left pre;have bk:=zcg h2;obtain⟨w1,w2,w3⟩:=Dh.mp bk;obtain⟨w4,w5⟩:=NX.mp w2;obtain⟨w6,w7⟩:=NX.mp w5;have bk2:(pre++b::a::post).Pairwise λa b=>ah k b a=false:=Dh.mpr ⟨w1,NX.mpr ⟨λc hc=>by
    rcases IE.mp hc with rfl | hc
    .exact ne
    .exact w6 c hc,NX.mpr ⟨λc hc=>w4 c (Im _ hc),w7⟩⟩,λx hx y hy=>w3 x hx y (by
    rcases IE.mp hy with rfl | hy
    .exact Im _ Ir
    .rcases IE.mp hy with rfl | hy
     .exact Ir
     .exact Im _ (Im _ hy))⟩
   have v2:=zla o (pm.trans hp) bk2;have hm:(pre++b::a::post)∈Yw k k.length:=WK.mpr ⟨by rw[pm.length_eq];exact h1,v2⟩;rw[e,Ij]at hm;have hab:b=a:=by have:=List.append_cancel_left hm;injection this
   subst hab;have nd:=h2.nd;rw[nodup_append]at nd;exact(NT.mp nd.2.1).1 Ir
  exact this
end M41
namespace L2
open PySem Lw M41
section
variable {K:FG}{B:Hp}{ρ:List PV}
def zjH{a b c d e:PD}{i j l m n:Nat}{P:List PV->Prop}(h:P (((((ρ.set i (.dat a)).set j (.dat b)).set l (.dat c)).set m (.dat d)).set n (.dat e))):Gt K B (zkt K 5 (JC (Wi i) (JC (Wi j) (JC (Wi l) (JC (Wi m) (JC (Wi n) ziL)))))) (.tuple [a,b,c,d,e]) ρ P:=λE G0 H0 G H σ F x Q r hd k=>by obtain⟨p,xs,rfl,hp,hx⟩:=hd.tup;obtain⟨y1,_,rfl,h1,hx⟩:=hx.cons;obtain⟨y2,_,rfl,h2,hx⟩:=hx.cons;obtain⟨y3,_,rfl,h3,hx⟩:=hx.cons;obtain⟨y4,_,rfl,h4,hx⟩:=hx.cons;obtain⟨y5,_,rfl,h5,hx⟩:=hx.cons;cases hx.nil;exact⟨p,_,rfl,r.g.gh.tup hp,rfl,y1,_,rfl,y2,_,rfl,y3,_,rfl,y4,_,rfl,y5,_,rfl,rfl,k _ _ G H _ h (Zr.refl _) (((((r.zdH h1).zdH h2).zdH h3).zdH h4).zdH h5)⟩
end
open PySem PySem.Spec PyProof.Rows
section
variable {X:Cx}{aa:List (AD×Obj)}{σ:St}{H:Hp}{s:SH}{sc:Scope}{x x2:Str}{cap:List Str}
def znk(K:FG)(i:Nat)(wi:TI)(js:List Nat)(tt:TT)(te:TE):TS:=λD σ H=>zmI K wi js tt te σ H λv H' => D.nx (σ.set i (some v)) H'
def zlc(S:Wa X.env.scope sc x x2 cap){js:List Nat}(hjs:js.map (λj=>X.N[j]?)=cap.map some)(hc:X.calm=true)(hxe:∀ e s,¬ X.xe e s){elt iter:Expr}{ifs:List Expr}{pos px py pz tpos spos:Pos}{tk:Nat}{wi:TI}{tt:TT}{te:TE}{i:Nat}{y:Str}(hN:X.N.Nodup)(hi' : X.N[i]?=some y)(hy:X.env.scope.names.lookup y=some .local)(hi:PI X (.Tuple [.Name x px,.Name x2 pz] tk tpos) iter wi)(hb:∀ C s0 H0 ex,PIf (YG X sc (x::x2::cap) C s0 H0 ex) ifs tt/\PE (YG X sc (x::x2::cap) C s0 H0 ex) elt te)(hsw:swapsWith (.ListComp elt [⟨.Tuple [.Name x px,.Name x2 pz] tk tpos,iter,ifs,0⟩] sc pos) (some (.Name y py)) spos.line X.env=pure true:=by rfl)(hs:∀ x,foldedSetIterable iter X.env x=pure x:=by intro _;rfl):PS X (.Assign [.Name y py] (.ListComp elt [⟨.Tuple [.Name x px,.Name x2 pz] tk tpos,iter,ifs,0⟩] sc pos) spos) (znk X.K i wi js tt te):=by
 intro aa s σ H D0 I h;rw[exec_Assign_Name_used _ _ _ _ hsw];refine Ia (Dz (Ia ?_));show wpAny _ X.A (do let _ ← comprehension (.ListComp elt [⟨.Tuple [.Name x px,.Name x2 pz] tk tpos,iter,ifs,0⟩] sc pos) sc X.env _ (newList []) false (eval iter X.env) (some (assign (.Name y py) X.env))) _ _ s;refine Ia (N0 (OZ (use:=some (assign (.Name y py) X.env)) (Q:=λ_ s' => SP X aa D0 .next s') rfl hs (Xo (S.n.cells I.ok)) S.kind S.names
  (thn (hi aa s σ H _ I h) λxv s₁ h₁=>thn h₁ λitv s₂ h₂=>?_)) (λ_ s' hq=>Ic (Ic hq)) λ_ _ e=>e)
 obtain⟨it,fp,tn,J,H2,e,I2,T,st2,f2,W,w0,turn⟩:=h₂;subst e;refine QH (xs:=[x,x2]) (Q:=λv H' => D0.nx (σ.set i (some v)) H') (RR:=λacc C=>compPost (model X.prog X.w) X.A X.xe (some (assign (.Name y py) X.env)) (λ_ s' => SP X aa D0 .next s') acc C) S.n hjs (λ_ _ _ _=>hc) (S.pg hc) (λC=>hb C _ _ _) I2 T st2 f2 w0 (zij turn) ?_;intro D C s' σ' H' ys its k hD hC J' rv hz q;have gtC:∀{b:AD},b<s₂.heap.objs.size->b≠C:=λh=>by rw[hC];exact zeZ (NO h)
 have pinD:=J'.pin (D,{cls:=.type "list",data:=.seq its.toArray k}) (IG _ (Ij.mpr rfl));obtain⟨m,hn,_⟩:=id J'.loc;have hn:s'.heap.Ns C m:=hn;obtain⟨oC,es,ep,hoC,hdC,rest⟩:=id hn;have hCn:C∉X.fs/\C≠X.env.locals:=by
  constructor
  .intro hb';obtain⟨_,o,ho,_⟩:=I2.zcd.mem hb';exact gtC (IN ho) rfl
  .exact λz=>gtC I2.lt z.symm
 have I3:Inv X aa σ (upd H' D (.lst ys)) s':=QQ (xs:=[x,x2]) (h':=s'.heap) S.n I2 f2 hD hC J' pinD.2.1 pinD.1 rv hz (.refl ..);have hDC:C≠D:=by rw[hC,hD];exact znI (OB _)
 have hH'C:H' C=none:=J'.free;have I4:Inv X [(C,oC)] σ (upd H' D (.lst ys)) s':=I3.JL λp hp=>by
  have hp' : p=(C,oC):=by simpa using hp
  subst hp';exact⟨hoC,by rw[Zk hDC];exact hH'C,hCn.2,hCn.1,λv z=>by rw[hdC]at z;cases z⟩
 have I5:Inv X (aa++[(C,oC)]) σ (upd H' D (.lst ys)) s':=I3.JL λp hp=>by
  rcases Nz.mp hp with hp | hp
  .exact I3.pin p (IG _ hp)
  .exact I4.pin p (IG _ hp)
 show wpAny _ X.A (assign (.Name y py) X.env (.ref D)) _ _ _;refine wpAny_assign_Name (VP I5 hN hi' (.inl hy) (v:=.ref D) rfl (λs6 I6=>?_) (.inr hy));have pinC:=I6.pin (C,oC) (IG _ (IG _ (Ij.mpr rfl)));refine⟨m,⟨oC,es,ep,pinC.1,hdC,rest⟩,λh' hs' => ⟨_,_,?_,q D pinD.2.1⟩⟩;refine I6.J4.turned (it:=C) (h':=h') (t':=s6.toks) (λb o hb' e=>hs'.extBut b o hb' e) pinC.2.1 hCn.2 (.inr ?_) (λy' c e z=>?_) λp hp z=>?_
 .rw[hC];exact Nat.le_succ_of_le I2.sz
 .obtain⟨v',o,ho,_⟩:=I2.cell y' c e;exact gtC (IN ho) z
 .exact gtC (IN (I2.pin p hp).1) z
end
end L2
namespace M41
open PySem L2
variable {k:Kn}
noncomputable def zad(k:Kn)(i:Nat):List Nat:=i::((pairsOf k).filter λq=>decide (q.2=i)).map Prod.fst
noncomputable def zcV(k:Kn)(j:Nat):List Nat:=j::((pairsOf k).filter λq=>decide (q.1=j)).map Prod.snd
noncomputable def zcR(k:Kn)(j a:Nat):List (Nat×Nat):=((zcV k j).filter λb=>!decide ((a,b)∈pairsOf k)).map λb=>(a,b)
def V6(k:Kn):(pairsOf k).Nodup:=by rw[YT];exact(zf5 _).filter _
def zdc{i a:Nat}(hi:i<k.length):a∈zad k i↔a=i\/(a<k.length/\ah k a i=true):=by unfold zad;rw[IE,IB];refine or_congr_right ⟨?_,λ⟨h1,h2⟩=>⟨(a,i),Nj.mpr ⟨ZJ.mpr ⟨h1,hi,h2⟩,Iw rfl⟩,rfl⟩⟩;rintro⟨q,hq,rfl⟩;obtain⟨h1,h2⟩:=Nj.mp hq;have h2:=IC h2;obtain⟨h3,_,h4⟩:=ZJ.mp h1;rw[h2]at h4;exact⟨h3,h4⟩
def zhz{j b:Nat}(hj:j<k.length):b∈zcV k j↔b=j\/(b<k.length/\ah k j b=true):=by unfold zcV;rw[IE,IB];refine or_congr_right ⟨?_,λ⟨h1,h2⟩=>⟨(j,b),Nj.mpr ⟨ZJ.mpr ⟨hj,h1,h2⟩,Iw rfl⟩,rfl⟩⟩;rintro⟨q,hq,rfl⟩;obtain⟨h1,h2⟩:=Nj.mp hq;have h2:=IC h2;obtain⟨_,h3,h4⟩:=ZJ.mp h1;rw[h2]at h4;exact⟨h3,h4⟩
def zjS{i:Nat}(o:IsO k)(hi:i<k.length):(zad k i).Nodup:=by
 unfold zad;refine NT.mpr ⟨λz=>?_,?_⟩
 .obtain⟨q,hq,e⟩:=IB.mp z;obtain⟨h1,h2⟩:=Nj.mp hq;have h2:=IC h2;have h4:=(ZJ.mp h1).2.2;rw[h2,e,o.ir i hi]at h4;cases h4
 .refine OY.mpr (((V6 k).filter _).imp_of_mem λ{x y} hx hy ne e=>ne ?_);have h1:=IC (Nj.mp hx).2;have h2:=IC (Nj.mp hy).2;exact DA e (h1.trans h2.symm)
def zjl{j:Nat}(o:IsO k)(hj:j<k.length):(zcV k j).Nodup:=by
 unfold zcV;refine NT.mpr ⟨λz=>?_,?_⟩
 .obtain⟨q,hq,e⟩:=IB.mp z;obtain⟨h1,h2⟩:=Nj.mp hq;have h2:=IC h2;have h4:=(ZJ.mp h1).2.2;rw[h2,e,o.ir j hj]at h4;cases h4
 .refine OY.mpr (((V6 k).filter _).imp_of_mem λ{x y} hx hy ne e=>ne ?_);have h1:=IC (Nj.mp hx).2;have h2:=IC (Nj.mp hy).2;exact DA (h1.trans h2.symm) e
def zeU{i j:Nat}(o:IsO k)(hi:i<k.length)(hj:j<k.length):(pairsOf k++(zad k i).flatMap (zcR k j)).Perm (pairsOf (wl k i j)):=by
 have mm:∀{q:Nat×Nat},q∈(zad k i).flatMap (zcR k j)↔(q.1∈zad k i/\q.2∈zcV k j)/\q∉pairsOf k:=λ{q}=>by
  rw[OF];constructor
  .rintro⟨a,ha,hq⟩;obtain⟨b,hb,rfl⟩:=IB.mp hq;obtain⟨h1,h2⟩:=Nj.mp hb;exact⟨⟨ha,h1⟩,by simpa using h2⟩
  .rintro⟨⟨h1,h2⟩,h3⟩;exact⟨q.1,h1,IB.mpr ⟨q.2,Nj.mpr ⟨h2,by simpa using h3⟩,rfl⟩⟩
 refine(OS ?_ (V6 _)).mpr λq=>?_
 .rw[nodup_append];refine⟨V6 k,?_,λa ha b hb e=>?_⟩
  .show List.Pairwise (· ≠ ·) _;rw[Dl];refine⟨λa _=>OY.mpr (((zjl o hj).filter _).imp λne e=>ne (by injection e)),(zjS o hi).imp λ{a b} ne x hx y hy e=>ne ?_⟩;obtain⟨_,_,rfl⟩:=IB.mp hx;obtain⟨_,_,rfl⟩:=IB.mp hy;injection e
  .subst e;exact(mm.mp hb).2 ha
 .rw[Nz,mm,ZJ (k:=wl k i j),Yq,zdc hi,zhz hj];constructor
  .rintro(h | ⟨⟨h1,h2⟩,h3⟩)
   .obtain⟨a,b,c⟩:=ZJ.mp h;exact⟨a,b,by rw[Qy a,c];rfl⟩
   .have q1:q.1<k.length:=by rcases h1 with h | h;omega;exact h.1
    have q2:q.2<k.length:=by rcases h2 with h | h;omega;exact h.1
    refine⟨q1,q2,?_⟩;rw[Qy q1];simp only[Oh,NR,Oz];exact .inr ⟨h1.imp id λh=>h.2,h2.imp id λh=>h.2⟩
  .rintro⟨q1,q2,h⟩;rw[Qy q1]at h;simp only[Oh,NR,Oz]at h;by_cases z:q∈pairsOf k
   .exact .inl z
   .rcases h with h | ⟨h1,h2⟩
    .exact absurd (ZJ.mpr ⟨q1,q2,h⟩) z
    .exact .inr ⟨⟨h1.imp id λh=>⟨q1,h⟩,h2.imp id λh=>⟨q2,h⟩⟩,z⟩
def zeF(h8:k.length<=8):((pairsOf k).map up).Pairwise λa b=>a.1*1000+a.2<=b.1*1000+b.2:=by
 have e:(pairsOf k).map up=zgv k.length ((pairsOf k).map up):=by rw[Q3];congr 1;rw[YT];unfold Yc;refine Dy λq hq=>?_;rw[N4,Nf,Nj];exact⟨λh=>⟨hq,h⟩,λh=>h.2⟩
 rw[e];refine O3 (λ{a b} ha hb h=>?_) (zcx _ _);have:=IC h;have h1:=V4.mp (Nj.mp ha).1;have h2:=V4.mp (Nj.mp hb).1;omega
end M41
namespace L2
open PySem PySem.Spec PyProof.Rows MeetsSeq
variable {a b:AD}{o:Obj}{h:Heap}{d:PD}{v:Value}{i:Nat}
def Vt(t:AD)(items:Array Value)(n:Nat)(dct:Option AD)(sl:Array (Option Value))(x:Value)(e:Value->Bool)(he:∀ y,y∈items->EqGives y x (e y))(j:Nat)(hj:j<items.size)(hit:e items[j]=true)(hno:∀ m (hm:m<items.size),m<j->e items[m]=false):
  Meets (Builtin.«tuple.index» ⟨[.ref t,x],[]⟩) (λ_ R s=>s.heap.get? t=some {cls:=.type "tuple",dict:=dct,data:=.seq items n,slots:=sl}/\R (.ok (.ret (.int j s.toks))) {s with toks:=s.toks+1}):=
 .of_wp λprog w A R s h=>by
  obtain⟨hp,g,d,tk,os⟩:=s;obtain⟨q1,h⟩:=h
  wp_walk using wpAny_loadPart' q1
  show wpAny (model prog w) A.in1 (forIn ([:min items.size items.size]:Std.Legacy.Range) ((none:Option Fin),()) _) _ _ _;rw[Std.Legacy.Range.forIn_eq_forIn_range'];have hz:[:min items.size items.size].size=items.size:=by simp[Std.Legacy.Range.size]
  rw[hz];refine OK _ (λrest b s' => s'=⟨hp,g,d,tk,os⟩/\b=(none,())/\∃ i,i<=j/\rest=range' i (items.size-i)) _ ?_ ?_ _ _ ⟨rfl,rfl,0,NN _,rfl⟩
  .rintro i rest b s' ⟨rfl,rfl,k,hk,hr⟩;have hlt:k<items.size:=by omega
   have hr' : i=k/\rest=range' (k+1) (items.size-(k+1)):=by rw[show items.size-k=(items.size-(k+1))+1 by omega,List.range'_succ]at hr;injection hr with e1 e2;exact⟨e1,e2⟩
   obtain⟨rfl,rfl⟩:=hr';have hi:items[i]?=some items[i]:=by simp[hlt]
   rw[hi];dsimp only;refine Ia (he _ (Array.getElem_mem hlt) prog w _ _ _ _ ?_);by_cases hij:i=j
   .subst hij;rw[hit,Iz rfl]
    wp_walk
    exact⟨_,rfl,h⟩
   .rw[hno i hlt (by omega)];exact Ic ⟨rfl,rfl,i+1,by omega,rfl⟩
  .rintro b s' ⟨rfl,rfl,k,hk,hr⟩;have:items.size-k=0:=by have:=ND List.length hr;simpa using this.symm
   omega
open PySem PySem.Spec PyProof.Rows
noncomputable def zgE(K:FG):Bool:=K.all λp=>p.2.dict.isNone || !(p.2.cls == .type "tuple")
theorem Uy{α β:Type}[BEq α][LawfulBEq α]{a:α}{b:β}:∀{l:List (α×β)},l.lookup a=some b->(a,b)∈l
 |[],h=>by cases h
 |(x,y)::l,h=>by
  rw[DD]at h;cases e:a==x with
  |true=>rw[e]at h;rw[eq_of_beq e];cases h;exact Ir
  |false=>rw[e]at h;exact Im _ (Uy h)
def zfK{K:FG}(h:zgE K=true)(hk:K.lookup a=some o)(hc:o.cls = .type "tuple"):o.dict=none:=by
 have:=all_eq_true.mp h (a,o) (Uy hk);dsimp only at this;rw[hc]at this;have e:((Value.type "tuple" : Value) == .type "tuple")=true:=by rfl
 rw[e]at this;simpa using this
section
variable {X:Cx}{o e:Expr}{es:List Expr}{to:TE}{t:TA}{name:Str}{apos cpos:Pos}{id:String}{r:V->List V->Hp->VK->Prop}
def znv(K:FG)(r:V->List V->Hp->VK->Prop)(to:TE)(t:TA):TE:=fun σ H Q=>to σ H λx H1=>(∃ p xs,x = .ref p/\SqT K H1 p xs)/\t σ H1 λvs H2=>r x vs H2 Q
def zii{K:FG}(eK:X.K=K)(hnd:zgE K=true)(slot:Slot "tuple" name id)(hty:typeOf (.builtin id)=pure (.type "method_descriptor"))(hm:MtR X id r)(ho:PE X o to)(ha:PA X (e::es) t)(hbase:attributeBase o name X.env (eval o X.env)=eval o X.env:=by rfl)(hfew:((backTo cpos (starEach (e::es) X.env)).all (λx=>!x.1)&&(backToKw cpos (keywordEach [] X.env)).all (λx=>x.1.isSome)
   && decide ((e::es).length+([]:List Keyword).length+(if([]:List Keyword).isEmpty then 0 else 1)<30))=true:=by rfl)(hline:(apos.endLine==cpos.line)=true:=by rfl)(hs:starEach (e::es) X.env=(false,eval e X.env)::starEach es X.env:=by rfl)(hplain:(backTo cpos (starEach es X.env)).any (·.1)=false:=by rfl):
  PE X (.Call (.Attribute o name apos) (e::es) [] cpos) (znv K r to t):=by
 subst eK;intro aa s σ H Q I h;refine wpAny_Call_method_late hbase hfew hline rfl (thn (ho aa s σ H _ I h) λv s1 ⟨x,H1,I1,r1,⟨p,xs,ex,hp⟩,q1⟩=>?_);subst ex;cases(show v=Value.ref p from r1);obtain⟨its,_,pt,_⟩:=I1.tuple hp;have nd:ziz s1.heap p:=by
  rcases hp with h | ⟨o,its,n,hk,hc,_⟩
  .obtain⟨_,_,_,_,nd⟩:=h.ok I1.ab;exact nd
  .exact⟨o,I1.kIn p o hk,zfK hnd hk hc⟩
 refine⟨"tuple",id,PySem.F.plainAttrs_tuple,slot,hty,pt.typeIs,λa ea=>?_,?_⟩
 .cases ea;exact nd
 have hA:=ha cpos aa s1 σ H1 _ I1 q1;rw[hs]at hA ⊢;refine Calls.callWith_builtin (by show(false||(backTo cpos (starEach es X.env)).any (·.1))=false;rw[hplain] <;> rfl) (Calls.evalArgs_plain ?_);exact thn hA λus s2 ⟨vs,H2,I2,r2,q2⟩=>hm aa s2 σ H2 (.ref p) vs (.ref p) us Q I2 (show RelV (.ref p) (.ref p)from rfl) r2 q2
end
noncomputable def zoh(z:Int):Value->Bool
 |.int a _=>a==z
 |_=>false
section
variable {X:Cx}
def zaR(K:FG):V->List V->Hp->VK->Prop:=λx vs H Q=>∃(p:AD)(ws:List Int)(z:Int),x = .ref p/\vs=[.int z]/\SqT K H p (ws.map V.int)/\z∈ws/\Q (.int (ws.idxOf z:Nat)) H
def zau{K:FG}(eK:X.K=K):MtM X "tuple.index" (zaR K):=by
 subst eK;intro aa s σ H x vs v us Q I rx rv h;obtain⟨p,ws,z,rfl,rfl,hp,hz,q⟩:=h;cases rx;obtain⟨u,rfl,ru⟩:=vals1 rv;obtain⟨t,rfl⟩:=ru;obtain⟨its,r,pt,hl⟩:=I.tuple hp;obtain⟨⟨c,dct,dt,sl⟩,e1,e2,n,e3⟩:=pt
 replace e2:c = .type "tuple" := e2
 replace e3:dt = .seq its.toArray n:=e3
 subst e2 e3;have hlen:its.length=ws.length:=by rw[← r.length,Ie]
 have el:∀(i:Nat)(hi:i<its.toArray.size),∃ t',its.toArray[i]=Value.int (ws.getD i z) t':=λi hi=>by
  have hi' : i<its.length:=by simpa using hi
  obtain⟨u,hu,ru⟩:=r.get (i:=i) (x:=V.int (ws.getD i z)) (by rw[Ik,II,Ib (by omega)];rfl);obtain⟨t',rfl⟩:=ru;refine⟨t',?_⟩;have:its[i]=Value.int (ws.getD i z) t':=by rw[Ib hi']at hu;exact IA hu
  simpa using this
 have hjl:ws.idxOf z<its.length:=by rw[hlen];exact Oa hz
 refine ON F.slot_tuple_index ⟨_,e1,rfl⟩ F.entry_tuple_index (F.args_tuple_index_2 _ _)
  (Vt p its.toArray n dct sl (.int z t) (zoh z) (λy hy=>?_) (ws.idxOf z) (by simpa using hjl) ?_ λm hm hlt=>?_) ⟨e1,?_⟩
 .obtain⟨i,hi,rfl⟩:=Array.mem_iff_getElem.mp hy;obtain⟨t',e⟩:=el i hi;rw[e];exact PySem.MeetsSeq.EqGives.int _ _ _ _
 .obtain⟨t',e⟩:=el _ (by simpa using hjl);rw[e];have:ws.getD (ws.idxOf z) z=z:=by rw[II,Ib (by omega)];exact getElem_idxOf (by omega)
  rw[this];show(z==z)=true;exact O6 z
 .obtain⟨t',e⟩:=el m hm;rw[e];show(ws.getD m z==z)=false;have hm' : m<ws.length:=by have:m<its.length:=(by simpa using hm);omega
  have hne:(ws[m]==z)=false:=List.not_of_lt_findIdx (p:=(· == z)) (xs:=ws) hlt;rw[II,Ib hm'];exact hne
 .exact⟨.int _,H,I.tok _,⟨_,rfl⟩,q⟩
end
section
variable {K:FG}{B:Hp}{ρ:List PV}{σ:St}{G:Hp}{ta tb te:TE}
theorem zas{G:Hp}:∀{ws:List Int}{xs:List V},ZX K G xs (ws.map PyData.int)->xs=ws.map V.int
 |[],xs,h=>h.nil
 |w::ws,xs,h=>by obtain⟨y,ys,rfl,hy,hr⟩:=h.cons;rw[hy.int,zas hr];rfl
def zj9{ws:List Int}{z:Int}(ha:Ev K ta σ G (.tuple (ws.map .int)))(hb:Ev K tb σ G (.int z))(hz:z∈ws):Ev K (znv K (zaR K) ta (YQ tb V5)) σ G (.int (ws.idxOf z:Nat)):=λG1 H s1 s2 Q k=>
 ha G1 H s1 s2 _ λv G2 H2 g2 hv=>by obtain⟨p,xs,rfl,hp,hx⟩:=hv.tup;have e:=zas hx;subst e;refine⟨⟨p,_,rfl,g2.gh.tup hp⟩,hb G2 H2 (s1.trans g2.gg) g2.gh _ λu G3 H3 g3 hu=>?_⟩;rw[hu.int];exact⟨p,ws,z,rfl,rfl,g3.gh.tup (g3.gg.tup hp),hz,k _ G3 H3 (g2.trans g3) (Zy _)⟩
def zeT{ws:List Int}{z:Int}(ha:Er K B ta ρ (.tuple (ws.map .int)))(hb:Er K B tb ρ (.int z))(hz:z∈ws):Er K B (znv K (zaR K) ta (YQ tb V5)) ρ (.int (ws.idxOf z:Nat)):=λG σ r=>zj9 (ha G σ r) (hb G σ r) hz
end
open PySem
structure IK(P:Program)(w:World)(K:Type)[DecidableEq K] where
 is:Heap->K->Value->Prop
 hash:K->Int
 draws:K->Nat
 lv:Nat
 inj:∀{h:Heap}{v:Value}{x y:K},is h x v->is h y v->x=y
 keeps:∀{h h' : Heap}{k:K}{v:Value}{d:AD}{o:Obj}{es ep},is h k v->h.get? d=some o->o.data = .dict es ep->SameBut d h h' -> is h' k v
 hashes:∀{A:Around}{E:Value->SH->Prop}{s:SH}{k:K}{v:Value}{Q:Int->SH->Prop},A.units+lv<cLine->is s.heap k v->Q (hash k) {s with toks:=s.toks+draws k}->wpAny (model P w) A (pyHash v) Q E s
 same:∀{A:Around}{E:Value->SH->Prop}{s:SH}{x y:K}{u v:Value}{Q:Bool->SH->Prop},A.units+lv<cLine->is s.heap x u->is s.heap y v->Q (decide (x=y)) s->wpAny (model P w) A (eqBool u v) Q E s
 quiet:∀{A:Around}{E:Value->SH->Prop}{s:SH}{k:K}{v:Value}{Q:Bool->SH->Prop}(n:Nat),lv<=n->is s.heap k v->Q true s->wpAny (model P w) A (eqIsQuiet n v) Q E s
noncomputable def ikV{P:Program}{w:World}{K:Type}[DecidableEq K](q:KeyKind P w K):IK P w K where
 is:=λ_ k v=>q.is k v=true
 hash:=q.hash
 draws:=λ_=>1
 lv:=0
 inj:=λa b=>q.inj _ _ _ a b
 keeps:=λa _ _ _=>a
 hashes:=λ_ a z=>q.pyHash a z
 same:=λ_ a b z=>q.eqBool a b z
 quiet:=λn _ a z=>by rw[eqIsQuiet_byValue n (q.byValue _ _ a)];exact Ic z
section
variable {P:Program}{w:World}{K:Type}[DecidableEq K]{q:IK P w K}
inductive Row(q:IK P w K)(h:Heap):List K->List Value->Prop
 |nil:Row q h [] []
 |cons {k:K}{v:Value}{ks:List K}{vs:List Value}(_:q.is h k v) (_:Row q h ks vs):Row q h (k::ks) (v::vs)
inductive Qe(q:IK P w K)(h:Heap)(ks:List K):Value->Prop
 |mk (a:AD) (o:Obj) (its:Array Value) (n:Nat) (_:h.get? a=some o) (_:o.cls = .type "tuple") (_:o.data = .seq its n) (_:Row q h ks its.toList):Qe q h ks (.ref a)
theorem Row.inj :∀{x y:List K}{vs:List Value},Row q h x vs->Row q h y vs->x=y
 |_,_,_,.nil,.nil=>rfl
 |_,_,_,.cons a r,.cons b t=>by rw[q.inj a b,r.inj t]
theorem Row.keeps{h':Heap}{d:AD}{es ep}(e1:h.get? d=some o)(e2:o.data = .dict es ep)(e3:SameBut d h h'):∀{x:List K}{vs:List Value},Row q h x vs->Row q h' x vs
 |_,_,.nil=>.nil
 |_,_,.cons a r=>.cons (q.keeps a e1 e2 e3) (r.keeps e1 e2 e3)
theorem Qe.inj{x y:List K}(a:Qe q h x v)(b:Qe q h y v):x=y:=by obtain⟨p,o,its,n,e1,_,e3,r⟩:=a;generalize hv:Value.ref p=v at b;obtain⟨p',o',its',n',f1,_,f3,t⟩:=b;injection hv with hv;subst hv;cases e1.symm.trans f1;rw[e3]at f3;injection f3 with f3 _;subst f3;exact r.inj t
theorem Qe.keeps{h':Heap}{k:List K}{d:AD}{es ep}(a:Qe q h k v)(e1:h.get? d=some o)(e2:o.data = .dict es ep)(e3:SameBut d h h'):Qe q h' k v:=by
 obtain⟨p,o',its,n,f1,f2,f3,r⟩:=a;have ne:p≠d:=λz=>by subst z;cases f1.symm.trans e1;rw[e2]at f3;cases f3
 exact⟨p,o',its,n,(e3.2 p ne).trans f1,f2,f3,r.keeps e1 e2 e3⟩
noncomputable def Jg(q:IK P w K)(ks:List K):Nat:=(ks.map q.draws).sum
variable {s:SH}{A:Around}{E:Value->SH->Prop}
def Qe.ty{k:List K}(a:Qe q s.heap k v):s.TypeIs v "tuple" := by obtain⟨p,o,its,n,f1,f2,_,_⟩:=a;exact⟨o,f1,f2⟩
def zdl(ks:List K){Q:Int->SH->Prop}(hu:A.units+(q.lv+1)<cLine)(a:Qe q s.heap ks v)(z:Q (reduceHash (Builtin.Tuple.tupleHashOf (ks.map q.hash))) {s with toks:=s.toks+(Jg q ks+1)}):wpAny (model P w) A (pyHash v) Q E s:=by
 have ty:=a.ty;obtain⟨p,o,its,n,f1,f2,f3,r⟩:=a;unfold pyHash pyHashByItsType;refine Ia (wpAny_cRoomFor_or (.inr (by omega)) ?_);refine Ia (OV ty F.slot_tuple_hash.lookup ?_);have nn:¬ (some (Value.builtin "tuple.__hash__")==some Value.none)=true:=by rw[beq_builtin_none];exact Ii
 show wpAny _ _ (ite ((some (Value.builtin "tuple.__hash__")==some Value.none)=true) _ _) Q E s;rw[Iq nn];refine Ia (OV ty F.slot_tuple_hash.lookup ?_);show wpAny _ _ (callSpecialIfBoundUnlessNone? (.ref p) "__hash__" _ >>= _) Q E s;refine Ia (wpAny_callSpecialIfBoundUnlessNone?_slot ty F.slot_tuple_hash (Nn F.slot_tuple_hash ty F.entry_tuple_hash ?_ (F.args_tuple_hash_1 _)));show wpAny _ _ (Builtin.Tuple.tupleItemsOf (.ref p) >>= _) _ _ s;refine Ia (wpAny_tupleItemsOf f1 f3 (Ia ?_));rw[← forIn_toList];refine OK _ (λrest (b:Array Int) s' => ∃ fst lst,ks=fst++lst/\Row q s.heap lst rest/\b.toList=fst.map q.hash/\s'={s with toks:=s.toks+Jg q fst}) _ ?_ ?_ _ _ ⟨[],ks,rfl,r,rfl,rfl⟩
 .rintro x rest b s' ⟨fst,lst,rfl,hl,hb,rfl⟩;cases hl with
  |@cons k _ ks' _ h1 hl' =>
   have more:∃ f' l',fst++k::ks'=f'++l' /\ Row q s.heap l' rest/\(b.push (q.hash k)).toList=f'.map q.hash/\({s with toks:=s.toks+Jg q fst+q.draws k}:SH)={s with toks:=s.toks+Jg q f'}:=⟨fst++[k],ks',by simp,hl',by simp[hb],by unfold Jg;simp[Nat.add_assoc]⟩
   refine Ia (q.hashes (show A.units+1+q.lv<cLine by omega) h1 ?_)
   first
    |exact Ic more
    |exact Ia (Ic (Ic more))
 .rintro b s' ⟨fst,lst,rfl,hl,hb,rfl⟩;cases hl;rw[Nx]at z;show wpAny _ _ (retInt (Builtin.Tuple.tupleHashOf b.toList)) _ _ _;rw[hb];refine wpAny_ret_mkInt ?_;generalize Builtin.Tuple.tupleHashOf (fst.map q.hash)=t at z;show wpAny _ _ (if(decide (-(2:Int)^63<=t)&&decide (t<2^63))=true then _ else _) Q E _;unfold reduceHash at z;split
  .rename_i c
   rw[Iz c]at z;exact Ic z
  .rename_i c
   rw[Iq c]at z;exact Ia (Da (Ic z))
def zdr{x y:List K}{u:Value}{Q:Bool->SH->Prop}(hu:A.units+(q.lv+1)<cLine)(a:Qe q s.heap x u)(b:Qe q s.heap y v)(z:Q (decide (x=y)) s):wpAny (model P w) A (eqBool u v) Q E s:=by
 by_cases huv:u=v
 .subst huv;obtain rfl:=a.inj b;cases a with
  |mk p o its n f1 f2 f3 r=>
  unfold eqBool;try with_reducible refine I9 ?_
  show wpAny _ _ (if(Value.ref p==Value.ref p)=true then _ else _) Q E s;rw[Iz (O6 _)];exact Ia (Da (Ic (by simpa using z)))
 have ta:=a.ty;have tb:=b.ty;cases a with
 |mk p o its n f1 f2 f3 r=>
 cases b with
 |mk p' o' its' n' g1 g2 g3 t=>
 unfold eqBool;try with_reducible refine I9 ?_
 show wpAny _ _ (if(Value.ref p==Value.ref p')=true then _ else _) Q E s;rw[Iq (λe=>huv (eq_of_beq e))];refine Ia (wpAny_richCompare_same_room (op:=.Eq) ta tb F.slot_tuple_eq (Nn F.slot_tuple_eq ta F.entry_tuple_eq ?_ (F.args_tuple_eq_2 _ _)) (by omega));show wpAny _ _ (isInstance (.ref p') (.type "tuple") >>= _) _ _ s;refine Ia (N8 tb isSubtype_tuple_tuple ?_);rw[show(!true)=false from rfl,Iq Ii];refine Ia (wpAny_tupleItemsOf f1 f3 (Ia (wpAny_tupleItemsOf g1 g3 (Ia ?_))));refine OK _ (λrest c s' => c.1=none/\s'=s/\∃ x' y' us vs,rest=List.zip us vs/\Row q s.heap x' us/\Row q s.heap y' vs/\decide (x'=y')=decide (x=y)/\(us.length==vs.length)=(its.size==its'.size)) _ ?_ ?_ _ _ ⟨rfl,rfl,x,y,its.toList,its'.toList,rfl,r,t,rfl,by simp⟩
 .rintro⟨m1,m2⟩ rest c s' ⟨hc,rfl,x',y',us,vs,hz,hx,hy,hd,hl⟩;cases hx with
  |nil=>simp at hz
  |@cons k1 u1 x2 us2 p1 hx2=>cases hy with
   |nil=>simp at hz
   |@cons k2 v1 y2 vs2 p2 hy2=>
    rw[zip_cons_cons]at hz;injection hz with hz hr;injection hz with z1 z2;subst z1 z2 hr;refine Ia (q.same (show A.units+1+q.lv<cLine by omega) p1 p2 ?_);by_cases e:k1=k2
    .subst e;rw[Iw rfl,show(!true)=false from rfl,Iq Ii];refine Ic ⟨rfl,rfl,x2,y2,us2,vs2,rfl,hx2,hy2,?_,by simpa using hl⟩;rw[← hd];by_cases e2:x2=y2
     .subst e2;simp
     .simp[e2]
    .have hf:decide (x=y)=false:=by rw[← hd];simp[e]
     rw[Ip e,show(!false)=true from rfl,Iz rfl];refine Ia (Ic (Ic (Ic ⟨_,rfl,(λe=>nomatch e),Ox ?_⟩)));rw[hf]at z;exact z
 .rintro⟨c1,c2⟩ s' ⟨hc,rfl,x',y',us,vs,hz,hx,hy,hd,hl⟩;dsimp only at hc;subst hc;refine Ic ⟨_,rfl,(λe=>nomatch e),Ox ?_⟩;have e:(its.size==its'.size)=decide (x=y):=by
   rw[← hd,← hl];cases hx with
   |nil=>cases hy with
    |nil=>simp
    |cons _ _=>simp
   |cons _ _=>cases hy with
    |nil=>simp
    |cons _ _=>simp at hz
  rw[← e]at z;exact z
def zbM{k:List K}{Q:Bool->SH->Prop}(n:Nat)(hn:q.lv+1<=n)(a:Qe q s.heap k v)(z:Q true s):wpAny (model P w) A (eqIsQuiet n v) Q E s:=by
 obtain⟨n,rfl⟩:∃ m,n=m+1:=⟨n-1,by omega⟩
 have ty:=a.ty;obtain⟨p,o,its,c,f1,f2,f3,r⟩:=a;unfold eqIsQuiet;refine Ia (OV ty F.slot_tuple_eq.lookup ?_);show wpAny _ _ (isInstance (.ref p) (.type "tuple") >>= _) _ _ s;refine Ia (N8 ty isSubtype_tuple_tuple ?_);rw[show(!true)=false from rfl,Iq Ii];refine Ia (Oc f1 f3 (Ia ?_));show wpAny _ _ (forIn its _ _) _ _ s;rw[← forIn_toList];refine OK _ (λrest c s' => c.1=none/\s'=s/\∃ ks,Row q s.heap ks rest) _ ?_ ?_ _ _ ⟨rfl,rfl,k,r⟩
 .rintro m rest c s' ⟨hc,rfl,ks,hr⟩;cases hr with
  |cons h1 hr2=>refine Ia (q.quiet n (by omega) h1 ?_);rw[show(!true)=false from rfl,Iq Ii];exact Ic ⟨rfl,rfl,_,hr2⟩
 .rintro⟨c1,c2⟩ s' ⟨hc,rfl,_⟩;dsimp only at hc;subst hc;exact Ic z
end
noncomputable def ikT{P:Program}{w:World}{K:Type}[DecidableEq K](q:IK P w K):IK P w (List K) where
 is:=λh k v=>Qe q h k v
 hash:=λk=>reduceHash (Builtin.Tuple.tupleHashOf (k.map q.hash))
 draws:=λk=>Jg q k+1
 lv:=q.lv+1
 inj:=λa b=>a.inj b
 keeps:=λa e1 e2 e3=>a.keeps e1 e2 e3
 hashes:=λhu a z=>zdl _ hu a z
 same:=λhu a b z=>zdr hu a b z
 quiet:=λn hn a z=>zbM n hn a z
noncomputable def hkT{P:Program}{w:World}{K:Type}[DecidableEq K](q:IK P w K)(h7:q.lv<=7):HeapKind P w (List K) where
 is:=λh k a=>Qe q h k (.ref a)
 hash:=λk=>reduceHash (Builtin.Tuple.tupleHashOf (k.map q.hash))
 draws:=λk=>Jg q k+1
 room:=λA=>A.units+(q.lv+1)<cLine
 inj:=λa b=>a.inj b
 keeps:=λa e1 e2 e3=>a.keeps e1 e2 e3
 pyHash:=λhu a z=>zdl _ hu a z
 eqBool:=λhu a b z=>zdr hu a b z
 quiet:=λa z=>zbM 8 (by omega) a z
abbrev NK:=List KF
noncomputable def zai(k:NK):PD:=.tuple (k.map Ug)
noncomputable def nkK(P:Program)(w:World):HeapKind P w NK:=hkT (ikT (ikV (Y6 P w))) (by show 0+1<=7;decide)
theorem VL{P:Program}{w:World}:∀{ks:List Key}{vs:List Value},ItemsAre (Y6 P w) ks vs->Row (ikV (Y6 P w)) h ks vs
 |_,_,.nil=>.nil
 |_,_,.cons a r=>.cons a (VL r)
def zcs{zs:List (NK×AD×Value)}{k:NK}(h:k∉zs.map (·.1)):atKey zs k=none:=by unfold atKey;rw[Option.map_eq_none_iff,find?_eq_none];exact λz hz e=>h (IB.mpr ⟨z,hz,IC e⟩)
section
variable {X:Cx}{aa:List (AD×Obj)}{σ:St}{H G:Hp}{s:SH}
def none_of(I:Inv X aa σ H s)(sg:Zr G H){k:KF}{v:V}{u:Value}(h:Dat X.K G v (Ug k))(r:RelV v u):Qe (ikV (Y6 X.prog X.w)) s.heap k u:=by obtain⟨p,zs,rfl,hp,hz⟩:=Dat.tup h;cases r;obtain⟨o,its,n,h1,h2,h3,h4⟩:=zbq I sg (b:=p) h;exact⟨p,o,its,n,h1,h2,h3,VL h4⟩
theorem zfo(I:Inv X aa σ H s)(sg:Zr G H):∀{k:NK}{vs:List V}{us:List Value},ZX X.K G vs (k.map Ug)->Vals vs us->Row (ikT (ikV (Y6 X.prog X.w))) s.heap k us
 |[],_,_,hd,hr=>by cases hd.nil;cases hr;exact .nil
 |x::k,_,_,hd,hr=>by
  obtain⟨u,us,rfl,hu,hus⟩:=hd.cons;cases hr with
  |cons r1 r2=>exact .cons (none_of I sg hu r1) (zfo I sg hus r2)
def zar(I:Inv X aa σ H s)(sg:Zr G H){k:NK}(h:Dat X.K G (.ref b) (zai k)):(nkK X.prog X.w).is s.heap k b:=by obtain⟨p,zs,e,hp,hz⟩:=Dat.tup h;cases e;obtain⟨its,r,⟨o,h1,h2,n,h3⟩,zz⟩:=I.tuple (sg.tup hp);exact⟨b,o,its.toArray,n,h1,h2,h3,by simpa using zfo I sg hz r⟩
end
abbrev NE:=NK×AD×V
def zbR(x:NE)(z:NK×AD×Value):Prop:=z.1=x.1/\z.2.1=x.2.1/\RelV x.2.2 z.2.2
def znL(P:Program)(w:World)(a:AD)(xs:List NE)(h:Heap):Prop:=(a==sysModules)=false/\xs.length<=sizeLine/\∃(zs:List (NK×AD×Value))(o:Obj)(es:Array DictEntry)(ep:Nat),h.get? a=some o/\o.ExactDict/\o.data = .dict es ep/\es.toList=zs.map (entryOfKey (nkK P w))/\Paired zbR xs zs/\(xs.map (·.1)).Nodup
noncomputable def dNl(P:Program)(w:World)(a:AD)(xs:List NE):HO:=.ext (znL P w a xs)
def zfT{P:Program}{w:World}{H:Hp}{xs:List NE}(x:znL P w a xs h):Yu P w H h a (dNl P w a xs):=by
 refine⟨x,?_,λh1 h2 y k=>?_⟩
 .obtain⟨_,_,_,o,_,_,e,_⟩:=x;exact⟨o,e⟩
 .obtain⟨z1,z2,zs,o,es,ep,e,r⟩:=y;exact⟨z1,z2,zs,o,es,ep,k o e,r⟩
theorem nk:∀{xs:List NE}{zs:List (NK×AD×Value)},Paired zbR xs zs->zs.map (·.1)=xs.map (·.1)/\∀ z∈zs,∃ x∈xs,zbR x z
 |_,_,.nil=>⟨rfl,λ_ h=>by cases h⟩
 |_,_,.cons r t=>by
  obtain⟨h1,h2⟩:=nk t;refine⟨by rw[Nt,Nt,h1,r.1],λz hz=>?_⟩;rcases IE.mp hz with rfl | hz
  .exact⟨_,Ir,r⟩
  .obtain⟨x,hx,e⟩:=h2 z hz;exact⟨x,Im _ hx,e⟩
theorem zcl:∀{xs:List NE}{zs:List (NK×AD×Value)},Paired zbR xs zs->∀{k:NK}{b:AD}{n:V},(xs.map (·.1)).Nodup->(k,b,n)∈xs->∃ u,atKey zs k=some (b,u)/\RelV n u
 |_,_,.nil,k,b,n,_,h=>by cases h
 |_,_,.cons (a:=x) (b:=z) r t,k,b,n,hn,h=>by
  unfold atKey;rcases IE.mp h with e | h
  .obtain⟨r1,r2,r3⟩:=r;subst e;refine⟨z.2.2,?_,r3⟩;rw[Dv,Iw r1];show some z.2=some (b,z.2.2);congr 1;exact DA r2 rfl
  .have hn' : x.1∉_/\_:=NT.mp hn;have ne:¬ z.1=k:=λe=>hn'.1 (IB.mpr ⟨_,h,by rw[← e,r.1]⟩);rw[Dv,Ip ne];exact zcl t hn'.2 h
noncomputable def zgt(xs:List NE)(k:NK):Bool:=xs.any λx=>decide (x.1=k)
def zdz{xs:List NE}{k:NK}:zgt xs k=true↔k∈xs.map (·.1):=by
 unfold zgt;rw[OG];constructor
 .rintro⟨x,hx,e⟩;exact IB.mpr ⟨x,hx,IC e⟩
 .intro h;obtain⟨x,hx,e⟩:=IB.mp h;exact⟨x,hx,Iw e⟩
def QF{xs:List NE}{zs:List (NK×AD×Value)}(pr:Paired zbR xs zs)(hnd:(xs.map (·.1)).Nodup)(k:NK):(atKey zs k).isSome=zgt xs k:=by
 by_cases h:k∈xs.map (·.1)
 .obtain⟨⟨k',b,n⟩,hx,rfl⟩:=IB.mp h;obtain⟨t,ht,_⟩:=zcl pr hnd hx;rw[ht,zdz.mpr h];rfl
 .rw[zcs (by rw[(nk pr).1];exact h),Od.mpr λz=>h (zdz.mp z)];rfl
noncomputable def zeR(k:NK)(v:V)(x:NE):NE:=if x.1=k then(x.1,x.2.1,v)else x
noncomputable def putN(xs:List NE)(k:NK)(b:AD)(v:V):List NE:=if zgt xs k then xs.map (zeR k v)else xs++[(k,b,v)]
theorem UT{k:NK}{v:V}{u:Value}(r:RelV v u):∀{xs:List NE}{zs:List (NK×AD×Value)},Paired zbR xs zs->Paired zbR (xs.map (zeR k v)) (zs.map (putAt k u))
 |_,_,.nil=>.nil
 |_,_,.cons (a:=x) (b:=z) h t=>by
  refine .cons ?_ (UT r t);obtain⟨h1,h2,h3⟩:=h;unfold zeR putAt;rw[h1];by_cases e:x.1=k
  .rw[Iz e,Iz e];exact⟨rfl,h2,r⟩
  .rw[Iq e,Iq e];exact⟨h1,h2,h3⟩
def zhq{k:NK}{v:V}{u:Value}(r:RelV v u){xs:List NE}{zs:List (NK×AD×Value)}(pr:Paired zbR xs zs)(hnd:(xs.map (·.1)).Nodup):Paired zbR (putN xs k b v) (storedH zs k b u):=by
 unfold putN storedH;rw[QF pr hnd];split
 .exact UT r pr
 .exact pr.snoc ⟨rfl,rfl,r⟩
def zcY{xs:List NE}{k:NK}{v:V}:(putN xs k b v).length<=xs.length+1:=by
 unfold putN;split
 .rw[Ie];omega
 .rw[Il];exact Ih _
section
variable {X:Cx}{aa:List (AD×Obj)}{σ:St}{H G:Hp}{s:SH}
def zio(P:Program)(w:World):TE:=λ_ H Q=>∀ p,H p=none->Q (.ref p) (upd H p (dNl P w p []))
def zhi{P:Program}{w:World}(eP:X.prog=P)(ew:X.w=w){pos:Pos}:PE X (.Dict [] [] pos) (zio P w):=by
 subst eP ew;exact λaa s σ H Q I h=>
 wpAny_Dict_empty ⟨.ref s.heap.objs.size,_,I.laid (a:=s.heap.objs.size) (o:=dNl X.prog X.w s.heap.objs.size []) (t':=s.toks) (λ_ _ q=>Ig _ q) (Ih _)
  (zfT ⟨NF.mpr (Ne.symm (IX I.big)),NN _,[],_,#[],0,Iu _ rfl,⟨rfl,rfl,rfl⟩,rfl,rfl,.nil,nodup_nil⟩),rfl,h _ (I.ab.fresh (Ih _))⟩
def zhS(I:Inv X aa σ H s)(sg:Zr G H){xs:List NE}(ha:Rd H a (dNl X.prog X.w a xs))(hxs:∀ z∈xs,Dat X.K G (.ref z.2.1) (zai z.1)):(a==sysModules)=false/\∃ zs,Paired zbR xs zs/\s.heap.DictOfH (nkK X.prog X.w) a zs/\(xs.map (·.1)).Nodup:=by
 obtain⟨⟨hsm,_,zs,o',es,ep,h1,h2,h3,h4,h5,h6⟩,_⟩:=(show Yu X.prog X.w H s.heap a (dNl X.prog X.w a xs)from ha.ok I.ab)
 obtain⟨q1,q2⟩:=nk h5;refine⟨hsm,zs,h5,⟨o',es,ep,h1,h2,h3,h4,λz hz=>?_,by rw[q1];exact h6⟩,h6⟩;obtain⟨x,hx,r⟩:=q2 z hz;have:=zar I sg (hxs x hx);rw[← r.1,← r.2.1]at this;exact this
def zid(P:Program)(w:World)(K:FG)(td ty tv:TE):TS:=λD σ H=>tv σ H λv H1=>td σ H1 λx H2=>ty σ H2 λy H3=>∃(a b:AD)(k:NK)(xs:List NE)(G:Hp),x = .ref a/\y = .ref b/\H3 a=some (dNl P w a xs)/\Zr G H3/\Dat K G (.ref b) (zai k)/\(∀ z∈xs,Dat K G (.ref z.2.1) (zai z.1))/\xs.length<sizeLine/\D.nx σ (upd H3 a (dNl P w a (putN xs k b v)))
def zdk{P:Program}{w:World}{K:FG}(eP:X.prog=P)(ew:X.w=w)(eK:X.K=K){o i value:Expr}{pos pos' : Pos}{td ty tv:TE}(hu:X.A.units+64<cLine)(ho:PE X o td)(hi:PE X i ty)(hv:PE X value tv)(hs:swapsWith value (some (.Subscript o i pos')) pos.line X.env=pure false):
  PS X (.Assign [.Subscript o i pos'] value pos) (zid P w K td ty tv):=by
 subst eP ew eK;intro aa s σ H D I h;refine wpAny_Assign_Subscript (thn (hv aa s σ H _ I h) λr s1 ⟨v,H1,I1,rv,q1⟩=>thn (ho aa s1 σ H1 _ I1 q1) λu s2 ⟨x,H2,I2,rx,q2⟩=>thn (hi aa s2 σ H2 _ I2 q2) λiv s3 ⟨y,H3,I3,ry,a,b,k,xs,G,ex,ey,ha,sg,hb,hxs,hl,q3⟩=>?_) hs;subst ex ey;obtain rfl:u=Value.ref a:=rx;obtain rfl:iv=Value.ref b:=ry;obtain⟨hsm,zs,pr,dd,hnd⟩:=zhS I3 sg (.inl ha) hxs;obtain⟨q1,_⟩:=nk pr;have hlz:zs.length=xs.length:=by have:=ND List.length q1;simpa using this
 refine wpAny_setItem_heap (hsz:=by omega) (show X.A.units+1+(0+1+1)<cLine by omega) (zar I3 sg hb) dd λh' dd' hs=>?_;obtain⟨q,es',ep',hq,g2,g3,g4,_,g5⟩:=dd';have pr':=zhq (k:=k) (b:=b) rv pr hnd;refine⟨σ,_,zgf I3 (by rw[ha];exact True.intro) hs ⟨q,hq⟩ (zfT ⟨hsm,?_,_,q,es',ep',hq,g2,g3,g4,pr',?_⟩),q3⟩
 .have:=zcY (xs:=xs) (k:=k) (b:=b) (v:=v);omega
 .rw[← (nk pr').1];exact g5
def znU(P:Program)(w:World)(K:FG):R2:=λx y H Q=>∃(n:V)(a b b' : AD)(k:NK)(xs:List NE)(G:Hp),x = .ref a/\y = .ref b/\Rd H a (dNl P w a xs)/\Zr G H/\Dat K G (.ref b) (zai k)/\(∀ z∈xs,Dat K G (.ref z.2.1) (zai z.1))/\(k,b',n)∈xs/\Q n H
def zmR{P:Program}{w:World}{K:FG}(eP:X.prog=P)(ew:X.w=w)(eK:X.K=K)(hu:X.A.units+64<cLine):IxR X (znU P w K):=by
 subst eP ew eK;intro value slice aa s σ H x y v u Q I rx ry h hs;obtain⟨n,a,b,b',k,xs,G,rfl,rfl,ha,sg,hb,hxs,hm,q⟩:=h;cases rx;cases ry;obtain⟨hsm,zs,pr,dd,hnd⟩:=zhS I sg ha hxs;obtain⟨t,ht,rt⟩:=zcl pr hnd hm;have hT:s.TypeIs (.ref a) "dict" := dd.typeIs;have h2:wpAny (model X.prog X.w) X.A (getItem (.ref a) (.ref b)) (EP X aa σ Q) X.xe s:=wpAny_getItem_heap (show X.A.units+1+(0+1+1)<cLine by omega) (zar I sg hb) dd ht ⟨n,H,I.tok _,rt,q⟩;unfold subscriptTail;refine Ia ?_;rw[getitemInPython_of_ne hT.not_modules];refine Ia (OV hT slot_dict_getitem.lookup ?_);have fin:wpAny (model X.prog X.w) X.A (subscripted slice false (.ref a) (.ref b)) (λr s₃=>wpAny (model X.prog X.w) X.A (letTemporaryGo value (.ref a) r >>= λ_=>pure r) (EP X aa σ Q) X.xe s₃) X.xe s:=by rw[hs];exact wpAny_operating (N0 h2 (λr s₃ h₃=>Ia (wpAny_letTemporaryGo (Ic h₃))) λ_ _ x=>x)
 first
  |exact Ic (Ia fin)
  |exact Ia (Ic (Ia fin))
  |exact Ia fin
def znK(P:Program)(w:World)(K:FG)(g:Bool->Bool):R2:=λx y H Q=>∃(a b:AD)(k:NK)(xs:List NE)(G:Hp),x = .ref b/\y = .ref a/\H a=some (dNl P w a xs)/\Zr G H/\Dat K G (.ref b) (zai k)/\(∀ z∈xs,Dat K G (.ref z.2.1) (zai z.1))/\Q (.bl (g (zgt xs k))) H
def zf3{P:Program}{w:World}{K:FG}(eP:X.prog=P)(ew:X.w=w)(eK:X.K=K)(hu:X.A.units+64<cLine):OpR X (compareOp .NotIn) (znK P w K λb=>!b):=by subst eP ew eK;intro aa s σ H x y v u Q I rx ry h;obtain⟨a,b,k,xs,G,rfl,rfl,ha,sg,hb,hxs,q⟩:=h;cases rx;cases ry;obtain⟨hsm,zs,pr,dd,hnd⟩:=zhS I sg (.inl ha) hxs;refine wpAny_notIn_heap (show X.A.units+1+(0+1+1)<cLine by omega) (zar I sg hb) hsm dd ?_;rw[QF pr hnd];exact⟨.bl (!zgt xs k),H,I.tok _,rfl,q⟩
end
section
variable {K:FG}{B:Hp}{E:AD->Prop}{G0 H0 G H G1 H1 G2 H2:Hp}{σ:St}{ρ:List PV}{F:Nat->List AD}{ta tb te:TE}{S:Type}{D:TF K S}{s s' : S}{p:AD}{fp:List AD}
def zgs(D:TF K S)(Pre:S->PD->PD->Prop)(R:S->PD->PD->PD->S->Prop):Sp:=λvs H Q _=>∃(p:AD)(fp:List AD)(u1 u2:V)(G:Hp)(s:S)(d1 d2:PD),vs=[u1,u2,.ref p]/\Zr G H/\(∀ a∈p::fp,G a=none)/\(∀ a∈p::fp,∃ o,H a=some o)/\D.I s p fp G H/\Dat K G u1 d1/\Dat K G u2 d2/\Pre s d1 d2/\
 ∀ v x s' G' H',R s d1 d2 x s' -> Gw (· ∈ p::fp) G H G' H' -> (∀ a∈p::fp,G' a=none)->(∀ a∈p::fp,∃ o,H' a=some o)->D.I s' p fp G' H' -> Dat K G' v x->Q v H'
def zet{u1 u2:V}{d1 d2:PD}{N:List Str}(sb:Zr B G)(gh:Zr G H)(hI:D.I s p fp G H)(gn:∀ a∈p::fp,G a=none)(lv:∀ a∈p::fp,∃ o,H a=some o)(h1:Dat K G u1 d1)(h2:Dat K G u2 d2):Rl K B (· ∈ p::fp) G H G H (start N [u1,u2,.ref p]) (YK N [.dat d1,.dat d2,D.pv s p fp]) (λk=>if k=2 then p::fp else[]):=by
 refine zkH sb gh ?_ rfl rfl hI gn lv λi v hi0 h=>?_
 .unfold start YK;simp
 .match i with
  |0=>cases h;exact⟨⟨rfl,u1,rfl,h1⟩,λ_=>nofun⟩
  |1=>cases h;exact⟨⟨rfl,u2,rfl,h2⟩,λ_=>nofun⟩
  |2=>exact absurd rfl hi0
  |i+3=>have h:(List.replicate (N.length-3) PV.un)[i]?=some v:=h;have:=IM h;rw[(DB.mp this).2];exact⟨rfl,λ_=>nofun⟩
variable {P:Program}{w:World}{mg:Str->Option Value}{base:Heap}
def Fun.zoe{x qual:Str}{st:Stmt}{f:AD}{fd:FuncData}{N ps:List Str}{k:Nat}{Pre:S->PD->PD->Prop}{R:S->PD->PD->PD->S->Prop}(Fn:Fun K x qual st f fd)(S' : ZD N ps (Zg st))(len:ps.length=3)(hb:∀(cdv:Value)(A:Around)(outer:List Env)(s:SH)(H:Hp)(E:XK),Wt k (A.deeper (envOfC qual (Zg st) s.heap.objs.size f cdv))->∀ p fp t0 d1 d2,Pre t0 d1 d2->
   ∃ t,PSs (zca CX0 P w K mg base N qual (Zg st) f cdv A outer s H E).nox (Z0 st) t/\Sv K B0 t (YK N [.dat d1,.dat d2,D.pv t0 p fp]) {nx:=fun ρ' => ∃ t1,R t0 d1 d2 .none t1/\ρ'[2]?=some (D.pv t1 p fp),rt:=λr ρ' => ∃ d t1,r = .dat d/\R t0 d1 d2 d t1/\ρ'[2]?=some (D.pv t1 p fp)}):Wb P w K mg base CX0 (k+1) f fd ps (zgs D Pre R):=by
 refine Fn.ok S' (λvs H Q E h=>?_) λcdv A outer s H vs Q E hr h=>?_
 .obtain⟨p,fp,u1,u2,G,t0,d1,d2,rfl,_⟩:=h;exact len.symm
 .obtain⟨p,fp,u1,u2,G,t0,d1,d2,rfl,sg,gn,lv,hI,h1,h2,hP,kk⟩:=h;obtain⟨t,ht,hs⟩:=hb cdv A outer s H E hr p fp t0 d1 d2 hP;refine⟨t,ht,hs _ _ _ _ _ _ _ _ (zet b0 sg hI gn lv h1 h2) ⟨λe _ r=>?_,λe _ r sl n=>?_,λe=>e.elim,λe=>e.elim⟩⟩
  .obtain⟨t1,hR,h0⟩:=e;obtain⟨e1,_,hI'⟩:=D.sl.mp (r.sl 2 _ h0);exact kk _ _ t1 _ _ hR r.g (λa ha=>(r.fr 2 a (by rw[e1];exact ha)).1) (λa ha=>(r.fr 2 a (by rw[e1];exact ha)).2.1) hI' Qu
  .obtain⟨d,t1,rfl,hR,h0⟩:=e;obtain⟨e1,_,hI'⟩:=D.sl.mp (r.sl 2 _ h0);obtain⟨_,y,hy,hd⟩:=sl;cases hy;exact kk _ _ t1 _ _ hR r.g (λa ha=>(r.fr 2 a (by rw[e1];exact ha)).1) (λa ha=>(r.fr 2 a (by rw[e1];exact ha)).2.1) hI' hd
def zbx{Pre:S->PD->PD->Prop}{Rf:S->PD->PD->PD->S->Prop}{X:XK}{R:PV->List PV->Prop}(hi:ρ[i]?=some (D.pv s p fp))(h:EgA K B (YQ ta (YQ tb V5)) ρ λds ρ1=>∃ d1 d2 s1,ds=[d1,d2]/\ρ1[i]?=some (D.pv s1 p fp)/\Pre s1 d1 d2/\∀ x s2,Rf s1 d1 d2 x s2->R (.dat x) (ρ1.set i (D.pv s2 p fp))):Eg K B (Vn (zgs D Pre Rf) [] X (YQ ta (YQ tb (YQ (JB i) V5)))) ρ R:=λE G0 H0 G H σ F r Q q=>by
 obtain⟨_,hx,_⟩:=D.sl.mp (r.sl i _ hi);have key:=h E G0 H0 G H σ F r (λvs H2=>match vs with | [v,v2]=>∃ y,σ[i]?=some (some y)/\zgs D Pre Rf ([v,v2,y]++[]) H2 Q X | _=>False) λvs ds ρ1 G1 H1 F1 hh s1 r1 hv=>by obtain⟨d1,d2,t1,rfl,hi1,hP,hk⟩:=hh;obtain⟨u1,us,rfl,h1,hv⟩:=hv.cons;obtain⟨u2,us,rfl,h2,hv⟩:=hv.cons;cases hv.nil;obtain⟨e1,_,hI⟩:=D.sl.mp (r1.sl i _ hi1);refine⟨_,hx,p,fp,u1,u2,G1,t1,d1,d2,rfl,r1.g.gh,λa ha=>(r1.fr i a (by rw[e1];exact ha)).1,λa ha=>(r1.fr i a (by rw[e1];exact ha)).2.1,hI,h1,h2,hP,λv x t2 G2 H2 hR gw gn lv hI2 hd=>?_⟩;exact q v _ _ G2 H2 F1 [] (hk x t2 hR) (s1.trans gw.gg) (r1.zj5 hi1 gw gn lv hI2) ⟨rfl,v,rfl,hd⟩ Jv
 exact key
end
open PySem PySem.Spec PyProof.Rows Lw
abbrev MN:=List (NK×PD)
def gN(K:FG)(G:Hp)(x:NE)(y:NK×PD):Prop:=x.1=y.1/\Dat K G (.ref x.2.1) (zai x.1)/\Dat K G x.2.2 y.2
noncomputable def Qd(m:MN)(k:NK):Bool:=m.any λx=>decide (x.1=k)
noncomputable def zaW(k:NK)(d:PD)(x:NK×PD):NK×PD:=if x.1=k then(x.1,d)else x
noncomputable def W4(m:MN)(k:NK)(d:PD):MN:=if Qd m k then m.map (zaW k d)else m++[(k,d)]
section
variable {K:FG}{G G' H H' : Hp}
theorem gN.same{x:NE}{y:NK×PD}(h:gN K G x y)(s:Zr G G'):gN K G' x y:=⟨h.1,h.2.1.same s,h.2.2.same s⟩
theorem zcH:∀{xs:List NE}{m:MN},Paired (gN K G) xs m->∀ k,zgt xs k=Qd m k
 |_,_,.nil,_=>rfl
 |_,_,.cons r t,k=>by unfold zgt Qd;rw[DE,DE,r.1];congr 1;exact zcH t k
def zfI{k:NK}{v:V}(hb:Dat K G (.ref b) (zai k))(hv:Dat K G v d){xs:List NE}{m:MN}(h:Paired (gN K G) xs m):Paired (gN K G) (putN xs k b v) (W4 m k d):=by
 unfold putN W4;rw[zcH h];split
 .have go:∀{xs:List NE}{m:MN},Paired (gN K G) xs m->Paired (gN K G) (xs.map (zeR k v)) (m.map (zaW k d)):=λ{xs m} h=>by
   induction h with
   |nil=>exact .nil
   |cons r t ih=>
    refine .cons ?_ ih;obtain⟨r1,r2,r3⟩:=r;unfold zeR zaW;rw[r1];split
    .exact⟨rfl,by rw[← r1];exact r2,hv⟩
    .exact⟨r1,r2,r3⟩
  exact go h
 .exact h.snoc ⟨rfl,hb,hv⟩
def WX{m:MN}{k:NK}:Qd m k=true↔k∈m.map (·.1):=by
 unfold Qd;rw[OG];constructor
 .rintro⟨x,hx,e⟩;exact IB.mpr ⟨x,hx,IC e⟩
 .intro h;obtain⟨x,hx,e⟩:=IB.mp h;exact⟨x,hx,Iw e⟩
end
def DnI(P:Program)(w:World)(K:FG)(m:MN)(a:AD)(G H:Hp):Prop:=∃ xs:List NE,H a=some (dNl P w a xs)/\Paired (gN K G) xs m
def dnI(P:Program)(w:World)(K:FG)(m:MN)(p:AD)(fp:List AD)(G H:Hp):Prop:=fp=[]/\DnI P w K m p G H
noncomputable def dnT(P:Program)(w:World)(K:FG):TF K MN:=zmU (dnI P w K) (λ{s p fp G H G' H'} h sg k=>by
  obtain⟨e,xs,h3,h4⟩:=h;exact⟨e,xs,by rw[k p (by simp)];exact h3,Js (λ_ _ z=>z.same sg) h4⟩)
 (λ{s p fp G H} h a ha=>by
  obtain⟨rfl,xs,h3,h4⟩:=h;rw[Ij.mp ha];exact⟨_,h3⟩)
def zfr{m:MN}{k:NK}{e:NK×PD}(h:e∈W4 m k d):e∈m\/e=(k,d):=by
 unfold W4 at h;split at h
 .obtain⟨x,hx,rfl⟩:=IB.mp h;unfold zaW;split
  .rename_i e;rw[e];exact .inr rfl
  .exact .inl hx
 .rcases Nz.mp h with h | h
  .exact .inl h
  .exact .inr (Ij.mp h)
def zfm{m:MN}{k q:NK}:Qd (W4 m k d) q=(Qd m q||decide (k=q)):=by
 rw[N4,Oh,Nf,WX,WX];unfold W4;split
 .rename_i h
  have e:(m.map (zaW k d)).map (·.1)=m.map (·.1):=by rw[NQ];refine Oe λx _=>?_;show(zaW k d x).1=x.1;unfold zaW;split <;> rfl
  rw[e];exact⟨.inl,λz=>z.elim id λz=>by rw[← z];exact WX.mp h⟩
 .rw[Nk,Nz];constructor
  .rintro(z | z)
   .exact .inl z
   .rcases Ij.mp z with z;exact .inr z.symm
  .rintro(z | rfl)
   .exact .inl z
   .exact .inr (Ij.mpr rfl)
def zbC{m:MN}{k:NK}:(W4 m k d).length<=m.length+1:=by
 unfold W4;split
 .rw[Ie];omega
 .rw[Il];exact Ih _
def zfH{m:MN}{k:NK}(h:Qd m k=true):∃ d,(k,d)∈m:=by obtain⟨x,hx,e⟩:=IB.mp (WX.mp h);exact⟨x.2,by rw[← e];exact hx⟩
section
variable {P:Program}{w:World}{K:FG}{B:Hp}{ρ:List PV}{te ta tb ty tv tx:TE}{m:MN}{p:AD}{fp:List AD}{G H:Hp}
def zeW{R:Pn}(h:Eg K B tv ρ λr ρ' => ∃(d:PD)(m:MN)(k:NK),r = .dat d/\ρ'[i]?=some ((dnT P w K).pv m p fp)/\Er K B ty (msk ρ') (zai k)/\m.length<sizeLine/\R.nx (ρ'.set i ((dnT P w K).pv (W4 m k d) p fp))):Sv K B (zid P w K (JB i) ty tv) ρ R:=λE G0 H0 G H σ F D r dn=>by
 refine h E G0 H0 G H σ F r _ λv x ρ' G1 H1 F1 L hh s1 r1 sl n=>?_;obtain⟨d,m,k,rfl,hi,hk,hl0,hR⟩:=hh;obtain⟨_,v',hv',hd⟩:=sl;cases hv';obtain⟨e1,hx,rfl,xs,hxs,pd⟩:=(dnT P w K).sl.mp (r1.sl i _ hi);refine⟨_,hx,hk G1 σ r1.rx G1 H1 (Zr.refl _) r1.g.gh _ λy G2 H2 g2 hy=>?_⟩;obtain⟨q,ys,rfl,hq,hys⟩:=Dat.tup hy;have r2:=r1.grow g2;have hlt:i<ρ'.length:=(Io.mp hi).1;refine⟨p,q,k,xs,G2,rfl,rfl,g2.hh _ _ hxs,g2.gh,hy,λz hz=>?_,by rw[(XX pd).2.2];exact hl0,?_⟩
 .obtain⟨_,_,e⟩:=(XX pd).1 z hz;exact(e.same g2.gg).2.1
 .have frz:∀ c,c≠p->upd H2 p (dNl P w p (putN xs k q v)) c=H2 c:=λc hc=>Zk hc;refine dn.nx hR (s1.trans g2.gg) (r2.mut hlt (L':=[p]) (λc hc=>by rw[e1]at hc;exact hc) (λc hc=>.inl (by rw[e1];exact hc)) (λc hc=>frz c λz=>hc (by rw[z];exact N6 _)) (λc hc=>?_) ((dnT P w K).sl.mpr ⟨rfl,hx,rfl,putN xs k q v,Zi,zfI hy (hd.same g2.gg) (Js (λ_ _ z=>z.same g2.gg) pd)⟩) ((dnT P w K).no _ _ _));rw[Ij.mp hc];exact⟨_,Zi⟩
def zlt{k:NK}(hi:ρ[i]?=some ((dnT P w K).pv m p fp))(hk:Er K B te ρ (zai k)):Er K B (tOp (znK P w K λb=>!b) te (JB i)) ρ (.bool (!Qd m k)):=λG σ r G1 H s1 s2 Q kk=>by
 obtain⟨p',fp',hx,rfl,rfl,_,xs,hxs,pd⟩:=r.2.2.2.1 i _ hi;refine hk G σ r G1 H s1 s2 _ λv G2 H2 g2 hv=>?_;obtain⟨q,ys,rfl,hq,hys⟩:=Dat.tup hv;have sG:Zr G H2:=(s1.trans g2.gg).trans g2.gh;refine⟨_,hx,p',q,k,xs,G2,rfl,rfl,sG _ _ hxs,g2.gh,hv,λz hz=>?_,?_⟩
 .obtain⟨_,_,e⟩:=(XX pd).1 z hz;exact(e.same (s1.trans g2.gg)).2.1
 .rw[zcH pd];exact kk _ G2 H2 g2 (Yr _)
def zlI{k:NK}(hi:ρ[i]?=some ((dnT P w K).pv m p fp))(hk:Er K B te (msk ρ) (zai k))(hm:(k,d)∈m):Ex K B (tOp (znU P w K) (JB i) te) ρ d:=λE G0 H0 G H σ F r Q kk=>by obtain⟨_,hx,_,xs,hxs,pd⟩:=(dnT P w K).sl.mp (r.sl i _ hi);refine⟨_,hx,hk G σ r.rx G H (Zr.refl _) r.g.gh _ λv G2 H2 g2 hv=>?_⟩;obtain⟨q,ys,rfl,hq,hys⟩:=Dat.tup hv;obtain⟨⟨k',b',v'⟩,hx',e1,e2,e3⟩:=(XX pd).2.1 _ hm;cases e1;refine⟨v',p,q,b',_,xs,G2,rfl,rfl,.inl (g2.hh _ _ hxs),g2.gh,hv,λz hz=>?_,hx',kk _ G2 H2 g2 (e3.same g2.gg)⟩;obtain⟨_,_,e⟩:=(XX pd).1 z hz;exact(e.same g2.gg).2.1
end
def znc:bootBuiltins "dict" = some (.type "dict"):=by decide +kernel
def JW:entryFor table "dict.update.loop" = some Builtin.«dict.update.loop» := entryFor_of_tree (by kernel_rfl)
def Xm:plainId "dict.update.loop" = true:=by decide +kernel
def za2:typeLookup (.type "tuple") "keys" = pure none:=am_miss_of_fast (by kernel_rfl)
section
variable {prog:Program}{w:World}{A:Around}{E:Value->SH->Prop}{s:SH}
def zkc{xs:Array Value}{k:Nat}{Q:Option Value->SH->Prop}(hx:s.heap.get? a=some o)(hc:o.cls = .type "tuple")(hdat:o.data = .seq xs k)(hd:o.dict=none)(hA:A.handled=none)(h:∀ h' tk,(∀ b ob,s.heap.get? b=some ob->h'.get? b=some ob)->Q none {s with heap:=h',toks:=tk}):
  wpAny (model prog w) A (getAttr? (.ref a) "keys") Q E s:=by
 obtain⟨c,dct,dat,sl⟩:=o;simp only at hc hdat hd;subst hc hdat hd;obtain⟨hp,g,d,tk,os⟩:=s;have hT:∀ tk',(⟨hp,g,d,tk',os⟩:SH).TypeIs (.ref a) "tuple" := λ_=>⟨_,hx,rfl⟩
 have f1:=sub_AttributeError;have f3:=F.slot_tuple_getattribute.lookup;have f4:=F.slot_tuple_getattribute.bind (.ref a);have f5:=am_tuple_getattr_none;unfold getAttr? getAttrBy? getAttrBy
 repeat (any_goals (first | assumption | exact hT _ | ((with_reducible show wpAny _ _ (call (Value.builtin "tuple.__getattribute__") _ _) _ _ _);refine ON F.slot_tuple_getattribute (hT _) am_entry_tuple_getattribute (F.args_tuple_getattribute_2 _ _) (meets_getattribute_miss_tuple a xs k sl _ _ za2 (by decide) (by decide)) ⟨hx,hA,λh' tk' e hx' => ?_⟩) | wp_step))
 obtain⟨t',u',he⟩:=hx'.there;show wpAny _ _ (getattributeRaised _ _ _ _ _ _ _) _ _ _;unfold getattributeRaised
 repeat (any_goals (first | assumption | wp_step))
 exact h _ _ hx'.keeps
def zcu{K:Type}[DecidableEq K]{xs:List (K×AD×Value)}{k:K}:(storedH xs k a v).length<=xs.length+1:=by
 unfold storedH;split
 .rw[Ie];omega
 .rw[Il];exact Ih _
def zcE{K:Type}[DecidableEq K]{xs:List (K×AD×Value)}{k:K}{z:K×AD×Value}(h:z∈storedH xs k a v):(∃ y∈xs,y.1=z.1/\y.2.1=z.2.1)\/(z.1=k/\z.2.1=a):=by
 unfold storedH at h;split at h
 .obtain⟨y,hy,rfl⟩:=IB.mp h;refine .inl ⟨y,hy,?_⟩;unfold putAt;split <;> exact⟨rfl,rfl⟩
 .rcases Nz.mp h with h | h
  .exact .inl ⟨z,h,rfl,rfl⟩
  .rw[Ij.mp h];exact .inr ⟨rfl,rfl⟩
noncomputable def znO{K:Type}[DecidableEq K](xs l:List (K×AD×Value)):List (K×AD×Value):=l.foldl (λa z=>storedH a z.1 z.2.1 z.2.2) xs
def zmT{K:Type}[DecidableEq K]{knd:HeapKind prog w K}{R:Result->SH->Prop}{h0:Heap}{d I src:AD}{items:Array Value}{its:Nat->K×AD×Value}{tp:Nat->AD}(hh:A.in1.handled=none)(hu:knd.room A.in1)(n1:I≠d)(nd:h0.get? d=none)(nI:h0.get? I=none)(hs:h0.IsTuple src items)(hi:∀ i,i<items.size->items[i]?=some (.ref (tp i))/\h0.IsTuple (tp i) #[.ref (its i).2.1,(its i).2.2])(hk:∀ i,i<items.size->∀ h' : Heap,(∀ b o,h0.get? b=some o->h'.get? b=some o)->knd.is h' (its i).1 (its i).2.1):
  ∀(k i:Nat)(s:SH)(xs:List (K×AD×Value)),items.size-i=k->i<=items.size->s.heap.IsTupleIter I src i->(∀ b o,h0.get? b=some o->s.heap.get? b=some o)->s.heap.DictOfH knd d xs->(∀ z∈xs,∃ j,j<items.size/\z.1=(its j).1/\z.2.1=(its j).2.1)->xs.length+k<=sizeLine->
   (∀ h' tk,h'.DictOfH knd d (znO xs ((range' i k).map its))->(∀ b o,h0.get? b=some o->h'.get? b=some o)->R (.ok (.ret .none)) {s with heap:=h',toks:=tk})->
   codeAny (model prog w) A (.builtin "dict.update.loop" ⟨[.ref d,.ref I,rawInt i,.none],[]⟩) R s:=by
 have ne0:∀{a:AD}{o:Obj},h0.get? a=some o->a≠d/\a≠I:=λh=>⟨(λe=>by rw[e,nd]at h;cases h),λe=>by rw[e,nI]at h;cases h⟩
 intro k
 induction k with
 |zero=>intro i s xs hk0 hi0 hit kp hd hj hz hR;refine Nu JW ?_;rw[NV Xm _];show wpAny _ A.in1 (pyNext (.ref I) >>= _) _ _ s;refine Ia (wpAny_pyNext_tuple_end hh hit (hs.at λo e=>kp _ _ e) (by simp;omega) λh' he=>?_);show wpAny _ A.in1 (Builtin.Dict.addKeywords d [] >>= _) _ _ _;refine Ia (Ic (Ic ?_));refine hR h' _ ?_ λb o e=>he b o (ne0 e).2 (kp b o e);obtain⟨o,es,ep,h1,h2,h3,h4,h5,h6⟩:=hd;refine⟨o,es,ep,he d o (Ne.symm n1) h1,h2,h3,h4,λz hz=>?_,h6⟩;obtain⟨j,hj1,e1,e2⟩:=hj z hz;rw[e1,e2];exact hk j hj1 _ λb o e=>he b o (ne0 e).2 (kp b o e)
 |succ k ih=>
  intro i s xs hk0 hi0 hit kp hd hj hz hR;have hlt:i<items.size:=by omega
  obtain⟨e1,e2⟩:=hi i hlt;refine Nu JW ?_;rw[NV Xm _];show wpAny _ A.in1 (pyNext (.ref I) >>= _) _ _ s;refine Ia (wpAny_pyNext_tuple_item hit (hs.at λo e=>kp _ _ e) e1 λh' hit' sb=>?_);have kp' : ∀ b o,h0.get? b=some o->h'.get? b=some o:=λb o e=>by rw[sb.2 b (ne0 e).2];exact kp b o e
  obtain⟨o2,g2,c2,n2,d2⟩:=e2.at (h':=h') λo e=>kp' _ _ e;show wpAny _ A.in1 (holding [Value.ref (tp i)] (tryCatch (Builtin.Dict.pairItems (.ref (tp i))) _ >>= _) >>= _) _ _ _;refine Ia (I9 (Ia (OT ?_)));unfold Builtin.Dict.pairItems;refine Ia (Db ⟨o2,g2,c2⟩ ?_);rw[Iz (by decide)];refine Ia (Oc g2 d2 (Ic ?_));show wpAny _ A.in1 (holding [.ref (its i).2.1,(its i).2.2] (dictSet d (.ref (its i).2.1) (its i).2.2)) _ _ _;refine I9 ?_;refine wpAny_dictSet_heap (hsz:=by omega) (s:={s with heap:=h'}) (xs:=xs) hu (hk i hlt h' kp') ?_ λh2 dd sb2=>?_
  .obtain⟨o,es,ep,h1,h2,h3,h4,h5,h6⟩:=hd;refine⟨o,es,ep,(by rw[sb.2 d (Ne.symm n1)];exact h1),h2,h3,h4,λz hz=>?_,h6⟩;obtain⟨j,hj1,e1,e2⟩:=hj z hz;rw[e1,e2];exact hk j hj1 _ kp'
  .have kp2:∀ b o,h0.get? b=some o->h2.get? b=some o:=λb o e=>by rw[sb2.2 b (ne0 e).1];exact kp' b o e
   refine Ic ⟨NW Xm _,?_⟩;refine ih (i+1) _ _ (by omega) hlt (hit'.at λo e=>by show h2.get? _=_;rw[sb2.2 _ n1];exact e) kp2 dd (λz hz=>?_) ?_ λh3 tk d3 kp3=>?_
   .rcases zcE hz with⟨y,hy,f1,f2⟩ | ⟨f1,f2⟩
    .obtain⟨j,hj1,e1,e2⟩:=hj y hy;exact⟨j,hj1,by rw[← f1,e1],by rw[← f2,e2]⟩
    .exact⟨i,hlt,f1,f2⟩
   .have:=zcu (xs:=xs) (k:=(its i).1) (a:=(its i).2.1) (v:=(its i).2.2);omega
   .exact hR h3 tk d3 kp3
end
noncomputable def ziU(xs l:List NE):List NE:=l.foldl (λa z=>putN a z.1 z.2.1 z.2.2) xs
noncomputable def zaU(xs l:MN):MN:=l.foldl (λa y=>W4 a y.1 y.2) xs
noncomputable def zah(y:NK×PD):PD:=.tuple [zai y.1,y.2]
theorem zap:∀{xs:List NE}{zs:List (NK×AD×Value)},Paired zbR xs zs->∀ k,(atKey zs k).isSome=zgt xs k
 |_,_,.nil,k=>rfl
 |_,_,.cons (a:=x) (b:=z) r t,k=>by
  have ih:=zap t k;unfold atKey zgt at ih ⊢;rw[Dv,DE,r.1];cases decide (x.1=k)with
  |true=>rfl
  |false=>exact ih
theorem zda:∀{l:List NE}{lz:List (NK×AD×Value)},Paired zbR l lz->∀{xs:List NE}{zs:List (NK×AD×Value)},Paired zbR xs zs->Paired zbR (ziU xs l) (znO zs lz)
 |_,_,.nil,_,_,h=>h
 |_,_,.cons (a:=x) (b:=z) r t,xs,zs,h=>by
  refine zda t ?_;obtain⟨r1,r2,r3⟩:=r;show Paired zbR (putN xs x.1 x.2.1 x.2.2) (storedH zs z.1 z.2.1 z.2.2);rw[r1,r2];unfold putN storedH;rw[zap h];split
  .exact UT r3 h
  .exact h.snoc ⟨rfl,rfl,r3⟩
theorem zbp:∀(l xs:List NE),(ziU xs l).length<=xs.length+l.length
 |[],_=>Ih _
 |x::l,xs=>by refine IH (zbp l (putN xs x.1 x.2.1 x.2.2)) ?_;have:=zcY (xs:=xs) (k:=x.1) (b:=x.2.1) (v:=x.2.2);rw[IL];omega
theorem zcU{K:FG}{G:Hp}:∀{l:List NE}{m:MN},Paired (gN K G) l m->∀{xs:List NE}{m0:MN},Paired (gN K G) xs m0->Paired (gN K G) (ziU xs l) (zaU m0 m)
 |_,_,.nil,_,_,h=>h
 |_,_,.cons (a:=x) (b:=y) r t,xs,m0,h=>by refine zcU t ?_;obtain⟨r1,r2,r3⟩:=r;show Paired (gN K G) (putN xs x.1 x.2.1 x.2.2) (W4 m0 y.1 y.2);rw[← r1];exact zfI r2 r3 h
section
variable {X:Cx}{aa:List (AD×Obj)}{σ:St}{H G:Hp}{s:SH}
theorem ziw(I:Inv X aa σ H s)(sg:Zr G H):∀{m:MN}{vs:List V}{us:List Value},ZX X.K G vs (m.map zah)->Vals vs us->∃(es:List NE)(zs:List (NK×AD×Value)),Paired (gN X.K G) es m/\Paired zbR es zs/\us.length=zs.length/\
  ∀(i:Nat)(z:NK×AD×Value),zs[i]?=some z->∃ tp:AD,us[i]?=some (Value.ref tp)/\s.heap.IsTuple tp #[.ref z.2.1,z.2.2]/\∀ h' : Heap,(∀ b o,s.heap.get? b=some o->h'.get? b=some o)->(nkK X.prog X.w).is h' z.1 z.2.1
 |[],_,_,hd,hr=>by cases hd.nil;cases hr;exact⟨[],[],.nil,.nil,rfl,λi z h=>by simp at h⟩
 |y::m,_,_,hd,hr=>by
  obtain⟨u,ws,rfl,hu,hus⟩:=hd.cons;cases hr with
  |cons r1 r2=>
   obtain⟨es,zs,p1,p2,hl,hz⟩:=ziw I sg hus r2;obtain⟨q,xs,rfl,hq,hxs⟩:=Dat.tup hu;obtain⟨x1,xs1,rfl,hx1,hxs1⟩:=hxs.cons;obtain⟨x2,xs2,rfl,hx2,hxs2⟩:=hxs1.cons;cases hxs2.nil;obtain⟨b,bs,rfl,hb,hbs⟩:=Dat.tup hx1;cases r1;obtain⟨its,rv,⟨o,e1,e2,n,e3⟩,_⟩:=I.tuple (sg.tup hq);cases rv with
   |cons ra rb=>cases rb with
    |cons rc rd=>cases rd with
     |nil=>
      cases ra
      rename_i v
      refine⟨(y.1,b,x2)::es,(y.1,b,v)::zs,.cons ⟨rfl,hx1,hx2⟩ p1,.cons ⟨rfl,rfl,rc⟩ p2,by simp[hl],λi z h=>?_⟩;cases i with
      |zero=>cases(IA h);refine⟨q,rfl,⟨o,e1,e2,n,e3⟩,λh' kp=>?_⟩;exact zar (s:={s with heap:=h'}) (I.kept (t':=s.toks) kp) sg hx1
      |succ i=>exact hz i z h
def zd9{P:Program}{w:World}{K:FG}(eP:X.prog=P)(ew:X.w=w)(eK:X.K=K)(hnd:zgE K=true)(hc:X.calm=true)(hu:X.A.units+64<cLine):
  Jk X (.type "dict") (λxs H Q=>∃(p:AD)(m:MN)(G:Hp),xs=[.ref p]/\Zr G H/\Dat K G (.ref p) (.tuple (m.map zah))/\m.length<=sizeLine/\∀ d ns,H d=none->Paired (gN K G) ns (zaU [] m)->Q (.ref d) (upd H d (dNl P w d ns))):=by
 subst eP ew eK;intro aa s σ H xs us Q I r h;obtain⟨p,m,G,rfl,sg,hD,hl,q⟩:=h;obtain⟨u,rfl,r1⟩:=vals1 r;cases r1;obtain⟨p',ys,e,hq,hys⟩:=Dat.tup hD;cases e;have hT:∃(its:List Value)(o:Obj)(n:Nat),Vals ys its/\s.heap.get? p=some o/\o.cls = .type "tuple" /\ o.data = .seq its.toArray n/\o.dict=none:=by
  rcases sg.tup hq with hp | ⟨o,its,n,hk,hcl,hs,hz,rv⟩
  .obtain⟨_,its,rv,⟨o,e1,e2,n,e3⟩,o',e4,e5⟩:=hp.ok I.ab;rw[e1]at e4;cases e4;exact⟨its,o,n,rv,e1,e2,e3,e5⟩
  .exact⟨its.toList,o,n,rv,I.kIn p o hk,hcl,by simpa using hs,zfK hnd hk hcl⟩
 obtain⟨its,o,n,rv,g1,g2,g3,g4⟩:=hT;obtain⟨es,zs,p1,p2,hlz,hz⟩:=ziw I sg hys rv;have lz:zs.length<=sizeLine:=by have e1:=rv.length;have e2:=hys.length;rw[Ie]at e2;omega
 refine callType_codes (Q₁:=λobj s₁=>obj = .ref s.heap.objs.size/\s₁={s with heap:=s.heap.push {cls:=.type "dict",data:=.dict #[]}}) F.kt_called_dict (F.kt_typeCall_dict_1 _) F.entry_dict_init (kt_code_dict_new _ ⟨rfl,rfl⟩) ?_;rintro obj s₁ ⟨rfl,rfl⟩;have hnew:Heap.get? (s.heap.push {cls:=.type "dict",data:=.dict #[]}) s.heap.objs.size=some {cls:=.type "dict",data:=.dict #[]}:=Iu _ rfl;have tyD:TypeIs {s with heap:=s.heap.push {cls:=.type "dict",data:=.dict #[]}} (.ref s.heap.objs.size) "dict" := ⟨_,hnew,rfl⟩
 have gp:=Ig {cls:=.type "dict",data:=.dict #[]} g1;refine⟨tyD,F.args_dict_init_2 _ _,?_⟩;unfold Builtin.«dict.__init__»;refine Ia ?_;unfold Builtin.Dict.selfAndRest;refine Ia (wpAny_notOrdered_dict tyD ?_);show wpAny _ _ (pure (s.heap.objs.size,[Value.ref p])) _ _ _;refine Ic ?_;show wpAny _ _ (Builtin.Dict.updateFrom "dict.__init__" s.heap.objs.size (.ref p) [] .none) _ _ _;unfold Builtin.Dict.updateFrom;refine Ia (Db ⟨o,gp,g2⟩ ?_);rw[Iz (by decide)];have hA:X.A.in1.in1.handled=none:=I.ok.hd hc;refine Ia (zkc gp g2 g3 g4 hA λh1 tk k1=>?_);rw[Iz (by rfl)];refine Ia (Da ?_);refine Ia (OM (s:={s with heap:=h1,toks:=tk}) (items:=its.toArray) ⟨o,k1 _ _ gp,g2,n,g3⟩ ?_);have kI:∀ b u,s.heap.get? b=some u->(h1.push {cls:=.type "tuple_iterator",data:=.fields #[.ref p,.int 0 0]}).get? b=some u:=λb u e=>Ig _ (k1 _ _ (Ig _ e));have hsz:s.heap.objs.size<h1.objs.size:=IN (k1 _ _ hnew);have inp:=zcU (G:=G) p1 (xs:=[]) (m0:=[]) .nil;have rel:=zda p2 (xs:=[]) (zs:=[]) .nil;refine Ic ⟨NW Xm _,?_⟩;refine zmT (knd:=nkK X.prog X.w) (h0:=s.heap) (d:=s.heap.objs.size) (I:=h1.objs.size) (src:=p) (items:=its.toArray) (its:=λi=>(zs[i]?).getD ([],0,.none)) (tp:=λi=>match its[i]? with | some (.ref a)=>a | _=>0) hA (by show X.A.units+1+1+(0+1+1)<cLine;omega) (ne_of_gt hsz) (Heap.get?_none_of_le (Ih _)) (Heap.get?_none_of_le (Op hsz)) ⟨o,g1,g2,n,g3⟩ (λi hi=>?_) (λi hi=>?_) its.toArray.size 0 _ [] (by omega) (NN _) ⟨_,Iu _ rfl,rfl,rfl⟩ kI ⟨_,#[],0,Ig _ (k1 _ _ hnew),⟨rfl,rfl,rfl⟩,rfl,rfl,(λ_ h=>by cases h),nodup_nil⟩ (λ_ h=>by cases h) (by simp;omega) λh' tk' dd kp=>?_
 .have hi:i<its.length:=hi;have hz':=Ib (l:=zs) (i:=i) (by omega);obtain⟨tp,e1,e2,_⟩:=hz i _ hz';rw[hz'];show its.toArray[i]?=some (Value.ref (match its[i]? with | some (.ref a)=>a | _=>0))/\s.heap.IsTuple (match its[i]? with | some (.ref a)=>a | _=>0) _;rw[e1];exact⟨by simpa using e1,e2⟩
 .have hi:i<its.length:=hi;have hz':=Ib (l:=zs) (i:=i) (by omega);obtain⟨_,_,_,e3⟩:=hz i _ hz';rw[hz'];exact e3
 .have el:(range' 0 its.toArray.size).map (λi=>(zs[i]?).getD ([],0,.none))=zs:=by
   refine Dx λi=>?_;rw[Ik];by_cases h:i<zs.length
   .rw[List.getElem?_range' (by simp;omega),Ib h];simp[h]
   .rw[IU (by simp;omega),IU (by omega)];rfl
  rw[el]at dd;obtain⟨q',es',ep',hq',g2',g3',g4,_,g5⟩:=dd;refine⟨rfl,.ref s.heap.objs.size,_,I.laid (t':=tk') kp (Ih _) (zfT ⟨NF.mpr (Ne.symm (IX I.big)),?_,_,q',es',ep',hq',g2',g3',g4,rel,by rw[← (nk rel).1];exact g5⟩),rfl,q _ _ (I.ab.fresh (Ih _)) inp⟩;have e1:=zbp es [];have e2:=(nk p2).1;have e3:=ND List.length e2;simp at e1 e3;omega
end
noncomputable def zmt(xs:List NE)(k:NK)(z:V):V:=((xs.find? λx=>decide (x.1=k)).map (·.2.2)).getD z
theorem zc2:∀{xs:List NE}{zs:List (NK×AD×Value)},Paired zbR xs zs->∀{k:NK}{z:V}{r:Value},RelV z r->RelV (zmt xs k z) (((atKey zs k).map (·.2)).getD r)
 |_,_,.nil,_,_,_,h=>h
 |_,_,.cons (a:=x) (b:=y) e t,k,z,r,h=>by
  unfold zmt atKey;rw[Dv,Dv,e.1];cases decide (x.1=k)with
  |true=>exact e.2.2
  |false=>exact zc2 t h
noncomputable def zcp(m:MN)(k:NK)(z:PD):PD:=((m.find? λx=>decide (x.1=k)).map (·.2)).getD z
theorem zbt{K:FG}{G:Hp}:∀{xs:List NE}{m:MN},Paired (gN K G) xs m->∀{k:NK}{z:V}{d:PD},Dat K G z d->Dat K G (zmt xs k z) (zcp m k d)
 |_,_,.nil,_,_,_,h=>h
 |_,_,.cons (a:=x) (b:=y) e t,k,z,d,h=>by
  unfold zmt zcp;rw[Dv,Dv,e.1];cases decide (y.1=k)with
  |true=>exact e.2.2
  |false=>exact zbt t h
def zk5(P:Program)(w:World)(K:FG)(td ty tx:TE):TE:=fun σ H Q=>td σ H λx H1=>∃(a:AD)(xs:List NE),x = .ref a/\Rd H1 a (dNl P w a xs)/\ty σ H1 λy H2=>tx σ H2 λz H3=>∃(b:AD)(k:NK)(G:Hp),y = .ref b/\Rd H3 a (dNl P w a xs)/\Zr G H3/\Dat K G (.ref b) (zai k)/\(∀ z∈xs,Dat K G (.ref z.2.1) (zai z.1))/\Q (zmt xs k z) H3
section
variable {X:Cx}{o e f:Expr}{apos cpos:Pos}{td ty tx:TE}
def zkg{P:Program}{w:World}{K:FG}(eP:X.prog=P)(ew:X.w=w)(eK:X.K=K)(hu:X.A.units+64<cLine)(ho:PE X o td)(he:PE X e ty)(hf:PE X f tx)(m:M2 X o "get" apos e f cpos):PE X (.Call (.Attribute o "get" apos) [e,f] [] cpos) (zk5 P w K td ty tx):=by
 subst eP ew eK;intro aa s σ H Q I h;refine wpAny_Call_method m.base m.few m.line PySem.F.plainAttrs_dict PySem.F.slot_dict_get PySem.F.type_dict_get (thn (ho aa s σ H _ I h) λu s1 ⟨x,H1,I1,rx,a,xs,ex,d,q1⟩=>?_);subst ex;obtain rfl:u=Value.ref a:=rx;obtain⟨_,_,_,o',_,_,h1,h2,_⟩:=(show Yu X.prog X.w H1 s1.heap a (dNl X.prog X.w a xs)from d.ok I1.ab).1;refine⟨⟨o',h1,h2.1⟩,λb q=>by cases q;exact⟨o',h1,h2.2.1⟩,?_⟩;rw[m.trees];refine Calls.callWith_builtin rfl (Calls.evalArgs_plain (Dw (thn (he aa s1 σ H1 _ I1 q1) λiv s2 ⟨y,H2,I2,ry,q2⟩=>
  Dw (thn (hf aa s2 σ H2 _ I2 q2) λfv s3 ⟨z,H3,I3,rz,b,k,G,ey,ha,sg,hb,hxs,q3⟩=>spliced_nil ?_))))
 subst ey;obtain rfl:iv=Value.ref b:=ry;obtain⟨hsm,zs,pr,dd,hnd⟩:=zhS I3 sg ha hxs;exact call_meetsIn PySem.F.slot_dict_get dd.typeIs PySem.F.entry_dict_get (PySem.F.args_dict_get_3 _ _ _) (meetsH_dict_get_default (nkK X.prog X.w) a b hsm fv) ⟨(show X.A.units+1+(0+1+1)<cLine by omega),k,zs,zar I3 sg hb,dd,⟨_,H3,I3.tok _,zc2 pr rz,q3⟩⟩
end
section
variable {P:Program}{w:World}{K:FG}{B:Hp}{E:AD->Prop}{G0 H0 G H G1 H1 G2 H2:Hp}{σ:St}{F:Nat->List AD}{ρ:List PV}{te ta tb ty tv tx:TE}{m:MN}{p:AD}{fp:List AD}
def zkq{k:NK}(hi:ρ[i]?=some ((dnT P w K).pv m p fp))(hk:Er K B ty ρ (zai k))(hd:Er K B tx ρ d):Er K B (zk5 P w K (JB i) ty tx) ρ (zcp m k d):=λG σ r G1 H s1 s2 Q kk=>by obtain⟨p',fp',hx,rfl,rfl,_,xs,hxs,pd⟩:=r.2.2.2.1 i _ hi;refine⟨_,hx,p',xs,rfl,.inl (s2 _ _ (s1 _ _ hxs)),hk G σ r G1 H s1 s2 _ λv G2 H2 g2 hv=>hd G σ r G2 H2 (s1.trans g2.gg) g2.gh _ λz G3 H3 g3 hz=>?_⟩;obtain⟨q,ys,rfl,hq,hys⟩:=Dat.tup hv;have s13:=g2.gg.trans g3.gg;have pd3:=Js (λ_ _ z=>z.same (s1.trans s13)) pd;refine⟨q,k,G3,rfl,.inl (g3.gh _ _ (s13 _ _ (s1 _ _ hxs))),g3.gh,hv.same g3.gg,λz hz=>?_,kk _ G3 H3 (g2.trans g3) (zbt pd3 hz)⟩;obtain⟨_,_,e⟩:=(XX pd3).1 z hz;exact e.2.1
def zhn{R:PV->List PV->Prop}(h:Er K B te (msk ρ) (.tuple (m.map zah)))(hm:m.length<=sizeLine)(k:∀ p,R ((dnT P w K).pv (zaU [] m) p []) ρ):
  Eg K B (tCB (λxs H Q=>∃(p:AD)(m:MN)(G:Hp),xs=[.ref p]/\Zr G H/\Dat K G (.ref p) (.tuple (m.map zah))/\m.length<=sizeLine/\∀ d ns,H d=none->Paired (gN K G) ns (zaU [] m)->Q (.ref d) (upd H d (dNl P w d ns))) (YQ te V5)) ρ R:=λE G0 H0 G H σ F r Q kk=>by
 refine h G σ r.rx G H (Zr.refl _) r.g.gh _ λv G1 H1 g hv=>?_;obtain⟨q,ys,rfl,hq,hys⟩:=Dat.tup hv;refine⟨q,m,G1,rfl,g.gh,hv,hm,λd ns hd pd=>?_⟩;have r1:=r.grow g;have sm:Zr H1 (upd H1 d (dNl P w d ns)):=X6 hd;refine kk _ _ ρ G1 _ F [d] (k d) g.gg (r1.grow (Qm r1.g.gh sm)) ((dnT P w K).sl.mpr ⟨rfl,rfl,rfl,ns,Zi,pd⟩) ⟨λa ha=>?_,λa ha j hj=>?_⟩
 .rw[Ij.mp ha];exact⟨r1.g.gh.free hd,⟨_,Zi⟩,r1.g.al d hd⟩
 .obtain⟨_,⟨o,ho⟩,_⟩:=r1.fr j a hj;rw[Ij.mp ha,hd]at ho;cases ho
def Rl.znG{L:List AD}(r1:Rl K B E G0 H0 G1 H1 σ ρ F)(ho:∀ a∈L,H0 a=none)(hF:∀ a∈L,∀ j,a∉F j)(gw:Gw (· ∈ L) G1 H1 G2 H2):Rl K B E G0 H0 G2 H2 σ ρ F:=by
 refine⟨⟨r1.g.gg.trans gw.gg,gw.gh,λb o n h=>?_,λb h=>r1.g.al b (gw.al b h),λb o h=>?_⟩,r1.bb.trans gw.gg,r1.ls,λj v h=>?_,λj a ha=>?_,r1.dj,r1.ow⟩
 .exact gw.kp b o (λz=>by rw[ho b z]at h;cases h) (r1.g.kp b o n h)
 .rcases gw.fr b o h with h | h
  .exact r1.g.fr b o h
  .exact .inr (r1.g.al b h)
 .refine(r1.sl j v h).grow gw.gg λa ha=>?_;obtain⟨_,⟨o,ho⟩,_⟩:=r1.fr j a ha;rw[ho];exact gw.kp a o (λq=>hF a q j ha) ho
 .obtain⟨h1,⟨o,h2⟩,h3⟩:=r1.fr j a ha;refine⟨?_,⟨o,gw.kp a o (λz=>hF a z j ha) h2⟩,h3⟩;cases hg:G2 a with
  |none=>rfl
  |some o' =>
   rcases gw.fr a o' hg with h | h
   .rw[h1]at h;cases h
   .rw[h2]at h;cases h
def zd6{Pre:MN->PD->PD->Prop}{Rf:MN->PD->PD->PD->MN->Prop}{X:XK}{R:PV->List PV->Prop}(h:EgA K B (YQ ta (YQ tb V5)) ρ λds ρ1=>∃ d1 d2,ds=[d1,d2]/\Pre [] d1 d2/\∀ x s2,Rf [] d1 d2 x s2->R (.dat x) ρ1):Eg K B (Vn (zgs (dnT P w K) Pre Rf) [] X (YQ ta (YQ tb (YQ (zio P w) V5)))) ρ R:=λE G0 H0 G H σ F r Q q=>by
 have key:=h E G0 H0 G H σ F r (λvs H2=>match vs with | [v,v2]=>∀ p,H2 p=none->zgs (dnT P w K) Pre Rf ([v,v2,.ref p]++[]) (upd H2 p (dNl P w p [])) Q X | _=>False) λvs ds ρ1 G1 H1 F1 hh s1 r1 hv=>by obtain⟨d1,d2,rfl,hP,hk⟩:=hh;obtain⟨u1,us,rfl,h1,hv⟩:=hv.cons;obtain⟨u2,us,rfl,h2,hv⟩:=hv.cons;cases hv.nil;intro p hp;have sm:Zr H1 (upd H1 p (dNl P w p [])):=X6 hp;have r2:=r1.grow (Qm r1.g.gh sm);refine⟨p,[],u1,u2,G1,[],d1,d2,rfl,r1.g.gh.trans sm,(λa ha=>by rw[Ij.mp ha];exact r1.g.gh.free hp),(λa ha=>by rw[Ij.mp ha];exact⟨_,Zi⟩),⟨rfl,[],Zi,.nil⟩,h1,h2,hP,λv x t2 G2 H2 hR gw gn lv hI2 hd=>?_⟩;refine q v _ _ G2 H2 F1 [] (hk x t2 hR) (s1.trans gw.gg) (r2.znG (L:=[p]) (λa ha=>by rw[Ij.mp ha];exact r1.g.al p hp) (λa ha j hj=>?_) gw) ⟨rfl,v,rfl,hd⟩ Jv;obtain⟨_,⟨o,ho⟩,_⟩:=r1.fr j a hj;rw[Ij.mp ha,hp]at ho;cases ho
 exact key
end
end L2
namespace K37
open PySem L2 Lw M41
variable {k:Kn}{es es':List PD}{α:Type}{fd:FuncData}{B:Hp}{ρ:List PV}{i c m a:Nat}{fp:List AD}{d:PD}
noncomputable def top(i:Nat):Stmt:=PySem.Challenge.pw_ordertext_k37_least_looks.main.body.getD i (.Pass ⟨0,0,0,0⟩)
abbrev UG:Stmt:=top 1
abbrev W9:Stmt:=top 2
abbrev J1:Stmt:=top 3
abbrev JH:Stmt:=top 4
abbrev Q8:Stmt:=top 5
abbrev X4:Stmt:=top 7
abbrev J6:Stmt:=top 9
abbrev WM:Stmt:=top 10
abbrev Qs:Stmt:=top 12
abbrev Xp:Stmt:=top 13
abbrev Jt:Stmt:=top 14
abbrev Qv:Stmt:=top 15
abbrev JD:Stmt:=top 16
abbrev Jq:Stmt:=top 17
abbrev Xb:Stmt:=top 18
abbrev Wg:Stmt:=top 19
abbrev Xw:Stmt:=top 20
abbrev JF:Stmt:=top 21
abbrev JV:Stmt:=top 22
abbrev Ym:Stmt:=top 23
abbrev Y4:Stmt:=top 24
abbrev Wu:Stmt:=top 25
abbrev zbd:Stmt:=top 26
def W2:ZD ["pairs", "many", "known", "one", "other"] ["pairs", "many"] (Zg UG):=⟨rfl,rfl,rfl,by decide +kernel,rfl,by decide +kernel,by decide +kernel⟩
def VJ:ZD ["known", "one", "other", "onward"] ["known", "one", "other"] (Zg W9):=⟨rfl,rfl,rfl,by decide +kernel,rfl,by decide +kernel,by decide +kernel⟩
def Jl:ZD ["known", "pairs", "one", "behind"] ["known"] (Zg J1):=⟨rfl,rfl,rfl,by decide +kernel,rfl,by decide +kernel,by decide +kernel⟩
def zaI:ZD ["known", "one", "other"] ["known", "one", "other"] (Zg JH):=⟨rfl,rfl,rfl,by decide +kernel,rfl,by decide +kernel,by decide +kernel⟩
def Jj:ZD ["known", "pairs", "one", "other"] ["known"] (Zg Q8):=⟨rfl,rfl,rfl,by decide +kernel,rfl,by decide +kernel,by decide +kernel⟩
def YH:ZD ["known", "many", "search", "begin", "number", "tree", "paper"] ["known", "many"] (Zg X4):=⟨rfl,rfl,rfl,by decide +kernel,rfl,by decide +kernel,by decide +kernel⟩
def zgi:ZD ["known"] ["known"] (Zg J6):=⟨rfl,rfl,rfl,by decide +kernel,rfl,by decide +kernel,by decide +kernel⟩
def zbf:ZD ["known", "thing"] ["known", "thing"] (Zg WM):=⟨rfl,rfl,rfl,by decide +kernel,rfl,by decide +kernel,by decide +kernel⟩
def WD:ZD ["deck", "cells", "at", "mixed"] ["deck"] (Zg Qs):=⟨rfl,rfl,rfl,by decide +kernel,rfl,by decide +kernel,by decide +kernel⟩
def Zt:ZD ["pairs", "found", "more", "fresh", "i", "j"] ["pairs"] (Zg Xp):=⟨rfl,rfl,rfl,by decide +kernel,rfl,by decide +kernel,by decide +kernel⟩
def zbN:ZD ["known"] ["known"] (Zg Jt):=⟨rfl,rfl,rfl,by decide +kernel,rfl,by decide +kernel,by decide +kernel⟩
def JZ:ZD ["deck", "many", "left", "found"] ["deck", "many"] (Zg Qv):=⟨rfl,rfl,rfl,by decide +kernel,rfl,by decide +kernel,by decide +kernel⟩
def Y0:ZD ["deck", "many", "turn", "pairs", "k", "cell", "j"] ["deck", "many"] (Zg JD):=⟨rfl,rfl,rfl,by decide +kernel,rfl,by decide +kernel,by decide +kernel⟩
def WP:ZD ["known", "many", "found", "j"] ["known", "many"] (Zg Jq):=⟨rfl,rfl,rfl,by decide +kernel,rfl,by decide +kernel,by decide +kernel⟩
def ZS:ZD ["known", "many", "rows", "turn", "fresh", "row", "place", "lacking"] ["known", "many"] (Zg Xb):=⟨rfl,rfl,rfl,by decide +kernel,rfl,by decide +kernel,by decide +kernel⟩
def ZM:ZD ["tree", "row", "number", "looks", "word", "i", "j", "then", "other"] ["tree", "row"] (Zg Wg):=⟨rfl,rfl,rfl,by decide +kernel,rfl,by decide +kernel,by decide +kernel⟩
def Xi:ZD ["known", "i", "j", "firsts", "lasts", "found", "one"] ["known", "i", "j"] (Zg Xw):=⟨rfl,rfl,rfl,by decide +kernel,rfl,by decide +kernel,by decide +kernel⟩
def Xn:ZD ["known", "many", "counts", "ways", "i", "j", "one"] ["known", "many", "counts"] (Zg JF):=⟨rfl,rfl,rfl,by decide +kernel,rfl,by decide +kernel,by decide +kernel⟩
def Jm:ZD ["tree", "many", "number", "knot"] ["tree", "many"] (Zg JV):=⟨rfl,rfl,rfl,by decide +kernel,rfl,by decide +kernel,by decide +kernel⟩
def ZP:ZD ["paper", "many", "numbers", "known", "number", "ways", "i", "j", "some"] ["paper", "many"] (Zg Ym):=⟨rfl,rfl,rfl,by decide +kernel,rfl,by decide +kernel,by decide +kernel⟩
def zae:ZD ["one", "some"] ["one", "some"] (Zg Y4):=⟨rfl,rfl,rfl,by decide +kernel,rfl,by decide +kernel,by decide +kernel⟩
def Yz:ZD ["told", "numbers", "pair", "knot"] ["told"] (Zg Wu):=⟨rfl,rfl,rfl,by decide +kernel,rfl,by decide +kernel,by decide +kernel⟩
def Wn:ZD ["script", "deck", "k", "many", "known", "told", "number", "tree", "paper", "looks", "row", "places", "count"] ["script"] (Zg zbd):=⟨rfl,rfl,rfl,by decide +kernel,rfl,by decide +kernel,by decide +kernel⟩
noncomputable def zaP:Stmt->List Stmt
 |.ClassDef _ _ _ b _ _ _ _ _ _ _=>b
 |_=>[]
abbrev YS:Stmt:=(zaP (top 8)).getD 0 (.Pass ⟨0,0,0,0⟩)
def zaQ:ZD ["self"] ["self"] (Zg YS):=⟨rfl,rfl,rfl,by decide +kernel,rfl,by decide +kernel,by decide +kernel⟩
abbrev Wl:Stmt:=(zaP (top 8)).getD 1 (.Pass ⟨0,0,0,0⟩)
def zed:ZD ["self", "known"] ["self", "known"] (Zg Wl):=⟨rfl,rfl,rfl,by decide +kernel,rfl,by decide +kernel,by decide +kernel⟩
abbrev Wj:Stmt:=(zaP (top 8)).getD 2 (.Pass ⟨0,0,0,0⟩)
def Wc:ZD ["self", "known", "least", "one", "other", "count"] ["self", "known"] (Zg Wj):=⟨rfl,rfl,rfl,by decide +kernel,rfl,by decide +kernel,by decide +kernel⟩
abbrev Jd:Stmt:=(zaP (top 8)).getD 3 (.Pass ⟨0,0,0,0⟩)
def JQ:ZD ["self", "tree", "known", "number", "look", "ahead", "behind"] ["self", "tree", "known"] (Zg Jd):=⟨rfl,rfl,rfl,by decide +kernel,rfl,by decide +kernel,by decide +kernel⟩
abbrev Yo:Str:=(Str.ofString "row_of" ++ ".<locals>.") ++ "<lambda>"
set_option genInjectivity false
structure Fn1(K:FG)(mg:Str->Option Value)(n:Str)(s:Stmt)(ps:List Str) where
 f:AD
 fd:FuncData
 F:Fun K n n s f fd
 b:Binds K fd ps []
 m:mg n=some (.ref f)
abbrev Fn1.O{K:FG}{mg:Str->Option Value}{n:Str}{s:Stmt}{ps:List Str}(T:Fn1 K mg n s ps)(P:Program)(w:World)(base:Heap)(k:Nat)(sp:Sp):Prop:=Wb P w K mg base CX0 k T.f T.fd ps sp
structure Top(K:FG)(mg:Str->Option Value) where
 Q5:Fn1 K mg "bits_of" UG ["pairs", "many"]
 Yy:Fn1 K mg "with_look" W9 ["known", "one", "other"]
 J7:Fn1 K mg "pairs_of" J1 ["known"]
 Wx:Fn1 K mg "goes_ahead" JH ["known", "one", "other"]
 J5:Fn1 K mg "unparted" Q8 ["known"]
 Je:Fn1 K mg "least_looks" X4 ["known", "many"]
 QX:Fn1 K mg "row_of" J6 ["known"]
 XD:Fn1 K mg "many_ahead" WM ["known", "thing"]
 Yd:Fn1 K mg "_law_next" Qs ["deck"]
 Yx:Fn1 K mg "_law_closed" Xp ["pairs"]
 Qo:Fn1 K mg "_law_good" Jt ["known"]
 Qp:Fn1 K mg "_law_turn" Qv ["deck", "many"]
 Ws:Fn1 K mg "_law_known" JD ["deck", "many"]
 Wh:Fn1 K mg "_law_open" Jq ["known", "many"]
 Xd:Fn1 K mg "_law_rows_left" Xb ["known", "many"]
 Xl:Fn1 K mg "_law_followed" Wg ["tree", "row"]
 Xg:Fn1 K mg "_law_more" Xw ["known", "i", "j"]
 Yk:Fn1 K mg "_law_least" JF ["known", "many", "counts"]
 WL:Fn1 K mg "_law_shape" JV ["tree", "many"]
 YX:Fn1 K mg "_law_paper_good" Ym ["paper", "many"]
 Jb:Fn1 K mg "_law_within" Y4 ["one", "some"]
 Ww:Fn1 K mg "_law_kinds" Wu ["told"]
 zcZ:AD
 Xq:AD
 cd_row_of:QX.fd.code = .ref zcZ
 ch_row_of:codeHdIn K zcZ Xq=true
 zcS:mg "len" = none
 JG:mg "range" = none
 We:mg "tuple" = none
 Yv:mg "isinstance" = none
 ze2:mg "list" = none
 int_:mg "int" = none
 bool_:mg "bool" = none
 Vg:mg "sorted" = none
 znJ:mg "sum" = none
 Vc:mg "enumerate" = none
 zmM:mg "max" = none
 zof:mg "min" = none
 zmQ:mg "set" = none
 zok:mg "all" = none
 zn7:mg "any" = none
 zm0:mg "dict" = none
 tt:kitOne K (.type "tuple") (.type "tuple")=some true
 ib:kitOne K (.type "int") (.type "bool")=some false
 Zn:AD
 cm_Search:mg "Search" = some (.ref Zn)
 cl_Search:Cls K Zn
 Z9:AD
 X7:FuncData
 zbk:Fun K "__init__" "Search.__init__" YS Z9 X7
 Vi:Binds K X7 ["self"] []
 YC:AD
 fd_S_least:FuncData
 zeC:Fun K "least" "Search.least" Wl YC fd_S_least
 WW:Binds K fd_S_least ["self", "known"] []
 mt_Search_least:Meth K Zn "least" YC
 Y9:AD
 fd_S_tried:FuncData
 zeo:Fun K "tried" "Search.tried" Wj Y9 fd_S_tried
 zag:Binds K fd_S_tried ["self", "known"] []
 mt_Search_tried:Meth K Zn "tried" Y9
 Xc:AD
 fd_S_grow:FuncData
 zhh:Fun K "grow" "Search.grow" Jd Xc fd_S_grow
 Jc:Binds K fd_S_grow ["self", "tree", "known"] []
 mt_Search_grow:Meth K Zn "grow" Xc
 mk_Search:Mk K Zn Z9
 na_found:W7 K Zn "found"
 na_best:W7 K Zn "best"
def peN{X:Cx}{x:Str}{st:Stmt}{ps:List Str}{k:Nat}{sp:Sp}{e:Expr}{es:List Expr}{t:TA}{p pos:Pos}(T:Fn1 X.K X.mg x st ps)(F:Wb X.prog X.w X.K X.mg X.base CX0 k T.f T.fd ps sp)(hr:Wt k X.A)(ha:PA X (e::es) t)(hg:Gl X x:=by rfl)(hdb:(x==("__debug__" : Str))=false:=by decide)(he:starEach (e::es) X.env=(false,eval e X.env)::starEach es X.env:=by rfl)(hpl:(backTo pos (starEach es X.env)).any (·.1)=false:=by rfl):PE X (.Call (.Name x p) (e::es) [] pos) (Vn sp [] E0 t):=zfn F hr hg T.m T.F.kp T.b .nil zal ha hdb he hpl
section
def OkL(P:Program)(w:World)(K:FG)(mg:Str->Option Value)(base:Heap):Prop:=∀(f:AD)(fd:FuncData)(F:Fun K "law" "law" zbd f fd) (T:Top K mg) (Nd:zgE K=true) (M:Bs K mg base),Wb P w K mg base CX0 18 f fd ["script"] (Uv K [(T.Xq,λ_ _=>some Yo)])
structure EnC where
 P:Program
 w:World
 K:FG
 mg:Str->Option Value
 base:Heap
def znl:Nonempty EnC:=⟨⟨default,⟨λ_ _=>0,by constructor <;> first | exact default | exact .refcount | exact λ_=>default | exact λ_ _=>default | exact λ_ _ _=>default⟩,default,default,default⟩⟩
noncomputable def e0:EnC:=@Classical.epsilon EnC znl λe=>¬ OkL e.P e.w e.K e.mg e.base
noncomputable def P:Program:=e0.P
noncomputable def w:World:=e0.w
noncomputable def K:FG:=e0.K
noncomputable def mg:Str->Option Value:=e0.mg
noncomputable def base:Heap:=e0.base
end
abbrev dK(k:Kn):PD:=.tuple (k.map λ(b:Nat)=>.int (b:Nat))
abbrev dP(q:Nat×Nat):PD:=.tuple [.int (q.1:Nat),.int (q.2:Nat)]
abbrev dPs(ps:List (Nat×Nat)):PD:=.tuple (ps.map dP)
def znp{j:Nat}(h:j<k.length):(k.map λ(b:Nat)=>PyData.int (b:Nat))[j]?=some (.int (k.getD j 0:Nat)):=by rw[Ik,II,Ib h];rfl
def zmy(k:Kn):zcj (k.map λ(b:Nat)=>PyData.int (b:Nat))=(List.range k.length).map λ(t:Nat)=>PyData.tuple [.int (t:Nat),.int (k.getD t 0:Nat)]:=by unfold zcj;rw[Ie];refine Oe λt ht=>?_;rw[II,znp (IJ.mp ht)];rfl
def Qc{β:Type}(c:α->Bool)(f:α->β)(l:List α):(l.filterMap λa=>if c a then some (f a)else none)=(l.filter c).map f:=by
 induction l with
 |nil=>rfl
 |cons a r ih=>
  cases h:c a with
  |true=>rw[N1,filter_cons,h,Iz rfl,Iz rfl,Nt,ih]
  |false=>rw[N1,filter_cons,h,Iq Ii,Iq Ii,ih]
def rix(n k:Nat)(hk:k<(List.range n).length):(List.range n)[k]=k:=by simp
inductive RWl:List PD->PD->Prop
 |mk (k:Kn) (i j:Nat) (_:k.length<=8) (_:i<k.length) (_:j<k.length):RWl [dK k,.int (i:Nat),.int (j:Nat)] (dK (wl k i j))
inductive RBi:List PD->PD->Prop
 |mk (ps:List (Nat×Nat)) (n:Nat) (_:n<=8) (_:∀ q∈ps,q.1<n/\q.2<n):RBi [dPs ps,.int (n:Nat)] (dK (YJ ps n))
inductive RPo:List PD->PD->Prop
 |mk (k:Kn) (_:k.length<=8):RPo [dK k] (dPs (pairsOf k))
inductive RGo:List PD->PD->Prop
 |mk (k:Kn) (i j:Nat) (_:i<k.length):RGo [dK k,.int (i:Nat),.int (j:Nat)] (.bool (ah k i j))
inductive RUn:List PD->List PD->Prop
 |mk (k:Kn) (_:k.length<=8):RUn [dK k] ((unp k).map dP)
section
def zjr(T:Top K mg):T.Yy.O P w base 1 (spP K RWl):=by
 refine T.Yy.F.okP VJ (by rintro _ _ ⟨⟩;rfl) λcdv A outer s H E hr ds d hR=>?_;cases hR with
 |mk k i j hn hi hj=>
 have zl:(2000:Nat)<sizeLine:=by decide
 refine⟨_,(Zf (Zv (i:=3) VJ.nd rfl (Or.inr rfl) (ZZ zls (Yp (ZW (K:=K) rfl) (pv 0) (pv 2) (λ_ _=>rfl)) (ZZ zlj Zo (pv 2))))
   (Zj (ZR (Z6 (YM (K:=K) rfl) (by rfl) T.We zcv (Za (zaw (x:= "thing") (x2:= "behind") (cap:=["one", "onward"]) (js:=[1,3]) ⟨rfl,by decide +kernel,by decide +kernel,rfl,rfl,(by show ∀ p∈(_:List (Str×NameKind)),p.2=NameKind.free->List.lookup p.1 (Zg W9).names=some NameKind.cell;decide +kernel),by decide +kernel,by decide +kernel,by decide +kernel⟩ rfl rfl (λ_ _ h=>h) (zaL (by rfl) T.Vc (Za (pv 0) Ze Zd)) (λ_ _ _ _=>⟨Vq,(zhV (PW.pt (pw_or (Zw JP (pv 0) (pv 2) (ZQ _)) (pw_or1 (zfP (ZZ zdb (ZZ zdf (pv 1) (pv 2)) Zo))))) (ZZ zls (pv 1) (pv 3)) (pv 1))⟩)) Ze Xf))))) ,?_⟩
 refine Zm (Zu (ZG (zic (Z3 (Zb rfl) (Zb rfl) (by rw[Ie];exact Wq hj) (znp hj)) (zk6 (Zb rfl) (by omega))) ?_));refine Yn (ZG (XF (Zc (YB (zaA (js:=[1,3]) (List.range k.length) (λt=>.int (t:Nat)) (λt=>.int (k.getD t 0:Nat)) (λt=>some (.int ((if t==i||ah k t i then(k.getD t 0) ||| ((k.getD j 0) ||| (1 <<< j))else k.getD t 0:Nat)))) ?_ (by rw[Iy];omega) λt ht=>lx1 Ve (zl8 (QG (Zx (Ju (Zb rfl) (Zb rfl))) λ_=>zh0 (Zb rfl) (Zb rfl)) (λhc=>YB (zic (Zb rfl) (Zb rfl)) ?_) λhc=>YB (Zb rfl) ?_)) ?_) Zh)) rfl)
 .rw[← zmy];exact zfv (Zc (Zb rfl) Zh)
 .have:(t==i||ah k t i)=true:=by
   rw[← hc];congr 1;by_cases e:t=i
   .subst e;simp
   .have:¬ (t:Int)=(i:Int):=by omega
    simp[e,this]
  rw[Iz this]
 .have:¬ (t==i||ah k t i)=true:=by
   rw[Bool.not_eq_true,← hc];congr 1;by_cases e:t=i
   .subst e;simp
   .have:¬ (t:Int)=(i:Int):=by omega
    simp[e,this]
  rw[Iq this]
 .rw[Vo];unfold wl;rw[NQ];rfl
def zjy(T:Top K mg):T.Q5.O P w base 2 (spP K RBi):=by
 have G_with_look:=@zjr T;refine T.Q5.F.okP W2 (by rintro _ _ ⟨⟩;rfl) λcdv A outer s H E hr ds d hR=>?_;cases hR with
 |mk ps n h8 hps=>
 have zl:(2000:Nat)<sizeLine:=by decide
 refine⟨_,(Zf (Zv (i:=2) W2.nd rfl (Or.inl rfl) (ZZ (zjZ (K:=K) rfl) (YD (Za Zo Ze Yb)) (pv 1)))
   (Zf (Xa IR rfl (JK (pv 0)) (Jx (n:=2) rfl (ZK (Zz (i:=3) W2.nd rfl (Or.inl rfl)) (ZK (Zz (i:=4) W2.nd rfl (Or.inl rfl)) Xv)) (by rfl)) (Zj (Zv (i:=2) W2.nd rfl (Or.inl rfl) (peN T.Yy G_with_look hr (Za (pv 2) (Za (pv 3) (Za (pv 4) Ze Zd) Zd) Zd)))))
   (Zj (ZR (pv 2))))) ,?_⟩
 refine Zm (Zu (ZG (d:=dK (List.replicate n 0)) (YB (ziX (YL (Zc Zq Zh) (by show 1<=sizeLine;decide)) (Zb rfl) (by omega) (by show 1<=1000;decide)) ?_) ?_))
 .show PyData.tuple _=PyData.tuple ((List.replicate n 0).map λ(b:Nat)=>PyData.int (b:Nat));rw[List.map_replicate];congr 1;clear hps h8
  induction n with
  |zero=>rfl
  |succ n ih=>rw[Oq,Dc,ih];rfl
 refine Zm (Xh ps dP (Ql (Zb rfl)) (λi ρ=>∃ v3 v4:PV,ρ=[.dat (dPs ps),.dat (.int (n:Nat)),.dat (dK (YJ (ps.take i) n)),v3,v4]) ⟨_,_,rfl⟩ ?_ ?_)
 .rintro i hi _ ⟨v3,v4,rfl⟩;obtain⟨q1,q2⟩:=hps _ (Np hi);refine Qh (Zu (ZG (Z8 (Zc (Zb rfl) (Zc (Zb rfl) (Zc (Zb rfl) Zh))) (RWl.mk _ _ _ (by rw[zaf];exact h8) (by rw[zaf];exact q1) (by rw[zaf];exact q2))) ⟨.dat (.int (ps[i].1:Nat)),.dat (.int (ps[i].2:Nat)),?_⟩));rw[Nh hi];unfold YJ;rw[List.foldl_append];rfl
 .rintro _ ⟨v3,v4,rfl⟩;rw[Ov];exact Yn (ZG (Zb rfl) rfl)
def zhW(T:Top K mg):T.J7.O P w base 1 (spP K RPo):=by
 refine T.J7.F.okP Jl (by rintro _ _ ⟨⟩;rfl) λcdv A outer s H E hr ds d hR=>?_;cases hR with
 |mk k h8=>
 have zl:(2000:Nat)<sizeLine:=by decide
 have few:∀ i,i<=k.length->((List.range i).flatMap (zht k)).length<=i*8:=λi=>by
  induction i with
  |zero=>intro _;simp
  |succ i ih=>
   intro hi;rw[OP,NL,Il,Nv];have:=ih (by omega);have h2:(zht k i).length<=8:=by unfold zht;rw[Ie];exact IH (IT _ _) (by rw[Iy];exact h8)
   omega
 refine⟨_,(Zf (Zv (i:=1) Jl.nd rfl (Or.inl rfl) (Yl Ze))
   (Zf (Xa IR rfl (zaL (by rfl) T.Vc (Za (pv 0) Ze Zd)) (Jx (n:=2) rfl (ZK (Zz (i:=2) Jl.nd rfl (Or.inr rfl)) (ZK (Zz (i:=3) Jl.nd rfl (Or.inr rfl)) Xv)) (by rfl)) (Zj (WQ (zam N5 PySem.F.slot_list_extend PySem.F.type_list_extend ze5 (pv 1) (Za (zaT (x:= "other") (cap:=["one", "behind"]) (js:=[2,3]) ⟨rfl,by decide +kernel,by decide +kernel,rfl,(by show ∀ p∈(_:List (Str×NameKind)),p.2=NameKind.free->List.lookup p.1 (Zg J1).names=some NameKind.cell;decide +kernel),by decide +kernel,by decide +kernel,by decide +kernel⟩ rfl rfl (λ_ _ h=>h) (XJ (by rfl) T.JG (Za (ZF (Yj (K:=K) rfl) (by rfl) T.zcS NM (Za (pv 0) Ze Zd)) Ze Yg)) (λ_ _ _ _=>⟨(Wr (zfP (ZZ zdb (ZZ zdf (pv 2) (pv 0)) Zo))),(YD (Za (pv 1) (Za (pv 0) Ze Zd) Zd))⟩)) Ze Xf)))))
   (Zj (ZR (Z6 (YM (K:=K) rfl) (by rfl) T.We zcv (Za (pv 1) Ze Zd)))))) ,?_⟩
 refine Zm (Zu (QV Zh (by show 0<=sizeLine;decide) ?_));refine Zm (Xh (List.range k.length) (λ(t:Nat)=>PyData.tuple [.int (t:Nat),.int (k.getD t 0:Nat)]) (by rw[← zmy];exact zfv (Zc (Zb rfl) Zh)) (λi ρ=>∃ v2 v3:PV,ρ=[.dat (dK k),.own (((List.range i).flatMap (zht k)).map dP),v2,v3]) ⟨_,_,rfl⟩ ?_ ?_)
 .rintro i hi _ ⟨v2,v3,rfl⟩;rw[rix k.length i hi];rw[Iy]at hi;refine Qh (zk9 (znF (js:=[2,3]) (List.range k.length) (λ(j:Nat)=>PyData.int (j:Nat)) (λj=>if ah k i j then some (dP (i,j))else none) (Qx (Zc (YB (JN (Zc (Zb rfl) Zh)) (by rw[Ie])) Zh) (by omega)) (by rw[Iy];omega) (λj hj=>lxB (zh0 (Zb rfl) (Zb rfl)) λ_=>YL (Zc (Zb rfl) (Zc (Zb rfl) Zh)) (by show 2<=sizeLine;decide)) ?_) rfl rfl);have hf:=few i (by omega);refine⟨_,_,_,rfl,rfl,rfl,?_,.dat (.int (i:Nat)),.dat (.int (k.getD i 0:Nat)),?_⟩
  .rw[Qc,Ie,Ie];have:=IT (ah k i) (List.range k.length);rw[Iy]at this;omega
  .rw[OP,NL,Nv,Nk,Qc];have e:(zht k i).map dP=((List.range k.length).filter (ah k i)).map λj=>dP (i,j):=by unfold zht;rw[NQ];rfl
   rw[e];rfl
 .rintro _ ⟨v2,v3,rfl⟩;rw[Iy];exact zf9 (XF (Zc (VD rfl rfl) Zh)) rfl
def zkl(T:Top K mg):T.Wx.O P w base 1 (spP K RGo):=by
 refine T.Wx.F.okP zaI (by rintro _ _ ⟨⟩;rfl) λcdv A outer s H E hr ds d hR=>?_;cases hR with
 |mk k i j hi=>
 refine⟨_,(Zj (ZR (Jo JP (ZZ zdb (ZZ zdf (Yp (ZW (K:=K) rfl) (pv 0) (pv 1) (λ_ _=>rfl)) (pv 2)) Zo) Zo (ZQ _)))) ,?_⟩;refine Yn (ZG (YB (Ju (zeP (Z3 (Zb rfl) (Zb rfl) (by rw[Ie];exact Wq hi) (znp hi)) (Zb rfl)) Zq) ?_) rfl);unfold ah;cases(k.getD i 0).testBit j <;> rfl
def zlP(T:Top K mg):T.J5.O P w base 2 (spO K RUn):=by
 have G_goes_ahead:=@zkl T;refine T.J5.F.okO Jj (by rintro _ _ ⟨⟩;rfl) λcdv A outer s H E hr ds d hR=>?_;cases hR with
 |mk k h8=>
 have zl:(2000:Nat)<sizeLine:=by decide
 have rowl:∀ i m,(zdC k i m).length<=m:=λi m=>by unfold zdC;rw[Ie];exact IH (IT _ _) (O5 Iy)
 have few:∀ i,i<=k.length->((List.range i).flatMap λi=>zdC k i (k.length-(i+1))).length<=i*8:=λi=>by
  induction i with
  |zero=>intro _;simp
  |succ i ih=>intro hi;rw[OP,NL,Il,Nv];have:=ih (by omega);have h2:=rowl i (k.length-(i+1));omega
 refine⟨_,(Zf (Zv (i:=1) Jj.nd rfl (Or.inl rfl) (Yl Ze))
   (Zf (Xa IR rfl (XJ (by rfl) T.JG (Za (ZF (Yj (K:=K) rfl) (by rfl) T.zcS NM (Za (pv 0) Ze Zd)) Ze Yg)) (Zz (i:=2) Jj.nd rfl (Or.inl rfl)) (Zj (Xa IR rfl (zf4 (by rfl) T.JG (Za (ZZ Qi (pv 2) Zo) (Za (ZF (Yj (K:=K) rfl) (by rfl) T.zcS NM (Za (pv 0) Ze Zd)) Ze Yg) Ja)) (Zz (i:=3) Jj.nd rfl (Or.inl rfl)) (Zj (XN ((pw_and (W6 (Xu (peN T.Wx G_goes_ahead hr (Za (pv 0) (Za (pv 2) (Za (pv 3) Ze Zd) Zd) Zd)))) (pw_and1 (W6 (Xu (peN T.Wx G_goes_ahead hr (Za (pv 0) (Za (pv 3) (Za (pv 2) Ze Zd) Zd) Zd))))))).pt (Zj (WQ (zam N5 NB NC XH (pv 1) (Za (YD (Za (pv 2) (Za (pv 3) Ze Zd) Zd)) Ze Jp)))) Z7)))))
   (Zj (ZR (pv 1))))) ,?_⟩
 refine Zm (Zu (QV Zh (by show 0<=sizeLine;decide) ?_));refine Zm (Xh (List.range k.length) (λ(t:Nat)=>PyData.int (t:Nat)) (Qx (Zc (YB (JN (Zc (Zb rfl) Zh)) (by rw[Ie])) Zh) (by omega)) (λi ρ=>∃ v2 v3:PV,ρ=[.dat (dK k),.own (((List.range i).flatMap λi=>zdC k i (k.length-(i+1))).map dP),v2,v3]) ⟨_,_,rfl⟩ ?_ ?_)
 .rintro i hi _ ⟨v2,v3,rfl⟩;rw[rix k.length i hi];rw[Iy]at hi;have hf:=few i (by omega);generalize hA:(List.range i).flatMap (λi=>zdC k i (k.length-(i+1)))=A0 at hf;refine Xy (Xh (List.range (k.length-(i+1))) (λ(t:Nat)=>PyData.int (i+1+t:Nat)) ?_ (λm ρ=>∃ v3:PV,ρ=[.dat (dK k),.own ((A0++zdC k i m).map dP),.dat (.int (i:Nat)),v3]) ⟨v3,?_⟩ ?_ ?_)
  .have e:((k.length:Int)-(i+1)).toNat=k.length-(i+1):=by omega
   have:=zkp (K:=K) (B:=B0) (ρ:=msk [.dat (dK k),.own (A0.map dP),.dat (.int (i:Nat)),v3]) (lo:=(i:Int)+1) (j:=(k.length:Nat)) (t:=_) (Zc (Wf (g:=λi j=>.int (i+j)) (Zb (i:=2) rfl) Zq λ_=>Zy _) (Zc (YB (JN (ds:=k.map λ(b:Nat)=>PyData.int (b:Nat)) (Zc (Zb (i:=0) rfl) Zh)) (by rw[Ie])) Zh)) (by omega);rw[e]at this;have e2:(List.range (k.length-(i+1))).map (λ(t:Nat)=>PyData.int ((i:Int)+1+t))=(List.range (k.length-(i+1))).map λ(t:Nat)=>PyData.int (i+1+t:Nat):=Oe λt _=>rfl;rw[← e2];exact this
  .unfold zdC;simp
  .rintro m hm _ ⟨v3,rfl⟩;rw[rix _ m hm];rw[Iy]at hm;have hu:=rowl i m;have nx:zdC k i (m+1)=if opq k i (i+1+m)then zdC k i m++[(i,i+1+m)]else zdC k i m:=by unfold zdC;rw[OP,List.filter_append,Nk,filter_cons];split <;> simp
   refine Xy (zab (b:=opq k i (i+1+m)) ?_ (λhc=>?_) λhc=>ZV ⟨.dat (.int (i+1+m:Nat)),by rw[nx,hc];rfl⟩)
   .unfold opq;exact JR (WN (zbh (Z8 (Zc (Zb rfl) (Zc (Zb rfl) (Zc (Zb rfl) Zh))) (RGo.mk k i (i+1+m) hi)))) λ_=>WN (zbh (Z8 (Zc (Zb rfl) (Zc (Zb rfl) (Zc (Zb rfl) Zh))) (RGo.mk k (i+1+m) i (by omega))))
   .refine VB (ZG (YL (Zc (Zb rfl) (Zc (Zb rfl) Zh)) (by show 2<=sizeLine;decide)) ⟨_,_,_,rfl,rfl,rfl,by rw[Ie,Il];omega,.dat (.int (i+1+m:Nat)),?_⟩) rfl rfl;rw[nx,hc,Iz rfl,← OD,Nk (l₂:=[(i,i+1+m)])];rfl
  .rintro _ ⟨v3,rfl⟩;refine⟨.dat (.int (i:Nat)),v3,?_⟩;rw[Iy,OP,NL,Nv,hA]
 .rintro _ ⟨v2,v3,rfl⟩;rw[Iy];exact zjA rfl rfl
end
inductive Dk(n:Nat)(es:List PD):Prop
 |mk (cs:List Int) (a:Nat) (_:es=[.list (cs.map PyData.int),.int (a:Nat)]) (_:cs.length<=63) (_:a<=n):Dk n es
def zog:List PD->List PD->Prop:=λes ds=>∃ n:Nat,Dk n es/\n<=10^6/\ds=[]
def RNx:List PD->List PD->PD->List PD->Prop:=λes ds x es' => ∃ r:Int,x = .int r/\∀ n,Dk n es->Dk (n+1) es'
def LkI(K:FG)(n:Nat)(p:AD)(fp:List AD)(G H:Hp):Prop:=fp=[]/\∃ xs es,H p=some (.lst xs)/\ZX K G xs es/\Dk n es
noncomputable def lkT(K:FG):TF K Nat:=zmU (λn p fp G H=>LkI K n p fp G H) (λ{n p fp G H G' H'} ⟨e,xs,es,h1,h2,h3⟩ s k=>⟨e,xs,es,by rw[k p Ir];exact h1,h2.same s,h3⟩) (λ{n p fp G H} ⟨e,xs,es,h1,h2,h3⟩ a ha=>by
 subst e;rw[Ij.mp ha];exact⟨_,h1⟩)
def zkL(n:Nat)(ds:List PD):Prop:=ds=[]/\n<=10^6
inductive RDw(n:Nat)(ds:List PD)(x:PD)(n' : Nat):Prop
 |mk (r:Int) (_:x = .int r) (_:n'=n+1):RDw n ds x n'
inductive znN(n:Nat)(ds:List PD):Prop
 |mk (m:Nat) (_:ds=[.int (m:Nat)]) (_:m<=8) (_:n<=10^5):znN n ds
inductive RTu(n:Nat)(ds:List PD)(x:PD)(n' : Nat):Prop
 |mk (m:Nat) (l:List Nat) (_:ds=[.int (m:Nat)]) (_:x = .list (l.map λ(i:Nat)=>.int (i:Nat))) (_:l.Perm (List.range m)) (_:n' <= n+8):RTu n ds x n'
inductive RLc:List PD->PD->Prop
 |mk (ps:List (Nat×Nat)) (n:Nat) (_:n<=7) (_:∀ q∈ps,q.1<n/\q.2<n):RLc [.list (ps.map dP)] (dPs (pairsOf (YJ ps n)))
inductive RLt:List PD->PD->Prop
 |mk (ps:List (Nat×Nat)) (n:Nat) (_:n<=7) (_:∀ q∈ps,q.1<n/\q.2<n):RLt [dPs ps] (dPs (pairsOf (YJ ps n)))
inductive znq(n:Nat)(ds:List PD):Prop
 |mk (m:Nat) (_:ds=[.int (m:Nat)]) (_:m<=7) (_:n+100<=10^5):znq n ds
inductive RKn(n:Nat)(ds:List PD)(x:PD)(n' : Nat):Prop
 |mk (m:Nat) (k:Kn) (_:ds=[.int (m:Nat)]) (_:x=dPs (pairsOf k)) (_:IsO k) (_:k.length=m) (_:n' <= n+100):RKn n ds x n'
inductive ROp:List PD->PD->Prop
 |mk (k:Kn) (_:k.length<=8):ROp [dPs (pairsOf k),.int (k.length:Nat)] (.list ((opn k).map dP))
def QR{n:Nat}(q:Nat×Nat):Pl (n+1) (dP q):=zc3 λd hd=>by
 rcases IE.mp hd with rfl | hd
 .exact VF _
 .rw[Ij.mp hd];exact VF _
def ziu{n:Nat}(l:List (Nat×Nat)):Pl (n+2) (.list (l.map dP)):=JM λd hd=>by obtain⟨a,_,rfl⟩:=IB.mp hd;exact QR a
def zjP(a b:Nat×Nat):PySem.Spec.same (dP a) (dP b)=decide (a=b):=by
 have e:PySem.Spec.same (dP a) (dP b)=(decide ((a.1:Int)=b.1)&&decide ((a.2:Int)=b.2)):=by show PySem.Spec.same (.tuple [.int _,.int _]) (.tuple [.int _,.int _])=_;simp[PySem.Spec.same,sameAll];rfl
 rw[e];obtain⟨a1,a2⟩:=a;obtain⟨b1,b2⟩:=b;by_cases h1:a1=b1
 .by_cases h2:a2=b2
  .subst h1 h2;simp
  .have:¬ (a2:Int)=b2:=by omega
   simp[h1,h2,this]
 .have:¬ (a1:Int)=b1:=by omega
  simp[h1,this]
def zbS(l:List (Nat×Nat))(q:Nat×Nat):((l.map dP).any λe=>PySem.Spec.same e (dP q))=decide (q∈l):=by
 rw[any_map]
 induction l with
 |nil=>rfl
 |cons a r ih=>
  rw[DE,ih];show(PySem.Spec.same (dP a) (dP q)||_)=_;rw[zjP];by_cases h:a=q
  .subst h;simp
  .have h' : ¬ q=a:=λz=>h z.symm;simp[h,h']
def zdR{l:List α}{j:Nat}(h:j<l.length):(l[j]::l.eraseIdx j).Perm l:=by rw[List.eraseIdx_eq_take_drop_succ];refine List.perm_middle.symm.trans (List.Perm.of_eq ?_);rw[← List.drop_eq_getElem_cons h,OJ]
def zeg{β:Type}(f:α->β)(l:List α)(j:Nat):(l.map f).eraseIdx j=(l.eraseIdx j).map f:=by rw[List.eraseIdx_eq_take_drop_succ,List.eraseIdx_eq_take_drop_succ,Nk,map_take,map_drop]
def zbB(l:List (Nat×Nat)):l.map dP=(l.map up).map dPr:=by rw[NQ];rfl
section
def zi2(T:Top K mg):T.Yd.O P w base 1 (spL K zog RNx):=by
 refine T.Yd.F.okL WD (by rintro _ _ ⟨n,_,_,rfl⟩;rfl) λcdv A outer s H E hr p es ds hP=>?_;obtain⟨n,⟨cs,a,rfl,hcl,ha⟩,hn,rfl⟩:=hP;have fin:∀ n,Dk n [.list (cs.map PyData.int),.int (a:Nat)]->Dk (n+1) [.list (cs.map PyData.int),.int ((a+1:Nat))]:=λn hD=>by obtain⟨cs2,a2,e,h3,h4⟩:=hD;simp only[List.cons.injEq,PyData.int.injEq,and_true]at e;exact⟨cs,a+1,rfl,hcl,by omega⟩
 refine⟨_,(Zf (Zv (i:=1) WD.nd rfl (Or.inl rfl) (Yp (Ji (K:=K) rfl) (pv 0) Zo (λ_ _=>rfl)))
   (Zf (Zv (i:=2) WD.nd rfl (Or.inl rfl) (Yp (Ji (K:=K) rfl) (pv 0) Zo (λ_ _=>rfl)))
   (Zf (zb7 (ZZ Qi (pv 2) Zo) (ziq (pv 0) Zo set_list))
   (Zf (XN (Zw zd2 (pv 2) (ZF (Yj (K:=K) rfl) (by rfl) T.zcS NM (Za (pv 1) Ze Zd)) (ZQ _)) (Zj (ZR (Yp (Ji (K:=K) rfl) (pv 1) (pv 2) (λ_ _=>rfl)))) Z7)
   (Zf (XN (Zw JP (ZF (Yj (K:=K) rfl) (by rfl) T.zcS NM (Za (pv 1) Ze Zd)) Zo (ZQ _)) (Zj (ZR (ZZ Qi (ZZ Vr (ZZ Vr (pv 2) (pv 2)) Zo) (pv 2)))) Z7)
   (Zf (Zv (i:=3) WD.nd rfl (Or.inl rfl) (ZZ JT (ZZ Vr (ZZ Qi (ZZ Qi (ZZ JT (Yp (Ji (K:=K) rfl) (pv 1) (ZZ JT (pv 2) (ZF (Yj (K:=K) rfl) (by rfl) T.zcS NM (Za (pv 1) Ze Zd))) (λ_ _=>rfl)) Zo) (ZZ Vr (pv 2) Zo)) Zo) Zo) Zo))
   (Zj (ZR (ZZ JT (ZZ Vr (pv 3) (pv 3)) Zo))))))))) ,?_⟩
 refine Zm (Zu (zcw (ziA (n:=0) rfl rfl Zq rfl rfl) ?_));refine Zm (Zu (zcw (ziA (n:=1) rfl rfl Zq rfl rfl) ?_));refine Zm (zfj (i:=0) (Uo (Wf (Zb rfl) Zq λ_=>Zy _) rfl ⟨_,_,_,1,1,rfl,rfl,rfl,Zq,rfl,?_⟩));have he:((a:Int)+1)=((a+1:Nat):Int):=by omega
 rw[he];refine Zm (zab (Zx (Wf (Zb rfl) (YB (Q9 (Zc (Zb rfl) Zh)) (by rw[Ie])) λ_=>Yr _)) (λh=>?_) λh=>ZV ?_)
 .have hal:a<cs.length:=by have:=IC h;omega
  exact Yn (ZG (zbF (n:=a) (d:=.int (cs.getD a 0)) (Zb rfl) (Zb rfl) (by rw[Ie];exact Wq hal) (by rw[Ik,II,Ib hal];rfl)) ⟨_,_,rfl,⟨_,rfl,fin⟩,rfl⟩)
 refine Zm (zab (Zx (Ju (YB (Q9 (Zc (Zb rfl) Zh)) (by rw[Ie])) Zq)) (λh2=>?_) λh2=>ZV ?_)
 .exact Yn (ZG (Wf (Q7 (Q7 (Zb rfl) (Zb rfl) (mw (by omega) (by omega)) λ_=>Zy _) Zq (mw (by
   have:((a:Int)*a).natAbs<=10^6*10^6:=by rw[Int.natAbs_mul];exact OQ (by omega) (by omega)
   omega) (by decide)) λ_=>Zy _) (Zb rfl) λ_=>Zy _) ⟨_,_,rfl,⟨_,rfl,fin⟩,rfl⟩)
 have hp:0<cs.length:=by have:=De h2;omega
 have hi1:a % cs.length<cs.length:=mod_lt _ hp;have hb:∀ z:Int,(0:Int)<=z % 2147483629/\z % 2147483629<2147483629:=λz=>⟨emod_nonneg _ (by decide),emod_lt_of_pos _ (by decide)⟩
 have hz:=hb (cs.getD (a % cs.length) 0);refine Zm (Zu (ZG (Q7 (Q7 (Wf (Wf (Q7 (zbF (n:=a % cs.length) (d:=.int (cs.getD (a % cs.length) 0)) (Zb rfl) (Q7 (Zb rfl) (YB (Q9 (Zc (Zb rfl) Zh)) (by rw[Ie])) (by omega) λ_=>Zy _) (by rw[Ie,← Int.natCast_emod];exact Wq hi1) (by rw[Ik,II,Ib hi1];rfl)) Zq (by decide) λ_=>Zy _) (Q7 (Zb rfl) Zq (mw (by omega) (by decide)) λ_=>Zy _) λ_=>Zy _) Zq λ_=>Zy _) Zq (mw (by omega) (by decide)) λ_=>Zy _) Zq (by decide) λ_=>Zy _) ?_));generalize hM:(cs.getD (a % cs.length) 0 % 2147483629+(a:Int)*7919+5)*50021 % 2147483587=m;have hm:0<=m/\m<2147483587:=by rw[← hM];exact⟨emod_nonneg _ (by decide),emod_lt_of_pos _ (by decide)⟩
 exact Yn (ZG (Q7 (Q7 (Zb rfl) (Zb rfl) (mw (by omega) (by omega)) λ_=>Zy _) Zq (by decide) λ_=>Zy _) ⟨_,_,rfl,⟨_,rfl,fin⟩,rfl⟩)
def znx{k:Nat}{f:AD}{ps:List Str}{Pre:List PD->List PD->Prop}{R:List PD->List PD->PD->List PD->Prop}{Pre' : Nat->List PD->Prop}{R' : Nat->List PD->PD->Nat->Prop}(F:Wb P w K mg base CX0 k f fd ps (spL K Pre R))(hP:∀ n es ds,Dk n es->Pre' n ds->Pre es ds)(hR:∀ n es ds x es',Dk n es->Pre' n ds->R es ds x es' -> ∃ n',Dk n' es' /\ R' n ds x n'):Wb P w K mg base CX0 k f fd ps (spT (lkT K) Pre' R'):=
 F.imp λvs H Q E h=>by obtain⟨p,fp,us,G,n,ds,e,sg,gn,lv,⟨e2,xs,es,h1,h2,h3⟩,hv,hp,kk⟩:=h;subst e2;refine⟨p,us,G,xs,es,ds,e,sg,gn p Ir,h1,h2,hv,hP n es ds h3 hp,λv x es' xs' G' H' hr gw gp hp' hd hx=>?_⟩;obtain⟨n',d',r'⟩:=hR n es ds x es' h3 hp hr;have eE:(λb=>b=p)=(λb=>b∈[p]):=funext λb=>propext Ij.symm;rw[eE]at gw;exact kk v x n' G' H' r' gw (λa ha=>by rw[Ij.mp ha];exact gp) (λa ha=>by rw[Ij.mp ha];exact⟨_,hp'⟩) ⟨rfl,xs',es',hp',hd,d'⟩ hx
def zjw(T:Top K mg):T.Yd.O P w base 1 (spT (lkT K) zkL RDw):=znx (zi2 T) (λn es ds h ⟨e,h1⟩=>⟨n,h,h1,e⟩) λn es ds x es' h _ ⟨r,e2,s⟩=>⟨n+1,s n h,r,e2,rfl⟩
def zk3{X:XK}{p:AD}{R:PV->List PV->Prop}(hi:ρ[i]?=some ((lkT K).pv c p fp))(hc:c<=10^6)(k:∀ r:Int,R (.dat (.int r)) (ρ.set i ((lkT K).pv (c+1) p fp))):Eg K B (Vn (spT (lkT K) zkL RDw) [] X (YQ (JB i) V5)) ρ R:=
 zaK hi (Wz Zh ⟨c,hi,⟨rfl,hc⟩,λx s2 hx=>by
  obtain⟨r,rfl,rfl⟩:=hx;exact k r⟩)
def zbz{X:XK}{p:AD}{te:TE}{R:PV->List PV->Prop}(hi:ρ[i]?=some ((lkT K).pv c p fp))(hc:c<=10^6)(hm:Er K B te (ρ.set i ((lkT K).pv (c+1) p fp)) (.int (m:Nat)))(h1:1<=m)(k:∀ r:Nat,r<m->R (.dat (.int (r:Nat))) (ρ.set i ((lkT K).pv (c+1) p fp))):Eg K B (tOp (rI (λ_ j=>0<j) λi j=>.int (i % j)) (Vn (spT (lkT K) zkL RDw) [] X (YQ (JB i) V5)) te) ρ R:=
 zcB (zk3 hi hc λr=>⟨_,rfl,Uo hm rfl ⟨_,.int (r % (m:Int)),rfl,λG σ va vb ha hb=>zjf (zbi ha) (zbi hb) (show(0:Int)<(m:Int)by omega) (Zy _),by
  have h0:0<=r % (m:Int):=emod_nonneg _ (by omega);have h2:r % (m:Int)<m:=emod_lt_of_pos _ (by omega);obtain⟨z,hz⟩:=Int.eq_ofNat_of_zero_le h0;rw[hz];exact k z (by omega)⟩⟩)
def ziI(T:Top K mg):T.Qp.O P w base 2 (spT (lkT K) znN RTu):=by
 have G__law_next:=@zjw T;refine T.Qp.F.okT JZ (by rintro _ _ ⟨_,rfl,_⟩;rfl) λcdv A outer s H E hr p fp n ds hP=>?_;obtain⟨m,rfl,hm8,hn⟩:=hP;have zl:(2000:Nat)<sizeLine:=by decide
 have hu:=hr.units;refine⟨_,(Zf (Zv (i:=2) JZ.nd rfl (Or.inl rfl) (zeB rfl (by rfl) T.ze2 (by rfl) T.JG (Za (pv 1) Ze Zd)))
   (Zf (Zv (i:=3) JZ.nd rfl (Or.inl rfl) (Yl Ze))
   (Zf (VV IR (Zw (UJ (K:=K) rfl hu) (pv 2) (Yl Ze) (ZQ _)) (Zj (WQ (zam N5 NB NC XH (pv 3) (Za (zam N5 PySem.F.slot_list_pop PySem.F.type_list_pop zhs (pv 2) (Za (ZZ JT (peN T.Yd G__law_next hr (Za (pv 0) Ze Zd)) (ZF (Yj (K:=K) rfl) (by rfl) T.zcS NM (Za (pv 2) Ze Zd))) Ze Ja)) Ze Yg)))))
   (Zj (ZR (pv 3)))))) ,?_⟩
 refine Zm (Zu (zhc (Wz (Zc (Zb rfl) Zh) ⟨m,rfl,by omega,?_⟩)));refine Zm (Zu (QV Zh (by show 0<=sizeLine;decide) ?_));refine Zm (V0 (λk ρ=>∃(c:Nat)(left found:List Nat),left.length=k/\(found++left).Perm (List.range m)/\c+k<=n+m/\ρ=[(lkT K).pv c p fp,.dat (.int (m:Nat)),.own (left.map λ(i:Nat)=>PyData.int (i:Nat)),.own (found.map λ(i:Nat)=>PyData.int (i:Nat))]) m ⟨n,List.range m,[],Iy,by rw[nil_append],Ih _,rfl⟩ ?_);rintro k _ ⟨c,left,found,hk,hp,hc,rfl⟩;have hlen:=hp.length_eq;rw[Il,Iy]at hlen;refine⟨!decide (left=[]),Wy (Zx (VH (n:=2) (VD rfl rfl) (Xk Zh (by show 0<=sizeLine;decide)) (JM λd hd=>by obtain⟨_,_,rfl⟩:=IB.mp hd;exact VF _) (JM λd hd=>by cases hd) (by decide))) ?_,λh=>?_,λh=>?_⟩
 .congr 1;cases left with
  |nil=>rfl
  |cons a r=>rfl
 .have hne:left≠[]:=by simpa using h
  have hpos:0<left.length:=List.length_pos_iff.mpr hne;refine VB (zgS (i:=2) rfl rfl (zbz (m:=left.length) (c:=c) rfl (by omega) (YB (Q9 (Zc (VD rfl rfl) Zh)) (by rw[Ie])) hpos λj hj=>?_)) rfl rfl;refine⟨_,_,j,.int (left[j]:Nat),rfl,rfl,rfl,by rw[Ik,Ib hj];rfl,by omega,?_⟩;refine⟨_,_,_,rfl,rfl,rfl,by rw[Ie];omega,k-1,by omega,c+1,left.eraseIdx j,found++[left[j]],?_,?_,by omega,?_⟩
  .rw[List.length_eraseIdx_of_lt hj];omega
  .refine List.Perm.trans ?_ hp;rw[OD];refine List.Perm.append_left _ ?_;exact zdR hj
  .rw[Nk,zeg];rfl
 .have hne:left=[]:=by simpa using h
  subst hne;refine zia (Yn (ZG (Zb rfl) ⟨_,c,rfl,⟨m,found,rfl,rfl,by rw[Nx]at hp;exact hp,by omega⟩,rfl⟩))
def zmd(T:Top K mg):T.Yx.O P w base 1 (spP K RLc):=by
 refine T.Yx.F.okP Zt (by rintro _ _ ⟨⟩;rfl) λcdv A outer s H E hr ds d hR=>?_;cases hR with
 |mk ps n h7 hps=>
 have zl:(3000:Nat)<sizeLine:=by decide
 have hu:=hr.units;have hu8:=Nat.lt_of_le_of_lt (Nat.add_le_add_left (show 8<=64 by decide) _) hr.units;have upb:∀ qs:List (Nat×Nat),(∀ q∈qs,q.1<n/\q.2<n)->∀ q∈qs.map up,0<=q.1/\q.1<n/\0<=q.2/\q.2<n:=λqs h q hq=>by obtain⟨a,ha,rfl⟩:=IB.mp hq;have:=h a ha;show 0<=(a.1:Int)/\(a.1:Int)<n/\0<=(a.2:Int)/\(a.2:Int)<n;omega
 have nn:n*n<=49:=OQ h7 h7;have psl:∀ qs,(Yc n qs).length<=49:=λqs=>IH zb4 nn;have bk:=Va ps hps (List.replicate n 0) Nl Qj.1 Qj.2;have bkN:(YJ ps n).length=n:=zaf;refine⟨_,(Zf (Zv (i:=1) Zt.nd rfl (Or.inr rfl) (zcr (K:=K) rfl rfl hu8 (by rfl) T.Vg (by rfl) T.zmQ (Za (pv 0) Ze Zd)))
   (Zf (Zv (i:=2) Zt.nd rfl (Or.inl rfl) Jz)
   (Zf (VV IR (Xu (pv 2)) (Zf (Zv (i:=3) Zt.nd rfl (Or.inl rfl) (Yl Ze))
   (Zf (Xa IR rfl (Xr (pv 1)) (Jx (n:=2) rfl (ZK (Zz (i:=4) Zt.nd rfl (Or.inr rfl)) (ZK (Zz (i:=5) Zt.nd rfl (Or.inr rfl)) Xv)) (by rfl)) (Zj (Zv (i:=3) Zt.nd rfl (Or.inl rfl) (ZZ Jw (pv 3) (zaw (x:= "k") (x2:= "l") (cap:=["i", "j", "found"]) (js:=[4,5,1]) ⟨rfl,by decide +kernel,by decide +kernel,rfl,rfl,(by show ∀ p∈(_:List (Str×NameKind)),p.2=NameKind.free->List.lookup p.1 (Zg Xp).names=some NameKind.cell;decide +kernel),by decide +kernel,by decide +kernel,by decide +kernel⟩ rfl rfl (λ_ _ h=>h) (Xr (pv 1)) (λ_ _ _ _=>⟨(Wr (PW.pt (pw_and (Zw JP (pv 3) (pv 0) (ZQ _)) (pw_and1 (Zw (U8 (K:=K) rfl hu) (YD (Za (pv 2) (Za (pv 1) Ze Zd) Zd)) (pv 4) (by rfl)))))),(YD (Za (pv 2) (Za (pv 1) Ze Zd) Zd))⟩))))))
   (Zf (Zv (i:=2) Zt.nd rfl (Or.inl rfl) (Jo (UJ (K:=K) rfl hu) (pv 3) (Yl Ze) (ZQ _)))
   (Zj (Zv (i:=1) Zt.nd rfl (Or.inr rfl) (zcr (K:=K) rfl rfl hu8 (by rfl) T.Vg (by rfl) T.zmQ (Za (ZZ Jw (pv 1) (pv 3)) Ze Ja))))))))
   (Zj (ZR (Z6 (YM (K:=K) rfl) (by rfl) T.We zcv (Za (pv 1) Ze Zd))))))) ,?_⟩
 have srt:∀{ρ:List PV}{te:TE}{qs:List (Nat×Nat)},(∀ q∈qs,q.1<n/\q.2<n)->Er K B0 te ρ (.list (qs.map dP))->Er K B0 (tCB (zeG K) (YQ te V5)) ρ (.list ((Yc n qs).map dP)):=λ{ρ te qs} h1 h2=>YB (zf7 (Zc (YB h2 (by rw[zbB])) Zh) h7 (upb qs h1)) (by rw[Q3,← zbB]);refine Zm (Zu (ZG (srt hps (Zb rfl)) ?_));refine Zm (Zu (ZG zer ?_));refine Zm (V0 (λm ρ=>∃(qs:List (Nat×Nat))(b:Bool)(v3 v4 v5:PV),(∀ q∈qs,q.1<n/\q.2<n)/\(∀ q∈ps,q∈qs)/\(∀ q∈Yc n qs,ah (YJ ps n) q.1 q.2=true)/\(b=false->zbg (Yc n qs) (Yc n qs).length=[])/\m=(if b then 1 else 0)+(49-(Yc n qs).length)/\ρ=[.dat (.list (ps.map dP)),.dat (.list ((Yc n qs).map dP)),.dat (.bool b),v3,v4,v5]) (1+(49-(Yc n ps).length)) ⟨ps,true,_,_,_,hps,λq h=>h,λq hq=>bk.2.2.2.1 q (Z5.mp hq).2,λh=>noConfusion h,rfl,rfl⟩ ?_);rintro m _ ⟨qs,b,v3,v4,v5,hq1,hq2,hq3,hq4,hm,rfl⟩;refine⟨b,zbh (Zb rfl),λhb=>?_,λhb=>?_⟩
 .subst hb;generalize hF:Yc n qs=F at hq3 hq4 hm;have hFl:F.length<=49:=by rw[← hF];exact psl qs
  have hFm:∀ q∈F,q.1<n/\q.2<n:=λq hq=>by rw[← hF]at hq;exact(Z5.mp hq).1
  have frl:∀ i,i<=F.length->(zbg F i).length<=i*49:=λi=>by
   induction i with
   |zero=>intro _;unfold zbg;simp
   |succ i ih=>
    intro hi;unfold zbg at ih ⊢;rw[Nh (by omega),NL,Il,Nv];have:=ih (by omega);have h2:(ziy F F[i]).length<=49:=by unfold ziy;rw[Ie];exact IH (IT _ _) hFl
    omega
  refine Zm (Zu (ZG (Xk Zh (by show 0<=sizeLine;decide)) ?_));refine Zm (Xh F dP (WF (Zb rfl)) (λi ρ=>∃ v4 v5:PV,ρ=[.dat (.list (ps.map dP)),.dat (.list (F.map dP)),.dat (.bool true),.dat (.list ((zbg F i).map dP)),v4,v5]) ⟨v4,v5,rfl⟩ ?_ ?_)
  .rintro i hi _ ⟨v4,v5,rfl⟩;have hf:=frl i (by omega);refine Qh (Zu (ZG (YB (XR (Zb rfl) (zaA (js:=[4,5,1]) F (λr=>.int (r.1:Nat)) (λr=>.int (r.2:Nat)) (λr=>if decide (F[i].2=r.1) && !decide ((F[i].1,r.2)∈F)then some (dP (F[i].1,r.2))else none) (WF (Zb rfl)) (by omega) λr hr=>lxB ?_ λ_=>YL (Zc (Zb rfl) (Zc (Zb rfl) Zh)) (by show 2<=sizeLine;decide)) ?_) ?_) ⟨.dat (.int (F[i].1:Nat)),.dat (.int (F[i].2:Nat)),rfl⟩))
   .refine JR (Wy (Zx (Ju (Zb rfl) (Zb rfl))) ?_) λ_=>Zx (YB (za1 (YL (Zc (Zb rfl) (Zc (Zb rfl) Zh)) (by show 2<=sizeLine;decide)) (Zb rfl) (QR (F[i].1,r.2)) λe he=>?_) ?_)
    .exact Nq.mpr (by omega)
    .obtain⟨a,_,rfl⟩:=IB.mp he;exact QR a
    .rw[Iz rfl,zbS F (F[i].1,r.2)]
   .rw[Qc,Ie,Ie];have:=IT (λr:Nat×Nat=>decide (F[i].2=r.1) && !decide ((F[i].1,r.2)∈F)) F;have:F.length*49<=49*49:=NY _ hFl;have:i*49<=F.length*49:=NY _ (by omega);omega
   .rw[Qc];unfold zbg;rw[Nh hi,NL,Nv,Nk];congr 1;congr 1;unfold ziy;rw[NQ];rfl
  .rintro _ ⟨v4,v5,rfl⟩;have hfr:=frl F.length (Ih _);have:F.length*49<=49*49:=NY _ hFl;generalize hR:zbg F F.length=fr at hfr;have frm:∀ q,q∈fr↔q∉F/\∃ j,(q.1,j)∈F/\(j,q.2)∈F:=λq=>by rw[← hR];exact zaF
   refine Zm (Zu (ZG (d:=.bool (!decide (fr=[]))) (YB (VH (n:=4) (Zb rfl) (Xk Zh (by show 0<=sizeLine;decide)) (ziu fr) (JM λd hd=>by cases hd) (by decide)) ?_) ?_))
   .cases fr with
    |nil=>rfl
    |cons a r=>rfl
   have inF:∀ q∈fr,q.1<n/\q.2<n:=λq hq=>by obtain⟨_,j,h1,h2⟩:=(frm q).mp hq;exact⟨(hFm _ h1).1,(hFm _ h2).2⟩
   have all:∀ q∈F++fr,q.1<n/\q.2<n:=λq hq=>by
    rcases Nz.mp hq with hq | hq
    .exact hFm q hq
    .exact inF q hq
   refine Zu (ZG (srt (qs:=F++fr) all (YB (XR (Zb rfl) (Zb rfl) (by rw[Ie,Ie];omega)) (by rw[Nk]))) ?_);have same:fr=[]->Yc n (F++fr)=F:=λe=>by rw[e,Nx,← hF];unfold Yc;refine Dy λq hq=>Nq.mpr ?_;rw[Nj,Nf];exact⟨λh=>h.2,λh=>⟨hq,h⟩⟩
   refine⟨_,?_,F++fr,!decide (fr=[]),.dat (.list (fr.map dP)),v4,v5,all,λq hq=>N3 _ (by rw[← hF];exact Z5.mpr ⟨hps q hq,hq2 q hq⟩),λq hq=>?_,λhb=>?_,rfl,rfl⟩
   .subst hm;by_cases e:fr=[]
    .rw[same e,Iw e];show 0+_<1+_;omega
    .rw[Ip e];obtain⟨a,ha⟩:=List.exists_mem_of_ne_nil fr e;have:=zaC (n:=n) (a:=qs) (b:=F++fr) (q:=a) (λx hx=>N3 _ (by rw[hF]at hx;exact hx)) (IG _ ha) (inF a ha) (by rw[hF];exact((frm a).mp ha).1);rw[hF]at this;have:=psl (F++fr);show 1+_<1+_;omega
   .rcases Nz.mp (Z5.mp hq).2 with h | h
    .exact hq3 q h
    .obtain⟨_,j,h1,h2⟩:=(frm q).mp h;have hj:=(hFm _ h1).2;exact bk.1 q.1 j q.2 (by rw[show(List.foldl (λk q=>wl k q.1 q.2) (List.replicate n 0) ps).length=n from bkN];exact(Z5.mp hq).1.1) (by rw[show(List.foldl (λk q=>wl k q.1 q.2) (List.replicate n 0) ps).length=n from bkN];exact hj) (hq3 _ h1) (hq3 _ h2)
   .have e:fr=[]:=by simpa using hb
    rw[same e,hR];exact e
 .subst hb;refine Yn (ZG (YB (XF (Zc (Zb rfl) Zh)) ?_) rfl);rw[zbU hps hq2 hq3 (hq4 rfl)]
def zl2(T:Top K mg):T.Yx.O P w base 1 (spP K RLt):=by
 refine T.Yx.F.okP Zt (by rintro _ _ ⟨⟩;rfl) λcdv A outer s H E hr ds d hR=>?_;cases hR with
 |mk ps n h7 hps=>
 have zl:(3000:Nat)<sizeLine:=by decide
 have hu:=hr.units;have hu8:=Nat.lt_of_le_of_lt (Nat.add_le_add_left (show 8<=64 by decide) _) hr.units;have upb:∀ qs:List (Nat×Nat),(∀ q∈qs,q.1<n/\q.2<n)->∀ q∈qs.map up,0<=q.1/\q.1<n/\0<=q.2/\q.2<n:=λqs h q hq=>by obtain⟨a,ha,rfl⟩:=IB.mp hq;have:=h a ha;show 0<=(a.1:Int)/\(a.1:Int)<n/\0<=(a.2:Int)/\(a.2:Int)<n;omega
 have nn:n*n<=49:=OQ h7 h7;have psl:∀ qs,(Yc n qs).length<=49:=λqs=>IH zb4 nn;have bk:=Va ps hps (List.replicate n 0) Nl Qj.1 Qj.2;have bkN:(YJ ps n).length=n:=zaf;refine⟨_,(Zf (Zv (i:=1) Zt.nd rfl (Or.inr rfl) (zfg (K:=K) rfl rfl hu8 (by rfl) T.Vg (by rfl) T.zmQ (Za (pv 0) Ze Zd)))
   (Zf (Zv (i:=2) Zt.nd rfl (Or.inl rfl) Jz)
   (Zf (VV IR (Xu (pv 2)) (Zf (Zv (i:=3) Zt.nd rfl (Or.inl rfl) (Yl Ze))
   (Zf (Xa IR rfl (Xr (pv 1)) (Jx (n:=2) rfl (ZK (Zz (i:=4) Zt.nd rfl (Or.inr rfl)) (ZK (Zz (i:=5) Zt.nd rfl (Or.inr rfl)) Xv)) (by rfl)) (Zj (Zv (i:=3) Zt.nd rfl (Or.inl rfl) (ZZ Jw (pv 3) (zaw (x:= "k") (x2:= "l") (cap:=["i", "j", "found"]) (js:=[4,5,1]) ⟨rfl,by decide +kernel,by decide +kernel,rfl,rfl,(by show ∀ p∈(_:List (Str×NameKind)),p.2=NameKind.free->List.lookup p.1 (Zg Xp).names=some NameKind.cell;decide +kernel),by decide +kernel,by decide +kernel,by decide +kernel⟩ rfl rfl (λ_ _ h=>h) (Xr (pv 1)) (λ_ _ _ _=>⟨(Wr (PW.pt (pw_and (Zw JP (pv 3) (pv 0) (ZQ _)) (pw_and1 (Zw (U8 (K:=K) rfl hu) (YD (Za (pv 2) (Za (pv 1) Ze Zd) Zd)) (pv 4) (by rfl)))))),(YD (Za (pv 2) (Za (pv 1) Ze Zd) Zd))⟩))))))
   (Zf (Zv (i:=2) Zt.nd rfl (Or.inl rfl) (Jo (UJ (K:=K) rfl hu) (pv 3) (Yl Ze) (ZQ _)))
   (Zj (Zv (i:=1) Zt.nd rfl (Or.inr rfl) (zcr (K:=K) rfl rfl hu8 (by rfl) T.Vg (by rfl) T.zmQ (Za (ZZ Jw (pv 1) (pv 3)) Ze Ja))))))))
   (Zj (ZR (Z6 (YM (K:=K) rfl) (by rfl) T.We zcv (Za (pv 1) Ze Zd))))))) ,?_⟩
 have srt:∀{ρ:List PV}{te:TE}{qs:List (Nat×Nat)},(∀ q∈qs,q.1<n/\q.2<n)->Er K B0 te ρ (.list (qs.map dP))->Er K B0 (tCB (zeG K) (YQ te V5)) ρ (.list ((Yc n qs).map dP)):=λ{ρ te qs} h1 h2=>YB (zf7 (Zc (YB h2 (by rw[zbB])) Zh) h7 (upb qs h1)) (by rw[Q3,← zbB]);refine Zm (Zu (ZG (YB (zes (n:=n) (ps:=ps.map up) (Zc (YB (Zb rfl) (show dPs ps=_ by rw[← zbB])) Zh) h7 (upb ps hps)) (show _=PyData.list ((Yc n ps).map dP)by rw[Q3,← zbB])) ?_));refine Zm (Zu (ZG zer ?_));refine Zm (V0 (λm ρ=>∃(qs:List (Nat×Nat))(b:Bool)(v3 v4 v5:PV),(∀ q∈qs,q.1<n/\q.2<n)/\(∀ q∈ps,q∈qs)/\(∀ q∈Yc n qs,ah (YJ ps n) q.1 q.2=true)/\(b=false->zbg (Yc n qs) (Yc n qs).length=[])/\m=(if b then 1 else 0)+(49-(Yc n qs).length)/\ρ=[.dat (dPs ps),.dat (.list ((Yc n qs).map dP)),.dat (.bool b),v3,v4,v5]) (1+(49-(Yc n ps).length)) ⟨ps,true,_,_,_,hps,λq h=>h,λq hq=>bk.2.2.2.1 q (Z5.mp hq).2,λh=>noConfusion h,rfl,rfl⟩ ?_);rintro m _ ⟨qs,b,v3,v4,v5,hq1,hq2,hq3,hq4,hm,rfl⟩;refine⟨b,zbh (Zb rfl),λhb=>?_,λhb=>?_⟩
 .subst hb;generalize hF:Yc n qs=F at hq3 hq4 hm;have hFl:F.length<=49:=by rw[← hF];exact psl qs
  have hFm:∀ q∈F,q.1<n/\q.2<n:=λq hq=>by rw[← hF]at hq;exact(Z5.mp hq).1
  have frl:∀ i,i<=F.length->(zbg F i).length<=i*49:=λi=>by
   induction i with
   |zero=>intro _;unfold zbg;simp
   |succ i ih=>
    intro hi;unfold zbg at ih ⊢;rw[Nh (by omega),NL,Il,Nv];have:=ih (by omega);have h2:(ziy F F[i]).length<=49:=by unfold ziy;rw[Ie];exact IH (IT _ _) hFl
    omega
  refine Zm (Zu (ZG (Xk Zh (by show 0<=sizeLine;decide)) ?_));refine Zm (Xh F dP (WF (Zb rfl)) (λi ρ=>∃ v4 v5:PV,ρ=[.dat (dPs ps),.dat (.list (F.map dP)),.dat (.bool true),.dat (.list ((zbg F i).map dP)),v4,v5]) ⟨v4,v5,rfl⟩ ?_ ?_)
  .rintro i hi _ ⟨v4,v5,rfl⟩;have hf:=frl i (by omega);refine Qh (Zu (ZG (YB (XR (Zb rfl) (zaA (js:=[4,5,1]) F (λr=>.int (r.1:Nat)) (λr=>.int (r.2:Nat)) (λr=>if decide (F[i].2=r.1) && !decide ((F[i].1,r.2)∈F)then some (dP (F[i].1,r.2))else none) (WF (Zb rfl)) (by omega) λr hr=>lxB ?_ λ_=>YL (Zc (Zb rfl) (Zc (Zb rfl) Zh)) (by show 2<=sizeLine;decide)) ?_) ?_) ⟨.dat (.int (F[i].1:Nat)),.dat (.int (F[i].2:Nat)),rfl⟩))
   .refine JR (Wy (Zx (Ju (Zb rfl) (Zb rfl))) ?_) λ_=>Zx (YB (za1 (YL (Zc (Zb rfl) (Zc (Zb rfl) Zh)) (by show 2<=sizeLine;decide)) (Zb rfl) (QR (F[i].1,r.2)) λe he=>?_) ?_)
    .exact Nq.mpr (by omega)
    .obtain⟨a,_,rfl⟩:=IB.mp he;exact QR a
    .rw[Iz rfl,zbS F (F[i].1,r.2)]
   .rw[Qc,Ie,Ie];have:=IT (λr:Nat×Nat=>decide (F[i].2=r.1) && !decide ((F[i].1,r.2)∈F)) F;have:F.length*49<=49*49:=NY _ hFl;have:i*49<=F.length*49:=NY _ (by omega);omega
   .rw[Qc];unfold zbg;rw[Nh hi,NL,Nv,Nk];congr 1;congr 1;unfold ziy;rw[NQ];rfl
  .rintro _ ⟨v4,v5,rfl⟩;have hfr:=frl F.length (Ih _);have:F.length*49<=49*49:=NY _ hFl;generalize hR:zbg F F.length=fr at hfr;have frm:∀ q,q∈fr↔q∉F/\∃ j,(q.1,j)∈F/\(j,q.2)∈F:=λq=>by rw[← hR];exact zaF
   refine Zm (Zu (ZG (d:=.bool (!decide (fr=[]))) (YB (VH (n:=4) (Zb rfl) (Xk Zh (by show 0<=sizeLine;decide)) (ziu fr) (JM λd hd=>by cases hd) (by decide)) ?_) ?_))
   .cases fr with
    |nil=>rfl
    |cons a r=>rfl
   have inF:∀ q∈fr,q.1<n/\q.2<n:=λq hq=>by obtain⟨_,j,h1,h2⟩:=(frm q).mp hq;exact⟨(hFm _ h1).1,(hFm _ h2).2⟩
   have all:∀ q∈F++fr,q.1<n/\q.2<n:=λq hq=>by
    rcases Nz.mp hq with hq | hq
    .exact hFm q hq
    .exact inF q hq
   refine Zu (ZG (srt (qs:=F++fr) all (YB (XR (Zb rfl) (Zb rfl) (by rw[Ie,Ie];omega)) (by rw[Nk]))) ?_);have same:fr=[]->Yc n (F++fr)=F:=λe=>by rw[e,Nx,← hF];unfold Yc;refine Dy λq hq=>Nq.mpr ?_;rw[Nj,Nf];exact⟨λh=>h.2,λh=>⟨hq,h⟩⟩
   refine⟨_,?_,F++fr,!decide (fr=[]),.dat (.list (fr.map dP)),v4,v5,all,λq hq=>N3 _ (by rw[← hF];exact Z5.mpr ⟨hps q hq,hq2 q hq⟩),λq hq=>?_,λhb=>?_,rfl,rfl⟩
   .subst hm;by_cases e:fr=[]
    .rw[same e,Iw e];show 0+_<1+_;omega
    .rw[Ip e];obtain⟨a,ha⟩:=List.exists_mem_of_ne_nil fr e;have:=zaC (n:=n) (a:=qs) (b:=F++fr) (q:=a) (λx hx=>N3 _ (by rw[hF]at hx;exact hx)) (IG _ ha) (inF a ha) (by rw[hF];exact((frm a).mp ha).1);rw[hF]at this;have:=psl (F++fr);show 1+_<1+_;omega
   .rcases Nz.mp (Z5.mp hq).2 with h | h
    .exact hq3 q h
    .obtain⟨_,j,h1,h2⟩:=(frm q).mp h;have hj:=(hFm _ h1).2;exact bk.1 q.1 j q.2 (by rw[show(List.foldl (λk q=>wl k q.1 q.2) (List.replicate n 0) ps).length=n from bkN];exact(Z5.mp hq).1.1) (by rw[show(List.foldl (λk q=>wl k q.1 q.2) (List.replicate n 0) ps).length=n from bkN];exact hj) (hq3 _ h1) (hq3 _ h2)
   .have e:fr=[]:=by simpa using hb
    rw[same e,hR];exact e
 .subst hb;refine Yn (ZG (YB (XF (Zc (Zb rfl) Zh)) ?_) rfl);rw[zbU hps hq2 hq3 (hq4 rfl)]
def zg9(T:Top K mg):T.Ws.O P w base 3 (spT (lkT K) znq RKn):=by
 have G__law_next:T.Yd.O P w base 2 (spT (lkT K) zkL RDw):=(zjw T).mono (by decide);have G__law_turn:=@ziI T;have G__law_closed:T.Yx.O P w base 2 (spP K RLc):=(zmd T).mono (by decide);refine T.Ws.F.okT Y0 (by rintro _ _ ⟨_,rfl,_⟩;rfl) λcdv A outer s H E hr p fp n ds hP=>?_;obtain⟨m,rfl,hm7,hn⟩:=hP;have zl:(2000:Nat)<sizeLine:=by decide
 refine⟨_,(Zf (Zv (i:=2) Y0.nd rfl (Or.inl rfl) (peN T.Qp G__law_turn hr (Za (pv 0) (Za (pv 1) Ze Zd) Zd)))
   (Zf (Zv (i:=3) Y0.nd rfl (Or.inl rfl) (Yl Ze))
   (Zf (Xa IR rfl (XJ (by rfl) T.JG (Za (ZZ Vr (ZZ JT (peN T.Yd G__law_next hr (Za (pv 0) Ze Zd)) (ZZ Qi (pv 1) Zo)) (Z6 Uh (by rfl) T.int_ znz (Za (Jo zg4 (pv 1) Zo (ZQ _)) Ze Vf))) Ze Ja)) (Zz (i:=4) Y0.nd rfl (Or.inl rfl)) (Zf (Zv (i:=5) Y0.nd rfl (Or.inl rfl) (peN T.Yd G__law_next hr (Za (pv 0) Ze Zd)))
   (Zf (Zv (i:=6) Y0.nd rfl (Or.inl rfl) (ZZ Qi Zo (ZZ JT (pv 5) (ZZ zez (pv 1) Zo))))
   (Zj (WQ (zam N5 NB NC XH (pv 3) (Za (YD (Za (Yp (Ji (K:=K) rfl) (pv 2) (ZZ JT (ZZ zg2 (pv 5) (pv 1)) (pv 6)) (λ_ _=>rfl)) (Za (Yp (Ji (K:=K) rfl) (pv 2) (pv 6) (λ_ _=>rfl)) Ze ZL) ZL)) Ze Jp)))))))
   (Zj (ZR (peN T.Yx G__law_closed hr (Za (pv 3) Ze Zd))))))) ,?_⟩
 refine Zm (Zu (zaK (s:=n) rfl (Wz (Zc (Zb rfl) Zh) ⟨n,rfl,⟨m,rfl,by omega,by omega⟩,λx s2 hx=>?_⟩)));obtain⟨m',l,e,rfl,hl,hs2⟩:=hx;cases e;have hll:l.length=m:=by rw[hl.length_eq,Iy]
 have hnd:l.Nodup:=hl.nodup_iff.mpr OX;have hlm:∀ x∈l,x<m:=λx hx=>IJ.mp (hl.mem_iff.mp hx);refine Zm (Zu (QV Zh (by show 0<=sizeLine;decide) ?_));show Sv K B0 _ [(lkT K).pv s2 p fp,.dat (.int (m:Nat)),.dat (.list (l.map λ(i:Nat)=>.int (i:Nat))),.own [],.un,.un,.un] _;refine Zm (zjt (zjW (QJ (zcB (zbz (m:=m+1) (c:=s2) rfl (by omega) (Wf (Zb rfl) Zq λ_=>Zy _) (by omega) λr hr=>⟨_,rfl,Uo (zci (Zc (Wf (Zb rfl) Zq λ_=>Yr _) Zh)) rfl ⟨_,.int ((r*(if 1<m then 1 else 0):Nat):Int),rfl,λG σ va vb ha hb=>zm8 (zjf (zbi ha) (zbi hb) (mw (by omega) (by split <;> decide)) (Zy _)) ?_,_,rfl,Wz Zh ⟨_,rfl,?_,?_⟩⟩⟩)))))
 .congr 1;by_cases h:1<m
  .have:(1:Int)<(m:Nat):=by omega
   rw[Iw this,Iz h];simp
  .have:¬ (1:Int)<(m:Nat):=by omega
   rw[Ip this,Iq h];simp
 .split <;> omega
 generalize hN:r*(if 1<m then 1 else 0)=N;have hN8:N<=m/\(0<N->1<m):=by
  subst hN;split
  .constructor <;> omega
  .constructor <;> omega
 refine⟨λi ρ=>∃(c:Nat)(ps:List (Nat×Nat))(v4 v5 v6:PV),c<=s2+1+i/\ps.length=i/\(∀ q∈ps,∃ a b,a<b/\b<m/\l[a]?=some q.1/\l[b]?=some q.2)/\ρ=[(lkT K).pv c p fp,.dat (.int (m:Nat)),.dat (.list (l.map λ(i:Nat)=>.int (i:Nat))),.own (ps.map dP),v4,v5,v6],⟨s2+1,[],_,_,_,Ih _,rfl,(λq h=>nomatch h),rfl⟩,?_,?_⟩
 .rintro i hi _ ⟨c,ps,v4,v5,v6,hc,hpl,hps,rfl⟩;rw[Ie,Iy]at hi;rw[List.getElem_map,rix];have h1m:1<m:=hN8.2 (by omega);refine Xy (Zm (Zu (zk3 (c:=c) rfl (by omega) λz=>?_)));have em:∀ x y:Int,0<y->0<=x % y/\x % y<y:=λx y h=>⟨emod_nonneg _ (by omega),emod_lt_of_pos _ h⟩
  refine Zm (Zu (ZG (Wf Zq (Q7 (Zb rfl) (Wf (Zb rfl) Zq λ_=>Zy _) (by omega) λ_=>Zy _) λ_=>Zy _) ?_));obtain⟨b,hb⟩:=Int.eq_ofNat_of_zero_le (show 0<=1+z % ((m:Int)-1)by have:=em z ((m:Int)-1) (by omega);omega);have hbm:1<=b/\b<m:=by have:=em z ((m:Int)-1) (by omega);omega
  rw[hb];obtain⟨a,ha⟩:=Int.eq_ofNat_of_zero_le (em (z / (m:Int)) (b:Int) (by omega)).1;have hab:a<b:=by have:=em (z / (m:Int)) (b:Int) (by omega);omega
  have gl:∀ x,x<m->(l.map λ(i:Nat)=>PyData.int (i:Nat))[x]?=some (.int (l.getD x 0:Nat))/\ixN (l.map λ(i:Nat)=>PyData.int (i:Nat)).length (x:Nat)=some x:=λx hx=>by refine⟨?_,by rw[Ie];exact Wq (by omega)⟩;rw[Ik,II,Ib (by omega)];rfl
  refine VB (ZG (d:=dP (l.getD a 0,l.getD b 0)) (YL (Zc (zbF (n:=a) (Zb rfl) (Q7 (Q7 (Zb rfl) (Zb rfl) ⟨by omega,w0 (by omega)⟩ λ_=>Zy _) (Zb rfl) (by omega) λ_=>by rw[ha];exact Zy _) (gl a (by omega)).2 (gl a (by omega)).1) (Zc (zbF (n:=b) (Zb rfl) (Zb rfl) (gl b (by omega)).2 (gl b (by omega)).1) Zh)) (by show 2<=sizeLine;decide)) ⟨_,_,_,rfl,rfl,rfl,by rw[Ie];omega,c+1,ps++[(l.getD a 0,l.getD b 0)],.dat (.int (i:Nat)),.dat (.int z),.dat (.int (b:Nat)),by omega,by rw[Il,hpl];rfl,λq hq=>?_,by rw[Nk];rfl⟩) rfl rfl;rcases Nz.mp hq with hq | hq
  .exact hps q hq
  .rw[Ij.mp hq];have e1:∀ x,x<m->l[x]?=some (l.getD x 0):=λx hx=>by rw[II,Ib (by omega)];rfl
   exact⟨a,b,hab,hbm.2,e1 a (by omega),e1 b (by omega)⟩
 .rintro _ ⟨c,ps,v4,v5,v6,hc,hpl,hps,rfl⟩;rw[Ie,Iy]at hc hpl;have hpm:∀ q∈ps,q.1<m/\q.2<m:=λq hq=>by obtain⟨a,b,_,_,h1,h2⟩:=hps q hq;exact⟨hlm _ (IM h1),hlm _ (IM h2)⟩
  have ix:∀{x y:Nat},l[x]?=some y->l.idxOf y=x:=λ{x y} h=>by obtain⟨hx,e⟩:=Io.mp h;subst e;exact hnd.idxOf_getElem x hx
  have hO:IsO (YJ ps m):=IsO.bits hpm (λa b=>l.idxOf a<l.idxOf b) (λa b c h1 h2=>Nat.lt_trans h1 h2) (λa h=>OI _ h) λq hq=>by obtain⟨a,b,hab,_,h1,h2⟩:=hps q hq;show l.idxOf q.1<l.idxOf q.2;rw[ix h1,ix h2];exact hab
  exact zia (Yn (ZG (Z8 (Zc (Zb rfl) Zh) (RLc.mk ps m hm7 hpm)) ⟨_,c,rfl,⟨m,_,rfl,rfl,hO,zaf,by omega⟩,rfl⟩))
def zfC(T:Top K mg):T.Wh.O P w base 1 (spP K ROp):=by
 refine T.Wh.F.okP WP (by rintro _ _ ⟨⟩;rfl) λcdv A outer s H E hr ds d hR=>?_;cases hR with
 |mk k h8=>
 have zl:(2000:Nat)<sizeLine:=by decide
 have hu:=hr.units;have rowl:∀ j,(orow k j).length<=j:=λj=>by unfold orow;rw[Ie];exact IH (IT _ _) (O5 Iy)
 have few:∀ i,i<=k.length->((List.range i).flatMap (orow k)).length<=i*8:=λi=>by
  induction i with
  |zero=>intro _;simp
  |succ i ih=>intro hi;rw[OP,NL,Il,Nv];have:=ih (by omega);have h2:=rowl i;omega
 have pr:∀{ρ:List PV}{ta tb:TE}{i j:Nat},i<k.length->j<k.length->Er K B0 ta ρ (.int (i:Nat))->Er K B0 tb ρ (.int (j:Nat))->Er K B0 (JB 2) ρ (dPs (pairsOf k))->Er K B0 (tOp (zgo K true) (zmN (YQ ta (YQ tb V5))) (JB 2)) ρ (.bool (!ah k i j)):=λ{ρ ta tb i j} hi hj h1 h2 h3=>YB (Ue (YL (Zc h1 (Zc h2 Zh)) (by show 2<=sizeLine;decide)) h3 (QR (i,j)) λe he=>by obtain⟨a,_,rfl⟩:=IB.mp he;exact QR a) (by
  rw[Iz rfl,zbS (pairsOf k) (i,j)];congr 2;cases e:ah k i j with
  |true=>exact Iw (ZJ.mpr ⟨hi,hj,e⟩)
  |false=>exact Ip λz=>by rw[(ZJ.mp z).2.2]at e;cases e)
 refine⟨_,(Zf (Zv (i:=2) WP.nd rfl (Or.inl rfl) (Yl Ze))
   (Zf (Xa IR rfl (XJ (by rfl) T.JG (Za (pv 1) Ze Zd)) (Zz (i:=3) WP.nd rfl (Or.inr rfl)) (Zj (Zv (i:=2) WP.nd rfl (Or.inl rfl) (ZZ Jw (pv 2) (zaT (x:= "i") (cap:=["j", "known"]) (js:=[3,0]) ⟨rfl,by decide +kernel,by decide +kernel,rfl,(by show ∀ p∈(_:List (Str×NameKind)),p.2=NameKind.free->List.lookup p.1 (Zg Jq).names=some NameKind.cell;decide +kernel),by decide +kernel,by decide +kernel,by decide +kernel⟩ rfl rfl (λ_ _ h=>h) (XJ (by rfl) T.JG (Za (pv 3) Ze Zd)) (λ_ _ _ _=>⟨(Wr (PW.pt (pw_and (Zw (Qa (K:=K) rfl hu) (YD (Za (pv 0) (Za (pv 1) Ze Zd) Zd)) (pv 2) (by rfl)) (pw_and1 (Zw (Qa (K:=K) rfl hu) (YD (Za (pv 1) (Za (pv 0) Ze Zd) Zd)) (pv 2) (by rfl)))))),(YD (Za (pv 0) (Za (pv 1) Ze Zd) Zd))⟩))))))
   (Zj (ZR (pv 2))))) ,?_⟩
 refine Zm (Zu (ZG (Xk Zh (by show 0<=sizeLine;decide)) ?_));refine Zm (Xh (List.range k.length) (λ(t:Nat)=>PyData.int (t:Nat)) (Qx (Zc (Zb rfl) Zh) (by omega)) (λi ρ=>∃ v3:PV,ρ=[.dat (dPs (pairsOf k)),.dat (.int (k.length:Nat)),.dat (.list (((List.range i).flatMap (orow k)).map dP)),v3]) ⟨.un,rfl⟩ ?_ ?_)
 .rintro j hj _ ⟨v3,rfl⟩;rw[rix _ j hj];rw[Iy]at hj;have hf:=few j (by omega);refine Xy (Zu (ZG (YB (XR (Zb rfl) (zbY (js:=[3,0]) (List.range j) (λ(i:Nat)=>PyData.int (i:Nat)) (λi=>if opq k i j then some (dP (i,j))else none) (Qx (Zc (Zb rfl) Zh) (by omega)) (by rw[Iy];omega) λi hi=>lxB ?_ λ_=>YL (Zc (Zb rfl) (Zc (Zb rfl) Zh)) (by show 2<=sizeLine;decide)) ?_) ?_) ⟨.dat (.int (j:Nat)),rfl⟩))
  .have hi:=IJ.mp hi;unfold opq;exact JR (Zx (pr (by omega) hj (Zb rfl) (Zb rfl) (Zb rfl))) λ_=>Zx (pr hj (by omega) (Zb rfl) (Zb rfl) (Zb rfl))
  .rw[Qc,Ie,Ie];have:=IT (λi=>opq k i j) (List.range j);rw[Iy]at this;omega
  .rw[Qc,OP,NL,Nv,Nk];congr 2;unfold orow;rw[NQ];rfl
 .rintro _ ⟨v3,rfl⟩;rw[Iy];exact Yn (ZG (Zb rfl) rfl)
end
inductive RMo:List PD->PD->Prop
 |mk (k:Kn) (i j:Nat) (_:IsO k) (_:k.length<=7) (_:i<k.length) (_:j<k.length):RMo [dPs (pairsOf k),.int (i:Nat),.int (j:Nat)] (dPs (pairsOf (wl k i j)))
section
def zfY(T:Top K mg):T.Xg.O P w base 1 (spP K RMo):=by
 refine T.Xg.F.okP Xi (by rintro _ _ ⟨⟩;rfl) λcdv A outer s H E hr ds d hR=>?_;cases hR with
 |mk k i j hO h7 hi hj=>
 have hu:=hr.units;have zl:(2000:Nat)<sizeLine:=by decide
 have plen:∀ k:Kn,k.length<=7->(pairsOf k).length<=49:=λk h=>by rw[YT];refine IH (IT _ _) ?_;rw[J3];exact OQ h h
 have pl1:=plen k h7;have pl2:=plen (wl k i j) (by rw[Yq];exact h7);have pm:=zeU hO hi hj;have pml:∀ s,(pairsOf k++((zad k i).take s).flatMap (zcR k j)).length<=49:=λs=>by
  refine IH ?_ (IH (O5 pm.length_eq) pl2);rw[Il,Il];have:((zad k i).flatMap (zcR k j)).length=(((zad k i).take s).flatMap (zcR k j)).length+(((zad k i).drop s).flatMap (zcR k j)).length:=by rw[← Il,← NL,OJ]
  omega
 have ll:(zcV k j).length<=50:=by unfold zcV;rw[IL,Ie];have:=IT (λq:Nat×Nat=>decide (q.1=j)) (pairsOf k);omega
 refine⟨_,(Zf (Zv (i:=3) Xi.nd rfl (Or.inl rfl) (ZZ Jw (Yl (Za (pv 1) Ze Zd)) (zaw (x:= "one") (x2:= "other") (cap:=["i"]) (js:=[1]) ⟨rfl,by decide +kernel,by decide +kernel,rfl,rfl,(by show ∀ p∈(_:List (Str×NameKind)),p.2=NameKind.free->List.lookup p.1 (Zg Xw).names=some NameKind.cell;decide +kernel),by decide +kernel,by decide +kernel,by decide +kernel⟩ rfl rfl (λ_ _ h=>h) (JK (pv 0)) (λ_ _ _ _=>⟨(Wr (Zw JP (pv 1) (pv 2) (ZQ _))),(pv 0)⟩))))
   (Zf (Zv (i:=4) Xi.nd rfl (Or.inl rfl) (ZZ Jw (Yl (Za (pv 2) Ze Zd)) (zaw (x:= "one") (x2:= "other") (cap:=["j"]) (js:=[2]) ⟨rfl,by decide +kernel,by decide +kernel,rfl,rfl,(by show ∀ p∈(_:List (Str×NameKind)),p.2=NameKind.free->List.lookup p.1 (Zg Xw).names=some NameKind.cell;decide +kernel),by decide +kernel,by decide +kernel,by decide +kernel⟩ rfl rfl (λ_ _ h=>h) (JK (pv 0)) (λ_ _ _ _=>⟨(Wr (Zw JP (pv 0) (pv 2) (ZQ _))),(pv 1)⟩))))
   (Zf (Zv (i:=5) Xi.nd rfl (Or.inl rfl) (Z6 (J8 (K:=K) rfl) (by rfl) T.ze2 QC (Za (pv 0) Ze Zd)))
   (Zf (Xa IR rfl (Xr (pv 3)) (Zz (i:=6) Xi.nd rfl (Or.inr rfl)) (Zj (Zv (i:=5) Xi.nd rfl (Or.inl rfl) (ZZ Jw (pv 5) (zaT (x:= "other") (cap:=["one", "known"]) (js:=[6,0]) ⟨rfl,by decide +kernel,by decide +kernel,rfl,(by show ∀ p∈(_:List (Str×NameKind)),p.2=NameKind.free->List.lookup p.1 (Zg Xw).names=some NameKind.cell;decide +kernel),by decide +kernel,by decide +kernel,by decide +kernel⟩ rfl rfl (λ_ _ h=>h) (Xr (pv 4)) (λ_ _ _ _=>⟨(Wr (Zw (Qa (K:=K) rfl hu) (YD (Za (pv 1) (Za (pv 0) Ze Zd) Zd)) (pv 2) (by rfl))),(YD (Za (pv 1) (Za (pv 0) Ze Zd) Zd))⟩))))))
   (Zj (ZR (Z6 (YM (K:=K) rfl) (by rfl) T.We zcv (Za (ZF (zbj (K:=K) rfl) (by rfl) T.Vg U7 (Za (pv 5) Ze Zd)) Ze Yg)))))))) ,?_⟩
 refine Zm (Zu (ZG (d:=.list ((zad k i).map λ(a:Nat)=>.int (a:Nat))) (YB (XR (Xk (Zc (Zb rfl) Zh) (by show 1<=sizeLine;decide)) (zaA (js:=[1]) (pairsOf k) (λq=>.int (q.1:Nat)) (λq=>.int (q.2:Nat)) (λq=>if decide (q.2=i)then some (.int (q.1:Nat))else none) (Ql (Zb rfl)) (by omega) λq hq=>lxB (Wy (Zx (Ju (Zb rfl) (Zb rfl))) (Nq.mpr ⟨λe=>by omega,λe=>by omega⟩)) λ_=>Zb rfl) ?_) ?_) ?_))
 .rw[Qc,Ie];have:=IT (λq:Nat×Nat=>decide (q.2=i)) (pairsOf k);show 1+_<=sizeLine;omega
 .rw[Qc];unfold zad;rw[Nt,NQ];rfl
 refine Zm (Zu (ZG (d:=.list ((zcV k j).map λ(a:Nat)=>.int (a:Nat))) (YB (XR (Xk (Zc (Zb rfl) Zh) (by show 1<=sizeLine;decide)) (zaA (js:=[2]) (pairsOf k) (λq=>.int (q.1:Nat)) (λq=>.int (q.2:Nat)) (λq=>if decide (q.1=j)then some (.int (q.2:Nat))else none) (Ql (Zb rfl)) (by omega) λq hq=>lxB (Wy (Zx (Ju (Zb rfl) (Zb rfl))) (Nq.mpr ⟨λe=>by omega,λe=>by omega⟩)) λ_=>Zb rfl) ?_) ?_) ?_))
 .rw[Qc,Ie];have:=IT (λq:Nat×Nat=>decide (q.1=j)) (pairsOf k);show 1+_<=sizeLine;omega
 .rw[Qc];unfold zcV;rw[Nt,NQ];rfl
 refine Zm (Zu (ZG (V2 (Zc (Zb rfl) Zh)) ?_));show Sv K B0 _ [.dat (dPs (pairsOf k)),.dat (.int (i:Nat)),.dat (.int (j:Nat)),.dat (.list ((zad k i).map λ(a:Nat)=>.int (a:Nat))),.dat (.list ((zcV k j).map λ(a:Nat)=>.int (a:Nat))),.dat (.list ((pairsOf k).map dP)),.un] _;refine Zm (Xh (zad k i) (λ(a:Nat)=>PyData.int (a:Nat)) (WF (Zb rfl)) (λs ρ=>∃ v6:PV,ρ=[.dat (dPs (pairsOf k)),.dat (.int (i:Nat)),.dat (.int (j:Nat)),.dat (.list ((zad k i).map λ(a:Nat)=>.int (a:Nat))),.dat (.list ((zcV k j).map λ(a:Nat)=>.int (a:Nat))),.dat (.list ((pairsOf k++((zad k i).take s).flatMap (zcR k j)).map dP)),v6]) ⟨.un,by rw[List.take_zero];show _=[_,_,_,_,_,PV.dat (.list ((pairsOf k++[]).map dP)),_];rw[Nx]⟩ ?_ ?_)
 .rintro s hs _ ⟨v6,rfl⟩;obtain⟨a,ha⟩:∃ a,(zad k i)[s]=a:=⟨_,rfl⟩
  rw[ha];have ha2:a<k.length:=by
   rcases(zdc hi).mp (show a∈zad k i by rw[← ha];exact Np _)with h | h
   .omega
   .exact h.1
  refine Xy (Zu (ZG (YB (XR (Zb rfl) (zbY (js:=[6,0]) (zcV k j) (λ(b:Nat)=>PyData.int (b:Nat)) (λb=>if !decide ((a,b)∈pairsOf k)then some (dP (a,b))else none) (WF (Zb rfl)) (by omega) λb hb=>lxB (Zx (YB (Ue (YL (Zc (Zb rfl) (Zc (Zb rfl) Zh)) (by show 2<=sizeLine;decide)) (Zb rfl) (QR (a,b)) λe he=>by obtain⟨q,_,rfl⟩:=IB.mp he;exact QR q) (by rw[Iz rfl,zbS (pairsOf k) (a,b)]))) λ_=>YL (Zc (Zb rfl) (Zc (Zb rfl) Zh)) (by show 2<=sizeLine;decide)) ?_) ?_) ⟨.dat (.int (a:Nat)),rfl⟩))
  .rw[Qc,Ie,Ie];have:=IT (λb:Nat=>!decide ((a,b)∈pairsOf k)) (zcV k j);have:=pml s;omega
  .rw[Qc,Nh hs,NL,Nv,ha,← OD,Nk (l₂:=zcR k j a)];unfold zcR;rw[NQ];rfl
 .rintro _ ⟨v6,rfl⟩;have pl3:=pml (zad k i).length;rw[Ov]at pl3 ⊢;refine Yn (ZG (XF (Zc (YB (zjh (ps:=(pairsOf k++(zad k i).flatMap (zcR k j)).map up) (qs:=(pairsOf (wl k i j)).map up) (Zc (YB (Zb rfl) (by rw[zbB])) Zh) (by rw[Ie];omega) (λq hq=>?_) λrs h1 h2=>?_) (by rw[← zbB])) Zh)) rfl)
  .obtain⟨a,ha,rfl⟩:=IB.mp hq;have:=(ZJ.mp (pm.mem_iff.mp ha)).2.1;rw[Yq]at this;show 0<=(a.2:Int)/\(a.2:Int)<1000;omega
  .refine(h1.trans (pm.map up)).eq_of_pairwise (le:=λa b=>a.1*1000+a.2<=b.1*1000+b.2) (λa b ha hb h3 h4=>?_) h2 (zeF (by rw[Yq];omega));obtain⟨x,hx,rfl⟩:=IB.mp (h1.mem_iff.mp ha);obtain⟨y,hy,rfl⟩:=IB.mp hb;have x2:=(ZJ.mp (pm.mem_iff.mp hx)).2.1;have y2:=(ZJ.mp hy).2.1;rw[Yq]at x2 y2;have h3:(x.1:Int)*1000+x.2<=(y.1:Int)*1000+y.2:=h3;have h4:(y.1:Int)*1000+y.2<=(x.1:Int)*1000+x.2:=h4;exact ND up (DA (by omega) (by omega))
end
noncomputable def ma(k:Kn)(t:Nat):Int:=(k.map λb=>if b.testBit t then(1:Int)else 0).sum
inductive RMa:List PD->PD->Prop
 |mk (k:Kn) (t:Nat) (_:k.length<=8):RMa [dK k,.int (t:Nat)] (.int (ma k t))
inductive RRo:List PD->PD->Prop
 |mk (k:Kn) (_:k.length<=8):RRo [dK k] (.tuple ((Look.zcC (ma k) k.length).map λ(i:Nat)=>.int (i:Nat)))
section
variable {B:Hp}
def znA(T:Top K mg):T.XD.O P w base 1 (spP K RMa):=by
 refine T.XD.F.okP zbf (by rintro _ _ ⟨⟩;rfl) λcdv A outer s H E hr ds d hR=>?_;cases hR with
 |mk k t h8=>
 have zl:(2000:Nat)<sizeLine:=by decide
 refine⟨_,(Zj (ZR (ZF (zhQ rfl) (by rfl) T.znJ znM (Za (zaT (x:= "behind") (cap:=["thing"]) (js:=[1]) ⟨rfl,by decide +kernel,by decide +kernel,rfl,(by show ∀ p∈(_:List (Str×NameKind)),p.2=NameKind.free->List.lookup p.1 (Zg WM).names=some NameKind.cell;decide +kernel),by decide +kernel,by decide +kernel,by decide +kernel⟩ rfl rfl (λ_ _ h=>h) (JK (pv 0)) (λ_ _ _ _=>⟨Vq,(ZZ zdb (ZZ zdf (pv 0) (pv 1)) Zo)⟩)) Ze Xf)))) ,?_⟩;refine Yn (ZG (zlA (Zc (YB (zbY (js:=[1]) k (λ(b:Nat)=>.int (b:Nat)) (λb=>some (.int (if b.testBit t then 1 else 0))) (Ql (Zb rfl)) (by omega) λb hb=>lx1 Ve (zeP (Zb rfl) (Zb rfl))) ?_) Zh)) rfl);rw[Vo,NQ];rfl
def zkS(T:Top K mg)(M:Bs K mg base)(hB:B T.Xq=some (.tbl λ_ _=>some Yo)):T.QX.O P w base 5 (zlF K B RRo):=by
 have G_many_ahead:=@znA T;refine T.QX.F.zl9 zgi (by rintro _ _ ⟨⟩;rfl) λcdv A outer s H E hcd hr ds d hR=>?_;cases hR with
 |mk k h8=>
 refine⟨_,(Zj (ZR (Z6 (YM (K:=K) rfl) (by rfl) T.We zcv (Za (ziQ (kk:=1) (y:= "thing") (cap:=["known"]) (js:=[0]) (q:=Yo) (cr:=λ_ _=>some Yo) (hr.mono (by decide)) rfl (by rfl) T.Vg (by rfl) T.JG ⟨rfl,rfl,rfl,by decide +kernel,by decide +kernel,(by show ∀ p∈(_:List (Str×NameKind)),p.2=NameKind.free->List.lookup p.1 (Zg J6).names=some NameKind.cell;decide +kernel),by decide +kernel,by decide +kernel,by decide +kernel⟩ rfl (hcd.trans T.cd_row_of) (PySem.W.codeHd_of_K M.kin T.ch_row_of) M.bm rfl rfl (λ_ _ _ _ _=>rfl) (ZF (Yj (K:=K) rfl) (by rfl) T.zcS NM (Za (pv 0) Ze Zd)) (λ_ _ _ _ _ _ _ hr2=>(zfn G_many_ahead (hr2.mono (by decide)) (by rfl) T.XD.m T.XD.F.kp T.XD.b .nil zal (Za (pv 1) (Za (pv 0) Ze Zd) Zd)))) Ze Yg)))) ,?_⟩;exact sv0 (Yn (ZG (XF (Zc (zi9 (js:=[0]) (g:=ma k) hB (YB (JN (Zc (Zb rfl) Zh)) (by rw[Ie])) (by omega) λi hi=>Z8 (Zc (Zb rfl) (Zc (Zb rfl) Zh)) (RMa.mk k i h8)) Zh)) rfl))
end
-- TERM_
-- TERM_
-- TERM_
def zcc(k:Kn):dK k=Ug (kk k):=by unfold Ug kk;rw[NQ];rfl
theorem zde(f:Kn->Nat)(k:Kn):∀(l:List (Nat×Nat))(a:Option Nat),(l.foldl (best f k) a).isSome=(a.isSome||decide (0<l.length))
 |[],a=>by simp
 |q::r,a=>by
  rw[Dd,zde f k r];have:(best f k a q).isSome=true:=by
   unfold best;cases a with
   |none=>rfl
   |some b=>dsimp only;split <;> rfl
  rw[this];simp
structure Gx(s:SS):Prop where
 cl:∀ k',YF s.1 (kk k')=true->∀ q∈unp k',YF s.1 (kk (wl k' q.1 q.2))=true/\YF s.1 (kk (wl k' q.2 q.1))=true
 bs:∀ k',YF s.1 (kk k')=true->unp k' ≠ []->∃ q∈unp k',(kk k',dP q)∈s.2/\cost k' q=L k'
def zb1{m:MD}{k:KF}{e:KF×PD}(h:e∈m)(hne:e.1≠k):e∈VG m k d:=by
 unfold VG;split
 .exact IB.mpr ⟨e,h,by unfold putD;rw[Iq hne]⟩
 .exact N3 _ h
def zgP{m:MD}{k:KF}:(k,d)∈VG m k d:=by
 unfold VG;split
 .rename_i h
  obtain⟨x,hx,e⟩:=OG.mp h;have e:=IC e;exact IB.mpr ⟨x,hx,by unfold putD;rw[Iz e,e]⟩
 .exact IG _ (N6 _)
def Bq(k:Kn)(s:SS)(i:Nat):Prop:=0<i->∃ q∈unp k,(kk k,dP q)∈s.2/\((unp k).take i).foldl (best L k) none=some (cost k q)
structure Ext(v:Nat)(s s' : SS):Prop where
 f1:∀ k',YF s'.1 (kk k')=true->YF s.1 (kk k')=true\/u k' <= v
 f2:∀ k',YF s.1 (kk k')=true->YF s'.1 (kk k')=true
 b1:∀ k',YF s'.2 (kk k')=true->YF s.2 (kk k')=true\/u k' <= v
 b2:∀ k',YF s.2 (kk k')=true->YF s'.2 (kk k')=true
 tk:∀ k',YF s'.2 (kk k')=true->YF s'.1 (kk k')=true\/YF s.2 (kk k')=true
 l1:s'.1.length<=s.1.length+cc v
 l2:s'.2.length<=s.2.length+cc v
 kb:∀ k',(YF s.1 (kk k')=true\/v<u k')->∀ d,(kk k',d)∈s.2->(kk k',d)∈s'.2
structure Lp(n:Nat)(k:Kn)(s0 s:SS)(i:Nat)(b:Bool):Prop where
 G:Gs n s
 nf:YF s.1 (kk k)=false
 bk:YF s.2 (kk k)=b
 f1:∀ k',YF s.1 (kk k')=true->YF s0.1 (kk k')=true\/u k'<u k
 f2:∀ k',YF s0.1 (kk k')=true->YF s.1 (kk k')=true
 b1:∀ k',YF s.2 (kk k')=true->YF s0.2 (kk k')=true\/u k' <= u k
 b2:∀ k',YF s0.2 (kk k')=true->YF s.2 (kk k')=true
 tk:∀ k',YF s.2 (kk k')=true->YF s.1 (kk k')=true\/YF s0.2 (kk k')=true\/k'=k
 l1:s.1.length<=s0.1.length+i*(2*cc (u k-1))
 l2:s.2.length<=s0.2.length+i*(2*cc (u k-1)+1)
 gx:Gx s
 kb:∀ k',(YF s0.1 (kk k')=true\/u k<u k')->∀ d,(kk k',d)∈s0.2->(kk k',d)∈s.2
 ch:∀ q∈(unp k).take i,YF s.1 (kk (wl k q.1 q.2))=true/\YF s.1 (kk (wl k q.2 q.1))=true
structure PrL(n U:Nat)(k:Kn)(s:SS):Prop where
 O:IsO k
 n8:n<=8
 len:k.length=n
 U:u k<=U
 G:Gs n s
 b:∀ k',YF s.2 (kk k')=true->YF s.1 (kk k')=true\/u k<u k'
 l1:s.1.length+cc (u k)<=10^6
 l2:s.2.length+cc (u k)<=10^6
 gx:Gx s
inductive zl0(n U:Nat)(s:SS)(ds:List PD):Prop
 |mk (k:Kn) (_:ds=[dK k]) (_:PrL n U k s):zl0 n U s ds
inductive RL(n:Nat)(s:SS)(ds:List PD)(x:PD)(s' : SS):Prop
 |mk (k:Kn) (_:ds=[dK k]) (_:x = .int (L k:Nat)) (_:(Gs n s' /\ Gx s')) (_:Ext (u k) s s') (_:YF s'.1 (kk k)=true):RL n s ds x s'
inductive znB(n U:Nat)(s:SS)(ds:List PD):Prop
 |mk (k:Kn) (_:ds=[dK k]) (_:PrL n U k s) (_:YF s.1 (kk k)=false):znB n U s ds
inductive RT(n:Nat)(s:SS)(ds:List PD)(x:PD)(s' : SS):Prop
 |mk (k:Kn) (_:ds=[dK k]) (_:x = .int (L k:Nat)) (_:∃ b,Lp n k s s' (u k) b/\Bq k s' (u k)):RT n s ds x s'
def Uu{a b:Kn}(h:dK a=dK b):a=b:=by injection h with h;refine(List.map_inj_right λx y e=>?_).mp h;injection e with e;omega
def ccs{v:Nat}(h:0<v):cc v=1+v*(2*cc (v-1)+1):=by
 obtain⟨m,rfl⟩:∃ m,v=m+1:=⟨v-1,by omega⟩
 rfl
def Lp.step{n:Nat}{s0 s s2 s3:SS}{v1 v2:Nat}{b:Bool}(lp:Lp n k s0 s i b)(h1:v1<u k)(h2:v2<u k)(X2:Ext v1 s s2)(X3:Ext v2 s2 s3)(G3:Gs n s3)(gx3:Gx s3){q:Nat×Nat}(hi:(unp k)[i]?=some q)(f2:YF s2.1 (kk (wl k q.1 q.2))=true)(f3:YF s3.1 (kk (wl k q.2 q.1))=true):Lp n k s0 s3 (i+1) b:=by
 have c1:cc v1<=cc (u k-1):=Wk (by omega);have c2:cc v2<=cc (u k-1):=Wk (by omega);have x1:=X2.l1;have x2:=X2.l2;have x3:=X3.l1;have x4:=X3.l2;refine⟨G3,?_,?_,λk' h=>?_,λk' h=>X3.f2 _ (X2.f2 _ (lp.f2 _ h)),λk' h=>?_,λk' h=>X3.b2 _ (X2.b2 _ (lp.b2 _ h)),λk' h=>?_,?_,?_,gx3,λk' h d hd=>X3.kb k' (h.imp (λz=>X2.f2 _ (lp.f2 _ z)) λz=>by omega) d (X2.kb k' (h.imp (λz=>lp.f2 _ z) λz=>by omega) d (lp.kb k' h d hd)),λx hx=>?_⟩
 .cases e:YF s3.1 (kk k)with
  |false=>rfl
  |true=>
   rcases X3.f1 _ e with e | e
   .rcases X2.f1 _ e with e | e
    .rw[lp.nf]at e;cases e
    .omega
   .omega
 .rw[← lp.bk,N4];refine⟨λe=>?_,λe=>X3.b2 _ (X2.b2 _ e)⟩;rcases X3.b1 _ e with e | e
  .rcases X2.b1 _ e with e | e
   .exact e
   .omega
  .omega
 .rcases X3.f1 _ h with h | h
  .rcases X2.f1 _ h with h | h
   .exact lp.f1 _ h
   .exact .inr (by omega)
  .exact .inr (by omega)
 .rcases X3.b1 _ h with h | h
  .rcases X2.b1 _ h with h | h
   .exact lp.b1 _ h
   .exact .inr (by omega)
  .exact .inr (by omega)
 .rcases X3.tk _ h with h | h
  .exact .inl h
  .rcases X2.tk _ h with h | h
   .exact .inl (X3.f2 _ h)
   .rcases lp.tk _ h with h | h
    .exact .inl (X3.f2 _ (X2.f2 _ h))
    .exact .inr h
 .have:=lp.l1;rw[Dr];omega
 .have:=lp.l2;rw[Dr];omega
 .rw[List.take_add_one,hi]at hx;rcases Nz.mp hx with hx | hx
  .obtain⟨a,b⟩:=lp.ch x hx;exact⟨X3.f2 _ (X2.f2 _ a),X3.f2 _ (X2.f2 _ b)⟩
  .obtain rfl:x=q:=by simpa using hx
   exact⟨X3.f2 _ f2,f3⟩
def Lp.upd{n:Nat}{s0 s s3:SS}{v1 v2:Nat}{b:Bool}{q:Nat×Nat}{s2:SS}(lp:Lp n k s0 s i b)(h1:v1<u k)(h2:v2<u k)(X2:Ext v1 s s2)(X3:Ext v2 s2 s3)(G3:Gs n s3)(gx3:Gx s3)(hi:(unp k)[i]?=some q)(f2:YF s2.1 (kk (wl k q.1 q.2))=true)(f3:YF s3.1 (kk (wl k q.2 q.1))=true)(O:IsO k)(hk:k.length=n)(hq:q∈unp k):Lp n k s0 (s3.1,VG s3.2 (kk k) (dP q)) (i+1) true:=by
 have l:=lp.step h1 h2 X2 X3 G3 gx3 hi f2 f3;have c1:cc v1<=cc (u k-1):=Wk (by omega);have c2:cc v2<=cc (u k-1):=Wk (by omega);have x2:=X2.l2;have x4:=X3.l2;have hp:∀ k',YF (VG s3.2 (kk k) (dP q)) (kk k')=true->YF s3.2 (kk k')=true\/k'=k:=λk' h=>by rw[Xz,Oh,Nf]at h;exact h.imp id λe=>(VM e).symm
 refine⟨⟨G3.fnd,λe he=>?_⟩,l.nf,?_,l.f1,l.f2,λk' h=>?_,λk' h=>?_,λk' h=>?_,l.l1,?_,⟨gx3.cl,λk' h hne=>?_⟩,λk' h d hd=>zb1 (l.kb k' h d hd) λz=>?_,l.ch⟩
 .rcases zdg he with he | rfl
  .exact G3.bst e he
  .exact⟨k,q,rfl,O,hk,hq,rfl⟩
 .show YF (VG s3.2 (kk k) (dP q)) (kk k)=true;rw[Xz];simp
 .rcases hp k' h with h | rfl
  .exact l.b1 _ h
  .exact .inr (Ih _)
 .show YF (VG s3.2 (kk k) (dP q)) (kk k')=true;rw[Xz,l.b2 _ h];rfl
 .rcases hp k' h with h | rfl
  .exact l.tk _ h
  .exact .inr (.inr rfl)
 .show(VG s3.2 (kk k) (dP q)).length<=_;have:=zcX (m:=s3.2) (k:=kk k) (d:=dP q);have:=lp.l2;rw[Dr];omega
 .obtain⟨x,hx,h3,h4⟩:=gx3.bs k' h hne;refine⟨x,hx,zb1 h3 λz=>?_,h4⟩;have z:=VM z;subst z;have h:YF s3.1 (kk k')=true:=h;have:=l.nf;rw[h]at this;cases this
 .have z:=VM z;subst z;rcases h with h | h
  .have:=l.f2 _ h;rw[l.nf]at this;cases this
  .omega
section
variable {B:Hp}
def Qt(T:Top K mg){m:Str}(hm:((λa1 a2=>(fS a1 a2).lookup m):AD->AD->Option V)=λ_ _=>none){p:AD}:∀ s' G H,(srT P w K T.Zn).I s' p fp G H->∃ dx fs,H p=some (.ins T.Zn dx fs)/\fs.lookup m=none:=λs' G H ⟨dx,a1,a2,_,_,hp,_⟩=>⟨dx,_,hp,congrFun (congrFun hm a1) a2⟩
def zdA(T:Top K mg)(n U:Nat)(sp:Sp)(hsp:∀ m,U=m+1->sp=spT (srT P w K T.Zn) (zl0 n m) (RL n))(G_least:Wb P w K mg base CX0 (2*U+2) T.YC T.fd_S_least ["self", "known"] sp):Wb P w K mg base CX0 (2*U+3) T.Y9 T.fd_S_tried ["self", "known"] (spT (srT P w K T.Zn) (znB n U) (RT n)):=by
 have G_unparted:T.J5.O P w base (2*U+2) (spO K RUn):=(zlP T).mono (by omega);have G_with_look:T.Yy.O P w base (2*U+2) (spP K RWl):=(zjr T).mono (by omega);refine T.zeo.okT Wc (by rintro _ _ ⟨_,rfl,_⟩;rfl) λcdv A outer s H E hr p fp s0 ds hP=>?_;obtain⟨k,rfl,hL,hnf⟩:=hP;have hu:=hr.units;have zl:(10^6:Nat)+10^6<sizeLine:=by decide
 have hn8:=hL.n8;have hlen:=hL.len;have hU:=hL.U;refine⟨_,(Zf (Zv (i:=2) Wc.nd rfl (Or.inl rfl) Zo)
   (Zf (Xa IR rfl (Xr (peN T.J5 G_unparted hr (Za (pv 1) Ze Zd))) (Jx (n:=2) rfl (ZK (Zz (i:=3) Wc.nd rfl (Or.inl rfl)) (ZK (Zz (i:=4) Wc.nd rfl (Or.inl rfl)) Xv)) (by rfl)) (Zf (Zv (i:=5) Wc.nd rfl (Or.inl rfl) (ZZ Qi Zo (ZF (zbQ rfl) (by rfl) T.zmM zmE (Za (Qq (pv 0) T.cl_Search T.mt_Search_least G_least hr T.WW .nil zal (Za (peN T.Yy G_with_look hr (Za (pv 1) (Za (pv 3) (Za (pv 4) Ze Zd) Zd) Zd)) Ze Yg)) (Za (Qq (pv 0) T.cl_Search T.mt_Search_least G_least hr T.WW .nil zal (Za (peN T.Yy G_with_look hr (Za (pv 1) (Za (pv 4) (Za (pv 3) Ze Zd) Zd) Zd)) Ze Yg)) Ze Yg) Yg))))
   (Zj (XN ((pw_or (Zw (Ul (K:=K) rfl rfl rfl hu) (pv 1) (Jr (K:=K) rfl (pv 0) (by rfl)) (by rfl)) (pw_or1 (Zw zd2 (pv 5) (pv 2) (ZQ _))))).pt (Zf (Zv (i:=2) Wc.nd rfl (Or.inl rfl) (pv 5))
   (Zj (zcW (K:=K) rfl rfl rfl hu (Jr (K:=K) rfl (pv 0) (by rfl)) (pv 1) (YD (Za (pv 3) (Za (pv 4) Ze Zd) Zd)) (by rfl)))) Z7))))
   (Zj (ZR (pv 2))))) ,?_⟩
 refine Zm (Zu (ZG Zq ?_));refine Zm (Xh (unp k) dP (WF (zhf (Zc (Zb rfl) Zh) (RUn.mk k (by omega)))) (λi ρ=>∃(s:SS)(v3 v4 v5:PV),Lp n k s0 s i (decide (0<i))/\Bq k s i/\ρ=[(srT P w K T.Zn).pv s p fp,.dat (dK k),.dat (.int ((((unp k).take i).foldl (best L k) none).getD 0:Nat)),v3,v4,v5]) ⟨s0,_,_,_,⟨hL.G,hnf,?_,λ_ h=>.inl h,λ_ h=>h,λ_ h=>.inl h,λ_ h=>h,λ_ h=>.inr (.inl h),by simp,by simp,hL.gx,λ_ _ _ h=>h,λx hx=>by cases hx⟩,λh=>absurd h (OI _),rfl⟩ ?_ ?_)
 .cases e:YF s0.2 (kk k)with
  |false=>rfl
  |true=>
   rcases hL.b k e with h | h
   .rw[hnf]at h;cases h
   .exact absurd h (OI _)
 .rintro i hi _ ⟨s,v3,v4,v5,lp,bqh,rfl⟩;obtain⟨q,hq⟩:∃ q,q=(unp k)[i]:=⟨_,rfl⟩
  have tk1:((unp k).take (i+1)).foldl (best L k) none=best L k (((unp k).take i).foldl (best L k) none) q:=by rw[Nh hi,List.foldl_append,hq];rfl
  have ai:(((unp k).take i).foldl (best L k) none).isSome=decide (0<i):=by rw[zde,OE];show(false||_)=_;rw[Bool.false_or];exact Nq.mpr (by omega)
  rw[← hq];have hqm:q∈unp k:=by rw[hq];exact Np hi
  obtain⟨q1,q2,q3⟩:=Y7.mp hqm;obtain⟨u1,u2⟩:=zky (i:=q.1) (j:=q.2) hqm;have hop:ah k q.1 q.2=false/\ah k q.2 q.1=false:=by unfold opq at q3;simpa using q3
  have O1:IsO (wl k q.1 q.2):=hL.O.wl (by omega) q2 (by omega) hop.2;have O2:IsO (wl k q.2 q.1):=hL.O.wl q2 (by omega) (by omega) hop.1;obtain⟨m,hm⟩:∃ m,U=m+1:=⟨U-1,by omega⟩
  obtain rfl:=hsp m hm;have hi' : i<u k:=hi;have c1:cc (u (wl k q.1 q.2))<=cc (u k-1):=Wk (by omega);have c2:cc (u (wl k q.2 q.1))<=cc (u k-1):=Wk (by omega);have hck:=ccs (v:=u k) (by omega);have hmul:(i+1)*(2*cc (u k-1)+1)<=u k*(2*cc (u k-1)+1):=NY _ hi';have hsm:(i+1)*(2*cc (u k-1)+1)=i*(2*cc (u k-1))+i+(2*cc (u k-1)+1):=by rw[Dr,Nat.mul_succ]
  have hsm2:i*(2*cc (u k-1)+1)=i*(2*cc (u k-1))+i:=Nat.mul_succ _ _;have p1:=lp.l1;have p2:=lp.l2;have p3:=hL.l1;have p4:=hL.l2;have hb1:∀ k',YF s.2 (kk k')=true->YF s.1 (kk k')=true\/u k<=u k':=λk' h=>by
   rcases lp.tk k' h with h | h | rfl
   .exact .inl h
   .exact(hL.b k' h).imp (lp.f2 k') Op
   .exact .inr (Ih _)
  have pr1:PrL n m (wl k q.1 q.2) s:=⟨O1,hn8,by rw[Yq];exact hlen,by omega,lp.G,λk' h=>(hb1 k' h).imp id λz=>by omega,by omega,by omega,lp.gx⟩
  refine Qh (Zm (Zu (zcB (ZG Zq ⟨_,rfl,zeQ (QJ (VN (s:=s) rfl (Qt T rfl) (Wz (Zc (Z8 (Zc (Zb rfl) (Zc (Zb rfl) (Zc (Zb rfl) Zh))) (RWl.mk k q.1 q.2 (by omega) (by omega) q2)) Zh) ⟨s,rfl,⟨_,rfl,pr1⟩,λx s2 hx=>?_⟩)))⟩))));obtain⟨k1,e1,rfl,⟨G2,gx2⟩,X2,f2⟩:=hx;have e1:=Uu (OH e1).1;subst e1;have y1:=X2.l1;have y2:=X2.l2;have pr2:PrL n m (wl k q.2 q.1) s2:=⟨O2,hn8,by rw[Yq];exact hlen,by omega,G2,λk' h=>by
   rcases X2.tk k' h with h | h
   .exact .inl h
   .exact(hb1 k' h).imp (X2.f2 k') λz=>by omega,by omega,by omega,gx2⟩
  refine⟨_,rfl,QJ (VN (s:=s2) rfl (Qt T rfl) (Wz (Zc (Z8 (Zc (Zb rfl) (Zc (Zb rfl) (Zc (Zb rfl) Zh))) (RWl.mk k q.2 q.1 (by omega) q2 (by omega))) Zh) ⟨s2,rfl,⟨_,rfl,pr2⟩,λx s3 hx=>?_⟩))⟩;obtain⟨k2,e2,rfl,⟨G3,gx3⟩,X3,f3⟩:=hx;have e2:=Uu (OH e2).1;subst e2;refine⟨_,rfl,Wz Zh ⟨_,_,rfl,_,.int ((1+max (L (wl k q.1 q.2)) (L (wl k q.2 q.1)):Nat)),rfl,λG σ va vb ha hb=>zm8 (zhU (zbi ha) (zbi hb) (Zy _)) ?_,?_⟩⟩
  .congr 1;split <;> omega
  have bc:∀ A,best L k A q=match A with | none=>some (1+max (L (wl k q.1 q.2)) (L (wl k q.2 q.1))) | some b=>if 1+max (L (wl k q.1 q.2)) (L (wl k q.2 q.1))<b then some (1+max (L (wl k q.1 q.2)) (L (wl k q.2 q.1)))else some b:=λA=>rfl
  have hcq:cost k q=1+max (L (wl k q.1 q.2)) (L (wl k q.2 q.1)):=rfl;generalize 1+max (L (wl k q.1 q.2)) (L (wl k q.2 q.1))=c at bc hcq;have hiq:(unp k)[i]?=some q:=by rw[Ib hi,hq]
  unfold Bq at bqh;rw[bc]at tk1;generalize ((unp k).take i).foldl (best L k) none=Ac at tk1 ai bqh;have st:=lp.step u1 u2 X2 X3 G3 gx3 hiq f2 f3;have hbk:YF s3.2 (kk k)=decide (0<i):=st.bk;have w1:=st.l2;have w2:=X3.l2;show Sv K B0 _ [(srT P w K T.Zn).pv s3 p fp,.dat (dK k),.dat (.int (Ac.getD 0:Nat)),.dat (.int (q.1:Nat)),.dat (.int (q.2:Nat)),.dat (.int (c:Nat))] _;refine zab (b:=!decide (0<i)||decide ((c:Int)<(Ac.getD 0:Nat))) (QG (Wy (Zx (zeY (b:=false) T.cl_Search T.na_best rfl (YB (Zb rfl) (zcc k)))) (by show(!YF s3.2 (kk k))=_;rw[hbk])) λ_=>Zx (Wf (Zb rfl) (Zb rfl) λ_=>Yr _)) (λh=>?_) λh=>ZV ?_
  .have hnew:((unp k).take (i+1)).foldl (best L k) none=some c:=by
    rw[tk1];cases Ac with
    |none=>rfl
    |some b=>have:decide (0<i)=true:=ai.symm;rw[this]at h;have h:(c:Int)<(b:Nat):=IC h;exact Iz (by omega)
   refine Zm (Zu (ZG (Zb rfl) ?_));refine zff (b:=false) T.cl_Search T.na_best (ZG (YL (Zc (Zb rfl) (Zc (Zb rfl) Zh)) (by show 2<=sizeLine;decide)) ⟨_,s3,kk k,rfl,rfl,YB (Zb rfl) (zcc k),by show s3.2.length<_;omega,(s3.1,VG s3.2 (kk k) (dP q)),.dat (.int (q.1:Nat)),.dat (.int (q.2:Nat)),.dat (.int (c:Nat)),?_,λ_=>⟨q,hqm,zgP,by rw[hnew,hcq]⟩,by rw[hnew];rfl⟩);have:=lp.upd u1 u2 X2 X3 G3 gx3 hiq f2 f3 hL.O hlen hqm;rw[Iw (succ_pos i)];exact this
  .rw[Bool.or_eq_false_iff]at h;have hpos:decide (0<i)=true:=by simpa using h.1
   rw[hpos]at ai st;cases Ac with
   |none=>cases ai
   |some b=>
    have h2:¬ (c:Int)<(b:Nat):=De h.2;have hnew:((unp k).take (i+1)).foldl (best L k) none=some b:=by rw[tk1];exact Iq (by omega)
    refine⟨s3,.dat (.int (q.1:Nat)),.dat (.int (q.2:Nat)),.dat (.int (c:Nat)),?_,λ_=>by
     obtain⟨x,hx,h5,h6⟩:=bqh (IC hpos);exact⟨x,hx,X3.kb k (.inr u2) _ (X2.kb k (.inr u1) _ h5),by rw[hnew,h6]⟩,by rw[hnew]⟩
    rw[Iw (succ_pos i)];exact st
 .rintro _ ⟨s,v3,v4,v5,lp,bqh,rfl⟩;rw[Ov,← zkF];exact Yn (ZG (Zb rfl) ⟨_,s,rfl,⟨k,rfl,rfl,_,lp,bqh⟩,rfl⟩)
def zbr(T:Top K mg)(n U:Nat)(G_tried:Wb P w K mg base CX0 (2*U+3) T.Y9 T.fd_S_tried ["self", "known"] (spT (srT P w K T.Zn) (znB n U) (RT n))):Wb P w K mg base CX0 (2*U+4) T.YC T.fd_S_least ["self", "known"] (spT (srT P w K T.Zn) (zl0 n U) (RL n)):=by
 refine T.zeC.okT zed (by rintro _ _ ⟨_,rfl,_⟩;rfl) λcdv A outer s H E hr p fp s0 ds hP=>?_;obtain⟨k,rfl,hL⟩:=hP;have hu:=hr.units;have zl:(10^6:Nat)+10^6<sizeLine:=by decide
 have p3:=hL.l1;have p4:=hL.l2;refine⟨_,(Zf (XN (Zw (Ul (K:=K) rfl rfl rfl hu) (pv 1) (Jr (K:=K) rfl (pv 0) (by rfl)) (by rfl)) (Zj (zcW (K:=K) rfl rfl rfl hu (Jr (K:=K) rfl (pv 0) (by rfl)) (pv 1) (Qq (pv 0) T.cl_Search T.mt_Search_tried G_tried hr T.zag .nil zal (Za (pv 1) Ze Zd)) (by rfl))) Z7)
   (Zj (ZR (Yp (zjm (K:=K) rfl rfl rfl hu) (Jr (K:=K) rfl (pv 0) (by rfl)) (pv 1) (λ_ _=>rfl))))) ,?_⟩
 have fin:∀ s1,Gs n s1/\Gx s1->Ext (u k) s0 s1->YF s1.1 (kk k)=true->Sv K B0 (zkZ (tOp (zmH P w K) (ziB K (JB 0) "found") (JB 1))) [(srT P w K T.Zn).pv s1 p fp,.dat (dK k)] {nx:=fun ρ' => ∃ t1,RL n s0 [dK k] .none t1/\ρ'[0]?=some ((srT P w K T.Zn).pv t1 p fp),rt:=λr ρ' => ∃ d t1,r = .dat d/\RL n s0 [dK k] d t1/\ρ'[0]?=some ((srT P w K T.Zn).pv t1 p fp)}:=λs1 G1 X1 h1=>by obtain⟨d,hd⟩:=zaX h1;obtain⟨k',e,_,_,rfl⟩:=G1.1.fnd _ hd;have e:=VM e;subst e;exact Yn (zcw (ziD (b:=true) T.cl_Search T.na_found rfl (YB (Zb rfl) (zcc k)) hd) ⟨_,s1,rfl,⟨k,rfl,rfl,G1,X1,h1⟩,rfl⟩)
 refine Zm (zab (Zx (zeY (b:=true) T.cl_Search T.na_found rfl (YB (Zb rfl) (zcc k)))) (λh=>?_) λh=>ZV ?_)
 .have hnf:YF s0.1 (kk k)=false:=show YF (s0.sel true) (kk k)=false by simpa using h
  refine zff (b:=true) (p:=p) (fp:=fp) T.cl_Search T.na_found (VN (s:=s0) rfl (Qt T rfl) (Wz (Zc (Zb rfl) Zh) ⟨s0,rfl,⟨k,rfl,hL,hnf⟩,λx s1 hx=>?_⟩));obtain⟨k',e,rfl,b,lp,bqh⟩:=hx;have e:=Uu (OH e).1;subst e;have q1:=lp.l1;have q2:=lp.l2;have hlen:u k*(2*cc (u k-1))+u k=u k*(2*cc (u k-1)+1):=(Nat.mul_succ _ _).symm;have hcc:u k*(2*cc (u k-1)+1)+1<=cc (u k):=by
   by_cases z:0<u k
   .rw[ccs z];omega
   .have:u k=0:=by omega
    rw[this];decide
  refine⟨_,s1,kk k,rfl,rfl,YB (Zb rfl) (zcc k),by show s1.1.length<_;omega,?_⟩;have pl:=zcX (m:=s1.1) (k:=kk k) (d:=.int (L k:Nat));refine fin (VG s1.1 (kk k) (.int (L k:Nat)),s1.2) ⟨⟨λe he=>?_,lp.G.bst⟩,⟨λk' h q hq=>?_,λk' h hne=>?_⟩⟩ ⟨λk' h=>?_,λk' h=>?_,λk' h=>lp.b1 _ h,λk' h=>lp.b2 _ h,λk' h=>?_,by show(VG _ _ _).length<=_;omega,by show s1.2.length<=_;omega,lp.kb⟩ ?_
  .rcases zdg he with he | rfl
   .exact lp.G.fnd e he
   .exact⟨k,rfl,hL.O,hL.len,rfl⟩
  .have up:∀ x,YF s1.1 x=true->YF (VG s1.1 (kk k) (.int (L k:Nat))) x=true:=λx hx=>by rw[Xz,hx];rfl
   rw[Xz,Oh,Nf]at h;rcases h with h | h
   .obtain⟨a,b⟩:=lp.gx.cl k' h q hq;exact⟨up _ a,up _ b⟩
   .have h:=VM h;subst h;obtain⟨a,b⟩:=lp.ch q (by rw[show u k=(unp k).length from rfl,Ov];exact hq);exact⟨up _ a,up _ b⟩
  .rw[Xz,Oh,Nf]at h;rcases h with h | h
   .exact lp.gx.bs k' h hne
   .have h:=VM h;subst h;obtain⟨x,hx,h5,h6⟩:=bqh (List.length_pos_iff.mpr hne);refine⟨x,hx,h5,?_⟩;rw[show u k=(unp k).length from rfl,Ov]at h6;rw[zkF,h6];rfl
  .rw[Xz,Oh,Nf]at h;rcases h with h | h
   .exact(lp.f1 _ h).imp id Op
   .rw[VM h];exact .inr (Ih _)
  .show YF (VG _ _ _) _=true;rw[Xz,lp.f2 _ h];rfl
  .show YF (VG _ _ _) _=true\/_;rw[Xz,Oh,Nf];rcases lp.tk _ h with h | h | rfl
   .exact .inl (.inl h)
   .exact .inr h
   .exact .inl (.inr rfl)
  .show YF (VG _ _ _) _=true;rw[Xz];simp
 .have hf:YF s0.1 (kk k)=true:=show YF (s0.sel true) (kk k)=true by simpa using h
  have:=zh9 (u k);exact fin s0 ⟨hL.G,hL.gx⟩ ⟨λ_ h=>.inl h,λ_ h=>h,λ_ h=>.inl h,λ_ h=>h,λ_ h=>.inr h,by omega,by omega,λ_ _ _ h=>h⟩ hf
theorem zdq(T:Top K mg)(n:Nat):∀ U,Wb P w K mg base CX0 (2*U+4) T.YC T.fd_S_least ["self", "known"] (spT (srT P w K T.Zn) (zl0 n U) (RL n))
 |0=>zbr T n 0 (zdA T n 0 _ (λm h=>by omega) za3)
 |U+1=>zbr T n (U+1) (zdA T n (U+1) _ (λm h=>by cases h;rfl) (zdq T n U))
def zkK(T:Top K mg):Wb P w K mg base CX0 1 T.Z9 T.X7 ["self"] (zgr P w T.Zn):=by
 refine T.zbk.ok zaQ (λvs H Q E h=>?_) (λcdv A outer s H vs Q E hr h=>?_)
 .obtain⟨x,dx,rfl,_⟩:=h;rfl
 .obtain⟨x,dx,rfl,hx,hdx,k⟩:=h;refine⟨_,(Zf (zgm (K:=K) rfl (pv 0) (zdw rfl rfl) (by rfl))
   (Zj (zgm (K:=K) rfl (pv 0) (zdw rfl rfl) (by rfl)))) ,?_⟩
  intro a1 h1;have n1:x≠a1:=λz=>by rw[z,h1]at hx;cases hx
  refine⟨_,rfl,x,T.Zn,dx,[],rfl,by rw[Zk n1];exact hx,T.cl_Search,T.na_found,by decide,?_⟩;intro a2 h2;have n2:a2≠x:=λz=>by rw[z,Zi]at h2;cases h2
  rw[Zk n2]at h2;have n3:a2≠a1:=λz=>by rw[z,Zi]at h2;cases h2
  rw[Zk n3]at h2;refine⟨_,rfl,x,T.Zn,dx,[("found",.ref a1)],rfl,by rw[Zk (Ne.symm n2)];exact Zi,T.cl_Search,T.na_best,by show 1<1000;decide,?_⟩;exact k a1 a2 h1 h2 (Ne.symm n3)
end
-- TERM_
inductive zmr(n U:Nat)(s:SS)(es ds:List PD):Prop
 |mk (k:Kn) (_:ds=[dK k]) (_:IsO k) (_:n<=8) (_:k.length=n) (_:u k<=U) (_:(Gs n s/\Gx s/\YF s.1 (kk k)=true)) (_:es.length+2^(u k+1)<=10^6):zmr n U s es ds
noncomputable def dRo(k:Kn):PD:=.tuple ((Look.zcC (ma k) k.length).map λ(i:Nat)=>.int (i:Nat))
inductive Sub(es:List PD):Nat->Kn->Prop
 |told {a:Nat}{k:Kn}(_:unp k=[]) (_:es[a]?=some (.tuple [.str (Str.ofString "told"),dRo k])):Sub es a k
 |look {a b c:Nat}{k:Kn}{q:Nat×Nat}(_:q∈unp k) (_:cost k q=L k) (_:es[a]?=some (.tuple [.str (Str.ofString "look"),.int (q.1:Nat),.int (q.2:Nat),.int (b:Nat),.int (c:Nat)])) (_:a<b) (_:a<c) (_:Sub es b (wl k q.1 q.2)) (_:Sub es c (wl k q.2 q.1)):Sub es a k
def Sub.mono(h:Sub es a k):(∀ i,a<=i->∀ d,es[i]?=some d->es'[i]?=some d)->Sub es' a k:=by
 induction h with
 |told z e=>exact λg=>.told z (g _ (Ih _) _ e)
 |look hq hc e h1 h2 _ _ i1 i2=>exact λg=>.look hq hc (g _ (Ih _) _ e) h1 h2 (i1 λi hi=>g i (by omega)) (i2 λi hi=>g i (by omega))
def zfb(h:es <+:es')(e:es[i]?=some d):es'[i]?=some d:=by obtain⟨r,rfl⟩:=h;rw[Ng (Io.mp e).1];exact e
def ziP(h:es <+:es')(hi:es.length<=i):es <+:es'.set i d:=by obtain⟨r,rfl⟩:=h;rw[List.set_append_right _ _ hi];exact⟨_,rfl⟩
def Shp(es:List PD)(i:Nat):Prop:=(∃ l:List Nat,l.length<=8/\es[i]?=some (.tuple [.str (Str.ofString "told"),.tuple (l.map λ(i:Nat)=>.int (i:Nat))]))\/∃ a b c d:Nat,i<c/\i<d/\es[i]?=some (.tuple [.str (Str.ofString "look"),.int (a:Nat),.int (b:Nat),.int (c:Nat),.int (d:Nat)])
def Shp.mono(h:Shp es i)(g:∀ d,es[i]?=some d->es'[i]?=some d):Shp es' i:=by
 rcases h with⟨l,h8,e⟩ | ⟨a,b,c,d,h1,h2,e⟩
 .exact .inl ⟨l,h8,g _ e⟩
 .exact .inr ⟨a,b,c,d,h1,h2,g _ e⟩
inductive RG(s:SS)(es ds:List PD)(x:PD)(es' : List PD):Prop
 |mk (k:Kn) (_:ds=[dK k]) (_:x = .int (es.length:Nat)) (_:es.length<es'.length) (_:es'.length+1<=es.length+2^(u k+1)) (_:es <+:es') (_:Sub es' es.length k) (_:∀ i,es.length<=i->i<es'.length->Shp es' i):RG s es ds x es'
section
variable {B:Hp}
def zcN(T:Top K mg)(M:Bs K mg base)(hB:B T.Xq=some (.tbl λ_ _=>some Yo))(n U:Nat)(sp:Sp)(hsp:∀ m,U=m+1->sp=zjK B (srT P w K T.Zn) (zmr n m) RG)(G_grow:Wb P w K mg base CX0 (U+5) T.Xc T.fd_S_grow ["self", "tree", "known"] sp):Wb P w K mg base CX0 (U+6) T.Xc T.fd_S_grow ["self", "tree", "known"] (zjK B (srT P w K T.Zn) (zmr n U) RG):=by
 have G_row_of:T.QX.O P w base (U+5) (zlF K B RRo):=(zkS T M hB).mono (by omega);have G_with_look:T.Yy.O P w base (U+5) (spP K RWl):=(zjr T).mono (by omega);refine T.zhh.zod JQ (by rintro _ _ _ ⟨_,rfl,_⟩;rfl) λcdv A outer s H E hr p fp a s0 es ds hP=>?_;obtain⟨k,rfl,hO,hn8,hlen,hU,⟨hG,hX,hF⟩,hl⟩:=hP;have hu:=hr.units;have zl:(10^6:Nat)+10^6<sizeLine:=by decide
 have pw:2^(u k+1)=2*2^u k:=by rw[pow_succ,mul_comm]
 have pp:1<=2^u k:=Nat.one_le_two_pow;refine⟨_,(Zf (Zv (i:=3) JQ.nd rfl (Or.inl rfl) (ZF (Yj (K:=K) rfl) (by rfl) T.zcS NM (Za (pv 1) Ze Zd)))
   (Zf (XN (Zw (Ul (K:=K) rfl rfl rfl hu) (pv 2) (Jr (K:=K) rfl (pv 0) (by rfl)) (by rfl)) (Zf (WQ (zam N5 NB NC XH (pv 1) (Za (YD (Za Vx (Za (peN T.QX G_row_of hr (Za (pv 2) Ze Zd)) Ze Yg) Yb)) Ze Jp)))
   (Zj (ZR (pv 3)))) Z7)
   (Zf (Zv (i:=4) JQ.nd rfl (Or.inl rfl) (Yp (zjm (K:=K) rfl rfl rfl hu) (Jr (K:=K) rfl (pv 0) (by rfl)) (pv 2) (λ_ _=>rfl)))
   (Zf (WQ (zam N5 NB NC XH (pv 1) (Za (pv 4) Ze Zd)))
   (Zf (Zv (i:=5) JQ.nd rfl (Or.inl rfl) (Qq (pv 0) T.cl_Search T.mt_Search_grow G_grow hr T.Jc .nil zal (Za (pv 1) (Za (peN T.Yy G_with_look hr (Za (pv 2) (Za (Yp (ZW (K:=K) rfl) (pv 4) Zo (λ_ _=>rfl)) (Za (Yp (ZW (K:=K) rfl) (pv 4) Zo (λ_ _=>rfl)) Ze ZL) ZL) Zd)) Ze Yg) Zd)))
   (Zf (Zv (i:=6) JQ.nd rfl (Or.inl rfl) (Qq (pv 0) T.cl_Search T.mt_Search_grow G_grow hr T.Jc .nil zal (Za (pv 1) (Za (peN T.Yy G_with_look hr (Za (pv 2) (Za (Yp (ZW (K:=K) rfl) (pv 4) Zo (λ_ _=>rfl)) (Za (Yp (ZW (K:=K) rfl) (pv 4) Zo (λ_ _=>rfl)) Ze ZL) ZL) Zd)) Ze Yg) Zd)))
   (Zf (zb7 (YD (Za Vx (Za (Yp (ZW (K:=K) rfl) (pv 4) Zo (λ_ _=>rfl)) (Za (Yp (ZW (K:=K) rfl) (pv 4) Zo (λ_ _=>rfl)) (Za (pv 5) (Za (pv 6) Ze Zd) Zd) ZL) ZL) Yb)) (ziq (pv 1) (pv 3) set_list))
   (Zj (ZR (pv 3)))))))))) ,?_⟩
 refine Zm (Zu (Uo (Q9 (Zc (VD rfl rfl) Zh)) rfl ?_));refine Zm (zab (Zx (zeY (b:=false) T.cl_Search T.na_best rfl (YB (Zb rfl) (zcc k)))) (λh=>?_) λh=>ZV ?_)
 .have hz:unp k=[]:=NZ λz=>by obtain⟨q,_,hq,_⟩:=hX.bs k hF z;have:YF s0.2 (kk k)=true:=OG.mpr ⟨_,hq,Iw rfl⟩;have h:(!YF s0.2 (kk k))=true:=h;rw[this]at h;cases h
  refine Zm (VB (ZG (YL (Zc Wv (Zc (zgH (Zc (Zb rfl) Zh) (RRo.mk k (by omega))) Zh)) (by show 2<=sizeLine;decide)) ⟨_,_,_,rfl,rfl,rfl,by omega,?_⟩) rfl rfl);exact Yn (ZG (Zb rfl) ⟨_,_,rfl,⟨k,rfl,rfl,by rw[Il];exact OB _,by rw[Il];show es.length+1+1<=_;omega,List.prefix_append _ _,.told hz (by rw[Ni (Ih _),Nat.sub_self];rfl),λi h1 h2=>.inl ⟨Look.zcC (ma k) k.length,by rw[(Look.QS _ _).length_eq,Iy];omega,by
   rw[Il]at h2;have:i=es.length:=by have:i<es.length+1:=h2;omega
   subst this;rw[Ni (Ih _),Nat.sub_self];rfl⟩⟩,rfl,rfl⟩)
 .have hb:YF s0.2 (kk k)=true:=show YF (s0.sel false) (kk k)=true by simpa using h
  have hne:unp k≠[]:=λz=>by obtain⟨d,hd⟩:=zaX hb;obtain⟨k',q,e,_,_,hq,rfl⟩:=hG.bst _ hd;have e:=VM e;subst e;rw[z]at hq;cases hq
  obtain⟨q,hq,hd,hcq⟩:=hX.bs k hF hne;obtain⟨F1,F2⟩:=hX.cl k hF q hq;obtain⟨q1,q2,q3⟩:=Y7.mp hq;obtain⟨u1,u2⟩:=zky (i:=q.1) (j:=q.2) hq;have hop:ah k q.1 q.2=false/\ah k q.2 q.1=false:=by unfold opq at q3;simpa using q3
  have O1:IsO (wl k q.1 q.2):=hO.wl (by omega) q2 (by omega) hop.2;have O2:IsO (wl k q.2 q.1):=hO.wl q2 (by omega) (by omega) hop.1;obtain⟨m,hm⟩:∃ m,U=m+1:=⟨U-1,by omega⟩
  obtain rfl:=hsp m hm;have e1:2^(u (wl k q.1 q.2)+1)<=2^u k:=OL (by decide) (by omega);have e2:2^(u (wl k q.2 q.1)+1)<=2^u k:=OL (by decide) (by omega);refine Zm (Zu (zcw (ziD (b:=false) T.cl_Search T.na_best rfl (YB (Zb rfl) (zcc k)) hd) ?_));refine Zm (VB (ZG (Zb rfl) ⟨_,_,_,rfl,rfl,rfl,by omega,?_⟩) rfl rfl);show Sv K B _ [(srT P w K T.Zn).pv s0 p fp,.lnt a (es++[dP q]),.dat (dK k),.dat (.int (es.length:Nat)),.dat (dP q),.un,.un] _;have l1:(es++[dP q]).length=es.length+1:=by rw[Il];rfl
  have p1:es <+:es++[dP q]:=List.prefix_append _ _;generalize es++[dP q]=es1 at l1 p1;refine Zm (Zu (zaG (i:=0) (j:=1) (s:=s0) (es:=es1) (by decide) rfl rfl rfl (Qt T rfl s0) (Zc (Z8 (Zc (Zb rfl) (Zc (Z3 (n:=0) (Zb rfl) Zq rfl rfl) (Zc (Z3 (n:=1) (Zb rfl) Zq rfl rfl) Zh))) (RWl.mk k q.1 q.2 (by omega) (by omega) q2)) Zh) ⟨_,rfl,O1,hn8,by rw[Yq];exact hlen,by omega,⟨hG,hX,F1⟩,by omega⟩ λx es2 hx=>?_));obtain⟨k1,ek,rfl,g1,g2,p2,S1,Q1⟩:=hx;have ek:=Uu (OH ek).1;subst ek;show Sv K B _ [(srT P w K T.Zn).pv s0 p fp,.lnt a es2,.dat (dK k),.dat (.int (es.length:Nat)),.dat (dP q),.dat (.int (es1.length:Nat)),.un] _;refine Zm (Zu (zaG (i:=0) (j:=1) (s:=s0) (es:=es2) (by decide) rfl rfl rfl (Qt T rfl s0) (Zc (Z8 (Zc (Zb rfl) (Zc (Z3 (n:=1) (Zb rfl) Zq rfl rfl) (Zc (Z3 (n:=0) (Zb rfl) Zq rfl rfl) Zh))) (RWl.mk k q.2 q.1 (by omega) q2 (by omega))) Zh) ⟨_,rfl,O2,hn8,by rw[Yq];exact hlen,by omega,⟨hG,hX,F2⟩,by omega⟩ λx es3 hx=>?_));obtain⟨k2,ek,rfl,g3,g4,p3,S2,Q2⟩:=hx;have ek:=Uu (OH ek).1;subst ek;show Sv K B _ [(srT P w K T.Zn).pv s0 p fp,.lnt a es3,.dat (dK k),.dat (.int (es.length:Nat)),.dat (dP q),.dat (.int (es1.length:Nat)),.dat (.int (es2.length:Nat))] _;refine Zm (zfj (i:=1) (ZG (YL (Zc Wv (Zc (Z3 (n:=0) (Zb rfl) Zq rfl rfl) (Zc (Z3 (n:=1) (Zb rfl) Zq rfl rfl) (Zc (Zb rfl) (Zc (Zb rfl) Zh))))) (by show 5<=sizeLine;decide)) ⟨_,_,_,(es.length:Nat),es.length,rfl,rfl,rfl,Zb rfl,Wq (by omega),?_⟩));exact Yn (ZG (Zb rfl) ⟨_,_,rfl,⟨k,rfl,rfl,by rw[Ob];omega,by rw[Ob];omega,ziP (p1.trans (p2.trans p3)) (Ih _),.look hq hcq (b:=es1.length) (c:=es2.length) (by rw[IW (by omega)]) (by omega) (by omega) (S1.mono λi hi d hd=>by rw[IS (by omega)];exact zfb p3 hd) (S2.mono λi hi d hd=>by rw[IS (by omega)];exact hd),λi h1 h2=>by
   rw[Ob]at h2;by_cases z:i=es.length
   .subst z;exact .inr ⟨q.1,q.2,es1.length,es2.length,by omega,by omega,by rw[IW (by omega)]⟩
   .by_cases y:i<es2.length
    .exact(Q1 i (by omega) y).mono λd hd=>by rw[IS (by omega)];exact zfb p3 hd
    .exact(Q2 i (by omega) h2).mono λd hd=>by rw[IS (by omega)];exact hd⟩,rfl,rfl⟩)
theorem zfW(T:Top K mg)(M:Bs K mg base)(hB:B T.Xq=some (.tbl λ_ _=>some Yo))(n:Nat):∀ U,Wb P w K mg base CX0 (U+6) T.Xc T.fd_S_grow ["self", "tree", "known"] (zjK B (srT P w K T.Zn) (zmr n U) RG)
 |0=>zcN T M hB n 0 _ (λm h=>by omega) za3
 |U+1=>zcN T M hB n (U+1) _ (λm h=>by cases h;rfl) (zfW T M hB n U)
end
noncomputable def zgz(q:KF):Kn:=q.map λx=>match x with | Sum.inl i=>i.toNat | Sum.inr _=>0
def Ui(k:Kn):zgz (kk k)=k:=by unfold zgz kk;rw[NQ];have:((λx:Key=>match x with | Sum.inl i=>i.toNat | Sum.inr _=>0)∘λ(b:Nat)=>(Sum.inl (b:Int):Key))=id:=funext λb=>rfl;rw[this,map_id]
def zk2(h:k.length<=4):u k<=6:=by
 unfold u;rw[Vl];have e:((zbo k.length).filter λq=>decide (q.1<q.2)&&opq k q.1 q.2)=(((zbo k.length).filter λq=>decide (q.1<q.2)).filter λq=>opq k q.1 q.2):=by rw[List.filter_filter];exact Dy λq _=>Bool.and_comm _ _
 rw[e];refine IH (IT _ _) ?_;have:k.length=0\/k.length=1\/k.length=2\/k.length=3\/k.length=4:=by omega
 rcases this with h | h | h | h | h <;> rw[h] <;> decide
inductive zle(ds:List PD):Prop
 |mk (k:Kn) (_:ds=[dPs (pairsOf k),.int (k.length:Nat)]) (_:IsO k) (_:k.length<=4):zle ds
def RLL(ds:List PD)(d:PD):Prop:=∀ k:Kn,ds=[dPs (pairsOf k),.int (k.length:Nat)]->IsO k->∃(es:List PD)(ks:List Kn),d = .tuple [.int (L k:Nat),.tuple es,.tuple (ks.map λk' => .tuple [dPs (pairsOf k'),.int (L k' : Nat)])]/\es.length<=200/\Sub es 0 k/\(∀ i,i<es.length->Shp es i)/\k∈ks/\ks.length<=cc (u k)/\(∀ k' ∈ ks,IsO k' /\ k'.length=k.length)/\∀ k' ∈ ks,∀ q∈unp k',wl k' q.1 q.2∈ks/\wl k' q.2 q.1∈ks
def zfA{a b:List (Nat×Nat)}(h:dPs a=dPs b):a=b:=by injection h with h;refine(List.map_inj_right λx y e=>?_).mp h;injection e with e;injection e with e1 e2;injection e2 with e2;injection e1 with e1;injection e2 with e2;exact DA (by omega) (by omega)
section
variable {B:Hp}
def zmY(T:Top K mg)(M:Bs K mg base)(hB:B T.Xq=some (.tbl λ_ _=>some Yo)):T.Je.O P w base 17 (znn K B zle RLL):=by
 refine T.Je.F.zoo YH (by rintro _ ⟨_,rfl,_⟩;rfl) λcdv A outer s H E hr ds hP=>?_;obtain⟨k,rfl,hO,hk4⟩:=hP;have G_ini:Wb P w K mg base CX0 15 T.Z9 T.X7 ["self"] (zgr P w T.Zn):=(zkK T).mono (by decide);have G_bits_of:T.Q5.O P w base 16 (spP K RBi):=(zjy T).mono (by decide);have G_pairs_of:T.J7.O P w base 16 (spP K RPo):=(zhW T).mono (by decide);have G_least:Wb P w K mg base CX0 16 T.YC T.fd_S_least ["self", "known"] (spT (srT P w K T.Zn) (zl0 k.length 6) (RL k.length)):=zdq T k.length 6;have G_grow:Wb P w K mg base CX0 16 T.Xc T.fd_S_grow ["self", "tree", "known"] (zjK B (srT P w K T.Zn) (zmr k.length 6) RG):=(zfW T M hB k.length 6).mono (by decide);have hu:=hr.units;have zl:(10^6:Nat)+10^6<sizeLine:=by decide
 have hu6:u k<=6:=zk2 hk4;have c6:cc (u k)<=10^6-1:=IH (Wk hu6) (by decide);have w6:2^(u k+1)<=128:=OL (n:=2) (by decide) (show u k+1<=7 by omega);refine⟨_,(Zf (Zv (i:=2) YH.nd rfl (Or.inr rfl) (zhD T.mk_Search G_ini hr (by rfl) T.cm_Search T.Vi .nil zal))
   (Zf (Zv (i:=3) YH.nd rfl (Or.inl rfl) (peN T.Q5 G_bits_of hr (Za (pv 0) (Za (pv 1) Ze Zd) Zd)))
   (Zf (Zv (i:=4) YH.nd rfl (Or.inl rfl) (Qq (pv 2) T.cl_Search T.mt_Search_least G_least hr T.WW .nil zal (Za (pv 3) Ze Zd)))
   (Zf (Zv (i:=5) YH.nd rfl (Or.inl rfl) (Yl Ze))
   (Zf (WQ (Qq (pv 2) T.cl_Search T.mt_Search_grow G_grow hr T.Jc .nil zal (Za (pv 5) (Za (pv 3) Ze Zd) Zd)))
   (Zf (znD (x:= "other") (cap:=["search"]) (js:=[2]) (i:=6) (y:= "paper") ⟨rfl,by decide +kernel,by decide +kernel,rfl,(by show ∀ p∈(_:List (Str×NameKind)),p.2=NameKind.free->List.lookup p.1 (Zg X4).names=some NameKind.cell;decide +kernel),by decide +kernel,by decide +kernel,by decide +kernel⟩ rfl rfl (λ_ _ h=>h) YH.nd rfl rfl (zgG rfl rfl (Jr (K:=K) rfl (pv 2) (by rfl))) (λ_ _ _ _=>⟨Vq,(YD (Za (peN T.J7 G_pairs_of hr (Za (pv 0) Ze Zd)) (Za (Yp (zjm (K:=K) rfl rfl rfl hu) (Jr (K:=K) rfl (pv 1) (by rfl)) (pv 0) (λ_ _=>rfl)) Ze ZL) Yg))⟩))
   (Zj (ZR (YD (Za (pv 4) (Za (Z6 (YM (K:=K) rfl) (by rfl) T.We zcv (Za (pv 5) Ze Zd)) (Za (Z6 (YM (K:=K) rfl) (by rfl) T.We zcv (Za (pv 6) Ze Zd)) Ze Yg) Yg) Zd)))))))))) ,?_⟩
 refine Ud (Zu (zhA (C:=T.Zn) λp fp=>?_));refine Ud (Zu (ZG (YB (Z8 (Zc (Zb rfl) (Zc (Zb rfl) Zh)) (RBi.mk (pairsOf k) k.length (by omega) λq hq=>⟨(ZJ.mp hq).1,(ZJ.mp hq).2.1⟩)) (by rw[X8 hO])) ?_));refine Ud (Zu (VN (s:=(([],[]):SS)) rfl (Qt T rfl) (Wz (Zc (Zb rfl) Zh) ⟨_,rfl,⟨k,rfl,hO,by omega,rfl,hu6,⟨nofun,nofun⟩,(λk' h=>nomatch h),(by show 0+cc (u k)<=10^6;omega),(by show 0+cc (u k)<=10^6;omega),⟨(λk' h=>nomatch h),λk' h=>nomatch h⟩⟩,λx s1 hx=>?_⟩)));obtain⟨k',e,rfl,⟨G1,gx1⟩,X1,F1⟩:=hx;have e:=Uu (OH e).1;subst e;refine Ud (Zu (QV Zh (by show 0<=sizeLine;decide) ?_));show Sv0 K B _ [.dat (dPs (pairsOf k)),.dat (.int (k.length:Nat)),(srT P w K T.Zn).pv s1 p fp,.dat (dK k),.dat (.int (L k:Nat)),.own [],.un] _;refine Ud (zjs (zaG (i:=2) (j:=5) (s:=s1) (es:=[]) (by decide) rfl rfl rfl (Qt T rfl s1) (Zc (Zb rfl) Zh) ⟨k,rfl,hO,by omega,rfl,hu6,⟨G1,gx1,F1⟩,by show 0+2^(u k+1)<=10^6;omega⟩ λx es hx=>?_));obtain⟨k3,e3,_,_,hle,_,hSub,hShp⟩:=hx;have e3:=Uu (OH e3).1;subst e3;show Sv0 K B _ [.dat (dPs (pairsOf k)),.dat (.int (k.length:Nat)),(srT P w K T.Zn).pv s1 p fp,.dat (dK k),.dat (.int (L k:Nat)),.own es,.un] _;have xl:s1.1.length<=0+cc (u k):=X1.l1;refine zhy (zkf (i:=2) (j:=6) (js:=[2]) (s:=s1) (f:=λy=>.tuple [dPs (pairsOf (zgz y.1)),y.2]) T.cl_Search T.na_found rfl (by omega) (λB' sB dx a1 a2 xs o gp ga pd y hy=>?_) ?_)
 .obtain⟨k',e,hO',hl',e2⟩:=G1.fnd y hy;have ey:Ug y.1=dK k':=by rw[e,← zcc]
  exact YL (Zc (YB (Z8 (Zc (YB (Zb rfl) ey) Zh) (RPo.mk k' (by omega))) (by rw[e,Ui])) (Zc (zlG (i:=1) (k:=y.1) (d:=y.2) T.cl_Search T.na_found rfl gp ga pd (Zb rfl) hy) Zh)) (by show 2<=sizeLine;decide)
 .refine sv0 (zf9 (YL (Zc (Zb rfl) (Zc (XF (Zc (VD rfl rfl) Zh)) (Zc (XF (Zc (VD rfl rfl) Zh)) Zh))) (by show 3<=sizeLine;decide)) ⟨_,rfl,λk2 e2 hO2=>?_⟩);obtain⟨e3,e4⟩:=OH e2;obtain⟨e4,_⟩:=OH e4;injection e4 with e4;have el:k.length=k2.length:=by omega
  have:k=k2:=by rw[← X8 hO,← X8 hO2,zfA e3,el]
  subst this;have inK:∀ k',YF s1.1 (kk k')=true->k' ∈ s1.1.map λy=>zgz y.1:=λk' h=>by obtain⟨d,hd⟩:=zaX h;exact IB.mpr ⟨_,hd,Ui k'⟩
  have ofK:∀ k' ∈ s1.1.map (λy=>zgz y.1),YF s1.1 (kk k')=true/\IsO k' /\ k'.length=k.length/\∃ y∈s1.1,zgz y.1=k':=λk' h=>by obtain⟨y,hy,rfl⟩:=IB.mp h;obtain⟨k2,e,o,l,_⟩:=G1.fnd y hy;rw[e,Ui];exact⟨OG.mpr ⟨y,hy,Iw e⟩,o,l,y,hy,by rw[e,Ui]⟩
  refine⟨es,s1.1.map λy=>zgz y.1,?_,by simp at hle;omega,hSub,(λi h=>hShp i (NN _) h),inK k F1,by rw[Ie];omega,λk' h=>⟨(ofK k' h).2.1,(ofK k' h).2.2.1⟩,λk' h q hq=>?_⟩
  .congr 3;congr 1;rw[NQ];refine ND PyData.tuple (Oe λy hy=>?_);obtain⟨k2,e,_,_,e2⟩:=G1.fnd y hy;show PyData.tuple [dPs (pairsOf (zgz y.1)),y.2]=PyData.tuple [dPs (pairsOf (zgz y.1)),.int (L (zgz y.1):Nat)];rw[e,Ui,e2]
  .obtain⟨a,b⟩:=gx1.cl k' (ofK k' h).1 q hq;exact⟨inK _ a,inK _ b⟩
end
def zmi(k:Kn)(t:Nat):ma k t=((List.range k.length).map λi=>if ah k i t then(1:Int)else 0).sum:=by
 unfold ma;congr 1;refine Dx λi=>?_;rw[Ik,Ik];by_cases h:i<k.length
 .rw[Ib h,Ib (by rw[Iy];exact h),List.getElem_range];show some (if(k[i]).testBit t then(1:Int)else 0)=some (if(k.getD i 0).testBit t then(1:Int)else 0);rw[II,Ib h];rfl
 .rw[IU (by omega),IU (by rw[Iy];omega)];rfl
theorem zin{f g:Nat->Int}:∀ l:List Nat,(∀ x∈l,f x<=g x)->(l.map f).sum<=(l.map g).sum
 |[],_=>Int.le_refl _
 |a::r,h=>by rw[Nt,Nt,sum_cons,sum_cons];have:=h a Ir;have:=zin r λx hx=>h x (Im _ hx);omega
theorem zix{f g:Nat->Int}:∀ l:List Nat,(∀ x∈l,f x<=g x)->∀ y∈l,f y<g y->(l.map f).sum<(l.map g).sum
 |a::r,h,y,hy,hlt=>by
  rw[Nt,Nt,sum_cons,sum_cons];have h1:=h a Ir;have h2:=zin r λx hx=>h x (Im _ hx);rcases IE.mp hy with rfl | hy
  .omega
  .have:=zix r (λx hx=>h x (Im _ hx)) y hy hlt;omega
def zm7(o:IsO k){j:Nat}(hi:i<k.length)(h:ah k i j=true):ma k i<ma k j:=by
 rw[zmi,zmi];refine zix _ (λx hx=>?_) i (IJ.mpr hi) ?_
 .have hx:=IJ.mp hx;by_cases z:ah k x i=true
  .rw[Iz z,Iz (o.tr x i j hx hi z h)];exact Int.le_refl _
  .rw[Iq z];split <;> omega
 .rw[Iq (by rw[o.ir i hi];exact Ii),Iz h];decide
def zdQ(hz:unp k=[]){j:Nat}(hi:i<k.length)(hj:j<k.length)(n:i≠j):ah k i j=true\/ah k j i=true:=by
 refine NZ λz=>?_;rw[not_or]at z;have op:opq k i j=true:=by unfold opq;rw[Od.mpr z.1,Od.mpr z.2];rfl
 by_cases y:i<j
 .exact ne_nil_of_mem (Y7.mpr ⟨y,hj,op⟩:(i,j)∈unp k) hz
 .exact ne_nil_of_mem (Y7.mpr ⟨show j<i by omega,hi,by rw[V1]at op;exact op⟩:(j,i)∈unp k) hz
def zb6(o:IsO k)(hz:unp k=[]):(Look.zcC (ma k) k.length).Perm (List.range k.length)/\(Look.zcC (ma k) k.length).Pairwise λa b=>ah k a b=true:=by
 have pm:=Look.QS (ma k) k.length;refine⟨pm,?_⟩;refine O3 (R:=λa b=>Look.ltN (ma k) a b/\a≠b) (λ{a b} ha hb h=>?_) ((Look.zc0 (ma k) k.length).and (Look.zao (ma k) k.length));have ha:=IJ.mp (pm.mem_iff.mp ha);have hb:=IJ.mp (pm.mem_iff.mp hb);rcases zdQ hz ha hb h.2 with z | z
 .exact z
 .have:=zm7 o hb z;have h1:=h.1;unfold Look.ltN at h1;omega
inductive Cnt(es:List PD):Nat->Kn->Nat->Nat->Prop
 |told {a:Nat}{k:Kn}{l:List Nat}(_:unp k=[]) (_:es[a]?=some (.tuple [.str (Str.ofString "told"),.tuple (l.map λ(i:Nat)=>.int (i:Nat))])) (_:l.Perm (List.range k.length)) (_:l.Pairwise λx y=>ah k x y=true):Cnt es a k 0 1
 |look {a b c i j c1 c2 m1 m2:Nat}{k:Kn}(_:i<k.length) (_:j<k.length) (_:i≠j) (_:opq k i j=true) (_:es[a]?=some (.tuple [.str (Str.ofString "look"),.int (i:Nat),.int (j:Nat),.int (b:Nat),.int (c:Nat)])) (_:a<b) (_:a<c) (_:b<es.length) (_:c<es.length) (_:Cnt es b (wl k i j) c1 m1) (_:Cnt es c (wl k j i) c2 m2):Cnt es a k (1+max c1 c2) (1+m1+m2)
def Cnt.pos(h:Cnt es a k c m):1<=m/\a<es.length:=by
 cases h with
 |told _ e _ _=>exact⟨Ih _,(Io.mp e).1⟩
 |look _ _ _ _ e=>exact⟨by omega,(Io.mp e).1⟩
def zmF{j:Nat}(hi:i<k.length)(hj:j<k.length)(n:i≠j)(h:opq k i j=true):u (wl k i j)<u k:=by
 by_cases z:i<j
 .exact(zky (Y7.mpr ⟨z,hj,h⟩)).1
 .exact(zky (Y7.mpr ⟨show j<i by omega,hi,by rw[V1]at h;exact h⟩)).2
def Cnt.few(h:Cnt es a k c m):m+1<=2^(u k+1)/\c<=u k:=by
 induction h with
 |@told a k l z _ _ _=>exact⟨by have:1<=2^u k:=Nat.one_le_two_pow;rw[pow_succ];omega,NN _⟩
 |@look a b c i j c1 c2 m1 m2 k hi hj n o _ _ _ _ _ _ _ i1 i2=>have u1:=zmF hi hj n o;have u2:=zmF hj hi (Ne.symm n) (by rw[V1]at o;exact o);obtain⟨a1,b1⟩:=i1;obtain⟨a2,b2⟩:=i2;have e1:=OL (n:=2) (by decide) (Nat.succ_le_of_lt u1);have e2:=OL (n:=2) (by decide) (Nat.succ_le_of_lt u2);refine⟨?_,by omega⟩;rw[pow_succ];simp only[Nat.succ_eq_add_one]at e1 e2;omega
def Sub.cnt(h:Sub es a k):IsO k->∃ m,Cnt es a k (L k) m:=by
 induction h with
 |told z e=>intro o;obtain⟨p,c⟩:=zb6 o z;exact⟨1,by rw[zhI z];exact .told z e p c⟩
 |@look a b c k q hq hc e h1 h2 s1 s2 i1 i2=>
  intro o;obtain⟨q1,q2,q3⟩:=Y7.mp hq;have hop:ah k q.1 q.2=false/\ah k q.2 q.1=false:=by unfold opq at q3;simpa using q3
  obtain⟨m1,c1⟩:=i1 (o.wl (by omega) q2 (by omega) hop.2);obtain⟨m2,c2⟩:=i2 (o.wl q2 (by omega) (by omega) hop.1);refine⟨1+m1+m2,?_⟩;rw[← hc];exact .look (by omega) q2 (by omega) q3 e h1 h2 c1.pos.2 c2.pos.2 c1 c2
def ziv(k:Kn):(opn k).Nodup:=by
 unfold opn;unfold List.Nodup;refine Dl.mpr ⟨λj _=>?_,?_⟩
 .unfold orow;rw[OY];exact((OX (n:=j)).filter _).imp λh e=>h (Prod.mk.inj e).1
 .refine(OX (n:=k.length)).imp λ{a b} h x hx y hy e=>?_;unfold orow at hx hy;obtain⟨_,_,rfl⟩:=IB.mp hx;obtain⟨_,_,rfl⟩:=IB.mp hy;exact h (Prod.mk.inj e).2
def zib{a b:Kn}(ha:IsO a)(hb:IsO b)(hl:a.length=b.length)(h:dPs (pairsOf a)=dPs (pairsOf b)):a=b:=by rw[← X8 ha,← X8 hb,zfA h,hl]
noncomputable def kq(k:Kn):NK:=(pairsOf k).map λq=>[Sum.inl (q.1:Int),Sum.inl (q.2:Int)]
def zbD(k:Kn):zai (kq k)=dPs (pairsOf k):=by unfold zai kq;rw[NQ];rfl
def zgq{a b:Kn}(ha:IsO a)(hb:IsO b)(hl:a.length=b.length)(h:kq a=kq b):a=b:=zib ha hb hl (by rw[← zbD,← zbD,h])
def zav{m:MN}{k:NK}{e:NK×PD}(h:e∈W4 m k d):(e∈m/\e.1≠k)\/e=(k,d):=by
 unfold W4 at h;split at h
 .obtain⟨x,hx,rfl⟩:=IB.mp h;unfold zaW;split
  .rename_i e;rw[e];exact .inr rfl
  .rename_i e;exact .inl ⟨hx,e⟩
 .rename_i hn
  rcases Nz.mp h with h | h
  .exact .inl ⟨h,λz=>hn (WX.mpr (IB.mpr ⟨e,h,z⟩))⟩
  .exact .inr (Ij.mp h)
def zhj{m:MN}{k:NK}:(k,d)∈W4 m k d:=by
 unfold W4;split
 .rename_i h
  obtain⟨x,hx,e⟩:=IB.mp (WX.mp h);exact IB.mpr ⟨x,hx,by unfold zaW;rw[Iz e,e]⟩
 .exact IG _ (N6 _)
inductive Rgt(n:Nat)(e:NK×PD):Prop
 |mk (k:Kn) (_:IsO k) (_:k.length=n) (_:e.1=kq k) (_:e.2 = .int (L k:Nat)):Rgt n e
def Rt(n U:Nat)(m:MN):Prop:=∀ e∈m,∀ k,IsO k->k.length=n->e.1=kq k->u k<=U->e.2 = .int (L k:Nat)
def Rt.more{n U:Nat}{m m' : MN}(h:Rt n U m)(h2:∀ e∈m',e∈m\/Rgt n e):Rt n U m':=λe he k o hl hk hu=>by
 rcases h2 e he with h3 | ⟨k',o',hl',hk',hv⟩
 .exact h e h3 k o hl hk hu
 .rw[zgq o o' (by rw[hl,hl']) (hk.symm.trans hk')];exact hv
inductive zdL(N:Nat)(m:MN)(d1 d2:PD):Prop
 |mk (k:Kn) (_:d1=dPs (pairsOf k)) (_:d2 = .int (k.length:Nat)) (_:IsO k) (_:k.length<=7) (_:u k<=N) (_:Rt k.length (u k) m) (_:m.length+2*cc (u k)<=10^6):zdL N m d1 d2
def RLs(m:MN)(d1 d2 x:PD)(m' : MN):Prop:=∀ k:Kn,IsO k->d1=dPs (pairsOf k)->d2 = .int (k.length:Nat)->x = .int (L k:Nat)/\(∀ e∈m',e∈m\/Rgt k.length e)/\m'.length<=m.length+2*cc (u k)
theorem znm:∀ n,n<=cc n
 |0=>NN _
 |n+1=>by show n+1<=1+(n+1)*(2*cc n+1);have:(n+1)*1<=(n+1)*(2*cc n+1):=Nat.mul_le_mul_left _ (by omega);omega
def zj8(k:Kn):(opn k).length<=u k:=NJ (ziv k) λq hq=>Jf.mp hq
section
def zh6(T:Top K mg)(N:Nat)(sp:Sp)(hsp:∀ n,N=n+1->sp=zgs (dnT P w K) (zdL n) RLs)(G__law_least:T.Yk.O P w base (N+2) sp):T.Yk.O P w base (N+3) (zgs (dnT P w K) (zdL N) RLs):=by
 have G__law_open:T.Wh.O P w base (N+2) (spP K ROp):=(zfC T).mono (by omega);have G__law_more:T.Xg.O P w base (N+2) (spP K RMo):=(zfY T).mono (by omega);refine T.Yk.F.zoe Xn rfl λcdv A outer s H E hr p fp m d1 d2 hP=>?_;obtain⟨k,rfl,rfl,hO,h7,hN,hRt,hml⟩:=hP;have hu:=hr.units;have zl:(10^6+10^6:Nat)<sizeLine:=by decide
 have hcc:=zh9 (u k);have hcg:=znm (u k);have fin:∀{x:PD}{m' : MN},x = .int (L k:Nat)->(∀ e∈m',e∈m\/Rgt k.length e)->m'.length<=m.length+2*cc (u k)->RLs m (dPs (pairsOf k)) (.int (k.length:Nat)) x m':=λ{x m'} h1 h2 h3 k2 o2 e1 e2=>by injection e2 with e2;have:k2=k:=zib o2 hO (by omega) e1.symm;subst this;exact⟨h1,h2,h3⟩
 refine⟨_,(Zf (XN (Zw (zf3 (K:=K) rfl rfl rfl hu) (pv 0) (pv 2) (by rfl)) (Zf (zdk (K:=K) rfl rfl rfl hu (pv 2) (pv 0) Zo (by rfl))
   (Zf (Zv (i:=3) Xn.nd rfl (Or.inl rfl) (Yl Ze))
   (Zf (Xa IR rfl (Xr (peN T.Wh G__law_open hr (Za (pv 0) (Za (pv 1) Ze Zd) Zd))) (Jx (n:=2) rfl (ZK (Zz (i:=4) Xn.nd rfl (Or.inl rfl)) (ZK (Zz (i:=5) Xn.nd rfl (Or.inl rfl)) Xv)) (by rfl)) (Zf (Zv (i:=6) Xn.nd rfl (Or.inl rfl) (peN T.Yk G__law_least hr (Za (peN T.Xg G__law_more hr (Za (pv 0) (Za (pv 4) (Za (pv 5) Ze Zd) Zd) Zd)) (Za (pv 1) (Za (pv 2) Ze Zd) Zd) Yg)))
   (Zj (WQ (zam N5 NB NC XH (pv 3) (Za (ZZ Qi Zo (ZF (zbQ rfl) (by rfl) T.zmM zmE (Za (pv 6) (Za (peN T.Yk G__law_least hr (Za (peN T.Xg G__law_more hr (Za (pv 0) (Za (pv 5) (Za (pv 4) Ze Zd) Zd) Zd)) (Za (pv 1) (Za (pv 2) Ze Zd) Zd) Yg)) Ze Yg) Zd))) Ze Ja))))))
   (Zj (zdk (K:=K) rfl rfl rfl hu (pv 2) (pv 0) (zjC (K:=K) rfl rfl (by rfl) T.zof (pv 3) Zo) (by rfl)))))) Z7)
   (Zj (ZR (Yp (zmR (K:=K) rfl rfl rfl hu) (pv 2) (pv 0) (λ_ _=>rfl))))) ,?_⟩
 have key:∀{ρ:List PV},ρ[0]?=some (.dat (dPs (pairsOf k)))->Er K B0 (JB 0) ρ (zai (kq k)):=λh=>YB (Zb h) (zbD k).symm;refine zcL (fun ρ' => ∃(m' : MN)(v3 v4 v5 v6:PV),(∀ e∈m',e∈m\/Rgt k.length e)/\m'.length<=m.length+2*cc (u k)/\(kq k,.int (L k:Nat))∈m' /\ ρ'=[.dat (dPs (pairsOf k)),.dat (.int (k.length:Nat)),(dnT P w K).pv m' p fp,v3,v4,v5,v6]) (zab (b:=!Qd m (kq k)) (Zx (zlt (p:=p) (fp:=fp) rfl (key rfl))) (λhb=>?_) λhb=>ZV ?_) ?_
 .have hb:Qd m (kq k)=false:=by simpa using hb
  refine Zm (zeW (i:=2) (p:=p) (fp:=fp) (ZG Zq ⟨_,m,kq k,rfl,rfl,key rfl,by omega,?_⟩));have l1:=zbC (m:=m) (k:=kq k) (d:=.int 0);have m1:∀ e∈W4 m (kq k) (.int 0),(e∈m/\e.1≠kq k)\/e=(kq k,.int 0):=λe he=>zav he;generalize W4 m (kq k) (.int 0)=M1 at l1 m1;refine Zm (Zu (QV Zh (by show 0<=sizeLine;decide) ?_));show Sv K B0 _ [.dat (dPs (pairsOf k)),.dat (.int (k.length:Nat)),(dnT P w K).pv M1 p fp,.own [],.un,.un,.un] _;have hol:=zj8 k;have step:∀ s,s<=(opn k).length->s*(4*cc (u k-1))+2<=2*cc (u k):=λs hs=>by
   by_cases z:u k=0
   .have:s=0:=by omega
    subst this;omega
   .obtain⟨v,hv⟩:∃ v,u k=v+1:=⟨u k-1,by omega⟩
    rw[hv,Nat.add_sub_cancel];show _<=2*(1+(v+1)*(2*cc v+1));have:s*(2*cc v)<=(v+1)*(2*cc v+1):=OQ (by omega) (by omega);have e:s*(4*cc v)=2*(s*(2*cc v)):=by rw[show 4*cc v=2*(2*cc v)by omega,← Nat.mul_assoc,mul_comm s 2,Nat.mul_assoc]
    omega
  refine Zm (Xh (opn k) dP (WF (Z8 (Zc (Zb rfl) (Zc (Zb rfl) Zh)) (ROp.mk k (by omega)))) (λs ρ=>∃(m' : MN)(v4 v5 v6:PV),(∀ e∈m',e∈M1\/Rgt k.length e)/\m'.length<=M1.length+s*(4*cc (u k-1))/\ρ=[.dat (dPs (pairsOf k)),.dat (.int (k.length:Nat)),(dnT P w K).pv m' p fp,.own (((opn k).take s).map λq=>.int (cost k q:Nat)),v4,v5,v6]) ⟨M1,_,_,_,λe he=>.inl he,by omega,rfl⟩ ?_ ?_)
  .rintro s hs _ ⟨m',v4,v5,v6,hm',hl',rfl⟩;obtain⟨q,hq⟩:∃ q,(opn k)[s]=q:=⟨_,rfl⟩
   rw[hq];have hqm:q∈opn k:=by rw[← hq];exact Np _
   obtain⟨q1,q2,q3⟩:=Y7.mp (Jf.mp hqm);have ho:ah k q.1 q.2=false/\ah k q.2 q.1=false:=by unfold opq at q3;simpa using q3
   have O1:IsO (wl k q.1 q.2):=hO.wl (by omega) q2 (by omega) ho.2;have O2:IsO (wl k q.2 q.1):=hO.wl q2 (by omega) (by omega) ho.1;have u1:=zmF (k:=k) (i:=q.1) (j:=q.2) (by omega) q2 (by omega) q3;have u2:=zmF (k:=k) (i:=q.2) (j:=q.1) q2 (by omega) (by omega) (by rw[V1];exact q3);have c1:cc (u (wl k q.1 q.2))<=cc (u k-1):=Wk (by omega);have c2:cc (u (wl k q.2 q.1))<=cc (u k-1):=Wk (by omega);have st:=step (s+1) hs;rw[Dr]at st;obtain⟨n,rfl⟩:∃ n,N=n+1:=⟨N-1,by omega⟩
   obtain rfl:=hsp n rfl;have rt1:∀{M:MN},(∀ e∈M,e∈M1\/Rgt k.length e)->∀ U,U<u k->Rt k.length U M:=λ{M} hM U hU=>Rt.more (m:=M1) (λe he k2 o2 l2 ek hu2=>by
    rcases m1 e he with h | h
    .exact hRt e h.1 k2 o2 l2 ek (by omega)
    .rw[h]at ek;have:=zgq hO o2 l2.symm ek;subst this;omega) hM
   refine Qh ?_;refine Zm (Zu (zbx (i:=2) (s:=m') (p:=p) (fp:=fp) rfl (Wz (Zc (Z8 (Zc (Zb rfl) (Zc (Zb rfl) (Zc (Zb rfl) Zh))) (RMo.mk k q.1 q.2 hO h7 (by omega) q2)) (Zc (Zb rfl) Zh)) ⟨_,_,m',rfl,rfl,⟨wl k q.1 q.2,rfl,by rw[Yq],O1,by rw[Yq];exact h7,by omega,by rw[Yq];exact rt1 hm' _ u1,by omega⟩,λx m2 hx=>?_⟩)));obtain⟨rfl,hm2,hl2⟩:=hx (wl k q.1 q.2) O1 rfl (by rw[Yq]);rw[Yq]at hm2;have hm2' : ∀ e∈m2,e∈M1\/Rgt k.length e:=λe he=>(hm2 e he).elim (hm' e) .inr;show Sv K B0 _ [.dat (dPs (pairsOf k)),.dat (.int (k.length:Nat)),(dnT P w K).pv m2 p fp,.own (((opn k).take s).map λq=>.int (cost k q:Nat)),.dat (.int (q.1:Nat)),.dat (.int (q.2:Nat)),.dat (.int (L (wl k q.1 q.2):Nat))] _;refine VB (zcB (ZG Zq ⟨_,rfl,zeQ (QJ (ZG (Zb rfl) ⟨_,rfl,QJ (zbx (i:=2) (s:=m2) (p:=p) (fp:=fp) rfl (Wz (Zc (Z8 (Zc (Zb rfl) (Zc (Zb rfl) (Zc (Zb rfl) Zh))) (RMo.mk k q.2 q.1 hO h7 q2 (by omega))) (Zc (Zb rfl) Zh)) ⟨_,_,m2,rfl,rfl,⟨wl k q.2 q.1,rfl,by rw[Yq],O2,by rw[Yq];exact h7,by omega,by rw[Yq];exact rt1 hm2' _ u2,by omega⟩,λx m3 hx=>?_⟩))⟩))⟩)) rfl rfl;obtain⟨rfl,hm3,hl3⟩:=hx (wl k q.2 q.1) O2 rfl (by rw[Yq]);rw[Yq]at hm3;refine⟨_,rfl,Wz Zh ⟨_,_,rfl,_,.int (cost k q:Nat),rfl,(λG σ va vb ha hb=>zm8 (zhU (zbi ha) (zbi hb) (Zy _)) ?_),_,_,_,rfl,rfl,rfl,by rw[Ie,OE];omega,m3,.dat (.int (q.1:Nat)),.dat (.int (q.2:Nat)),.dat (.int (L (wl k q.1 q.2):Nat)),λe he=>(hm3 e he).elim (hm2' e) .inr,by rw[Dr];omega,?_⟩⟩
   .congr 1;show(1:Int)+(if(L (wl k q.2 q.1):Int)>(L (wl k q.1 q.2):Int)then(L (wl k q.2 q.1):Int)else(L (wl k q.1 q.2):Int))=((1+max (L (wl k q.1 q.2)) (L (wl k q.2 q.1)):Nat):Int)
    split <;> omega
   .rw[Nh hs,hq,Nk];rfl
  .rintro _ ⟨m',v4,v5,v6,hm',hl',rfl⟩;rw[Ov];have st:=step (opn k).length (Ih _);have mi:((opn k).map λq=>PyData.int (cost k q:Nat))=((opn k).map λq=>(cost k q:Int)).map PyData.int:=by rw[NQ];rfl
   refine zeW (i:=2) (p:=p) (fp:=fp) (Uo (zjx (M:=(L k:Nat)) (ns:=(opn k).map λq=>(cost k q:Int)) (YB (VD rfl rfl) (ND PyData.list mi)) Zq (λh0=>?_) λh0=>?_) rfl ⟨_,m',kq k,rfl,rfl,key rfl,by omega,W4 m' (kq k) (.int (L k:Nat)),_,_,_,_,λe he=>?_,?_,zhj,rfl⟩)
   .have:unp k=[]:=List.eq_nil_iff_forall_not_mem.mpr λq hq=>by have:=Jf.mpr hq;rw[map_eq_nil_iff.mp h0]at this;cases this
    rw[zhI this];rfl
   .have hne:unp k≠[]:=λz=>by
     have:opn k=[]:=List.eq_nil_iff_forall_not_mem.mpr λq hq=>by have:=Jf.mp hq;rw[z]at this;cases this
     rw[this]at h0;exact h0 rfl
    refine⟨?_,λa ha=>?_⟩
    .obtain⟨q,hq,e⟩:=znt hne;exact IB.mpr ⟨q,Jf.mpr hq,by rw[e]⟩
    .obtain⟨q,hq,rfl⟩:=IB.mp ha;have:=zlS (Jf.mp hq);omega
   .rcases zav he with⟨h1,h2⟩ | h1
    .rcases hm' e h1 with h3 | h3
     .rcases m1 e h3 with h4 | h4
      .exact .inl h4.1
      .exact absurd (by rw[h4]) h2
     .exact .inr h3
    .exact .inr ⟨k,hO,rfl,by rw[h1],by rw[h1]⟩
   .have:=zbC (m:=m') (k:=kq k) (d:=.int (L k:Nat));omega
 .have hb:Qd m (kq k)=true:=by simpa using hb
  obtain⟨d,hd⟩:=zfH hb;have:=hRt _ hd k hO rfl rfl (Ih _);dsimp only at this;subst this;exact⟨m,_,_,_,_,λe he=>.inl he,by omega,hd,rfl⟩
 .rintro _ ⟨m',v3,v4,v5,v6,hm',hl',hin,rfl⟩;exact Yn (zcw (zlI (i:=2) (p:=p) (fp:=fp) rfl (key rfl) hin) ⟨_,m',rfl,fin rfl hm' hl',rfl⟩)
def zmv(T:Top K mg):T.Yk.O P w base 3 (zgs (dnT P w K) (zdL 0) RLs):=zh6 T 0 (λ_ _ _ _=>False) (λm e=>by cases e) za3
theorem zlY(T:Top K mg):∀ N:Nat,T.Yk.O P w base (N+3) (zgs (dnT P w K) (zdL N) RLs)
 |0=>zmv T
 |N+1=>zh6 T (N+1) _ (λm e=>by injection e with e;subst e;rfl) (zlY T N)
end
noncomputable def Vs:Scope:=match (Z0 Y4).getD 0 (.Pass ⟨0,0,0,0⟩)with
 |.Return (some (.Call _ [.ListComp _ _ sc _] _ _)) _=>sc
 |_=>default
noncomputable def lgd(ps:List (Nat×Nat)):Bool:=!ps.any λq=>decide (q.1=q.2)
noncomputable def lwi(one:List (Nat×Nat))(some:List (List (Nat×Nat))):Bool:=some.any λmore=>more.all λq=>decide (q∈one)
inductive RGd:List PD->PD->Prop
 |mk (ps:List (Nat×Nat)) (_:ps.length<=1000):RGd [dPs ps] (.bool (lgd ps))
inductive RWi:List PD->PD->Prop
 |mk (one:List (Nat×Nat)) (some:List (List (Nat×Nat))) (_:some.length<=1000) (_:∀ m∈some,m.length<=1000):RWi [dPs one,.list (some.map dPs)] (.bool (lwi one some))
theorem zdm(c:α->Bool)(f:α->PD):∀ l:List α,PySem.Spec.same (.list (l.filterMap λa=>if c a then some (f a)else none)) (.list []) = !l.any c
 |[]=>rfl
 |a::r=>by
  rw[N1,DE];cases h:c a with
  |true=>rw[Iz rfl];rfl
  |false=>rw[Iq Ii,Bool.false_or];exact zdm c f r
theorem zhX(f:α->PD):∀ l:List α,PySem.Spec.same (.list (l.map f)) (.list [])=l.isEmpty
 |[]=>rfl
 |a::r=>rfl
def zeO(l:List (Nat×Nat)):Pl 2 (dPs l):=zc3 λd hd=>by obtain⟨q,_,rfl⟩:=IB.mp hd;exact QR q
def zhk{n:Nat}(h:k.length=n)(hn:n<=4):(pairsOf k).length<=16:=by rw[YT];refine IH (IT _ _) ?_;rw[J3,h];exact OQ hn hn
noncomputable def mK(ks:List Kn):MN:=ks.map λk' => (kq k',PyData.int (L k' : Nat))
def zem(ks:List Kn):(ks.map λk' => PyData.tuple [dPs (pairsOf k'),.int (L k' : Nat)])=(mK ks).map zah:=by unfold mK;rw[NQ];refine Oe λk' _=>?_;show _=PyData.tuple [zai (kq k'),_];rw[zbD]
theorem zbK:∀(l m:MN)(Φ:NK×PD->Prop),(∀ e∈m,Φ e)->(∀ e∈l,Φ e)->∀ e∈zaU m l,Φ e
 |[],m,Φ,h,_=>h
 |x::l,m,Φ,h,h2=>zbK l (W4 m x.1 x.2) Φ (λe he=>(zfr he).elim (h e) λz=>by rw[z];exact h2 x Ir) λe he=>h2 e (Im _ he)
theorem zbP:∀(l m:MN)(k:NK),(Qd m k=true\/k∈l.map (·.1))->Qd (zaU m l) k=true
 |[],m,k,h=>h.elim id λz=>by cases z
 |x::l,m,k,h=>zbP l (W4 m x.1 x.2) k (by
   rw[zfm];rcases h with h | h
   .exact .inl (by rw[h];rfl)
   .rcases IE.mp h with h | h
    .exact .inl (by rw[Iw h.symm,Bool.or_true])
    .exact .inr h)
def zfE{m:MN}{k:NK}{z:PD}(h:Qd m k=true)(ha:∀ e∈m,e.1=k->e.2=d):zcp m k z=d:=by
 unfold zcp;cases e:m.find? λx=>decide (x.1=k)with
 |none=>have:=find?_eq_none.mp e;unfold Qd at h;obtain⟨x,hx,hd⟩:=OG.mp h;exact absurd hd (this x hx)
 |some y=>exact ha y (List.mem_of_find?_eq_some e) (IC (List.find?_some (p:=λx:NK×PD=>decide (x.1=k)) e))
def zmz{n:Nat}{ks:List Kn}(hks:∀ k' ∈ ks,IsO k' /\ k'.length=n)(hk:k∈ks){z:PD}:zcp (zaU [] (mK ks)) (kq k) z = .int (L k:Nat):=by
 refine zfE (zbP _ _ _ (.inr ?_)) ?_
 .unfold mK;rw[NQ];exact IB.mpr ⟨k,hk,rfl⟩
 .refine zbK (mK ks) [] (λe=>e.1=kq k->e.2 = .int (L k:Nat)) (λe he=>nomatch he) (λe he=>?_);obtain⟨k',hk',rfl⟩:=IB.mp he;intro e;show PyData.int (L k' : Nat)=_;rw[zgq (hks k' hk').1 (hks k hk).1 (by rw[(hks k' hk').2,(hks k hk).2]) e]
inductive RPa:List PD->PD->Prop
 |mk (n:Nat) (ks:List Kn) (_:n<=4) (_:ks.length<=2*10^5) (_:∀ k' ∈ ks,IsO k' /\ k'.length=n) (_:∀ k' ∈ ks,∀ q∈unp k',wl k' q.1 q.2∈ks/\wl k' q.2 q.1∈ks):RPa [.tuple (ks.map λk' => .tuple [dPs (pairsOf k'),.int (L k' : Nat)]),.int (n:Nat)] (.bool true)
section
variable {B:Hp}{ρ:List PV}{ta tb:TE}{ds:List PD}
def zjN{n:Nat}(ha:Er K B ta ρ (.list ds))(hb:Er K B tb ρ (.int (n:Nat)))(hn:n<2^63)(hz:ds.length*n<=sizeLine):Er K B (tOp znu ta tb) ρ (.list (List.replicate n ds).flatten):=λG σ r=>zjn (ha G σ r) (hb G σ r) hn hz
def zlu(T:Top K mg):T.Qo.O P w base 1 (spP K RGd):=by
 refine T.Qo.F.okP zbN (by rintro _ _ ⟨⟩;rfl) λcdv A outer s H E hr ds d hR=>?_;cases hR with
 |mk ps hz=>
 have zl:(2000:Nat)<sizeLine:=by decide
 have hu:=hr.units;refine⟨_,(Zj (ZR (Jo (za8 (K:=K) rfl hu) (zaT (x:= "pair") (cap:=[]) (js:=[]) ⟨rfl,by decide +kernel,by decide +kernel,rfl,(by show ∀ p∈(_:List (Str×NameKind)),p.2=NameKind.free->List.lookup p.1 (Zg Jt).names=some NameKind.cell;decide +kernel),by decide +kernel,by decide +kernel,by decide +kernel⟩ rfl rfl (λ_ _ h=>h) (JK (pv 0)) (λ_ _ _ _=>⟨(Wr (Zw JP (Yp (ZW (K:=K) rfl) (pv 0) Zo (λ_ _=>rfl)) (Yp (ZW (K:=K) rfl) (pv 0) Zo (λ_ _=>rfl)) (ZQ _))),(pv 0)⟩)) (Yl Ze) (ZQ _)))) ,?_⟩;refine Yn (ZG (YB (VH (n:=2) (zbY (js:=[]) ps dP (λq=>if decide (q.1=q.2)then some (dP q)else none) (Ql (Zb rfl)) (by omega) λq hq=>lxB (Wy (Zx (Ju (Z3 (n:=0) (d:=.int (q.1:Nat)) (Zb rfl) Zq rfl rfl) (Z3 (n:=1) (d:=.int (q.2:Nat)) (Zb rfl) Zq rfl rfl))) (Nq.mpr (by omega))) λ_=>Zb rfl) (Xk Zh (by show 0<=sizeLine;decide)) (JM λd hd=>by
  rw[Qc]at hd;obtain⟨q,_,rfl⟩:=IB.mp hd;exact QR q) (JM λd hd=>by cases hd) (by decide)) ?_) rfl)
 rw[zdm];rfl
def zk0(T:Top K mg):T.Jb.O P w base 1 (spP K RWi):=by
 refine T.Jb.F.okP zae (by rintro _ _ ⟨⟩;rfl) λcdv A outer s H E hr ds d hR=>?_;cases hR with
 |mk one sm hz hm=>
 have zl:(2000:Nat)<sizeLine:=by decide
 have hu:=hr.units;refine⟨_,(Zj (ZR (ZF (zep (K:=K) rfl rfl) (by rfl) T.zn7 zoi (Za (zaT (x:= "more") (cap:=["one"]) (js:=[0]) ⟨rfl,by decide +kernel,by decide +kernel,rfl,(by show ∀ p∈(_:List (Str×NameKind)),p.2=NameKind.free->List.lookup p.1 (Zg Y4).names=some NameKind.cell;decide +kernel),by decide +kernel,by decide +kernel,by decide +kernel⟩ rfl rfl (λ_ _ h=>h) (Xr (pv 1)) (λ_ _ _ _=>⟨Vq,(ZF (zeS (K:=K) rfl rfl) (by rfl) T.zok zn8 (Za (zaT (x:= "pair") (cap:=["one"]) (js:=[1]) ⟨rfl,by decide +kernel,by decide +kernel,rfl,(by show ∀ p∈(_:List (Str×NameKind)),p.2=NameKind.free->List.lookup p.1 (zob Vs (Zg Y4))=some NameKind.cell;decide +kernel),by decide +kernel,by decide +kernel,by decide +kernel⟩ rfl rfl (λ_ _ h=>h) (zka (K:=K) rfl (pv 0)) (λ_ _ _ _=>⟨Vq,(Jo (zjk (K:=K) rfl hu) (pv 0) (pv 1) (by rfl))⟩)) Ze Xf))⟩)) Ze Xf)))) ,?_⟩;refine Yn (ZG (YB (zk4 (bs:=sm.map λmore=>more.all λq=>decide (q∈one)) (Zc (YB (zbY (js:=[0]) sm dPs (λmore=>.some (.bool (more.all λq=>decide (q∈one)))) (WF (Zb rfl)) (by omega) λmore hmm=>lx1 Ve (YB (zmk (bs:=more.map λq=>decide (q∈one)) (Zc (YB (zbY (js:=[1]) more dP (λq=>.some (.bool (decide (q∈one)))) (Ql (Zb rfl)) (by have:=hm more hmm;omega) λq _=>lx1 Ve (YB (Ue (Zb rfl) (Zb rfl) (QR q) λe he=>?_) ?_)) (by rw[Vo,NQ];rfl)) Zh)) (by rw[List.all_map];rfl))) (by rw[Vo,NQ];rfl)) Zh)) ?_) rfl)
 .obtain⟨a,_,rfl⟩:=IB.mp he;exact QR a
 .rw[Iq Ii,zbS one q]
 .unfold lwi;rw[any_map];rfl
def zm3(T:Top K mg)(Nd:zgE K=true):T.YX.O P w base 2 (spP K RPa):=by
 have G__law_closed:=@zl2 T;have G__law_good:=@zlu T;have G__law_within:=@zk0 T;have G__law_open:=@zfC T;have G__law_more:=@zfY T;refine T.YX.F.okP ZP (by rintro _ _ ⟨⟩;rfl) λcdv A outer s H E hr ds d hR=>?_;cases hR with
 |mk n ks hn hkl hks hcl=>
 have hu:=hr.units;have zl:(10^7:Nat)<sizeLine:=by decide
 refine⟨_,(Zf (Zv (i:=2) ZP.nd rfl (Or.inr rfl) (Z6 (zd9 (K:=K) rfl rfl rfl Nd rfl hu) (by rfl) T.zm0 znc (Za (pv 0) Ze Zd)))
   (Zf (Xa IR rfl (JK (pv 0)) (Jx (n:=2) rfl (ZK (Zz (i:=3) ZP.nd rfl (Or.inl rfl)) (ZK (Zz (i:=4) ZP.nd rfl (Or.inr rfl)) Xv)) (by rfl)) (Zf (XN ((pw_or (Zw zd2 (pv 4) Zo (ZQ _)) (pw_or (Zw (UJ (K:=K) rfl hu) (pv 3) (peN T.Yx G__law_closed hr (Za (pv 3) Ze Zd)) (ZQ _)) (pw_or1 (W6 (Xu (peN T.Qo G__law_good hr (Za (pv 3) Ze Zd)))))))).pt (Zj (ZR Jz)) Z7)
   (Zf (Zv (i:=5) ZP.nd rfl (Or.inl rfl) (peN T.Wh G__law_open hr (Za (pv 3) (Za (pv 1) Ze Zd) Zd)))
   (Zf (XN ((pw_and (Zw zg4 (pv 4) Zo (ZQ _)) (pw_and1 (Zw (za8 (K:=K) rfl hu) (pv 5) (Yl Ze) (ZQ _))))).pt (Zj (ZR Jz)) Z7)
   (Zj (Xa IR rfl (Xr (ZZ zkQ (pv 5) (Z6 Uh (by rfl) T.int_ znz (Za (Jo zg4 (pv 4) Zo (ZQ _)) Ze Vf)))) (Jx (n:=2) rfl (ZK (Zz (i:=6) ZP.nd rfl (Or.inl rfl)) (ZK (Zz (i:=7) ZP.nd rfl (Or.inl rfl)) Xv)) (by rfl)) (Zf (Zv (i:=8) ZP.nd rfl (Or.inr rfl) (Yl (Za (peN T.Xg G__law_more hr (Za (pv 3) (Za (pv 6) (Za (pv 7) Ze Zd) Zd) Zd)) (Za (peN T.Xg G__law_more hr (Za (pv 3) (Za (pv 7) (Za (pv 6) Ze Zd) Zd) Zd)) Ze Yg) Yg)))
   (Zj (XN (Zw zd2 (ZF (zcb (K:=K) rfl rfl) (by rfl) T.zmM zmE (Za (zaT (x:= "then") (cap:=["numbers"]) (js:=[2]) ⟨rfl,by decide +kernel,by decide +kernel,rfl,(by show ∀ p∈(_:List (Str×NameKind)),p.2=NameKind.free->List.lookup p.1 (Zg Ym).names=some NameKind.cell;decide +kernel),by decide +kernel,by decide +kernel,by decide +kernel⟩ rfl rfl (λ_ _ h=>h) (Xr (pv 8)) (λ_ _ _ _=>⟨Vq,(zkg (K:=K) rfl rfl rfl hu (pv 1) (pv 0) (znC zk8 Zo) ⟨rfl,rfl,rfl,rfl⟩)⟩)) Ze Xf)) (ZZ zez (pv 4) Zo) (ZQ _)) (Zj (XN (Zw (za8 (K:=K) rfl hu) (zaw (x:= "one") (x2:= "other") (cap:=["number", "some"]) (js:=[4,8]) ⟨rfl,by decide +kernel,by decide +kernel,rfl,rfl,(by show ∀ p∈(_:List (Str×NameKind)),p.2=NameKind.free->List.lookup p.1 (Zg Ym).names=some NameKind.cell;decide +kernel),by decide +kernel,by decide +kernel,by decide +kernel⟩ rfl rfl (λ_ _ h=>h) (JK (pv 0)) (λ_ _ _ _=>⟨(Wr (PW.pt (pw_and (Zw znh (pv 1) (ZZ zez (pv 2) Zo) (ZQ _)) (pw_and1 (Xu (peN T.Jb G__law_within hr (Za (pv 0) (Za (pv 3) Ze Zd) Zd))))))),Zo⟩)) (Yl Ze) (ZQ _)) (Zj (ZR Jz)) Z7)) Z7)))))))))
   (Zj (ZR Jz)))) ,?_⟩
 rw[zem];have ml:(mK ks).length=ks.length:=by unfold mK;rw[Ie]
 refine Zm (Zu (zhn (m:=mK ks) (Zb rfl) (by omega) λp=>?_));have get:∀{k:Kn}{z:PD},k∈ks->zcp (zaU [] (mK ks)) (kq k) z = .int (L k:Nat):=λhk=>zmz hks hk;generalize zaU [] (mK ks)=M at get;show Sv K B0 _ [.dat (.tuple ((mK ks).map zah)),.dat (.int (n:Nat)),(dnT P w K).pv M p [],.un,.un,.un,.un,.un,.un] _;refine Zm (Xh ks (λk' => PyData.tuple [dPs (pairsOf k'),.int (L k' : Nat)]) (by rw[zem];exact Ql (Zb rfl)) (λs ρ=>∃ v3 v4 v5 v6 v7 v8:PV,ρ=[.dat (.tuple ((mK ks).map zah)),.dat (.int (n:Nat)),(dnT P w K).pv M p [],v3,v4,v5,v6,v7,v8]) ⟨_,_,_,_,_,_,rfl⟩ ?_ ?_)
 .rintro s hs _ ⟨v3,v4,v5,v6,v7,v8,rfl⟩;obtain⟨k,hk⟩:∃ k,ks[s]=k:=⟨_,rfl⟩
  have mk:k∈ks:=by rw[← hk];exact Np _
  obtain⟨hO,hl⟩:=hks k mk;have p16:=zhk hl hn;rw[hk];refine Qh ?_;refine Zm (XS (Wy (e:=false) (QG (c:=false) (e:=false) (Wy (Zx (Wf (Zb rfl) Zq λ_=>Yr _)) (Ip (by omega))) λ_=>QG (c:=false) (e:=false) (Wy (Zx (VH (n:=2) (Zb rfl) (YB (Z8 (Zc (Zb rfl) Zh) (RLt.mk (pairsOf k) n (by omega) λq hq=>by have:=ZJ.mp hq;omega)) (by rw[← hl,X8 hO])) (zeO _) (zeO _) (by decide))) (by rw[same_self];rfl)) λ_=>Wy (WN (zbh (Z8 (Zc (Zb rfl) Zh) (RGd.mk (pairsOf k) (by omega))))) ?_) rfl) (ZV ?_))
  .have:lgd (pairsOf k)=true:=by unfold lgd;rw[not_eq_true',List.any_eq_false];intro q hq e;have e:=IC e;obtain⟨h1,h2,h3⟩:=ZJ.mp hq;rw[← e,hO.ir _ h1]at h3;cases h3
   rw[this];rfl
  have hop:∀ q∈opn k,q.1<n/\q.2<n:=λq hq=>by have:=Y7.mp (Jf.mp hq);omega
  have hol:(opn k).length<=16:=by have:=NJ (ziv k) (l₂:=zbo n) λq hq=>V3.mpr (hop q hq);rw[J3]at this;have:=OQ hn hn;omega
  refine Zm (Zu (ZG (d:=.list ((opn k).map dP)) (Z8 (Zc (Zb rfl) (Zc (YB (Zb rfl) (show PyData.int (n:Nat) = .int (k.length:Nat)by rw[hl])) Zh)) (ROp.mk _ (by omega))) ?_));show Sv K B0 _ [.dat (.tuple ((mK ks).map zah)),.dat (.int (n:Nat)),(dnT P w K).pv M p [],.dat (dPs (pairsOf k)),.dat (.int (L k:Nat)),.dat (.list ((opn k).map dP)),v6,v7,v8] _;refine Zm (XS (Wy (e:=false) (JR (c:=decide (0<L k)) (e:=decide (opn k=[])) (Wy (Zx (Wf (Zb rfl) Zq λ_=>Yr _)) (Nq.mpr (by omega))) λh=>by
   exact Wy (Zx (VH (n:=2) (Zb rfl) (Xk Zh (by show 0<=sizeLine;decide)) (JM λd hd=>by
    obtain⟨q,_,rfl⟩:=IB.mp hd;exact QR q) (JM λd hd=>by cases hd) (by decide))) (by rw[zhX];cases opn k <;> rfl)) ?_) (ZV ?_))
  .cases h:decide (opn k=[])with
   |false=>exact Dq _
   |true=>
    have:unp k=[]:=List.eq_nil_iff_forall_not_mem.mpr λq hq=>by have:=Jf.mpr hq;rw[IC h]at this;cases this
    rw[zhI this];rfl
  obtain⟨wy,hwy⟩:∃ wy,(if 0<L k then opn k else[])=wy:=⟨_,rfl⟩
  have wym:∀ q∈wy,q∈opn k:=λq hq=>by
   rw[← hwy]at hq;split at hq
   .exact hq
   .cases hq
  refine Xh wy dP (WF (YB (zjN (n:=if 0<L k then 1 else 0) (Zb rfl) (YB (zci (Zc (Wf (Zb rfl) Zq λ_=>Yr _) Zh)) ?_) (by split <;> decide) (by rw[Ie];split <;> omega)) ?_)) (λs ρ=>∃ v6 v7 v8:PV,ρ=[.dat (.tuple ((mK ks).map zah)),.dat (.int (n:Nat)),(dnT P w K).pv M p [],.dat (dPs (pairsOf k)),.dat (.int (L k:Nat)),.dat (.list ((opn k).map dP)),v6,v7,v8]) ⟨_,_,_,rfl⟩ ?_ ?_
  .by_cases h:0<L k
   .rw[Iw (show(L k:Int)>0 by omega),Iz h];rfl
   .rw[Ip (show ¬ (L k:Int)>0 by omega),Iq h];rfl
  .rw[← hwy];by_cases h:0<L k
   .rw[Iz h,Iz h];simp
   .rw[Iq h,Iq h];rfl
  .rintro i hi _ ⟨v6,v7,v8,rfl⟩;have mq:=wym _ (Np hi);generalize hq:wy[i]=q at mq;obtain⟨q1,q2⟩:=hop q mq;have mu:=Jf.mp mq;obtain⟨m1,m2⟩:=hcl k mk q mu;have hmin:=zlS mu;unfold cost at hmin;refine Qh ?_;refine Zm (Zu (ZG (d:=.list ([wl k q.1 q.2,wl k q.2 q.1].map λk=>dPs (pairsOf k))) (Xk (Zc (Z8 (Zc (Zb rfl) (Zc (Zb rfl) (Zc (Zb rfl) Zh))) (RMo.mk k q.1 q.2 hO (by omega) (by omega) (by omega))) (Zc (Z8 (Zc (Zb rfl) (Zc (Zb rfl) (Zc (Zb rfl) Zh))) (RMo.mk k q.2 q.1 hO (by omega) (by omega) (by omega))) Zh)) (by show 2<=sizeLine;decide)) ?_));show Sv K B0 _ [.dat (.tuple ((mK ks).map zah)),.dat (.int (n:Nat)),(dnT P w K).pv M p [],.dat (dPs (pairsOf k)),.dat (.int (L k:Nat)),.dat (.list ((opn k).map dP)),.dat (.int (q.1:Nat)),.dat (.int (q.2:Nat)),.dat (.list ([wl k q.1 q.2,wl k q.2 q.1].map λk=>dPs (pairsOf k)))] _;refine XS (Wy (Zx (Wf (zeK (ns:=[(L (wl k q.1 q.2):Int),(L (wl k q.2 q.1):Int)]) (M:=((max (L (wl k q.1 q.2)) (L (wl k q.2 q.1)):Nat):Int)) (Zc (YB (zbY (js:=[2]) [wl k q.1 q.2,wl k q.2 q.1] (λk=>dPs (pairsOf k)) (λk=>some (.int (L k:Nat))) (WF (Zb rfl)) (by show 2<sizeLine;decide) λk2 hk2=>lx1 Ve (YB (zkq (i:=1) (k:=kq k2) rfl (YB (Zb rfl) (zbD k2).symm) (zmB Zq)) (get ?_))) rfl) Zh) ?_ ?_) (Wf (Zb rfl) Zq λ_=>Zy _) λ_=>Yr _)) (Ip ?_)) (ZV ⟨_,_,_,rfl⟩)
   .simp only[IE,O9,or_false]at hk2;rcases hk2 with rfl | rfl
    .exact m1
    .exact m2
   .simp only[IE,O9,or_false];omega
   .intro a ha;simp only[IE,O9,or_false]at ha;omega
   .omega
  .rintro _ ⟨v6,v7,v8,rfl⟩;exact⟨_,_,_,_,_,_,rfl⟩
 .rintro _ ⟨v3,v4,v5,v6,v7,v8,rfl⟩;exact Yn (ZG zer rfl)
end
theorem zim:∀ l:List (Nat×Nat),(l.flatMap λq=>[(q.1:Int),(q.2:Int)]).length=2*l.length
 |[]=>rfl
 |a::r=>by have ih:=zim r;rw[flatMap_cons,Il,ih,IL];show 2+2*r.length=2*(r.length+1);omega
inductive RKi:List PD->PD->Prop
 |mk (N n:Nat) (es:List PD) (ks:List Kn) (_:n<=4) (_:es.length<=200) (_:∀ i,i<es.length->Shp es i) (_:ks.length<=2*10^5) (_:∀ k' ∈ ks,k'.length=n):RKi [.tuple [.int (N:Nat),.tuple es,.tuple (ks.map λk' => .tuple [dPs (pairsOf k'),.int (L k' : Nat)])]] (.bool true)
section
def znr(T:Top K mg):T.Ww.O P w base 1 (spP K RKi):=by
 refine T.Ww.F.okP Yz (by rintro _ _ ⟨⟩;rfl) λcdv A outer s H E hr ds d hR=>?_;cases hR with
 |mk N n es ks hn hl hS hkl hks=>
 have hu:=hr.units;have zl:(10^7:Nat)<sizeLine:=by decide
 generalize hD:(PyData.tuple [.int (N:Nat),.tuple es,.tuple (ks.map λk' => PyData.tuple [dPs (pairsOf k'),.int (L k' : Nat)])])=D0;have i2:∀{ρ:List PV},ρ[0]?=some (.dat D0)->Er K B0 (tOp (zkz K) (JB 0) (tC (.int 2))) ρ (.tuple (ks.map λk' => .tuple [dPs (pairsOf k'),.int (L k' : Nat)])):=λh=>Z3 (n:=2) (YB (Zb h) hD.symm) Zq rfl rfl;have i1:∀{ρ:List PV},ρ[0]?=some (.dat D0)->Er K B0 (tOp (zkz K) (JB 0) (tC (.int 1))) ρ (.tuple es):=λh=>Z3 (n:=1) (YB (Zb h) hD.symm) Zq rfl rfl;have tD:tyN D0 = "tuple" := by rw[← hD];rfl
 have pl:∀ k' ∈ ks,(pairsOf k').length<=16:=λk' h=>by rw[YT];refine IH (IT _ _) ?_;rw[J3,hks k' h];exact OQ hn hn
 refine⟨_,(Zf (XN ((pw_or (W6 (Xu (ZF (X5 (K:=K) rfl) (by rfl) T.Yv zhE (Za (pv 0) (Za (W8 (v:=.ty "tuple") (by rfl) T.We zcv rfl) Ze))))) (pw_or (Zw zeD (ZF (Yj (K:=K) rfl) (by rfl) T.zcS NM (Za (pv 0) Ze Zd)) Zo (ZQ _)) (pw_or1 (W6 (Xu (ZF (X5 (K:=K) rfl) (by rfl) T.Yv zhE (Za (Yp (ZW (K:=K) rfl) (pv 0) Zo (λ_ _=>rfl)) (Za (W8 (v:=.ty "tuple") (by rfl) T.We zcv rfl) Ze))))))))).pt (Zj (ZR Jz)) Z7)
   (Zf (Zv (i:=1) Yz.nd rfl (Or.inl rfl) (Yl Ze))
   (Zf (Xa IR rfl (JK (Yp (ZW (K:=K) rfl) (pv 0) Zo (λ_ _=>rfl))) (Zz (i:=2) Yz.nd rfl (Or.inl rfl)) (Zf (XN ((pw_or (W6 (Xu (ZF (X5 (K:=K) rfl) (by rfl) T.Yv zhE (Za (pv 2) (Za (W8 (v:=.ty "tuple") (by rfl) T.We zcv rfl) Ze))))) (pw_or (Zw zeD (ZF (Yj (K:=K) rfl) (by rfl) T.zcS NM (Za (pv 2) Ze Zd)) Zo (ZQ _)) (pw_or1 (W6 (Xu (ZF (X5 (K:=K) rfl) (by rfl) T.Yv zhE (Za (Yp (ZW (K:=K) rfl) (pv 2) Zo (λ_ _=>rfl)) (Za (W8 (v:=.ty "tuple") (by rfl) T.We zcv rfl) Ze))))))))).pt (Zj (ZR Jz)) Z7)
   (Zj (Zv (i:=1) Yz.nd rfl (Or.inl rfl) (ZZ Jw (ZZ Jw (pv 1) (Yl (Za (Yp (ZW (K:=K) rfl) (pv 2) Zo (λ_ _=>rfl)) Ze ZL))) (Z6 (J8 (K:=K) rfl) (by rfl) T.ze2 QC (Za (ZF (zeX (K:=K) rfl rfl) (by rfl) T.znJ znM (Za (Yp (ZW (K:=K) rfl) (pv 2) Zo (λ_ _=>rfl)) (Za (YD Ze) Ze Jp) ZL)) Ze Yg)))))))
   (Zf (Xa IR rfl (JK (Yp (ZW (K:=K) rfl) (pv 0) Zo (λ_ _=>rfl))) (Zz (i:=3) Yz.nd rfl (Or.inl rfl)) (Zf (XN ((pw_and (Zw JP (Yp (ZW (K:=K) rfl) (pv 3) Zo (λ_ _=>rfl)) Vx (ZQ _)) (pw_and1 (W6 (Xu (ZF (X5 (K:=K) rfl) (by rfl) T.Yv zhE (Za (Yp (ZW (K:=K) rfl) (pv 3) Zo (λ_ _=>rfl)) (Za (W8 (v:=.ty "tuple") (by rfl) T.We zcv rfl) Ze)))))))).pt (Zj (ZR Jz)) Z7)
   (Zj (XN (Zw JP (Yp (ZW (K:=K) rfl) (pv 3) Zo (λ_ _=>rfl)) Vx (ZQ _)) (Zj (Zv (i:=1) Yz.nd rfl (Or.inl rfl) (ZZ Jw (pv 1) (Z6 (J8 (K:=K) rfl) (by rfl) T.ze2 QC (Za (Yp (ZW (K:=K) rfl) (pv 3) Zo (λ_ _=>rfl)) Ze ZL))))) (Zj (Zv (i:=1) Yz.nd rfl (Or.inl rfl) (ZZ Jw (pv 1) (Z6 (J8 (K:=K) rfl) (by rfl) T.ze2 QC (Za (zdn (zjc (K:=K) rfl) (pv 3) (zfu Zo) zeH) Ze ZL)))))))))
   (Zj (ZR (Jo JP (ZF (Yj (K:=K) rfl) (by rfl) T.zcS NM (Za (zaT (x:= "number") (cap:=[]) (js:=[]) ⟨rfl,by decide +kernel,by decide +kernel,rfl,(by show ∀ p∈(_:List (Str×NameKind)),p.2=NameKind.free->List.lookup p.1 (Zg Wu).names=some NameKind.cell;decide +kernel),by decide +kernel,by decide +kernel,by decide +kernel⟩ rfl rfl (λ_ _ h=>h) (Xr (pv 1)) (λ_ _ _ _=>⟨(Wr (Xu (ZF (X5 (K:=K) rfl) (by rfl) T.Yv zhE (Za (pv 0) (Za (W8 (v:=.ty "bool") (by rfl) T.bool_ zkM rfl) Ze))))),(pv 0)⟩)) Ze Xf)) Zo (ZQ _)))))))) ,?_⟩
 refine Zm (XS (Wy (e:=false) (QG (c:=false) (e:=false) (Wy (WN (zbh (Qk (Zb rfl) (by rw[tD];exact T.tt)))) rfl) λ_=>Wy (QG (Zx (zhR (JN (Zc (YB (Zb rfl) hD.symm) Zh)) Zq)) λ_=>WN (zbh (Qk (i2 rfl) T.tt))) rfl) rfl) (ZV ?_));refine Zm (Zu (ZG (d:=.list (([]:List Int).map .int)) (Xk Zh (by show 0<=sizeLine;decide)) ?_));refine Zm (Xh ks (λk' => PyData.tuple [dPs (pairsOf k'),.int (L k' : Nat)]) (Ql (i2 rfl)) (λs ρ=>∃(ns:List Int)(v2 v3:PV),ns.length<=33*s/\ρ=[.dat D0,.dat (.list (ns.map .int)),v2,v3]) ⟨[],_,_,Ih _,rfl⟩ ?_ ?_)
 .rintro s hs _ ⟨ns,v2,v3,hns,rfl⟩;obtain⟨k',hk'⟩:∃ k',ks[s]=k':=⟨_,rfl⟩
  have mk' : k' ∈ ks:=by rw[← hk'];exact Np _
  have pk:=pl k' mk';rw[hk'];refine Xy ?_;refine Zm (XS (Wy (e:=false) (QG (c:=false) (e:=false) (Wy (WN (zbh (Qk (Zb rfl) T.tt))) rfl) λ_=>Wy (QG (Zx (zhR (JN (Zc (Zb rfl) Zh)) Zq)) λ_=>WN (zbh (Qk (Z3 (n:=0) (Zb rfl) Zq rfl rfl) T.tt))) rfl) rfl) (ZV ?_));have fl:(((pairsOf k').map λq=>[PyData.int (q.1:Nat),.int (q.2:Nat)]).flatten)=((pairsOf k').flatMap λq=>[(q.1:Int),(q.2:Int)]).map PyData.int:=by
   induction pairsOf k' with
   |nil=>rfl
   |cons a r ih=>rw[Nt,Dc,ih];rfl
  have fll:=zim (pairsOf k');refine Zu (ZG (d:=.list ((ns++(L k' : Int)::(pairsOf k').flatMap λq=>[(q.1:Int),(q.2:Int)]).map .int)) (YB (XR (XR (Zb rfl) (Xk (Zc (Z3 (n:=1) (Zb rfl) Zq rfl rfl) Zh) (by show 1<=sizeLine;decide)) ?_) (V2 (Zc (zjY (dss:=(pairsOf k').map λq=>[PyData.int (q.1:Nat),.int (q.2:Nat)]) (Z3 (n:=0) (d:=.tuple (((pairsOf k').map λq=>[PyData.int (q.1:Nat),.int (q.2:Nat)]).map .tuple)) (Zb rfl) Zq rfl ?_) (YL Zh (by show 0<=sizeLine;decide)) ?_) Zh)) ?_) ?_) ⟨_,_,_,?_,rfl⟩)
  .rw[Ie];show ns.length+1<=sizeLine;have:=Nat.mul_le_mul_left 33 (show s<=2*10^5 by omega);omega
  .rw[NQ];rfl
  .rw[fl,Ie,fll];omega
  .rw[fl];simp only[Il,Ie,fll,IL,List.length_nil];have:=Nat.mul_le_mul_left 33 (show s<=2*10^5 by omega);omega
  .rw[fl,Nk,Nt,OD];rfl
  .rw[Il,IL,fll];omega
 .rintro _ ⟨ns,v2,v3,hns,rfl⟩;refine Zm (Xh es (λd=>d) (by rw[List.map_id'];exact Ql (i1 rfl)) (λs ρ=>∃(ns:List Int)(v2 v3:PV),ns.length<=33*ks.length+10*s/\ρ=[.dat D0,.dat (.list (ns.map .int)),v2,v3]) ⟨ns,v2,v3,by omega,rfl⟩ ?_ ?_)
  .rintro s hs _ ⟨ns,v2,v3,hns,rfl⟩;have eg:=Ib hs;rcases hS s hs with⟨l,hl10,e⟩ | ⟨a,b,c,d,h1,h2,e⟩
   .have e2:=IA (eg.symm.trans e);rw[e2];refine Xy (Zm (XS (Wy (JR (Zx (Vy (Z3 (n:=0) (Zb rfl) Zq rfl rfl) Wv)) λ_=>WN (zbh (Qk (Z3 (n:=1) (Zb rfl) Zq rfl rfl) T.tt))) (Dq _)) (ZV ?_)));refine zmn (Wy (Zx (Vy (Z3 (n:=0) (Zb rfl) Zq rfl rfl) Wv)) (Iw rfl)) ?_;refine Zu (ZG (d:=.list ((ns++l.map λ(i:Nat)=>(i:Int)).map .int)) (YB (XR (Zb rfl) (V2 (Zc (Z3 (n:=1) (Zb rfl) Zq rfl rfl) Zh)) ?_) ?_) ⟨_,_,_,?_,rfl⟩)
    .rw[Ie,Ie];omega
    .rw[Nk,NQ];rfl
    .rw[Il,Ie];omega
   .have e2:=IA (eg.symm.trans e);rw[e2];refine Xy (Zm (XS (JR (c:=false) (e:=false) (Wy (Zx (Vy (Z3 (n:=0) (Zb rfl) Zq rfl rfl) Wv)) (Ip (by decide))) λh=>by cases h) (ZV ?_)));refine XS (Wy (Zx (Vy (Z3 (n:=0) (Zb rfl) Zq rfl rfl) Wv)) (Ip (by decide))) ?_;refine Zu (ZG (d:=.list ((ns++[(a:Int),(b:Int),(c:Int),(d:Int)]).map .int)) (YB (XR (Zb rfl) (V2 (Zc (zmp (Zb rfl) zis zfM) Zh)) ?_) ?_) ⟨_,_,_,?_,rfl⟩)
    .rw[Ie];show ns.length+4<=sizeLine;omega
    .rw[Nk];rfl
    .rw[Il];show ns.length+4<=_;omega
  .rintro _ ⟨ns,v2,v3,hns,rfl⟩;refine Yn (ZG (YB (Ju (Q9 (Zc (zbY (js:=[]) ns (λ(i:Int)=>PyData.int i) (λ_=>none) (WF (Zb rfl)) (by omega) λi hi=>lx0 (zbh (Qk (Zb rfl) T.ib))) Zh)) Zq) ?_) rfl);congr 1;have:ns.filterMap (λ_=>(none:Option PD))=[]:=by simp
   rw[this];rfl
end
inductive RSh:List PD->PD->Prop
 |mk (es:List PD) (n:Nat) (_:es.length<=200) (_:∀ i,i<es.length->Shp es i):RSh [.tuple es,.int (n:Nat)] (.bool true)
section
def zmZ(T:Top K mg):T.WL.O P w base 1 (spP K RSh):=by
 refine T.WL.F.okP Jm (by rintro _ _ ⟨⟩;rfl) λcdv A outer s H E hr ds d hR=>?_;cases hR with
 |mk es n hl hS=>
 have hu:=hr.units;have zl:(2000:Nat)<sizeLine:=by decide
 refine⟨_,(Zf (XN (W6 (Xu (ZF (X5 (K:=K) rfl) (by rfl) T.Yv zhE (Za (pv 0) (Za (W8 (v:=.ty "tuple") (by rfl) T.We zcv rfl) Ze))))) (Zj (ZR Jz)) Z7)
   (Zf (Xa IR rfl (zaL (by rfl) T.Vc (Za (pv 0) Ze Zd)) (Jx (n:=2) rfl (ZK (Zz (i:=2) Jm.nd rfl (Or.inl rfl)) (ZK (Zz (i:=3) Jm.nd rfl (Or.inl rfl)) Xv)) (by rfl)) (Zf (XN ((pw_or (W6 (Xu (ZF (X5 (K:=K) rfl) (by rfl) T.Yv zhE (Za (pv 3) (Za (W8 (v:=.ty "tuple") (by rfl) T.We zcv rfl) Ze))))) (pw_or1 (Zw (U8 (K:=K) rfl hu) (Yp (ZW (K:=K) rfl) (pv 3) Zo (λ_ _=>rfl)) (Yl (Za Vx (Za Vx Ze Yb) Yb)) (by rfl))))).pt (Zj (ZR Jz)) Z7)
   (Zj (XN ((pw_and (Zw JP (Yp (ZW (K:=K) rfl) (pv 3) Zo (λ_ _=>rfl)) Vx (ZQ _)) (pw_and1 ((pw_or (Zw zeD (ZF (Yj (K:=K) rfl) (by rfl) T.zcS NM (Za (pv 3) Ze Zd)) Zo (ZQ _)) (pw_or (Zw zkY (Yp (ZW (K:=K) rfl) (pv 3) Zo (λ_ _=>rfl)) (pv 2) (ZQ _)) (pw_or1 (Zw zkY (Yp (ZW (K:=K) rfl) (pv 3) Zo (λ_ _=>rfl)) (pv 2) (ZQ _)))))).pt))).pt (Zj (ZR Jz)) Z7))))
   (Zj (ZR Jz)))) ,?_⟩
 refine Zm (XS (Wy (WN (zbh (Qk (Zb rfl) T.tt))) rfl) (ZV ?_));refine Zm (Xh (List.range es.length) (λ(t:Nat)=>PyData.tuple [.int (t:Nat),(es[t]?).getD .none]) (zfv (Zc (Zb rfl) Zh)) (λi ρ=>∃ v2 v3:PV,ρ=[.dat (.tuple es),.dat (.int (n:Nat)),v2,v3]) ⟨_,_,rfl⟩ ?_ ?_)
 .rintro i hi _ ⟨v2,v3,rfl⟩;rw[rix];rw[Iy]at hi;have strP:∀{x:Str},x=Str.ofString "told" \/ x=Str.ofString "look" -> Pl 60 (.str x):=λh=>by
   rcases h with rfl | rfl
   .exact zh1 (by decide +kernel)
   .exact zh1 (by decide +kernel)
  have lst:∀ e∈[PyData.str (Str.ofString "look"),.str (Str.ofString "told")],Pl 60 e:=λe he=>by
   simp only[IE,O9,or_false]at he;rcases he with rfl | rfl
   .exact strP (.inr rfl)
   .exact strP (.inl rfl)
  rcases hS i hi with⟨l,_,e⟩ | ⟨a,b,c,d,h1,h2,e⟩
  .rw[e];refine Qh ?_;refine Zm (XS (Wy (QG (WN (zbh (Qk (Zb rfl) T.tt))) λ_=>Zx (za1 (neg:=true) (Z3 (n:=0) (d:=.str (Str.ofString "told")) (Zb rfl) Zq rfl rfl) (Xk (Zc Wv (Zc Wv Zh)) (by show 2<=sizeLine;decide)) (strP (.inl rfl)) lst)) (by decide +kernel)) (ZV ?_));exact XS (JR (c:=false) (e:=false) (Wy (Zx (Vy (Z3 (n:=0) (Zb rfl) Zq rfl rfl) Wv)) (Ip (by decide))) λh=>by cases h) (ZV ⟨_,_,rfl⟩)
  .rw[e];refine Qh ?_;refine Zm (XS (Wy (QG (WN (zbh (Qk (Zb rfl) T.tt))) λ_=>Zx (za1 (neg:=true) (Z3 (n:=0) (d:=.str (Str.ofString "look")) (Zb rfl) Zq rfl rfl) (Xk (Zc Wv (Zc Wv Zh)) (by show 2<=sizeLine;decide)) (strP (.inr rfl)) lst)) (by decide +kernel)) (ZV ?_));refine XS (Wy (e:=false) (JR (c:=true) (e:=false) (Wy (Zx (Vy (Z3 (n:=0) (Zb rfl) Zq rfl rfl) Wv)) (Iw rfl)) λ_=>Wy (QG (Zx (zhR (JN (Zc (Zb rfl) Zh)) Zq)) λ_=>QG (Zx (Wf (Z3 (n:=3) (Zb rfl) Zq rfl rfl) (Zb rfl) λ_=>Yr _)) λ_=>Zx (Wf (Z3 (n:=4) (Zb rfl) Zq rfl rfl) (Zb rfl) λ_=>Yr _)) ?_) rfl) (ZV ⟨_,_,rfl⟩);have x1:decide ((c:Int)<=(i:Int))=false:=Ip (by omega);have x2:decide ((d:Int)<=(i:Int))=false:=Ip (by omega);show(false||(decide ((c:Int)<=(i:Int))||decide ((d:Int)<=(i:Int))))=false;rw[x1,x2];rfl
 .rintro _ ⟨v2,v3,rfl⟩;exact Yn (ZG zer rfl)
end
abbrev dR(l:List Nat):PD:=.tuple (l.map λ(i:Nat)=>.int (i:Nat))
inductive RRl:List PD->PD->Prop
 |mk (k:Kn) (_:k.length<=8):RRl [dPs (pairsOf k),.int (k.length:Nat)] (.list ((Yw k k.length).map dR))
def same_int(a b:Nat):PySem.Spec.same (.int (a:Nat)) (.int (b:Nat))=decide (b=a):=by
 by_cases h:b=a
 .subst h;rw[Iw rfl];exact same_self _
 .rw[Ip h];exact zga λe=>h (by injection e with e;omega)
def zj6(l:List Nat)(p:Nat):((l.map λ(i:Nat)=>PyData.int (i:Nat)).any λe=>PySem.Spec.same e (.int (p:Nat)))=decide (p∈l):=by
 rw[any_map]
 induction l with
 |nil=>rfl
 |cons a r ih=>
  rw[DE,ih];show(PySem.Spec.same (.int (a:Nat)) (.int (p:Nat))||_)=_;rw[same_int];by_cases h:p=a
  .subst h;simp
  .simp[h]
section
def znH(T:Top K mg):T.Xd.O P w base 1 (spP K RRl):=by
 refine T.Xd.F.okP ZS (by rintro _ _ ⟨⟩;rfl) λcdv A outer s H E hr ds d hR=>?_;cases hR with
 |mk k h8=>
 have hu:=hr.units;have zl:(2000:Nat)<sizeLine:=by decide
 have z24:(8^8:Nat)=sizeLine:=by decide
 have pln:(pairsOf k).length<=64:=by rw[YT];refine IH (IT _ _) ?_;rw[J3];exact OQ h8 h8
 have notin:∀{ρ:List PV}{ta tb:TE}{x:Nat}{l:List Nat},Er K B0 ta ρ (.int (x:Nat))->Er K B0 tb ρ (dR l)->Er K B0 (tOp (zgo K true) ta tb) ρ (.bool (!decide (x∈l))):=λ{ρ ta tb x l} h1 h2=>YB (Ue h1 h2 (VF _) λe he=>by obtain⟨_,_,rfl⟩:=IB.mp he;exact VF _) (by rw[Iz rfl,zj6]);refine⟨_,(Zf (Zv (i:=2) ZS.nd rfl (Or.inl rfl) (Yl (Za (YD Ze) Ze Jp)))
   (Zf (Xa IR rfl (XJ (by rfl) T.JG (Za (pv 1) Ze Zd)) (Zz (i:=3) ZS.nd rfl (Or.inl rfl)) (Zf (Zv (i:=4) ZS.nd rfl (Or.inl rfl) (Yl Ze))
   (Zf (Xa IR rfl (Xr (pv 2)) (Zz (i:=5) ZS.nd rfl (Or.inr rfl)) (Zj (Xa IR rfl (XJ (by rfl) T.JG (Za (pv 1) Ze Zd)) (Zz (i:=6) ZS.nd rfl (Or.inr rfl)) (Zf (zlc (x:= "i") (x2:= "j") (cap:=["place", "row"]) (js:=[6,5]) (i:=7) (y:= "lacking") ⟨rfl,by decide +kernel,by decide +kernel,rfl,rfl,(by show ∀ p∈(_:List (Str×NameKind)),p.2=NameKind.free->List.lookup p.1 (Zg Xb).names=some NameKind.cell;decide +kernel),by decide +kernel,by decide +kernel,by decide +kernel⟩ rfl rfl (λ_ _ h=>h) ZS.nd rfl rfl (JK (pv 0)) (λ_ _ _ _=>⟨(Wr (PW.pt (pw_and (Zw JP (pv 1) (pv 2) (ZQ _)) (pw_and1 (Zw (Qa (K:=K) rfl hu) (pv 0) (pv 3) (by rfl)))))),(pv 0)⟩))
   (Zj (XN ((pw_and (Zw (Qa (K:=K) rfl hu) (pv 6) (pv 5) (by rfl)) (pw_and1 (Zw (za8 (K:=K) rfl hu) (pv 7) (Yl Ze) (ZQ _))))).pt (Zj (WQ (zam N5 NB NC XH (pv 4) (Za (ZZ (zhm (K:=K) rfl) (pv 5) (YD (Za (pv 6) Ze Zd))) Ze Ja)))) Z7))))))
   (Zj (Zv (i:=2) ZS.nd rfl (Or.inl rfl) (pv 4))))))
   (Zj (ZR (pv 2))))) ,?_⟩
 refine Zm (Zu (ZG (Xk (Zc (YL Zh (by show 0<=sizeLine;decide)) Zh) (by show 1<=sizeLine;decide)) ?_));refine Zm (Xh (List.range k.length) (λ(t:Nat)=>PyData.int (t:Nat)) (Qx (Zc (Zb rfl) Zh) (by omega)) (λt ρ=>∃ v3 v4 v5 v6 v7:PV,ρ=[.dat (dPs (pairsOf k)),.dat (.int (k.length:Nat)),.dat (.list ((Yw k t).map dR)),v3,v4,v5,v6,v7]) ⟨_,_,_,_,_,rfl⟩ ?_ ?_)
 .rintro t ht _ ⟨v3,v4,v5,v6,v7,rfl⟩;rw[Iy]at ht;rw[rix];refine Xy (Zm (Zu (QV Zh (by show 0<=sizeLine;decide) ?_)));have rl:=zaO k t;have rl2:(Yw k t).length*k.length<=8^8:=by refine IH (OQ rl (Ih _)) ?_;rw[← pow_succ];exact IH (Nat.pow_le_pow_left h8 _) (OL (by decide) (by omega))
  have fl:∀ l:List (List Nat),(l.flatMap (XM k)).length<=l.length*k.length:=λl=>by
   induction l with
   |nil=>simp
   |cons a r ih=>
    rw[flatMap_cons,Il,IL,Dr];have:(XM k a).length<=k.length:=by unfold XM;rw[Ie];exact IH (IT _ _) (O5 Iy)
    omega
  show Sv K B0 _ [.dat (dPs (pairsOf k)),.dat (.int (k.length:Nat)),.dat (.list ((Yw k t).map dR)),.dat (.int (t:Nat)),.own [],v5,v6,v7] _;refine Zm (Xh (Yw k t) dR (WF (Zb rfl)) (λr ρ=>∃ v5 v6 v7:PV,ρ=[.dat (dPs (pairsOf k)),.dat (.int (k.length:Nat)),.dat (.list ((Yw k t).map dR)),.dat (.int (t:Nat)),.own ((((Yw k t).take r).flatMap (XM k)).map dR),v5,v6,v7]) ⟨_,_,_,rfl⟩ ?_ ?_)
  .rintro r hr2 _ ⟨v5,v6,v7,rfl⟩;have fr:=fl ((Yw k t).take r);rw[OE,Nat.min_eq_left (by omega)]at fr;have rn:(r+1)*k.length<=(Yw k t).length*k.length:=NY _ hr2;rw[Dr]at rn;generalize hA:((Yw k t).take r).flatMap (XM k)=A0 at fr;obtain⟨row,hrow⟩:∃ row,(Yw k t)[r]=row:=⟨_,rfl⟩
   rw[hrow];refine Xy ?_;refine Xh (List.range k.length) (λ(t:Nat)=>PyData.int (t:Nat)) (Qx (Zc (Zb rfl) Zh) (by omega)) (λp ρ=>∃ v6 v7:PV,ρ=[.dat (dPs (pairsOf k)),.dat (.int (k.length:Nat)),.dat (.list ((Yw k t).map dR)),.dat (.int (t:Nat)),.own ((A0++((List.range p).filter (may k row)).map λp=>row++[p]).map dR),.dat (dR row),v6,v7]) ⟨v6,v7,by rw[List.range_zero];show _=[_,_,_,_,PV.own ((A0++[]).map dR),_,_,_];rw[Nx];rfl⟩ ?_ ?_
   .rintro p hp _ ⟨v6,v7,rfl⟩;rw[Iy]at hp;rw[rix];have hrl:row.length<=8:=by have:=(WK.mp (show row∈Yw k t by rw[← hrow];exact Np _)).1;omega
    have fp:(((List.range p).filter (may k row)).map λp=>row++[p]).length<=p:=by rw[Ie];exact IH (IT _ _) (O5 Iy)
    refine Xy ?_;refine Zm (Zu (ZG (YB (zaA (js:=[6,5]) (pairsOf k) (λq=>.int (q.1:Nat)) (λq=>.int (q.2:Nat)) (λq=>if decide (q.2=p) && !decide (q.1∈row)then some (.int (q.1:Nat))else none) (Ql (Zb rfl)) (by omega) λq hq=>lxB (JR (Wy (Zx (Ju (Zb rfl) (Zb rfl))) (Nq.mpr ⟨λe=>by omega,λe=>by omega⟩)) λ_=>Zx (notin (Zb rfl) (Zb rfl))) λ_=>Zb rfl) (show _=PyData.list ((((pairsOf k).filter λq=>decide (q.2=p) && !decide (q.1∈row)).map Prod.fst).map λ(i:Nat)=>.int (i:Nat))by rw[Qc,NQ];rfl)) ?_));generalize hL:((pairsOf k).filter λq=>decide (q.2=p) && !decide (q.1∈row)).map Prod.fst=L;have hm:may k row p=(!decide (p∈row)&&decide (L=[])):=by unfold may;rw[hL]
    have nx:((List.range (p+1)).filter (may k row)).map (λp=>row++[p])=((List.range p).filter (may k row)).map (λp=>row++[p])++if may k row p then[row++[p]]else[]:=by rw[OP,List.filter_append,Nk,filter_cons];split <;> simp
    show Sv K B0 _ [.dat (dPs (pairsOf k)),.dat (.int (k.length:Nat)),.dat (.list ((Yw k t).map dR)),.dat (.int (t:Nat)),.own ((A0++((List.range p).filter (may k row)).map λp=>row++[p]).map dR),.dat (dR row),.dat (.int (p:Nat)),.dat (.list (L.map λ(i:Nat)=>.int (i:Nat)))] _;refine zab (b:=may k row p) (Wy (JR (Zx (notin (Zb rfl) (Zb rfl))) λ_=>Wy (e:=decide (L=[])) (Zx (VH (n:=2) (Zb rfl) (Xk Zh (by show 0<=sizeLine;decide)) (JM λd hd=>by obtain⟨_,_,rfl⟩:=IB.mp hd;exact VF _) (JM λd hd=>by cases hd) (by decide))) ?_) hm.symm) (λhb=>?_) λhb=>ZV ⟨_,_,by rw[nx,hb,Iq Ii,Nx]⟩
    .cases L with
     |nil=>rfl
     |cons a r=>rfl
    .refine VB (ZG (YB (zjp (Zb rfl) (YL (Zc (Zb rfl) Zh) (by show 1<=sizeLine;decide)) (by rw[Ie];show row.length+1<=sizeLine;omega)) (show _=dR (row++[p])by show PyData.tuple _=PyData.tuple _;rw[Nk];rfl)) ⟨_,_,_,rfl,rfl,rfl,?_,.dat (.int (p:Nat)),.dat (.list (L.map λ(i:Nat)=>.int (i:Nat))),?_⟩) rfl rfl
     .rw[Ie,Il];have:r*k.length+k.length<=8^8:=IH rn rl2;omega
     .rw[nx,hb,Iz rfl,← OD,Nk (l₂:=[row++[p]])];rfl
   .rintro _ ⟨v6,v7,rfl⟩;refine⟨.dat (dR row),v6,v7,?_⟩;rw[Iy,Nh (by omega),NL,Nv,hA,hrow];rfl
  .rintro _ ⟨v5,v6,v7,rfl⟩;rw[Ov];refine zju 4 rfl ?_;refine Zu (ZG (Zb rfl) ⟨.dat (.int (t:Nat)),.dat (.list ((Yw k (t+1)).map dR)),v5,v6,v7,rfl⟩)
 .rintro _ ⟨v3,v4,v5,v6,v7,rfl⟩;rw[Iy];exact Yn (ZG (Zb rfl) rfl)
end
inductive Fol(es:List PD)(row:List Nat):Nat->Nat->Prop
 |told {a:Nat}(_:es[a]?=some (.tuple [.str (Str.ofString "told"),dR row])):Fol es row a 0
 |look {a b c i j n:Nat}(_:es[a]?=some (.tuple [.str (Str.ofString "look"),.int (i:Nat),.int (j:Nat),.int (b:Nat),.int (c:Nat)])) (_:i∈row) (_:j∈row) (_:Fol es row (if row.idxOf i<row.idxOf j then b else c) n):Fol es row a (n+1)
inductive RFo:List PD->PD->Prop
 |mk (es:List PD) (row:List Nat) (c:Nat) (_:Fol es row 0 c) (_:c<=1000):RFo [.tuple es,dR row] (.list [dR row,.int (c:Nat)])
def idx_int(row:List Nat)(h:i∈row):(row.map λ(a:Nat)=>(a:Int)).idxOf (i:Int)=row.idxOf i:=by
 induction row with
 |nil=>cases h
 |cons a r ih=>
  rw[Nt,List.idxOf_cons,List.idxOf_cons];by_cases e:a=i
  .subst e;simp
  .have e2:¬ (a:Int)=(i:Int):=by omega
   have:i∈r:=by
    rcases IE.mp h with z | z
    .exact absurd z.symm e
    .exact z
   have b1:((a:Int)==(i:Int))=false:=NF.mpr e2;have b2:(a==i)=false:=NF.mpr e;rw[ih this,b1,b2]
section
def znj(T:Top K mg)(Nd:zgE K=true):T.Xl.O P w base 1 (spP K RFo):=by
 refine T.Xl.F.okP ZM (by rintro _ _ ⟨⟩;rfl) λcdv A outer s H E hr ds d hR=>?_;cases hR with
 |mk es row c hF hc=>
 have hu:=hr.units;have zl:(2000:Nat)<sizeLine:=by decide
 have lt:∀{a:Nat}{d:PD},es[a]?=some d->a<es.length:=λh=>(Io.mp h).1;refine⟨_,(Zf (Zv (i:=2) ZM.nd rfl (Or.inl rfl) Zo)
   (Zf (Zv (i:=3) ZM.nd rfl (Or.inl rfl) Zo)
   (Zf (VV IR (Zw JP (Yp (ZW (K:=K) rfl) (Yp (ZW (K:=K) rfl) (pv 0) (pv 2) (λ_ _=>rfl)) Zo (λ_ _=>rfl)) Vx (ZQ _)) (Zf (zb7 (Yp (ZW (K:=K) rfl) (pv 0) (pv 2) (λ_ _=>rfl)) (Jx (n:=5) rfl (ZK (Zz (i:=4) ZM.nd rfl (Or.inl rfl)) (ZK (Zz (i:=5) ZM.nd rfl (Or.inl rfl)) (ZK (Zz (i:=6) ZM.nd rfl (Or.inl rfl)) (ZK (Zz (i:=7) ZM.nd rfl (Or.inl rfl)) (ZK (Zz (i:=8) ZM.nd rfl (Or.inl rfl)) Xv))))) (by rfl)))
   (Zf (Zv (i:=2) ZM.nd rfl (Or.inl rfl) (Yp (Ji (K:=K) rfl) (Yl (Za (pv 8) (Za (pv 7) Ze Zd) Zd)) (Z6 Uh (by rfl) T.int_ znz (Za (Jo zd2 (zii (K:=K) rfl Nd PySem.F.slot_tuple_index PySem.F.type_tuple_index (zau (K:=K) rfl) (pv 1) (Za (pv 5) Ze Zd)) (zii (K:=K) rfl Nd PySem.F.slot_tuple_index PySem.F.type_tuple_index (zau (K:=K) rfl) (pv 1) (Za (pv 6) Ze Zd)) (ZQ _)) Ze Vf)) (λ_ _=>rfl)))
   (Zj (Zv (i:=3) ZM.nd rfl (Or.inl rfl) (ZZ Qi (pv 3) Zo))))))
   (Zj (ZR (Yl (Za (Yp (ZW (K:=K) rfl) (Yp (ZW (K:=K) rfl) (pv 0) (pv 2) (λ_ _=>rfl)) Zo (λ_ _=>rfl)) (Za (pv 3) Ze Zd) ZL))))))) ,?_⟩
 refine Zm (Zu (ZG Zq ?_));refine Zm (Zu (ZG Zq ?_));show Sv K B0 _ [.dat (.tuple es),.dat (dR row),.dat (.int ((0:Nat):Int)),.dat (.int ((0:Nat):Int)),.un,.un,.un,.un,.un] _;have rowI:∀{ρ:List PV},ρ[1]?=some (.dat (dR row))->Er K B0 (JB 1) ρ (.tuple ((row.map λ(a:Nat)=>(a:Int)).map .int)):=λh=>YB (Zb h) (by rw[NQ];rfl);refine Zm (V0 (fun μ ρ=>∃(a n:Nat)(v4 v5 v6 v7 v8:PV),Fol es row a μ/\n+μ=c/\ρ=[.dat (.tuple es),.dat (dR row),.dat (.int (a:Nat)),.dat (.int (n:Nat)),v4,v5,v6,v7,v8]) c ⟨0,0,_,_,_,_,_,hF,by omega,rfl⟩ ?_);rintro μ _ ⟨a,n,v4,v5,v6,v7,v8,hF,hn,rfl⟩;cases hF with
 |told e=>
  refine⟨false,Wy (Zx (Vy (Z3 (n:=0) (Z3 (n:=a) (Zb rfl) (Zb rfl) (Wq (lt e)) e) Zq rfl rfl) Wv)) (Ip (by decide)),(λh=>by cases h),λ_=>?_⟩;have:n=c:=by omega
  subst this;exact Yn (ZG (Xk (Zc (Z3 (n:=1) (Z3 (n:=a) (Zb rfl) (Zb rfl) (Wq (lt e)) e) Zq rfl rfl) (Zc (Zb rfl) Zh)) (by show 2<=sizeLine;decide)) rfl)
 |@look _ b c' i j m e hi hj hF=>
  refine⟨true,Wy (Zx (Vy (Z3 (n:=0) (Z3 (n:=a) (Zb rfl) (Zb rfl) (Wq (lt e)) e) Zq rfl rfl) Wv)) (Iw rfl),λ_=>?_,(λh=>by cases h)⟩;refine Zm (zch (zhB (Z3 (n:=a) (Zb rfl) (Zb rfl) (Wq (lt e)) e)) (zjH ?_));show Sv K B0 _ [.dat (.tuple es),.dat (dR row),.dat (.int (a:Nat)),.dat (.int (n:Nat)),.dat (.str (Str.ofString "look")),.dat (.int (i:Nat)),.dat (.int (j:Nat)),.dat (.int (b:Nat)),.dat (.int (c' : Nat))] _;have mi:∀{x:Nat},x∈row->(x:Int)∈row.map λ(a:Nat)=>(a:Int):=λh=>IB.mpr ⟨_,h,rfl⟩;refine Zm (Zu (ZG (d:=.int ((if row.idxOf i<row.idxOf j then b else c' : Nat):Int)) (zbF (ds:=[.int (c' : Nat),.int (b:Nat)]) (n:=if row.idxOf i<row.idxOf j then 1 else 0) (Xk (Zc (Zb rfl) (Zc (Zb rfl) Zh)) (by show 2<=sizeLine;decide)) (YB (zci (Zc (Wf (zeT (rowI rfl) (Zb rfl) (mi hi)) (zeT (rowI rfl) (Zb rfl) (mi hj)) λ_=>Yr _) Zh)) (show _=PyData.int (if row.idxOf i<row.idxOf j then 1 else 0)from ?_)) ?_ ?_) ?_))
  .rw[idx_int row hi,idx_int row hj];congr 1;by_cases z:row.idxOf i<row.idxOf j
   .rw[Iz z,Iw (show(row.idxOf i:Int)<(row.idxOf j:Int)by omega)];rfl
   .rw[Iq z,Ip (show ¬ (row.idxOf i:Int)<(row.idxOf j:Int)by omega)];rfl
  .split <;> rfl
  .split <;> rfl
  refine Zu (ZG (Wf (Zb rfl) Zq λ_=>Zy _) ⟨m,by omega,_,n+1,_,_,_,_,_,hF,by omega,rfl⟩)
end
def zgB{l:List Nat}(nd:l.Nodup){x:Nat}(h:x∈l.take m):l.idxOf x<m:=by obtain⟨p,hp,e⟩:=NA h;rw[List.getElem_take]at e;rw[OE]at hp;have:=nd.idxOf_getElem p (by omega);rw[e]at this;omega
def zhw{l:List Nat}{x:Nat}(hx:x∈l)(h:l.idxOf x<m):x∈l.take m:=by have hi:=Oa hx;refine List.mem_iff_getElem.mpr ⟨l.idxOf x,by rw[OE];omega,?_⟩;rw[List.getElem_take,getElem_idxOf]
def V7{row:List Nat}:row∈Yw k k.length↔row.Perm (List.range k.length)/\∀ x y,x<k.length->y<k.length->ah k x y=true->row.idxOf x<row.idxOf y:=by
 rw[WK];constructor
 .rintro⟨h1,h2⟩;have hp:=zcy h2 h1;refine⟨hp,λx y hx hy h=>?_⟩;have my:y∈row:=hp.mem_iff.mpr (IJ.mpr hy);have hl:=Oa my;have e:row=row.take (row.idxOf y)++y::row.drop (row.idxOf y+1):=by
   have:row[row.idxOf y]=y:=getElem_idxOf hl
   conv=>lhs;rw[← OJ (row.idxOf y) row,List.drop_eq_getElem_cons hl,this]
  exact zgB h2.nd (h2.pr _ _ _ e x hx h)
 .rintro⟨hp,h⟩;have nd:row.Nodup:=hp.nodup_iff.mpr OX;refine⟨by rw[hp.length_eq,Iy],nd,λx hx=>IJ.mp (hp.mem_iff.mp hx),λpre x post e i hi ha=>?_⟩;have mi:i∈row:=hp.mem_iff.mpr (IJ.mpr hi);have hx:x<k.length:=IJ.mp (hp.mem_iff.mp (by rw[e];exact IG _ Ir));have lt:=h i x hi hx ha;have ix:row.idxOf x=pre.length:=by
   have hpl:pre.length<row.length:=by rw[e,Il,IL];omega
   have:=nd.idxOf_getElem pre.length hpl;have e2:row[pre.length]=x:=by subst e;rw[List.getElem_append_right (Ih _)];simp
   rw[e2]at this;exact this
  have:=zhw mi (m:=pre.length) (by omega);rw[e,List.take_left]at this;exact this
def zaY{row:List Nat}{j:Nat}(hi:i<k.length)(hj:j<k.length):row∈Yw (wl k i j) (wl k i j).length↔row∈Yw k k.length/\row.idxOf i<row.idxOf j:=by
 rw[V7,V7,Yq];constructor
 .rintro⟨hp,h⟩;refine⟨⟨hp,λx y hx hy e=>h x y hx hy (by rw[Qy hx,e];rfl)⟩,h i j hi hj ?_⟩;rw[Qy hi];simp
 .rintro⟨⟨hp,h⟩,hij⟩;refine⟨hp,λx y hx hy e=>?_⟩;rw[Qy hx]at e;simp only[Oh,NR,Oz]at e;rcases e with e | ⟨e1,e2⟩
  .exact h x y hx hy e
  .have h1:row.idxOf x<=row.idxOf i:=by
    rcases e1 with rfl | e1
    .exact Ih _
    .exact Op (h x i hx hi e1)
   have h2:row.idxOf j<=row.idxOf y:=by
    rcases e2 with rfl | e2
    .exact Ih _
    .exact Op (h j y hj hy e2)
   omega
def zc8(o:IsO k)(z:unp k=[]):Yw k k.length=[Look.zcC (ma k) k.length]:=by obtain⟨p,c⟩:=zb6 o z;refine(ziY o).mp ?_;unfold lj;rw[Iw p,Bool.true_and];refine all_eq_true.mpr ((U3 (R:=λa b=>ah k a b=true)).mpr λpre a b post e=>?_);rw[e]at c;exact(NX.mp (Dh.mp c).2.1).1 b Ir
def zkP(h:Sub es a k):IsO k->∀ row∈Yw k k.length,∃ c,c<=L k/\Fol es row a c:=by
 induction h with
 |told z e=>intro o row hr;rw[zc8 o z,Ij]at hr;subst hr;exact⟨0,NN _,.told e⟩
 |@look a b c k q hq hc e hab hac h1 h2 ih1 ih2=>
  intro o row hr;obtain⟨q1,q2,q3⟩:=Y7.mp hq;have ho:ah k q.1 q.2=false/\ah k q.2 q.1=false:=by unfold opq at q3;simpa using q3
  have hp:=(V7.mp hr).1;have m1:q.1∈row:=hp.mem_iff.mpr (IJ.mpr (by omega));have m2:q.2∈row:=hp.mem_iff.mpr (IJ.mpr q2);have ne:row.idxOf q.1≠row.idxOf q.2:=λz=>by
   have e1:=getElem_idxOf (Oa m1);have e2:=getElem_idxOf (Oa m2);have:q.1=q.2:=by rw[← e1,← e2];congr 1
   omega
  unfold cost at hc;by_cases z:row.idxOf q.1<row.idxOf q.2
  .obtain⟨c1,l1,f1⟩:=ih1 (o.wl (by omega) q2 (by omega) ho.2) row ((zaY (by omega) q2).mpr ⟨hr,z⟩);exact⟨c1+1,by omega,.look e m1 m2 (by rw[Iz z];exact f1)⟩
  .obtain⟨c1,l1,f1⟩:=ih2 (o.wl q2 (by omega) (by omega) ho.1) row ((zaY q2 (by omega)).mpr ⟨hr,by omega⟩);exact⟨c1+1,by omega,.look e m1 m2 (by rw[Iq z];exact f1)⟩
def zi6(h:Sub es a k):IsO k->∃ row∈Yw k k.length,Fol es row a (L k):=by
 induction h with
 |told z e=>intro o;refine⟨_,by rw[zc8 o z];exact N6 _,?_⟩;rw[zhI z];exact .told e
 |@look a b c k q hq hc e hab hac h1 h2 ih1 ih2=>
  intro o;obtain⟨q1,q2,q3⟩:=Y7.mp hq;have ho:ah k q.1 q.2=false/\ah k q.2 q.1=false:=by unfold opq at q3;simpa using q3
  unfold cost at hc;have fin:∀ row,row∈Yw k k.length->q.1∈row/\q.2∈row:=λrow hr=>by have hp:=(V7.mp hr).1;exact⟨hp.mem_iff.mpr (IJ.mpr (by omega)),hp.mem_iff.mpr (IJ.mpr q2)⟩
  by_cases z:L (wl k q.2 q.1)<=L (wl k q.1 q.2)
  .obtain⟨row,hr,f⟩:=ih1 (o.wl (by omega) q2 (by omega) ho.2);obtain⟨hr2,hlt⟩:=(zaY (by omega) q2).mp hr;obtain⟨m1,m2⟩:=fin row hr2;refine⟨row,hr2,?_⟩;rw[show L k=L (wl k q.1 q.2)+1 by omega];exact .look e m1 m2 (by rw[Iz hlt];exact f)
  .obtain⟨row,hr,f⟩:=ih2 (o.wl q2 (by omega) (by omega) ho.1);obtain⟨hr2,hlt⟩:=(zaY q2 (by omega)).mp hr;obtain⟨m1,m2⟩:=fin row hr2;refine⟨row,hr2,?_⟩;rw[show L k=L (wl k q.2 q.1)+1 by omega];exact .look e m1 m2 (by rw[Iq (by omega)];exact f)
def zlC:IsO (YJ [(0,1),(2,3)] 4):=by
 refine IsO.bits (by decide) (λa b=>(a=0/\b=1)\/(a=2/\b=3)) (λa b c h1 h2=>by omega) (λa h=>by omega) ?_;intro q hq;simp only[IE,O9,or_false]at hq;rcases hq with rfl | rfl
 .exact .inl ⟨rfl,rfl⟩
 .exact .inr ⟨rfl,rfl⟩
section
def zjI{ds:List PD}{n:Nat}{t:TS}{R:L2.Pn}(i:Nat)(hi:ρ[i]?=some (.own ds))(hD:Dk n ds)(h:∀ p,Sv K B t (ρ.set i ((lkT K).pv n p [])) R):Sv K B t ρ R:=λE G0 H0 G H σ F D r dn=>by
 obtain⟨p,xs,e,hx,hp,hd⟩:=r.sl i _ hi;have hlt:i<ρ.length:=(Io.mp hi).1;refine h p E G0 H0 G H σ F D ⟨r.g,r.bb,by rw[Ob];exact r.ls,λj v hj=>?_,r.fr,r.dj,λj ds' a hj ha=>?_⟩ dn
 .by_cases z:j=i
  .subst z;rw[IW hlt]at hj;cases hj;exact(lkT K).sl.mpr ⟨e,hx,rfl,xs,ds,hp,hd,hD⟩
  .rw[IS (Ne.symm z)]at hj;exact r.sl j v hj
 .by_cases z:j=i
  .subst z;rw[IW hlt]at hj;cases hj
  .rw[IS (Ne.symm z)]at hj;exact r.ow j ds' a hj ha
def zm2{t:TA}{ds:List PD}{Pre:List PD->Prop}{Rf:List PD->PD->Prop}{X:XK}{R:PV->List PV->Prop}(h:Ea K B t (msk ρ) ds)(hP:Pre ds)(k:∀ d,Rf ds d->R (.dat d) ρ):Eg K B (Vn (znn K B Pre Rf) [] X t) ρ R:=λE G0 H0 G H σ F r Q q=>h G σ r.rx G H (Zr.refl _) r.g.gh _ λvs G2 H2 g2 hv=>⟨G2,ds,r.bb.trans g2.gg,g2.gh,by rw[Nx];exact hv,hP,λv d G3 H3 hd g3 hx=>q v _ ρ G3 H3 F [] (k d hd) (g2.trans g3).gg (r.grow (g2.trans g3)) ⟨rfl,v,rfl,hx⟩ Jv⟩
def zkT(k:Kn):Pl 60 (.tuple [dPs (pairsOf k),.int (L k:Nat)]):=(zc3 (n:=2) λd hd=>by
 simp only[IE,O9,or_false]at hd;rcases hd with rfl | rfl
 .exact(zeO _).mono (by decide)
 .exact VF _).mono (by decide)
def zl7(l:List Nat):Pl 1 (dR l):=zc3 λd hd=>by obtain⟨i,_,rfl⟩:=IB.mp hd;exact VF _
def zi0{f:AD}(F:Fun K "law" "law" zbd f fd)(T:Top K mg)(Nd:zgE K=true)(M:Bs K mg base):Wb P w K mg base CX0 18 f fd ["script"] (Uv K [(T.Xq,λ_ _=>some Yo)]):=by
 have hB:zkw [(T.Xq,λ_ _=>some Yo)] T.Xq=some (.tbl λ_ _=>some Yo):=by unfold zkw;simp
 have G__law_next:T.Yd.O P w base 17 (spT (lkT K) zkL RDw):=(zjw T).mono (by decide);have G__law_known:T.Ws.O P w base 17 (spT (lkT K) znq RKn):=(zg9 T).mono (by decide);have G__law_rows_left:T.Xd.O P w base 17 (spP K RRl):=(znH T).mono (by decide);have G__law_followed:T.Xl.O P w base 17 (spP K RFo):=(znj T Nd).mono (by decide);have G__law_least:T.Yk.O P w base 17 (zgs (dnT P w K) (zdL 6) RLs):=(zlY T 6).mono (by decide);have G__law_shape:T.WL.O P w base 17 (spP K RSh):=(zmZ T).mono (by decide);have G__law_kinds:T.Ww.O P w base 17 (spP K RKi):=(znr T).mono (by decide);have G__law_paper_good:T.YX.O P w base 17 (spP K RPa):=(zm3 T Nd).mono (by decide);have G_least_looks:=@zmY _ T M hB;refine F.zlD Wn λcdv A outer s H E hr ns hns=>?_;generalize zkw [(T.Xq,λ_ _=>some Yo)]=B at hB G_least_looks;have hu:=hr.units;have zl:(10^6+10^6:Nat)<sizeLine:=by decide
 refine⟨_,(Zf (Zv (i:=1) Wn.nd rfl (Or.inl rfl) (Yl (Za (zdn (zg5 (K:=K) rfl) (pv 0) zeH (zfu Zo)) (Za Zo Ze Yb) ZL)))
   (Zf (Xa IR rfl (XJ (by rfl) T.JG (Za Zo Ze Yb)) (Zz (i:=2) Wn.nd rfl (Or.inl rfl)) (Zf (Zv (i:=3) Wn.nd rfl (Or.inl rfl) (ZZ JT (peN T.Yd G__law_next hr (Za (pv 1) Ze Zd)) Zo))
   (Zf (XN ((pw_and (Zw JP (pv 2) Zo (ZQ _)) (pw_and1 (Zw JP (ZZ JT (peN T.Yd G__law_next hr (Za (pv 1) Ze Zd)) Zo) Zo (ZQ _))))).pt (Zj (Zv (i:=3) Wn.nd rfl (Or.inl rfl) Zo)) Z7)
   (Zf (Zv (i:=4) Wn.nd rfl (Or.inl rfl) (peN T.Ws G__law_known hr (Za (pv 1) (Za (pv 3) Ze Zd) Zd)))
   (Zf (XN ((pw_and (Zw JP (pv 3) Zo (ZQ _)) (pw_and (Zw zd2 (ZF (Yj (K:=K) rfl) (by rfl) T.zcS NM (Za (pv 4) Ze Zd)) Zo (ZQ _)) (pw_and1 (Zw zg4 (ZZ JT (peN T.Yd G__law_next hr (Za (pv 1) Ze Zd)) Zo) Zo (ZQ _)))))).pt (Zj (Zv (i:=4) Wn.nd rfl (Or.inl rfl) (YD (Za (YD (Za Zo (Za Zo Ze Yb) Yb)) (Za (YD (Za Zo (Za Zo Ze Yb) Yb)) Ze Jp) Jp)))) Z7)
   (Zf (Zv (i:=5) Wn.nd rfl (Or.inl rfl) (peN T.Je G_least_looks hr (Za (pv 4) (Za (pv 3) Ze Zd) Zd)))
   (Zf (XN (W6 (Xu (peN T.Ww G__law_kinds hr (Za (pv 5) Ze Zd)))) (Zj (ZR Jz)) Z7)
   (Zf (zb7 (pv 5) (Jx (n:=3) rfl (ZK (Zz (i:=6) Wn.nd rfl (Or.inl rfl)) (ZK (Zz (i:=7) Wn.nd rfl (Or.inl rfl)) (ZK (Zz (i:=8) Wn.nd rfl (Or.inl rfl)) Xv))) (by rfl)))
   (Zf (XN ((pw_or (Xu (ZF (X5 (K:=K) rfl) (by rfl) T.Yv zhE (Za (pv 6) (Za (W8 (v:=.ty "bool") (by rfl) T.bool_ zkM rfl) Ze)))) (pw_or (Zw zeD (pv 6) (peN T.Yk G__law_least hr (Za (pv 4) (Za (pv 3) (Za (zhi rfl rfl) Ze zko) Zd) Zd)) (ZQ _)) (pw_or1 (W6 (Xu (peN T.WL G__law_shape hr (Za (pv 7) (Za (pv 3) Ze Zd) Zd)))))))).pt (Zj (ZR Jz)) Z7)
   (Zf (Zv (i:=9) Wn.nd rfl (Or.inl rfl) (Yl Ze))
   (Zf (Xa IR rfl (Xr (peN T.Xd G__law_rows_left hr (Za (pv 4) (Za (pv 3) Ze Zd) Zd))) (Zz (i:=10) Wn.nd rfl (Or.inl rfl)) (Zf (zb7 (peN T.Xl G__law_followed hr (Za (pv 7) (Za (pv 10) Ze Zd) Zd)) (zkN (n:=2) rfl (ZK (Zz (i:=11) Wn.nd rfl (Or.inl rfl)) (ZK (Zz (i:=12) Wn.nd rfl (Or.inl rfl)) Xv)) (by rfl)))
   (Zf (XN (Zw (UJ (K:=K) rfl hu) (pv 11) (pv 10) (ZQ _)) (Zj (ZR Jz)) Z7)
   (Zj (WQ (zam N5 NB NC XH (pv 9) (Za (pv 12) Ze Zd)))))))
   (Zj (XN ((pw_or (Zw zeD (ZF (zcb (K:=K) rfl rfl) (by rfl) T.zmM zmE (Za (pv 9) Ze Zd)) (pv 6) (ZQ _)) (pw_or (Zw (Qa (K:=K) rfl hu) (YD (Za (pv 4) (Za (pv 6) Ze Zd) Zd)) (pv 8) (by rfl)) (pw_or1 (W6 (Xu (peN T.YX G__law_paper_good hr (Za (pv 8) (Za (pv 3) Ze Zd) Zd)))))))).pt (Zj (ZR Jz)) Z7)))))))))))))
   (Zj (ZR Jz)))) ,?_⟩
 obtain⟨cs,hcs,hcl,_⟩:=zj1 PyData.int ns none (some 63);refine Zm (Zu (QV (Zc (YB (zgJ rfl zfM zis) (by rw[hcs])) (Zc Zq Zh)) (by show 2<=sizeLine;decide) ?_));refine zjI (n:=0) 1 rfl ⟨cs,0,rfl,by omega,by decide⟩ λp=>?_;refine Zm (Xh (List.range 2) (λ(i:Nat)=>PyData.int (i:Nat)) (Qx (n:=2) (Zc Zq Zh) (by decide)) (λi ρ=>∃(c:Nat)(v2 v3 v4 v5 v6 v7 v8 v9 v10 v11 v12:PV),c<=2000*i/\ρ=[.scr ns,(lkT K).pv c p [],v2,v3,v4,v5,v6,v7,v8,v9,v10,v11,v12]) ⟨0,_,_,_,_,_,_,_,_,_,_,_,Ih _,rfl⟩ ?_ ?_)
 .rintro i hi _ ⟨c,v2,v3,v4,v5,v6,v7,v8,v9,v10,v11,v12,hc,rfl⟩;rw[rix 2 i hi];rw[Iy]at hi;refine Xy (Zm (Zu (zbz (m:=4) (c:=c) rfl (by omega) Zq (by decide) λm0 hm0=>?_)));show Sv K B _ [.scr ns,(lkT K).pv (c+1) p [],.dat (.int (i:Nat)),.dat (.int (m0:Nat)),v4,v5,v6,v7,v8,v9,v10,v11,v12] _;refine zcL (fun ρ' => ∃(c1 m:Nat),c1<=c+2/\m<=4/\ρ'=[.scr ns,(lkT K).pv c1 p [],.dat (.int (i:Nat)),.dat (.int (m:Nat)),v4,v5,v6,v7,v8,v9,v10,v11,v12]) (zgn (zcm (zbE (Zx (Ju (Zb rfl) Zq)) ?_))) ?_
  .split
   .refine zaH (zcB (zbz (m:=4) (c:=c+1) rfl (by omega) Zq (by decide) λr _=>⟨_,rfl,ZG Zq ⟨_,.bool (decide ((r:Int)=1)),rfl,(λG σ va vb ha hb=>zh5 (zbi ha) (zbi hb)),_,rfl,?_⟩⟩));split
    .exact Zu (ZG Zq ⟨c+2,4,by omega,by omega,rfl⟩)
    .exact ZV ⟨c+2,m0,by omega,by omega,rfl⟩
   .rw[Iq Ii];exact ZV ⟨c+1,m0,by omega,by omega,rfl⟩
  rintro _ ⟨c1,m,hc1,hm4,rfl⟩;refine Zm (Zu (zaK (s:=c1) rfl (Wz (Zc (Zb rfl) Zh) ⟨c1,rfl,⟨m,rfl,by omega,by omega⟩,λx c2 hx=>?_⟩)));obtain⟨m',k0,e,rfl,hO0,hl0,hc2⟩:=hx;injection e with e _;injection e with e;have e:m'=m:=by omega
  subst e;show Sv K B _ [.scr ns,(lkT K).pv c2 p [],.dat (.int (i:Nat)),.dat (.int (m' : Nat)),.dat (dPs (pairsOf k0)),v5,v6,v7,v8,v9,v10,v11,v12] _;refine zcL (fun ρ' => ∃(c3:Nat)(k:Kn),c3<=c2+1/\IsO k/\k.length=m' /\ ρ'=[.scr ns,(lkT K).pv c3 p [],.dat (.int (i:Nat)),.dat (.int (m' : Nat)),.dat (dPs (pairsOf k)),v5,v6,v7,v8,v9,v10,v11,v12]) (zgn (zcm (zbE (Zx (Ju (Zb rfl) Zq)) ?_))) ?_
  .split
   .rename_i h4
    have h4:m'=4:=by have:=IC h4;omega
    refine zcm (zbE (Zx (Wf (JN (Zc (Zb rfl) Zh)) Zq λ_=>Yr _)) ?_);split
    .refine zaH (zcB (zbz (m:=8) (c:=c2) rfl (by omega) Zq (by decide) λr _=>⟨_,rfl,ZG Zq ⟨_,.bool (decide ((r:Int)>0)),rfl,(λG σ va vb ha hb=>zhU (zbi ha) (zbi hb) (Yr _)),_,rfl,?_⟩⟩));split
     .refine Zu (ZG (YL (Zc (YL (Zc Zq (Zc Zq Zh)) (by show 2<=sizeLine;decide)) (Zc (YL (Zc Zq (Zc Zq Zh)) (by show 2<=sizeLine;decide)) Zh)) (by show 2<=sizeLine;decide)) ⟨c2+1,_,by omega,zlC,by rw[h4];rfl,?_⟩);have:pairsOf (YJ [(0,1),(2,3)] 4)=[(0,1),(2,3)]:=by decide +kernel
      rw[this];rfl
     .exact ZV ⟨c2+1,k0,by omega,hO0,hl0,rfl⟩
    .rw[Iq Ii];exact ZV ⟨c2,k0,by omega,hO0,hl0,rfl⟩
   .rw[Iq Ii];exact ZV ⟨c2,k0,by omega,hO0,hl0,rfl⟩
  rintro _ ⟨c3,k,hc3,hO,rfl,rfl⟩;have hu6:u k<=6:=zk2 hm4;refine Zm (Zu (zm2 (Zc (Zb rfl) (Zc (Zb rfl) Zh)) ⟨k,rfl,hO,hm4⟩ λd hd=>?_));obtain⟨es,ks,rfl,hes,hSub,hShp,hkk,hkl,hks,hcl2⟩:=hd k rfl hO;have hkl:ks.length<=2*10^5:=IH hkl (IH (Wk hu6) (by decide));refine Zm (XS (Wy (WN (zbh (Z8 (Zc (Zb rfl) Zh) (RKi.mk (L k) k.length es ks hm4 hes hShp hkl λk' h=>(hks k' h).2)))) rfl) (ZV ?_));refine Zm (zch (zhB (Zb rfl)) (zhu ?_));show Sv K B _ [.scr ns,(lkT K).pv c3 p [],.dat (.int (i:Nat)),.dat (.int (k.length:Nat)),.dat (dPs (pairsOf k)),.dat (.tuple [.int (L k:Nat),.tuple es,.tuple (ks.map λk' => .tuple [dPs (pairsOf k'),.int (L k' : Nat)])]),.dat (.int (L k:Nat)),.dat (.tuple es),.dat (.tuple (ks.map λk' => .tuple [dPs (pairsOf k'),.int (L k' : Nat)])),v9,v10,v11,v12] _;generalize hPp:(PyData.tuple (ks.map λk' => .tuple [dPs (pairsOf k'),.int (L k' : Nat)]))=Pd;generalize hTd:(PyData.tuple [.int (L k:Nat),.tuple es,Pd])=Td;refine Zm (zgn (zif (zbE (zbh (Qk (Zb rfl) T.ib)) ?_)));rw[Iq (by decide)];refine zif (zaH (zcB (ZG (Zb rfl) ⟨_,rfl,zd6 (Wz (Zc (Zb rfl) (Zc (Zb rfl) Zh)) ⟨_,_,rfl,⟨k,rfl,rfl,hO,by omega,hu6,(λe he=>nomatch he),?_⟩,λx m2 hx=>?_⟩)⟩)))
  .have:=IH (Wk hu6) (show cc 6<=2*10^5 by decide);show 0+2*cc (u k)<=10^6;omega
  obtain⟨rfl,_,_⟩:=hx k hO rfl rfl;refine⟨_,.bool (!decide ((L k:Int)=(L k:Nat))),rfl,(λG σ va vb ha hb=>zlm (zbi ha) (zbi hb)),_,rfl,?_⟩;rw[Iw rfl,Oo,Iq Ii];refine zbE (Wy (c:=false) (WN (zbh (Z8 (Zc (Zb rfl) (Zc (Zb rfl) Zh)) (RSh.mk es k.length hes hShp)))) rfl) ?_;rw[Iq Ii];refine ZV (Zm (Zu (QV Zh (by show 0<=sizeLine;decide) ?_)));show Sv K B _ [.scr ns,(lkT K).pv c3 p [],.dat (.int (i:Nat)),.dat (.int (k.length:Nat)),.dat (dPs (pairsOf k)),.dat Td,.dat (.int (L k:Nat)),.dat (.tuple es),.dat Pd,.own [],v10,v11,v12] _;have hrl:(Yw k k.length).length<=1000:=by have h1:=zaO k k.length;have h2:k.length^k.length<=4^4:=IH (Nat.pow_le_pow_left hm4 _) (OL (by decide) hm4);have h3:(4:Nat)^4=256:=rfl;omega
  refine Zm (Xh (Yw k k.length) dR (WF (Z8 (Zc (Zb rfl) (Zc (Zb rfl) Zh)) (RRl.mk k (by omega)))) (λs ρ=>∃(cs:List Int)(v10 v11 v12:PV),cs.length=s/\(∀ a∈cs,a<=(L k:Nat))/\(∀ row∈(Yw k k.length).take s,Fol es row 0 (L k)->((L k:Nat):Int)∈cs)/\ρ=[.scr ns,(lkT K).pv c3 p [],.dat (.int (i:Nat)),.dat (.int (k.length:Nat)),.dat (dPs (pairsOf k)),.dat Td,.dat (.int (L k:Nat)),.dat (.tuple es),.dat Pd,.own (cs.map .int),v10,v11,v12]) ⟨[],_,_,_,rfl,(λ_ h=>nomatch h),(λ_ h=>nomatch h),rfl⟩ ?_ ?_)
  .rintro s hs _ ⟨cs,v10,v11,v12,hcl3,hle,hin,rfl⟩;obtain⟨row,hrow⟩:∃ row,(Yw k k.length)[s]=row:=⟨_,rfl⟩
   have zcR:row∈Yw k k.length:=by rw[← hrow];exact Np _
   obtain⟨cn,hcn,hF,hmx⟩:∃ cn,cn<=L k/\Fol es row 0 cn/\(Fol es row 0 (L k)->cn=L k):=by
    by_cases z:Fol es row 0 (L k)
    .exact⟨_,Ih _,z,λ_=>rfl⟩
    .obtain⟨cn,h1,h2⟩:=zkP hSub hO row zcR;exact⟨cn,h1,h2,λy=>absurd y z⟩
   have hL6:L k<=6:=by obtain⟨_,hC⟩:=hSub.cnt hO;exact IH hC.few.2 hu6
   rw[hrow];refine Xy (Zm (zch (zhB (Z8 (Zc (Zb rfl) (Zc (Zb rfl) Zh)) (RFo.mk es row cn hF (by omega)))) (zkm ?_)));show Sv K B _ [.scr ns,(lkT K).pv c3 p [],.dat (.int (i:Nat)),.dat (.int (k.length:Nat)),.dat (dPs (pairsOf k)),.dat Td,.dat (.int (L k:Nat)),.dat (.tuple es),.dat Pd,.own (cs.map .int),.dat (dR row),.dat (dR row),.dat (.int (cn:Nat))] _;refine Zm (XS (Wy (Zx (VH (n:=1) (Zb rfl) (Zb rfl) (zl7 row) (zl7 row) (by decide))) (by rw[same_self];rfl)) (ZV ?_));refine VB (ZG (Zb rfl) ⟨.int (cn:Nat),_,cs.map .int,rfl,rfl,rfl,by rw[Ie];omega,cs++[(cn:Int)],_,_,_,by rw[Il,hcl3];rfl,λa ha=>?_,λr hr hf=>?_,by rw[Nk];rfl⟩) rfl rfl
   .rcases Nz.mp ha with ha | ha
    .exact hle a ha
    .rw[Ij.mp ha];omega
   .rw[Nh hs,hrow]at hr;rcases Nz.mp hr with hr | hr
    .exact N3 _ (hin r hr hf)
    .rw[Ij.mp hr]at hf;rw[hmx hf];exact IG _ (N6 _)
  .rintro _ ⟨cs,v10,v11,v12,hcl3,hle,hin,rfl⟩;rw[Ov]at hin;obtain⟨row,zcR,hF⟩:=zi6 hSub hO;refine XS (Wy (e:=false) (QG (c:=false) (e:=false) (Wy (Zx (zhR (zeK (ns:=cs) (M:=(L k:Nat)) (Zc (VD rfl rfl) Zh) (hin row zcR hF) hle) (Zb rfl))) (by rw[Iw rfl];rfl)) λ_=>QG (c:=false) (e:=false) (Wy (Zx (Ue (neg:=true) (d:=.tuple [dPs (pairsOf k),.int (L k:Nat)]) (ds:=ks.map λk' => .tuple [dPs (pairsOf k'),.int (L k' : Nat)]) (YL (Zc (Zb rfl) (Zc (Zb rfl) Zh)) (by show 2<=sizeLine;decide)) (YB (Zb rfl) hPp.symm) (zkT k) λe he=>?_)) ?_) λ_=>Wy (WN (zbh (Z8 (Zc (YB (Zb rfl) hPp.symm) (Zc (Zb rfl) Zh)) (RPa.mk k.length ks hm4 hkl hks hcl2)))) rfl) rfl) (ZV ⟨c3,_,_,_,_,_,_,_,_,_,_,_,by omega,rfl⟩)
   .obtain⟨k',_,rfl⟩:=IB.mp he;exact zkT k'
   .rw[Iz rfl,show(ks.map λk' => PyData.tuple [dPs (pairsOf k'),.int (L k' : Nat)]).any (λe=>PySem.Spec.same e (.tuple [dPs (pairsOf k),.int (L k:Nat)]))=true from OG.mpr ⟨_,IB.mpr ⟨k,hkk,rfl⟩,same_self _⟩];rfl
 .rintro _ ⟨c,v2,v3,v4,v5,v6,v7,v8,v9,v10,v11,v12,hc,rfl⟩;exact Yn (ZG zer rfl)
end
def zj2(P:Program)(w:World)(K:FG)(mg:Str->Option Value)(base:Heap):OkL P w K mg base:=Ol λh=>(@Classical.epsilon_spec EnC (λe=>¬ OkL e.P e.w e.K e.mg e.base) ⟨⟨P,w,K,mg,base⟩,h⟩) (λf fd F T Nd M=>zi0 F T Nd M)
def zlN{P:Program}{w:World}{K:FG}{mg:Str->Option Value}{base:Heap}{f:AD}(F:Fun K "law" "law" zbd f fd)(T:Top K mg)(Nd:zgE K=true)(M:Bs K mg base):Wb P w K mg base CX0 18 f fd ["script"] (Uv K [(T.Xq,λ_ _=>some Yo)]):=zj2 P w K mg base f fd F T Nd M
structure Pm(K:FG)(x:Str)(st:Stmt)(f:AD)(oc:Value)(od:Option AD)(kV dc pm:Value)(an:Option AD)(cd ct:Value)(sl:Array (Option Value)):Prop where
 a:PySem.W.nsIn K mainGlobals x=some (some (.ref f))
 l:K.lookup f=some ⟨oc,od,.func (PySem.W.fnOf x x (Xj st) (Z0 st) (Zg st) .none kV dc pm an cd ct),sl⟩
 c:codeIn K cd x=true
 k:keepIn K (.ref f)=true
abbrev tabs:ziG:=[(94,λ_ _=>some Yo)]
def Pn(K:FG)(n:Str)(s:Stmt):Prop:=∃ f oc od kV dc pm an cd ct sl,Pm K n s f oc od kV dc pm an cd ct sl
noncomputable def Pn.go{K:FG}{h:Heap}{mg:Str->Option Value}{n:Str}{s:Stmt}{ps:List Str}(p:Pn K n s)(X:K.In h)(G:h.Ns mainGlobals mg)(hb:∀(kV doc pm:Value)(an:Option AD)(cdv ct:Value)(us:List Value),us.length=ps.length->bindArgs (PySem.W.fnOf n n (Xj s) (Z0 s) (Zg s) .none kV doc pm an cdv ct) ⟨us,[]⟩=pure (ps.zip us)):Fn1 K mg n s ps:=Classical.choice (by
 obtain⟨f,oc,od,kV,dc,pm,an,cd,ct,sl,p⟩:=p;exact⟨⟨f,_,WY (st:=s) p.l p.c p.k,(WY (st:=s) p.l p.c p.k).binds hb,mg_of X G p.a⟩⟩)
noncomputable def Pn.go1{K:FG}{h:Heap}{mg:Str->Option Value}{n:Str}{s:Stmt}{x0:Str}(p:Pn K n s)(X:K.In h)(G:h.Ns mainGlobals mg)(hb:∀(kV doc pm:Value)(an:Option AD)(cdv ct:Value)(u0:Value),bindArgs (PySem.W.fnOf n n (Xj s) (Z0 s) (Zg s) .none kV doc pm an cdv ct) ⟨[u0],[]⟩=pure ([x0].zip [u0])):Fn1 K mg n s [x0]:=p.go X G λa b c d e f us hl=>match us,hl with | [u0],_=>hb a b c d e f u0
noncomputable def Pn.go2{K:FG}{h:Heap}{mg:Str->Option Value}{n:Str}{s:Stmt}{x0 x1:Str}(p:Pn K n s)(X:K.In h)(G:h.Ns mainGlobals mg)(hb:∀(kV doc pm:Value)(an:Option AD)(cdv ct:Value)(u0 u1:Value),bindArgs (PySem.W.fnOf n n (Xj s) (Z0 s) (Zg s) .none kV doc pm an cdv ct) ⟨[u0,u1],[]⟩=pure ([x0,x1].zip [u0,u1])):Fn1 K mg n s [x0,x1]:=p.go X G λa b c d e f us hl=>match us,hl with | [u0,u1],_=>hb a b c d e f u0 u1
noncomputable def Pn.go3{K:FG}{h:Heap}{mg:Str->Option Value}{n:Str}{s:Stmt}{x0 x1 x2:Str}(p:Pn K n s)(X:K.In h)(G:h.Ns mainGlobals mg)(hb:∀(kV doc pm:Value)(an:Option AD)(cdv ct:Value)(u0 u1 u2:Value),bindArgs (PySem.W.fnOf n n (Xj s) (Z0 s) (Zg s) .none kV doc pm an cdv ct) ⟨[u0,u1,u2],[]⟩=pure ([x0,x1,x2].zip [u0,u1,u2])):Fn1 K mg n s [x0,x1,x2]:=p.go X G λa b c d e f us hl=>match us,hl with | [u0,u1,u2],_=>hb a b c d e f u0 u1 u2
def zme{l:PySem.W.OpenLaw}{w:World}{K:FG}{h:Heap}{mg:Str->Option Value}{fa:AD}{fz6 fz22:AD}(X:K.In h)(G:h.Ns mainGlobals mg)(hfa:mg "law" = some (.ref fa)){odz6 anz6 odz22 anz22:Option AD}{slz6 slz22:Array (Option Value)}{ocz6 kVz6 dcz6 pmz6 cdz6 ctz6 ocz22 kVz22 dcz22 pmz22 cdz22 ctz22:Value}(pz0:Pn K "bits_of" UG)(pz1:Pn K "with_look" W9)(pz2:Pn K "pairs_of" J1)(pz3:Pn K "goes_ahead" JH)(pz4:Pn K "unparted" Q8)(pz5:Pn K "least_looks" X4)(pz6:Pm K "row_of" J6 fz6 ocz6 odz6 kVz6 dcz6 pmz6 anz6 cdz6 ctz6 slz6)(pz7:Pn K "many_ahead" WM)(pz8:Pn K "_law_next" Qs)(pz9:Pn K "_law_closed" Xp)(pz10:Pn K "_law_good" Jt)(pz11:Pn K "_law_turn" Qv)(pz12:Pn K "_law_known" JD)(pz13:Pn K "_law_open" Jq)(pz14:Pn K "_law_rows_left" Xb)(pz15:Pn K "_law_followed" Wg)(pz16:Pn K "_law_more" Xw)(pz17:Pn K "_law_least" JF)(pz18:Pn K "_law_shape" JV)(pz19:Pn K "_law_paper_good" Ym)(pz20:Pn K "_law_within" Y4)(pz21:Pn K "_law_kinds" Wu)(pz22:Pm K "law" zbd fz22 ocz22 odz22 kVz22 dcz22 pmz22 anz22 cdz22 ctz22 slz22)(qz6:cdz6 = .ref 98)(hz6:codeHdIn K 98 94=true)(nz6:K.lookup 94=none)(z_len:PySem.W.nsIn K mainGlobals "len" = some none)(z_range:PySem.W.nsIn K mainGlobals "range" = some none)(z_tuple:PySem.W.nsIn K mainGlobals "tuple" = some none)(z_isinstance:PySem.W.nsIn K mainGlobals "isinstance" = some none)(z_list:PySem.W.nsIn K mainGlobals "list" = some none)(z_int:PySem.W.nsIn K mainGlobals "int" = some none)(z_bool:PySem.W.nsIn K mainGlobals "bool" = some none)(z_sorted:PySem.W.nsIn K mainGlobals "sorted" = some none)(z_sum:PySem.W.nsIn K mainGlobals "sum" = some none)(z_enumerate:PySem.W.nsIn K mainGlobals "enumerate" = some none)(z_max:PySem.W.nsIn K mainGlobals "max" = some none)(z_min:PySem.W.nsIn K mainGlobals "min" = some none)(z_set:PySem.W.nsIn K mainGlobals "set" = some none)(z_all:PySem.W.nsIn K mainGlobals "all" = some none)(z_any:PySem.W.nsIn K mainGlobals "any" = some none)(z_dict:PySem.W.nsIn K mainGlobals "dict" = some none){Zn:AD}(ac_Search:PySem.W.nsIn K mainGlobals "Search" = some (some (.ref Zn)))(xpg:plainGet K Zn Str.empty=true)(xhd:hasDictIn K Zn=true)(xpo:plainOver K Zn=true)(xsa:findIn K (.ref Zn) "__setattr__" = some (some (.builtin "object.__setattr__"))){Z9:AD}{oc_iinit kV_iinit dc_iinit pm_iinit cd_iinit ct_iinit:Value}{od_iinit an_iinit:Option AD}{sl_iinit:Array (Option Value)}(xfi_init:findIn K (.ref Zn) "__init__" = some (some (.ref Z9)))(li_init:K.lookup Z9=some ⟨oc_iinit,od_iinit,.func (PySem.W.fnOf "__init__" "Search.__init__" (Xj YS) (Z0 YS) (Zg YS) .none kV_iinit dc_iinit pm_iinit an_iinit cd_iinit ct_iinit),sl_iinit⟩)(ci_init:codeIn K cd_iinit "Search.__init__" = true)(ki_init:keepIn K (.ref Z9)=true)(xfn_init:PySem.W.isFn K (.ref Z9)=true){YC:AD}{oc_ileast kV_ileast dc_ileast pm_ileast cd_ileast ct_ileast:Value}{od_ileast an_ileast:Option AD}{sl_ileast:Array (Option Value)}(xfi_least:findIn K (.ref Zn) "least" = some (some (.ref YC)))(li_least:K.lookup YC=some ⟨oc_ileast,od_ileast,.func (PySem.W.fnOf "least" "Search.least" (Xj Wl) (Z0 Wl) (Zg Wl) .none kV_ileast dc_ileast pm_ileast an_ileast cd_ileast ct_ileast),sl_ileast⟩)(ci_least:codeIn K cd_ileast "Search.least" = true)(ki_least:keepIn K (.ref YC)=true)(xfn_least:PySem.W.isFn K (.ref YC)=true){Y9:AD}{oc_itried kV_itried dc_itried pm_itried cd_itried ct_itried:Value}{od_itried an_itried:Option AD}{sl_itried:Array (Option Value)}(xfi_tried:findIn K (.ref Zn) "tried" = some (some (.ref Y9)))(li_tried:K.lookup Y9=some ⟨oc_itried,od_itried,.func (PySem.W.fnOf "tried" "Search.tried" (Xj Wj) (Z0 Wj) (Zg Wj) .none kV_itried dc_itried pm_itried an_itried cd_itried ct_itried),sl_itried⟩)(ci_tried:codeIn K cd_itried "Search.tried" = true)(ki_tried:keepIn K (.ref Y9)=true)(xfn_tried:PySem.W.isFn K (.ref Y9)=true){Xc:AD}{oc_igrow kV_igrow dc_igrow pm_igrow cd_igrow ct_igrow:Value}{od_igrow an_igrow:Option AD}{sl_igrow:Array (Option Value)}(xfi_grow:findIn K (.ref Zn) "grow" = some (some (.ref Xc)))(li_grow:K.lookup Xc=some ⟨oc_igrow,od_igrow,.func (PySem.W.fnOf "grow" "Search.grow" (Xj Jd) (Z0 Jd) (Zg Jd) .none kV_igrow dc_igrow pm_igrow an_igrow cd_igrow ct_igrow),sl_igrow⟩)(ci_grow:codeIn K cd_igrow "Search.grow" = true)(ki_grow:keepIn K (.ref Xc)=true)(xfn_grow:PySem.W.isFn K (.ref Xc)=true)(xmk:makesIn K Zn=true)(xkc:keepIn K (.ref Zn)=true)(xnf:findIn K (.ref Zn) "found" = some none)(xnb:findIn K (.ref Zn) "best" = some none)(nd:zgE K=true)(tt:kitOne K (.type "tuple") (.type "tuple")=some true)(ib:kitOne K (.type "int") (.type "bool")=some false):
  ∃ fd:FuncData,(∀(s:SH)(v:Value),BindsTo s fd ⟨[v],[]⟩ [("script",v)])/\((∀ p∈tabs,K.lookup p.1=none)/\(∀ p∈tabs,isCodeTable h p.1)/\(tabs.map (·.1)).Nodup)/\∀ base:Heap,K.In base->base.Ns mainGlobals mg->Bs K mg base->Wb l.prog w K mg base CX0 18 fa fd ["script"] (Uv K tabs):=by
 have e:=hfa.symm.trans (mg_of X G pz22.a);cases e;exact⟨PySem.W.fnOf "law" "law" (Xj zbd) (Z0 zbd) (Zg zbd) .none kVz22 dcz22 pmz22 anz22 cdz22 ctz22,λs v=>.of_eq rfl,⟨(List.forall_mem_cons.mpr ⟨nz6,(λ_ h=>nomatch h)⟩),(List.forall_mem_cons.mpr ⟨zgO X hz6,(λ_ h=>nomatch h)⟩),by decide⟩,λbase _ _ M=>zlN (WY (st:=zbd) pz22.l pz22.c pz22.k)
  ⟨pz0.go2 X G λ_ _ _ _ _ _ _ _=>rfl,
  pz1.go3 X G λ_ _ _ _ _ _ _ _ _=>rfl,
  pz2.go1 X G λ_ _ _ _ _ _ _=>rfl,
  pz3.go3 X G λ_ _ _ _ _ _ _ _ _=>rfl,
  pz4.go1 X G λ_ _ _ _ _ _ _=>rfl,
  pz5.go2 X G λ_ _ _ _ _ _ _ _=>rfl,
   ⟨fz6,_,(WY (st:=J6) pz6.l pz6.c pz6.k),(WY (st:=J6) pz6.l pz6.c pz6.k).binds (ps:=["known"]) λ_ _ _ _ _ _ us hl=>match us,hl with | [_],_=>rfl,mg_of X G pz6.a⟩,
  pz7.go2 X G λ_ _ _ _ _ _ _ _=>rfl,
  pz8.go1 X G λ_ _ _ _ _ _ _=>rfl,
  pz9.go1 X G λ_ _ _ _ _ _ _=>rfl,
  pz10.go1 X G λ_ _ _ _ _ _ _=>rfl,
  pz11.go2 X G λ_ _ _ _ _ _ _ _=>rfl,
  pz12.go2 X G λ_ _ _ _ _ _ _ _=>rfl,
  pz13.go2 X G λ_ _ _ _ _ _ _ _=>rfl,
  pz14.go2 X G λ_ _ _ _ _ _ _ _=>rfl,
  pz15.go2 X G λ_ _ _ _ _ _ _ _=>rfl,
  pz16.go3 X G λ_ _ _ _ _ _ _ _ _=>rfl,
  pz17.go3 X G λ_ _ _ _ _ _ _ _ _=>rfl,
  pz18.go2 X G λ_ _ _ _ _ _ _ _=>rfl,
  pz19.go2 X G λ_ _ _ _ _ _ _ _=>rfl,
  pz20.go2 X G λ_ _ _ _ _ _ _ _=>rfl,
  pz21.go1 X G λ_ _ _ _ _ _ _=>rfl,
   98,94,qz6,hz6,
   N7 X G z_len,
   N7 X G z_range,
   N7 X G z_tuple,
   N7 X G z_isinstance,
   N7 X G z_list,
   N7 X G z_int,
   N7 X G z_bool,
   N7 X G z_sorted,
   N7 X G z_sum,
   N7 X G z_enumerate,
   N7 X G z_max,
   N7 X G z_min,
   N7 X G z_set,
   N7 X G z_all,
   N7 X G z_any,
   N7 X G z_dict,
   tt,
   ib,
   Zn,mg_of X G ac_Search,⟨xpg,xhd,xpo,xsa⟩,Z9,_,(WY (st:=YS) li_init ci_init ki_init),(WY (st:=YS) li_init ci_init ki_init).binds (ps:=["self"]) (λ_ _ _ _ _ _ us hl=>match us,hl with | [_],_=>rfl),YC,_,(WY (st:=Wl) li_least ci_least ki_least),(WY (st:=Wl) li_least ci_least ki_least).binds (ps:=["self", "known"]) (λ_ _ _ _ _ _ us hl=>match us,hl with | [_,_],_=>rfl),⟨xfi_least,xfn_least,ki_least⟩,Y9,_,(WY (st:=Wj) li_tried ci_tried ki_tried),(WY (st:=Wj) li_tried ci_tried ki_tried).binds (ps:=["self", "known"]) (λ_ _ _ _ _ _ us hl=>match us,hl with | [_,_],_=>rfl),⟨xfi_tried,xfn_tried,ki_tried⟩,Xc,_,(WY (st:=Jd) li_grow ci_grow ki_grow),(WY (st:=Jd) li_grow ci_grow ki_grow).binds (ps:=["self", "tree", "known"]) (λ_ _ _ _ _ _ us hl=>match us,hl with | [_,_,_],_=>rfl),⟨xfi_grow,xfn_grow,ki_grow⟩,⟨xmk,xfi_init,xfn_init,xkc⟩,xnf,xnb⟩ nd M⟩
def walk{l:PySem.W.OpenLaw}{q:Program}{loose:List Str}{XP:(Str->Option Value)->Heap->Prop}{YP:World->Heap->Prop}{d:DefRec}{K:Params->FG}(hn:l.most=some 63)(hdf:d.params.defaults=[])(hY:∀(w:World)(h:Heap),YP w h->(K w.params).In h/\∀ p∈tabs,h.get? p.1=some {cls:=.none,data:=.fields #[]})(F:∀(w:World)(mg:Str->Option Value)(fa:AD)(h:Heap),(K w.params).In h->h.Ns mainGlobals mg->mg d.name=some (.ref fa)->
   ∃ fd:FuncData,(∀(s:SH)(u:Value),BindsTo s fd ⟨[u],[]⟩ [("script",u)])/\((∀ p∈tabs,(K w.params).lookup p.1=none)/\(∀ p∈tabs,isCodeTable h p.1)/\(tabs.map (·.1)).Nodup)/\∀ base:Heap,(K w.params).In base->base.Ns mainGlobals mg->Bs (K w.params) mg base->Wb l.prog w (K w.params) mg base CX0 18 fa fd ["script"] (Uv (K w.params) tabs)):
  PySem.W.WalkO q loose XP YP l.row.toRowW d [] (λf vs=>PySem.call f vs):=
 L2.zhO (n:=63) (k:=18) (x:= "script") (sp:=λw=>Uv (K w.params) tabs) (λ_=>tabs) hn (by decide) hdf ⟨rfl,by decide,by decide⟩ hY F (λ_ _ a ns hl hT hS=>⟨a,ns,rfl,hS,hl,hT,λ_=>rfl⟩)
end K37
def PySem.W.Fast.tw17447538210025596163:Nat:=0
def PySem.W.Fast.tw6788128887130468842:Nat:=0
def PySem.W.Fast.tw13846377697653057723:Nat:=0
def PySem.W.Fast.tw14885875949751755966:Nat:=0
def PySem.W.Fast.tw5885381128536843902:Nat:=0
def PySem.W.Fast.tw4653815534185028617:=0
def PySem.W.Fast.tw18308919648166195451:=0
def PySem.W.Fast.tw15769187940461671457:=0
def PySem.W.Fast.tw15874921075119827301:=0
def PySem.W.Fast.tw8881392752540633012:=0
def PySem.W.Fast.tw10209533393745686042:=0
def PySem.W.Fast.tw11768473245997203860:=0
def PySem.W.Fast.tw11418563123847943956:=0
def PySem.W.Fast.tw3470595993523674009:=0
def PySem.W.Fast.tw10300824487478421136:=0
def PySem.W.Fast.tw13485333954900177958:=0
def PySem.W.Fast.tw13720665500222795830:=0
def PySem.W.Fast.tw1234580930494432276:=0
def PySem.W.Fast.tw9135095311236616668:=0
def PySem.W.Fast.tw6351061092588082459:=0
def PySem.W.Fast.tw10149074495593536748:=0
def PySem.W.Fast.tw12617250119467223386:=0
def PySem.W.Fast.tw5032023146707963239:=0
def PySem.W.Fast.tw6050512647847388218:=0
def PySem.W.Fast.tw7752370932230588527:=0
def PySem.W.Fast.tw17705547224834196266:=0
def PySem.W.Fast.tw15828759107936962523:=0
def PySem.W.Fast.tw7268220531644912528:=0
def PySem.W.Fast.tw15158724857062993515:=0
def PySem.W.Fast.tw2268424430147656660:=0
def PySem.W.Fast.tw9876531178012732097:=0
def PySem.W.Fast.tw8123922089052036814:=0
def PySem.W.Fast.tw10448372328033192128:=0
def PySem.W.Fast.tw18374649965983950780:=0
def PySem.W.Fast.tw467110589162109256:=0
def PySem.W.Fast.tw1597729784169751877:=0
def PySem.W.Fast.tw7398849721730612415:=0
def PySem.W.Fast.tw1214010418116094590:=0
def PySem.W.Fast.tw11478772195056996420:=0
def PySem.W.Fast.tw7730981275742734142:=0
def PySem.W.Fast.tw14875229753661415631:=0
def PySem.W.Fast.tw11116514726023588914:=0
def PySem.W.Fast.tw8051197782337539683:=0
def PySem.W.Fast.tw3391835648806447526:=0
def PySem.W.Fast.tw6661109338965692705:=0
def PySem.W.Fast.tw4155898310072605810:=0
def PySem.W.Fast.tw17417648212988818911:=0
def PySem.W.Fast.tw6673096960450166320:=0
def PySem.W.Fast.tw4416332377144137906:=0
def PySem.W.Fast.tw3353010515456244704:=0
def PySem.W.Fast.tw13216571812576136273:=0
def PySem.W.Fast.tw6793305850365616351:=0
def PySem.W.Fast.tw5497456806989399848:=0
def PySem.W.Fast.tw395754002008156009:=0
def PySem.W.Fast.tw15924321152636282053:=0
def PySem.W.Fast.tw816400177468338032:=0
def PySem.W.Fast.tw6813147524465131027:=0
def PySem.W.Fast.tw4232673606168202523:=0
def PySem.W.Fast.tw15955536976659457670:=0
def PySem.W.Fast.tw18400889283821916965:=0
def PySem.W.Fast.tw11989594259156573355:=0
def PySem.W.Fast.tw11732642990424105963:=0
def PySem.W.Fast.tw98833043541152412:=0
def PySem.W.Fast.tw1926953317407257398:=0
def PySem.W.Fast.tw1393027637386072039:=0
def PySem.W.Fast.tw12850401597315859771:=0
def PySem.W.Fast.tw12974953062788557079:=0
def PySem.W.Fast.tw9570198299160896311:=0
def PySem.W.Fast.tw18080191589379388439:=0
def PySem.W.Fast.tw14547339978307563110:=0
def PySem.W.Fast.tw1152152167204164279:=0
def PySem.W.Fast.tw5474238479730958680:=0
def PySem.W.Fast.tw14992033102565753868:=0
def PySem.W.Fast.tw14848513643608429798:=0
open PySem PySem.W PyProof.Rows
set_option maxRecDepth 100000 in
set_option maxHeartbeats 0 in
theorem PySem.Challenge.cw_ordertext_k37_least_looks_holds : PySem.Challenge.rw_ordertext_k37_least_looks.Holds := by
 w_on;o_law;k_head;(case hw=>w_witness2)
 k_fill
 refine K37.walk (l:=PySem.Challenge.rw_ordertext_k37_least_looks) rfl rfl (λw h Y=>⟨PySem.W.km_in_of Y,(List.forall_mem_cons.mpr ⟨PySem.W.km_tabs_of Y _ (by first | k_mem | simp),(λ_ h=>nomatch h)⟩)⟩) ?F
 case F=>
  intro w mg fa h KX G hmg;refine' K37.zme KX G hmg ?pz0 ?pz1 ?pz2 ?pz3 ?pz4 ?pz5 ?pz6 ?pz7 ?pz8 ?pz9 ?q19 ?q13 ?q14 ?q1c ?q18 ?q17 ?q11 ?q1a ?q1d ?q15 ?q16 ?q1b ?q12 ?qz6 ?hz6 ?nz6 ?q0x ?q0m ?q0l ?q00 ?q0s ?q0u ?q0q ?q0c ?q10 ?q01 ?q0y ?q0v ?q0w ?q0z ?q0t ?q0r ?q04 ?xpg ?xhd ?xpo ?xsa ?q0a ?q0i ?q0o ?q0k ?q0f ?q02 ?q09 ?q0b ?q0g ?q06 ?q05 ?q0d ?q0e ?q08 ?q03 ?q07 ?q0j ?q0n ?q0p ?q0h ?xmk ?xkc ?xnf ?xnb ?nd ?tt ?ib
  case pz0|pz1|pz2|pz3|pz4|pz5|pz7|pz8|pz9|q19|q13|q14|q1c|q18|q17|q11|q1a|q1d|q15|q16|q1b=>exact⟨_,_,_,_,_,_,_,_,_,_,by k_is,by k_is,by k_is,by k_is⟩
  (case pz6|q12=>exact⟨by k_is,by k_is,by k_is,by k_is⟩)
  (case qz6|hz6|nz6=>first | rfl | kernel_rfl | k_is)
  (case q0x|q0m|q0l|q00|q0s|q0u|q0q|q0c|q10|q01|q0y|q0v|q0w|q0z|q0t|q0r|q04=>k_is)
  (case xpg|xhd|xpo|xsa|q0a=>first | kit_is | k_is | rfl | kernel_rfl)
  (case q0i=>k_is)
  (case q0o|q0k|q0f|q02=>first | kit_is | k_is | rfl | kernel_rfl)
  (case q09=>k_is)
  (case q0b|q0g|q06|q05=>first | kit_is | k_is | rfl | kernel_rfl)
  (case q0d=>k_is)
  (case q0e|q08|q03|q07=>first | kit_is | k_is | rfl | kernel_rfl)
  (case q0j=>k_is)
  (case q0n|q0p|q0h|xmk|xkc|xnf|xnb=>first | kit_is | k_is | rfl | kernel_rfl)
  (case nd=>first | kernel_rfl | k_is)
  (case tt|ib=>first | kit_is | k_is | rfl)
