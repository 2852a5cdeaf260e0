import PyProof.Rows.All
import Wide.All
import OpenK.AllK
import Wide.FinOn
import Lean
import PyProof.EqAt
import PyProof.EqKinds
import PyProof.TupleCall
import PySem.Challenge.RW_ordertext_k36_tree_count
set_option Elab.async false
set_option linter.all false
set_option maxRecDepth 100000
open PySem.Around (under_plainId)
open Array (getD_eq_getD_getElem? getElem?_toList length_toList perm_iff_toList_perm)
open Bool (and_eq_true eq_false_iff false_eq_true noConfusion not_eq_true' or_eq_true)
open PySem.Calls (spliced_cons spliced_nil)
open PySem.Heap (IsSliceOf SameBut get?_push_of_some get?_push_size get?_update_other get?_update_self lt_size size_push)
open Int (emod_lt_of_pos emod_nonneg eq_ofNat_of_zero_le toNat_natCast)
open List (all_eq_true any_cons append_assoc append_nil drop_succ_cons drop_zero ext_getElem? filterMap_cons filter_append filter_congr filter_map flatMap_append flatMap_cons flatMap_singleton flatten_cons foldl_cons forIn_nil getD_eq_getElem?_getD getElem?_append_left getElem?_append_right getElem?_cons_succ getElem?_map getElem?_range getElem?_set_ne getElem?_set_self getElem_mem getElem_of_mem length_append length_cons length_drop length_filter_le length_map length_pos_iff length_range length_replicate length_reverse length_set length_take lookup_cons map_append map_congr_left map_cons map_drop map_id map_map map_take mem_append mem_append_left mem_append_right mem_cons mem_cons_of_mem mem_cons_self mem_filter mem_flatMap mem_map mem_map_of_mem mem_of_getElem? mem_of_mem_drop mem_range mem_replicate mem_singleton mem_singleton_self nodup_append nodup_cons nodup_nil nodup_range not_mem_nil of_mem_zip pairwise_append pairwise_cons pairwise_map prefix_append range_succ replicate_succ reverse_cons size_toArray sum_cons take_length take_succ_eq_append_getElem)
open Nat (le_add_right le_of_eq le_of_lt le_succ lt_irrefl lt_succ_of_lt lt_succ_self lt_trichotomy mod_lt mul_le_mul mul_le_mul_right ne_of_gt ne_of_lt not_lt_zero pow_le_pow_right pow_succ sub_self succ_mul zero_le)
open Option (isSome_iff_exists map_some)
open PySem.F (plainAttrs_list)
open PySem.Spec (sameAll samePairs same_self)
open PySem.W (KatTups codeIn findIn instObj kat_cons kat_go kat_no kat_yes keepIn kia_one kitOne kitx_dict kitx_list kitx_tuple lookIn methodObj mg_none_of mg_of plainGet)
open PySem.Shared (TypeIs)
noncomputable section
set_option maxHeartbeats 4000000
namespace StbG
open PySem PyProof.Rows
noncomputable def R (f:Keyed->Int) (xs:Array Keyed) (i:Nat):Int:=match xs[i]? with
 | some p=>f p
 | none=>0
theorem zd3 {f:Keyed->Int}{xs ys:Array Keyed}{i j:Nat}(h:xs[i]?=ys[j]?):R f xs i=R f ys j:=by unfold R;rw[h]
structure SB (κ:SortKind)(a₀:Array Keyed)(st:SortSt):Prop where
 perm:(arrOf st).Perm a₀
 kind:kindOf st=κ
 failed:failedOf st=none
 pend:pendingOf st = #[]
theorem SB.size {κ:SortKind}{a₀:Array Keyed}{st:SortSt}(h:SB κ a₀ st):(arrOf st).size=a₀.size:=h.perm.size_eq
theorem SB.setArr {κ:SortKind}{a₀:Array Keyed}{st:SortSt}(h:SB κ a₀ st){xs:Array Keyed}(hp:xs.Perm (arrOf st)):SB κ a₀ (PyProof.Rows.setArr st xs):=⟨hp.trans h.perm,h.kind,h.failed,h.pend⟩
def Srt (ρ:Keyed->Int)(xs:Array Keyed)(n:Nat):Prop:=∀ i j,i<=j->j<n->R ρ xs i<=R ρ xs j
def Up (ρ τ:Keyed->Int)(xs:Array Keyed)(n:Nat):Prop:=∀ i j,i<j->j<n->R ρ xs i<R ρ xs j\/(R ρ xs i=R ρ xs j/\R τ xs i<=R τ xs j)
def Dn (ρ τ:Keyed->Int)(xs:Array Keyed)(n:Nat):Prop:=∀ i j,i<j->j<n->R ρ xs j<R ρ xs i\/(R ρ xs i=R ρ xs j/\R τ xs j<=R τ xs i)
def Rs (τ:Keyed->Int)(N:Nat)(xs:Array Keyed)(n:Nat):Prop:=∀ i j,i<j->n<=j->j<N->R τ xs i<=R τ xs j
variable {ρ τ:Keyed->Int}{κ:SortKind}
theorem Rs.mono {N n m:Nat}{xs:Array Keyed}(h:Rs τ N xs n)(k:n<=m):Rs τ N xs m:=λi j a b c=>h i j a (by omega) c
theorem Up.le {xs:Array Keyed}{n:Nat}(h:Up ρ τ xs n):Srt ρ xs n:=λi j hij hj=>by
 rcases Nat.lt_or_eq_of_le hij with q | rfl
 ·rcases h i j q hj with z | z <;> omega
 ·exact Int.le_refl _
theorem zhy {xs:Array Keyed}{a n N:Nat}(hu:Up ρ τ xs a)(hr:Rs τ N xs a)(hs:Srt ρ xs n)(hn:n<=N):Up ρ τ xs n:=λi j hij hj=>by
 have le:=hs i j (le_of_lt hij) hj
 by_cases h:j<a
 ·exact hu i j hij h
 ·have:=hr i j hij (by omega) (by omega)
  omega
theorem zfn {xs:Array Keyed}{i j:Nat}(hj:j<=xs.size)(k:Nat):(i<=k/\k<j->R ρ (mirror xs i j ((j-i) / 2)) k=R ρ xs (i+j-1-k)/\R τ (mirror xs i j ((j-i) / 2)) k=R τ xs (i+j-1-k))/\
  (¬ (i<=k/\k<j)->R ρ (mirror xs i j ((j-i) / 2)) k=R ρ xs k/\R τ (mirror xs i j ((j-i) / 2)) k=R τ xs k):=by
 have e:=getElem?_mirror_all (i:=i) hj k
 refine ⟨λh=>?_,λh=>?_⟩
 ·rw[if_pos h] at e;exact ⟨zd3 e,zd3 e⟩
 ·rw[if_neg h] at e;exact ⟨zd3 e,zd3 e⟩
theorem zjd {xs:Array Keyed}{src d:Nat}(hs:src<xs.size)(hd:d<=src)(k:Nat):(k=src-d->R ρ (bubble xs src d) k=R ρ xs src/\R τ (bubble xs src d) k=R τ xs src)/\
  (src-d<k/\k<=src->R ρ (bubble xs src d) k=R ρ xs (k-1)/\R τ (bubble xs src d) k=R τ xs (k-1))/\(k<src-d\/src<k->R ρ (bubble xs src d) k=R ρ xs k/\R τ (bubble xs src d) k=R τ xs k):=by
 have e:=getElem?_bubble hs d hd k
 refine ⟨λh=>?_,λh=>?_,λh=>?_⟩
 ·rw[if_pos h] at e;exact ⟨zd3 e,zd3 e⟩
 ·rw[if_neg (by omega),if_pos h] at e;exact ⟨zd3 e,zd3 e⟩
 ·rw[if_neg (by omega),if_neg (by omega)] at e;exact ⟨zd3 e,zd3 e⟩
theorem zdI {xs:Array Keyed}{g x:Nat}(hx:x<=xs.size)(hg:g<=x)(h1:Dn ρ τ xs g)(h2:∀ i,i<g->g<x->R ρ xs g<R ρ xs i)(h3:∀ i,g<=i->i<x->R ρ xs i=R ρ xs g)(h4:∀ i j,i<j->g<=i->j<x->R τ xs i<=R τ xs j):
  Dn ρ τ (mirror xs g x ((x-g) / 2)) x:=λi j hij hj=>by
 have mi:=zfn (ρ:=ρ) (τ:=τ) (i:=g) hx i
 have mj:=zfn (ρ:=ρ) (τ:=τ) (i:=g) hx j
 by_cases c1:g<=i
 ·obtain ⟨a1,a2⟩:=mi.1 ⟨c1,by omega⟩
  obtain ⟨b1,b2⟩:=mj.1 ⟨by omega,hj⟩
  rw[a1,a2,b1,b2]
  have q1:=h3 (g+x-1-i) (by omega) (by omega)
  have q2:=h3 (g+x-1-j) (by omega) (by omega)
  exact .inr ⟨by omega,h4 _ _ (by omega) (by omega) (by omega)⟩
 ·obtain ⟨a1,a2⟩:=mi.2 (by omega)
  rw[a1,a2]
  by_cases c2:g<=j
  ·obtain ⟨b1,b2⟩:=mj.1 ⟨c2,hj⟩
   rw[b1,b2]
   have q2:=h3 (g+x-1-j) (by omega) (by omega)
   have:=h2 i (by omega) (by omega)
   exact .inl (by omega)
  ·obtain ⟨b1,b2⟩:=mj.2 (by omega)
   rw[b1,b2]
   exact h1 i j hij (by omega)
theorem U3 {xs:Array Keyed}{N g x:Nat}(hx:x<=xs.size)(h:Rs τ N xs x):Rs τ N (mirror xs g x ((x-g) / 2)) x:=λi j hij h1 h2=>by
 have mi:=zfn (ρ:=τ) (τ:=τ) (i:=g) hx i
 obtain ⟨_,b2⟩:=(zfn (ρ:=τ) (τ:=τ) (i:=g) hx j).2 (by omega)
 rw[b2]
 by_cases c1:g<=i/\i<x
 ·rw[(mi.1 c1).2];exact h _ _ (by omega) (by omega) h2
 ·rw[(mi.2 c1).2];exact h _ _ hij (by omega) h2
section
variable {prog:Program}{w:World}{A:Around}{E:Value->Shared->Prop}{s:Shared}{a₀:Array Keyed}
def Cmp (prog:Program)(w:World)(A:Around)(E:Value->Shared->Prop)(s:Shared)(ρ:Keyed->Int)(κ:SortKind)(a₀:Array Keyed):Prop:=∀ {st:SortSt}{i j:Nat}{Q:Option Bool->SortSt->Prop},SB κ a₀ st->i<a₀.size->j<a₀.size->Q (some (decide (R ρ (arrOf st) i<R ρ (arrOf st) j))) st->wpS (model prog w) A E s (ltAt' i j) Q st
theorem zhn {st:SortSt}{a nrem:Nat}{Q:AscSt->SortSt->Prop}(ik:Cmp prog w A E s ρ κ a₀)(hn:nrem<=a₀.size)(a1:1<=a)(an:a<=nrem)(hB:SB κ a₀ st)(hs:Srt ρ (arrOf st) a)
  (k:∀ n,a<=n->n<=nrem->Srt ρ (arrOf st) n->(n=nrem\/R ρ (arrOf st) n<R ρ (arrOf st) (n-1))->Q (none,n) st):wpS (model prog w) A E s (ascLoop a nrem) Q st:=by
 unfold ascLoop
 refine wpS_forRange (I:=λx c s2=>s2=st/\c=(none,x)/\Srt ρ (arrOf st) x) ?turn ?over ⟨rfl,rfl,hs⟩
 case over=>
  rintro c s2 ⟨rfl,rfl,h⟩
  rw[Nat.max_eq_right an] at h ⊢
  exact k nrem an (Nat.le_refl _) h (.inl rfl)
 case turn=>
  rintro x c s2 x1 x2 ⟨rfl,rfl,h⟩
  dsimp only
  refine wpS_bind (ik hB (by omega) (by omega) ?_)
  by_cases less:R ρ (arrOf s2) x<R ρ (arrOf s2) (x-1)
  ·rw[decide_eq_true less]
   simp only[if_true]
   exact wpS_pure (k x x1 (by omega) h (.inr less))
  ·rw[decide_eq_false less]
   simp only[false_eq_true,if_false]
   refine wpS_pure ⟨rfl,rfl,λi j hij hj=>?_⟩
   by_cases c:j<x
   ·exact h i j hij c
   ·have e:j=x:=by omega
    subst e
    by_cases e2:i=j
    ·rw[e2];exact Int.le_refl _
    ·have:=h i (j-1) (by omega) (by omega)
     omega
abbrev Good (ρ τ:Keyed->Int)(κ:SortKind)(a₀:Array Keyed)(st:SortSt)(n:Nat):Prop:=SB κ a₀ st/\Up ρ τ (arrOf st) n/\Rs τ a₀.size (arrOf st) n
theorem ze5 {st:SortSt}{n nrem:Nat}{Q:Option Nat->SortSt->Prop}(ik:Cmp prog w A E s ρ κ a₀)(hn:nrem<=a₀.size)(n1:1<=n)(nn:n<=nrem)(hB:SB κ a₀ st)(hd:Dn ρ τ (arrOf st) n)(hr:Rs τ a₀.size (arrOf st) n)
  (k:∀ m st',Good ρ τ κ a₀ st' m->1<=m->m<=nrem->Q (some m) st'):wpS (model prog w) A E s (tail3 n nrem) Q st:=by
 have hsz:n<=(arrOf st).size:=by rw[hB.size];omega
 have u:Up ρ τ (mirror (arrOf st) 0 n ((n-0) / 2)) n:=λi j hij hj=>by
  obtain ⟨a1,a2⟩:=(zfn (ρ:=ρ) (τ:=τ) (i:=0) hsz i).1 ⟨zero_le _,by omega⟩
  obtain ⟨b1,b2⟩:=(zfn (ρ:=ρ) (τ:=τ) (i:=0) hsz j).1 ⟨zero_le _,hj⟩
  rw[a1,a2,b1,b2]
  have:=hd (0+n-1-j) (0+n-1-i) (by omega) (by omega)
  omega
 have r:Rs τ a₀.size (mirror (arrOf st) 0 n ((n-0) / 2)) n:=U3 hsz hr
 unfold tail3
 refine wpS_bind (wpS_reverse (wpS_bind (zhn ik hn n1 nn (hB.setArr (mirror_perm _ _ _ _)) (Up.le u) λm m1 m2 sm _=>?_)))
 exact wpS_pure (k m _ ⟨hB.setArr (mirror_perm _ _ _ _),zhy u r sm (by omega),Rs.mono r m1⟩ (by omega) m2)
structure zb5 (ρ τ:Keyed->Int)(κ:SortKind)(a₀:Array Keyed)(st:SortSt)(x g:Nat):Prop where
 b:SB κ a₀ st
 lt:g<x
 d:Dn ρ τ (arrOf st) g
 hi:∀ i,i<g->R ρ (arrOf st) g<R ρ (arrOf st) i
 eq:∀ i,g<=i->i<x->R ρ (arrOf st) i=R ρ (arrOf st) g
 r:Rs τ a₀.size (arrOf st) g
theorem zb5.close {st:SortSt}{x g:Nat}(f:zb5 ρ τ κ a₀ st x g)(hx:x<=a₀.size):SB κ a₀ (setArr st (mirror (arrOf st) g x ((x-g) / 2)))/\Dn ρ τ (mirror (arrOf st) g x ((x-g) / 2)) x/\Rs τ a₀.size (mirror (arrOf st) g x ((x-g) / 2)) x/\∀ k,R ρ (mirror (arrOf st) g x ((x-g) / 2)) k=R ρ (arrOf st) k:=by
 have hs:x<=(arrOf st).size:=by rw[f.b.size];exact hx
 have lt:=f.lt
 refine ⟨f.b.setArr (mirror_perm _ _ _ _),zdI hs (le_of_lt lt) f.d (λi h _=>f.hi i h) f.eq λi j a b c=>f.r i j a (by omega) (by omega),U3 hs (f.r.mono (le_of_lt lt)),λk=>?_⟩
 by_cases c:g<=k/\k<x
 ·rw[((zfn (ρ:=ρ) (τ:=τ) (i:=g) hs k).1 c).1,f.eq _ (by omega) (by omega),f.eq k c.1 c.2]
 ·rw[((zfn (ρ:=ρ) (τ:=τ) (i:=g) hs k).2 c).1]
theorem zb5.one {st:SortSt}{x:Nat}(f:zb5 ρ τ κ a₀ st x (x-1)):Dn ρ τ (arrOf st) x:=λi j hij hj=>by
 have lt:=f.lt
 by_cases c:j<x-1
 ·exact f.d i j hij c
 ·have e:j=x-1:=by omega
  subst e
  exact .inl (f.hi i hij)
theorem zio {st:SortSt}{n nrem:Nat}{Q:DescSt->SortSt->Prop}(ik:Cmp prog w A E s ρ κ a₀)(hn:nrem<=a₀.size)(nn:n+1<=nrem)(f0:zb5 ρ τ κ a₀ st (n+1) n)
  (k:∀ m q st',zb5 ρ τ κ a₀ st' m (m-(q+1))->q+1<=m->m<=nrem->Q (none,m,q) st'):wpS (model prog w) A E s (descLoop (n+1) nrem) Q st:=by
 unfold descLoop
 refine wpS_forRange (I:=λx c st' => ∃ q,c=(none,x,q)/\zb5 ρ τ κ a₀ st' x (x-(q+1))/\q+1<=x) ?turn ?over ⟨0,rfl,by simpa using f0,by omega⟩
 case over=>
  rintro c st' ⟨q,rfl,f,hq⟩
  rw[show max (n+1) nrem=nrem from Nat.max_eq_right nn] at f hq ⊢
  exact k nrem q st' f hq (Nat.le_refl _)
 case turn=>
  rintro x c st' hx1 hx2 ⟨q,rfl,f,hq⟩
  dsimp only
  have lx:R ρ (arrOf st') (x-1)=R ρ (arrOf st') (x-(q+1)):=f.eq _ (by omega) (by omega)
  refine wpS_bind (ik f.b (by omega) (by omega) ?_)
  by_cases less:R ρ (arrOf st') x<R ρ (arrOf st') (x-1)
  ·rw[decide_eq_true less]
   simp only[if_true]
   have nextF:∀ st2,SB κ a₀ st2->Dn ρ τ (arrOf st2) x->Rs τ a₀.size (arrOf st2) x->(∀ z,R ρ (arrOf st2) z=R ρ (arrOf st') z)->zb5 ρ τ κ a₀ st2 (x+1) (x+1-(0+1)):=λst2 b d r e=>by
    refine ⟨b,by omega,by simpa using d,λi hi=>?_,λi h1 h2=>?_,by simpa using r⟩
    ·have hi' : i<x:=by omega
     rw[show x+1-(0+1)=x by omega,e,e]
     by_cases c:i<x-(q+1)
     ·have:=f.hi i c;omega
     ·have:=f.eq i (by omega) hi';omega
    ·have:i=x+1-(0+1):=by omega
     rw[this]
   by_cases hq0:q>0
   ·rw[if_pos hq0]
    obtain ⟨c1,c2,c3,c4⟩:=f.close (by omega)
    exact wpS_bind (wpS_reverse (wpS_pure ⟨0,rfl,nextF _ c1 c2 c3 c4,by omega⟩))
   ·rw[if_neg hq0]
    have e0:q=0:=by omega
    subst e0
    exact wpS_pure ⟨0,rfl,nextF st' f.b (zb5.one (by simpa using f)) (f.r.mono (by omega)) λ_=>rfl,by omega⟩
  ·rw[decide_eq_false less]
   simp only[false_eq_true,if_false]
   refine wpS_bind (ik f.b (by omega) (by omega) ?_)
   by_cases more:R ρ (arrOf st') (x-1)<R ρ (arrOf st') x
   ·rw[decide_eq_true more]
    simp only[if_true]
    exact wpS_pure (k x q st' f hq (by omega))
   ·rw[decide_eq_false more]
    simp only[false_eq_true,if_false]
    have ee:x+1-(q+1+1)=x-(q+1):=by omega
    have f' : zb5 ρ τ κ a₀ st' (x+1) (x-(q+1)):=⟨f.b,by omega,f.d,f.hi,λi h1 h2=>by
     by_cases c:i<x
     ·exact f.eq i h1 c
     ·have:i=x:=by omega
      subst this;omega,f.r⟩
    exact wpS_pure ⟨q+1,rfl,by rw[ee];exact f',by omega⟩
theorem V5 {st:SortSt}{n nrem:Nat}{Q:Option Nat->SortSt->Prop}(ik:Cmp prog w A E s ρ κ a₀)(hn:nrem<=a₀.size)(nn:n+1<=nrem)(f0:zb5 ρ τ κ a₀ st (n+1) n)(k:∀ m st',Good ρ τ κ a₀ st' m->1<=m->m<=nrem->Q (some m) st'):
  wpS (model prog w) A E s (descPart n nrem) Q st:=by
 unfold descPart
 refine wpS_bind (wpS_lift (wpAny_rule ⟨rfl,wpS_bind (zio ik hn nn f0 λm q st' f hq hm=>?_)⟩))
 dsimp only
 by_cases hq0:q>0
 ·rw[if_pos hq0]
  obtain ⟨c1,c2,c3,_⟩:=f.close (by omega)
  exact wpS_bind (wpS_reverse (ze5 ik hn (by omega) hm c1 c2 c3 k))
 ·rw[if_neg hq0]
  have e0:q=0:=by omega
  subst e0
  exact ze5 ik hn (by omega) hm f.b (zb5.one (by simpa using f)) (f.r.mono (by omega)) k
theorem zgq {st:SortSt}{nrem:Nat}{Q:Option Nat->SortSt->Prop}(ik:Cmp prog w A E s ρ κ a₀)(hn:nrem<=a₀.size)(n1:1<=nrem)(hB:SB κ a₀ st)(r0:Rs τ a₀.size (arrOf st) 0)(k:∀ m st',Good ρ τ κ a₀ st' m->1<=m->m<=nrem->Q (some m) st'):
  wpS (model prog w) A E s (countRun' 0 nrem) Q st:=by
 have u1:Up ρ τ (arrOf st) 1:=λi j a b=>by omega
 rw[countRun0_eq]
 refine wpS_bind (zhn ik hn (Nat.le_refl 1) n1 hB u1.le λn m1 m2 sn hor=>?_)
 have un:Up ρ τ (arrOf st) n:=zhy u1 (r0.mono (by omega)) sn (by omega)
 have g:Good ρ τ κ a₀ st n:=⟨hB,un,r0.mono (by omega)⟩
 dsimp only
 by_cases e:n=nrem
 ·rw[if_pos (by simpa using e)];exact wpS_pure (k n st g m1 m2)
 rw[if_neg (by simpa using e)]
 have lt:R ρ (arrOf st) n<R ρ (arrOf st) (n-1):=hor.resolve_left e
 by_cases c:n>1
 ·rw[if_pos c]
  refine wpS_bind (ik hB (by omega) (by omega) ?_)
  by_cases rose:R ρ (arrOf st) 0<R ρ (arrOf st) (n-1)
  ·rw[decide_eq_true rose]
   simp only[if_true]
   exact wpS_pure (k n st g m1 m2)
  ·rw[decide_eq_false rose]
   simp only[false_eq_true,if_false]
   have all:∀ i,0<=i->i<n->R ρ (arrOf st) i=R ρ (arrOf st) 0:=λi _ hi=>by
    have a1:=sn 0 i (zero_le _) hi
    have a2:=sn i (n-1) (by omega) (by omega)
    omega
   have f:zb5 ρ τ κ a₀ st n 0:=⟨hB,by omega,λi j _ h=>by omega,λi h=>by omega,all,r0⟩
   obtain ⟨c1,c2,c3,c4⟩:=f.close (by omega)
   refine wpS_bind (wpS_reverse (V5 ik hn (by omega) ⟨c1,by omega,c2,λi hi=>?_,λi h1 h2=>?_,c3⟩ k))
   ·show R ρ (mirror (arrOf st) 0 n ((n-0) / 2)) n<R ρ (mirror (arrOf st) 0 n ((n-0) / 2)) i
    rw[c4,c4]
    have:=all i (zero_le _) hi
    have:=all (n-1) (zero_le _) (by omega)
    omega
   ·have:i=n:=by omega
    rw[this]
 ·rw[if_neg c]
  have e1:n=1:=by omega
  subst e1
  exact V5 ik hn (by omega) ⟨hB,by omega,λi j _ h=>by omega,λi h=>by (have:i=0:=by omega);subst this;exact lt,λi h1 h2=>by (have:i=1:=by omega);rw[this],r0.mono (by omega)⟩ k
theorem zeM {st:SortSt}{n ok:Nat}{Q:Bool->SortSt->Prop}(ik:Cmp prog w A E s ρ κ a₀)(hn:n<=a₀.size)(o1:1<=ok)(o2:ok<=n)(g0:Good ρ τ κ a₀ st ok)(kk:∀ st',Good ρ τ κ a₀ st' n->Q true st'):wpS (model prog w) A E s (binarySort' 0 n ok) Q st:=by
 rw[binarySort'_eq]
 simp only[Nat.zero_add]
 refine wpS_bind (wpS_mono (wpS_forRange (I:=λk c st' => c=(none,())/\Good ρ τ κ a₀ st' k) (Q:=λc st' => c=(none,())/\Good ρ τ κ a₀ st' n) ?turn ?over ⟨rfl,by rw[Nat.max_eq_left o1];exact g0⟩) λc st' ⟨e,g⟩=>by subst e;exact wpS_pure (kk st' g))
 case over=>
  rintro c st' ⟨e,g⟩
  rw[Nat.max_eq_left o1,Nat.max_eq_right o2] at g
  exact ⟨e,g⟩
 case turn=>
  rintro k c st' k1 k2 ⟨rfl,hB,u,r⟩
  have ks:k<a₀.size:=by omega
  have srt:=u.le
  refine wpS_bind (wpS_mono (wpS_forRange (I:=λx c s2=>s2=st' /\ ∃ lo hi,c=(none,lo,hi)/\lo<=hi/\hi<=k/\hi-lo<=k-x/\(∀ i,i<lo->R ρ (arrOf st') i<=R ρ (arrOf st') k)/\∀ i,hi<=i->i<k->R ρ (arrOf st') k<R ρ (arrOf st') i)
   (Q:=λc s2=>s2=st' /\ ∃ lo hi,c=(none,lo,hi)/\lo<=k/\(∀ i,i<lo->R ρ (arrOf st') i<=R ρ (arrOf st') k)/\∀ i,lo<=i->i<k->R ρ (arrOf st') k<R ρ (arrOf st') i) ?look ?found ⟨rfl,0,k,rfl,zero_le _,Nat.le_refl _,by omega,λi h=>by omega,λi a b=>by omega⟩) ?put)
  case found=>
   rintro c s2 ⟨rfl,lo,hi,rfl,a1,a2,a3,a4,a5⟩
   have:lo=hi:=by omega
   subst this
   exact ⟨rfl,lo,lo,rfl,a2,a4,a5⟩
  case look=>
   rintro x c s2 _ hx ⟨rfl,lo,hi,rfl,a1,a2,a3,a4,a5⟩
   dsimp only
   by_cases ge:lo ≥ hi
   ·rw[if_pos ge]
    have:lo=hi:=by omega
    subst this
    exact wpS_pure ⟨rfl,lo,lo,rfl,a2,a4,a5⟩
   ·rw[if_neg ge]
    refine wpS_bind (ik hB ks (by omega) ?_)
    by_cases less:R ρ (arrOf s2) k<R ρ (arrOf s2) ((lo+hi) / 2)
    ·rw[decide_eq_true less]
     simp only[if_true]
     exact wpS_pure ⟨rfl,lo,(lo+hi) / 2,rfl,by omega,by omega,by omega,a4,λi b1 b2=>Int.lt_of_lt_of_le less (srt _ _ b1 b2)⟩
    ·rw[decide_eq_false less]
     simp only[false_eq_true,if_false]
     exact wpS_pure ⟨rfl,(lo+hi) / 2+1,hi,rfl,by omega,by omega,by omega,λi b1=>Int.le_trans (srt i ((lo+hi) / 2) (by omega) (by omega)) (Int.not_lt.mp less),a5⟩
  case put=>
   rintro c s2 ⟨rfl,lo,hi,rfl,a2,a4,a5⟩
   show wpS _ _ _ _ (do moveDown' k lo;pure (ForInStep.yield (none,()))) _ _
   have kz:k<(arrOf s2).size:=by rw[hB.size];exact ks
   have ed:k-(k-lo)=lo:=by omega
   rw[moveDown'_eq]
   refine wpS_bind (wpS_modify (wpS_pure ⟨rfl,hB.setArr (bubble_perm _ _ _),λi j hij hj=>?_,λi j hij h1 h2=>?_⟩))
   ·show R ρ (bubble (arrOf s2) k (k-lo)) i<R ρ (bubble (arrOf s2) k (k-lo)) j\/(R ρ (bubble (arrOf s2) k (k-lo)) i=R ρ (bubble (arrOf s2) k (k-lo)) j/\R τ (bubble (arrOf s2) k (k-lo)) i<=R τ (bubble (arrOf s2) k (k-lo)) j)
    have bi:=zjd (ρ:=ρ) (τ:=τ) kz (show k-lo<=k by omega) i
    have bj:=zjd (ρ:=ρ) (τ:=τ) kz (show k-lo<=k by omega) j
    rw[ed] at bi bj
    rcases lt_trichotomy i lo with c1 | c1 | c1
    ·obtain ⟨p1,p2⟩:=bi.2.2 (.inl c1)
     rw[p1,p2]
     rcases lt_trichotomy j lo with c2 | c2 | c2
     ·obtain ⟨q1,q2⟩:=bj.2.2 (.inl c2)
      rw[q1,q2];exact u i j hij (by omega)
     ·obtain ⟨q1,q2⟩:=bj.1 c2
      rw[q1,q2]
      have z1:=a4 i c1
      have z2:=r i k (by omega) (Nat.le_refl _) ks
      omega
     ·obtain ⟨q1,q2⟩:=bj.2.1 ⟨c2,by omega⟩
      rw[q1,q2];exact u i (j-1) (by omega) (by omega)
    ·obtain ⟨p1,p2⟩:=bi.1 c1
     obtain ⟨q1,q2⟩:=bj.2.1 ⟨by omega,by omega⟩
     rw[p1,p2,q1,q2]
     exact .inl (a5 (j-1) (by omega) (by omega))
    ·obtain ⟨p1,p2⟩:=bi.2.1 ⟨c1,by omega⟩
     obtain ⟨q1,q2⟩:=bj.2.1 ⟨by omega,by omega⟩
     rw[p1,p2,q1,q2]
     exact u (i-1) (j-1) (by omega) (by omega)
   ·show R τ (bubble (arrOf s2) k (k-lo)) i<=R τ (bubble (arrOf s2) k (k-lo)) j
    have bi:=zjd (ρ:=ρ) (τ:=τ) kz (show k-lo<=k by omega) i
    rw[ed] at bi
    obtain ⟨_,q2⟩:=(zjd (ρ:=ρ) (τ:=τ) kz (show k-lo<=k by omega) j).2.2 (.inr (by omega))
    rw[q2]
    rcases lt_trichotomy i lo with c1 | c1 | c1
    ·rw[(bi.2.2 (.inl c1)).2];exact r i j hij (by omega) h2
    ·rw[(bi.1 c1).2];exact r k j (by omega) (by omega) h2
    ·by_cases c2:i<=k
     ·rw[(bi.2.1 ⟨c1,c2⟩).2];exact r (i-1) j (by omega) (by omega) h2
     ·rw[(bi.2.2 (.inr (by omega))).2];exact r i j hij (by omega) h2
theorem zh8 {st:SortSt}{Q:Unit->SortSt->Prop}(ik:Cmp prog w A E s ρ κ a₀)(hB:SB κ a₀ st)(z2:2<=a₀.size)(z64:a₀.size<64)(r0:Rs τ a₀.size (arrOf st) 0)
  (kk:∀ st',(arrOf st').Perm a₀->failedOf st'=none->Up ρ τ (arrOf st') a₀.size->Q () st'):wpS (model prog w) A E s sortRuns' Q st:=by
 have mr:minRun' a₀.size a₀.size 0=a₀.size:=by
  obtain ⟨f,hf⟩:∃ f,a₀.size=f+1:=⟨a₀.size-1,by omega⟩
  have q:minRun' (f+1) a₀.size 0=a₀.size:=by rw[minRun'_succ,if_pos z64];rfl
  rwa [← hf] at q
 rw[sortRuns'_eq]
 refine wpS_bind (wpS_get (show wpS _ _ _ _ _ _ _ from ?_))
 dsimp only
 simp only[hB.size,mr]
 have fin:∀ st' n,n=a₀.size->Good ρ τ κ a₀ st' n->(arrOf (setPending st' ((pendingOf st').push (0,n,0)))).Perm a₀/\failedOf (setPending st' ((pendingOf st').push (0,n,0)))=none/\pendingOf (setPending st' ((pendingOf st').push (0,n,0))) = #[(0,n,0)]/\Up ρ τ (arrOf (setPending st' ((pendingOf st').push (0,n,0)))) n:=λst' n _ g=>
  ⟨g.1.perm,g.1.failed,by show (pendingOf st').push _=_;rw[g.1.pend];rfl,g.2.1⟩
 refine wpS_bind (wpS_mono (wpS_forRange
  (I:=λx c st' => (x=0/\c=(none,0)/\SB κ a₀ st' /\ Rs τ a₀.size (arrOf st') 0)\/(1<=x/\c=(none,a₀.size)/\(arrOf st').Perm a₀/\failedOf st'=none/\pendingOf st' = #[(0,a₀.size,0)]/\Up ρ τ (arrOf st') a₀.size))
  (Q:=λc st' => c=(none,a₀.size)/\(arrOf st').Perm a₀/\failedOf st'=none/\pendingOf st' = #[(0,a₀.size,0)]/\Up ρ τ (arrOf st') a₀.size) ?turn ?over (.inl ⟨rfl,rfl,hB,r0⟩)) ?post)
 case over=>
  rintro c st' (⟨hx,_⟩ | ⟨_,r⟩)
  ·omega
  ·exact r
 case turn=>
  rintro x c st' _ hx (⟨rfl,rfl,hB',r'⟩ | ⟨hx1,rfl,hD⟩)
  ·dsimp only
   rw[if_neg (show ¬ (0 ≥ a₀.size) by omega)]
   simp only[Nat.sub_zero,Nat.min_self,Nat.zero_add]
   refine wpS_bind (zgq ik (Nat.le_refl _) (show 1<=a₀.size by omega) hB' r' λm st2 g2 m1 m2=>?_)
   dsimp only
   by_cases lt:m<a₀.size
   ·rw[if_pos lt]
    refine wpS_bind (wpS_lift (wpAny_rule ⟨rfl,wpS_bind (zeM ik (Nat.le_refl _) m1 m2 g2 λst3 g3=>?_)⟩))
    simp only[Bool.not_true,false_eq_true,if_false]
    have nb:(pendingOf st3).back?=none:=by rw[g3.1.pend];rfl
    refine wpS_bind (wpS_get (show wpS _ _ _ _ _ _ _ from ?_))
    rw[nb]
    exact wpS_bind (wpS_modify (wpS_pure (.inr ⟨by omega,rfl,fin st3 _ rfl g3⟩)))
   ·rw[if_neg lt]
    have em:m=a₀.size:=by omega
    subst em
    have nb:(pendingOf st2).back?=none:=by rw[g2.1.pend];rfl
    refine wpS_bind (wpS_get (show wpS _ _ _ _ _ _ _ from ?_))
    rw[nb]
    exact wpS_bind (wpS_modify (wpS_pure (.inr ⟨by omega,rfl,fin st2 _ rfl g2⟩)))
  ·dsimp only
   rw[if_pos (show a₀.size ≥ a₀.size from Nat.le_refl _)]
   exact wpS_pure ⟨rfl,hD⟩
 case post=>
  rintro c st' ⟨rfl,p,f,pd,u⟩
  dsimp only
  refine wpS_bind (wpS_mono (wpS_forRange (I:=λ_ c s2=>s2=st' /\ c=(none,())) (Q:=λc s2=>s2=st' /\ c=(none,())) (λx c s2 _ _ ⟨e1,e2⟩=>?_) (λ_ _ q=>q) ⟨rfl,rfl⟩) λc s2 ⟨e1,e2⟩=>?_)
  ·subst e1 e2
   exact wpS_pure (kk _ p f u)
  ·subst e1 e2
   refine wpS_bind (wpS_get (show wpS _ _ _ _ _ _ _ from ?_))
   rw[if_pos (show (pendingOf s2).size<=1 by rw[pd];exact Nat.le_refl 1)]
   exact wpS_pure ⟨rfl,rfl⟩
end
end StbG
namespace L2
open PySem PySem.Spec PyProof.Rows
abbrev Key:=Sum Int Str
noncomputable def zhB:Key->Value->Bool
 | .inl k,v=>Value.isInt k v
 | .inr x,v=>Value.isStrOf x v
noncomputable def zkE (w:World):Key->Int
 | .inl k=>hashInt k
 | .inr x=>hashStr w x
theorem YK:∀ {k:Key}{v:Value},zhB k v=true->(∃ i t,k=Sum.inl i/\v=Value.int i t)\/(∃ x t,k=Sum.inr x/\v=Value.str x t)
 | .inl i,v,h=>by
  obtain ⟨t,e⟩:=Value.isInt_shape (k:=i) (v:=v) h
  exact .inl ⟨i,t,rfl,e⟩
 | .inr x,v,h=>by
  obtain ⟨t,e⟩:=Value.isStrOf_shape (x:=x) (v:=v) h
  exact .inr ⟨x,t,rfl,e⟩
theorem zh9 (a b:Int):decide ((Sum.inl a:Key)=Sum.inl b)=(a==b):=by
 by_cases e:a=b
 ·subst e;simp
 ·have h:¬ (Sum.inl a:Key)=Sum.inl b:=λq=>e (Sum.inl.inj q)
  rw[decide_eq_false h]
  exact (beq_eq_false_iff_ne.mpr e).symm
theorem ziQ (a b:Str):decide ((Sum.inr a:Key)=Sum.inr b)=decide (a=b):=by
 by_cases e:a=b
 ·subst e;simp
 ·have h:¬ (Sum.inr a:Key)=Sum.inr b:=λq=>e (Sum.inr.inj q)
  rw[decide_eq_false h,decide_eq_false e]
theorem zit (a:Int)(b:Str):decide ((Sum.inl a:Key)=Sum.inr b)=false:=decide_eq_false (λq=>nomatch q)
theorem zi8 (a:Str)(b:Int):decide ((Sum.inr a:Key)=Sum.inl b)=false:=decide_eq_false (λq=>nomatch q)
noncomputable def zcF (prog:Program) (w:World):PySem.KeyKind prog w Key where
 is:=zhB
 hash:=zkE w
 inj:=λv a b ha hb=>by
  rcases YK ha with ⟨i,t,rfl,rfl⟩ | ⟨x,t,rfl,rfl⟩
  ·rcases YK hb with ⟨j,u,rfl,e⟩ | ⟨y,u,rfl,e⟩
   ·injection e with e1 _;rw[e1]
   ·exact nomatch e
  ·rcases YK hb with ⟨j,u,rfl,e⟩ | ⟨y,u,rfl,e⟩
   ·exact nomatch e
   ·injection e with e1 _;rw[e1]
 byValue:=λk v h=>by
  rcases YK h with ⟨i,t,rfl,rfl⟩ | ⟨x,t,rfl,rfl⟩ <;> rfl
 pyHash:=λhv h=>by
  rcases YK hv with ⟨i,t,rfl,rfl⟩ | ⟨x,t,rfl,rfl⟩
  ·exact wpAny_pyHash_int h
  ·exact wpAny_pyHash_str h
 eqBool:=λhu hv h=>by
  rcases YK hu with ⟨i,t,rfl,rfl⟩ | ⟨x,t,rfl,rfl⟩
  ·rcases YK hv with ⟨j,u,rfl,rfl⟩ | ⟨y,u,rfl,rfl⟩
   ·rw[zh9] at h;exact wpAny_eqBool_int h
   ·rw[zit] at h;exact SeqAt.EqAt.int_str i t y u _ _ _ _ h
  ·rcases YK hv with ⟨j,u,rfl,rfl⟩ | ⟨y,u,rfl,rfl⟩
   ·rw[zi8] at h;exact SeqAt.EqAt.str_int x t j u _ _ _ _ h
   ·rw[ziQ] at h;exact wpAny_eqBool_str h
 «strs» := λk x t v h=>by
  rcases YK h with ⟨i,u,rfl,e⟩ | ⟨y,u,rfl,e⟩
  ·exact nomatch e
  ·injection e with e1 _
   subst e1
   cases v <;> rfl
inductive V where
 | non | bl (b:Bool) | int (i:Int) | str (x:Str) | byt (b:Array UInt8) | flt (b:UInt64) | ref (a:Addr) | ty (n:String)
 deriving DecidableEq
def RelV:V->Value->Prop
 | .non,u=>u=Value.none
 | .bl b,u=>u=Value.bool b
 | .int i,u=>∃ t,u=Value.int i t
 | .str x,u=>∃ t,u=Value.str x t
 | .byt b,u=>∃ t,u=Value.bytes b t
 | .flt b,u=>∃ t,u=Value.float b t
 | .ref a,u=>u=Value.ref a
 | .ty n,u=>u=Value.type n
abbrev Vals:List V->List Value->Prop:=Paired RelV
theorem Vals.length {xs:List V}{us:List Value}(r:Vals xs us):xs.length=us.length:=Paired.length r
theorem Vals.get:∀ {xs:List V}{us:List Value}{i:Nat}{x:V},Vals xs us->xs[i]?=some x->∃ u,us[i]?=some u/\RelV x u
 | _,_,_,_,.nil,e=>by simp at e
 | _,_,0,_,.cons r _,e=>by simp at e;subst e;exact ⟨_,rfl,r⟩
 | _,_,i+1,x,.cons _ t,e=>by
  obtain ⟨u,h1,h2⟩:=Vals.get (i:=i) (x:=x) t (by simpa using e)
  exact ⟨u,by simpa using h1,h2⟩
theorem Vals.set {x:V}{u:Value}(r:RelV x u):∀ {xs:List V}{us:List Value}(i:Nat),Vals xs us->Vals (xs.set i x) (us.set i u)
 | _,_,_,.nil=>.nil
 | _,_,0,.cons _ t=>.cons r t
 | _,_,i+1,.cons q t=>.cons q (Vals.set r i t)
theorem Vals.append:∀ {xs ys:List V}{us ws:List Value},Vals xs us->Vals ys ws->Vals (xs++ys) (us++ws)
 | _,_,_,_,.nil,s=>s
 | _,_,_,_,.cons r t,s=>.cons r (Vals.append t s)
theorem Vals.take:∀ {xs:List V}{us:List Value}(n:Nat),Vals xs us->Vals (xs.take n) (us.take n)
 | _,_,0,_=>.nil
 | _,_,_+1,.nil=>.nil
 | _,_,n+1,.cons r t=>.cons r (Vals.take n t)
theorem Vals.drop:∀ {xs:List V}{us:List Value}(n:Nat),Vals xs us->Vals (xs.drop n) (us.drop n)
 | _,_,0,r=>r
 | _,_,_+1,.nil=>.nil
 | _,_,n+1,.cons _ t=>Vals.drop n t
theorem Vals.none_of:∀ {xs:List V}{us:List Value}{i:Nat},Vals xs us->xs[i]?=none->us[i]?=none:=λ{xs us i} r e=>by
 have h1:=r.length
 have h2:xs.length<=i:=List.getElem?_eq_none_iff.mp e
 exact List.getElem?_eq_none_iff.mpr (by omega)
def zju:Option V->Option Value->Prop
 | some v,some u=>RelV v u
 | none,none=>True
 | _,_=>False
def KV {κ:Type}:List (κ×V)->List (κ×Value)->Prop:=Paired λ(p:κ×V) (q:κ×Value)=>p.1=q.1/\RelV p.2 q.2
noncomputable def kV:Key->V
 | .inl i=>.int i
 | .inr x=>.str x
inductive HO where
 
 | lst (xs:List V)
 
 | tup (xs:List V)
 
 | dK (kvs:List (Key×V)) | dT (kvs:List (List Key×V))
 
 | set (S:Int->Bool) (n:Nat)
 
 | ins (C dx:Addr) (fs:List (Str×V))
 
 | own (x:Addr)
 
 | xd (fs:List (Str×V))
 
 | met (f x:Addr)
 
 | rng (lo hi:Int)
 
 | frz (o:Obj) (u:HO)
 
 | tbl (cr:Nat->Nat->Option Str)
 
 | ext (φ:Heap->Prop)
abbrev Hp:=Addr->Option HO
noncomputable def upd (H:Hp) (a:Addr) (o:HO):Hp:=λb=>if b=a then some o else H b
theorem Zz {H:Hp}{a:Addr}{o:HO}:upd H a o a=some o:=by unfold upd;rw[if_pos rfl]
theorem ZC {H:Hp}{a b:Addr}{o:HO}(h:b≠a):upd H a o b=H b:=by unfold upd;rw[if_neg h]
theorem Yj {H:Hp}{a b:Addr}{o:HO}(h:H a=some o)(h' : H b=none):a≠b:=by
 intro e;subst e;rw[h] at h';cases h'
def zhw (oc:Obj)(q:Str):Prop:=∃ (vs:Array Value) (t:Tok),oc.data = .fields vs/\vs[1]?=some (.str q t)
def ziY (h:Heap)(a:Addr):Prop:=∃ o,h.get? a=some o/\o.dict=none
section
variable (P:Program)(w:World)
def Xp (H:Hp)(h:Heap)(a:Addr):HO->Prop
 | .lst xs=>xs.length<=sizeLine/\∃ (its:List Value) (n:Nat),Vals xs its/\h.get? a=some { cls:=.type "list",data:=.seq its.toArray n }
 | .tup xs=>xs.length<=sizeLine/\∃ its:List Value,Vals xs its/\IsTup h a its.toArray/\ziY h a
 | .dK kvs=>kvs.length<=sizeLine/\(a==sysModules)=false/\∃ vs,KV kvs vs/\h.DictOf (zcF P w) a vs
 | .dT kvs=>kvs.length<=sizeLine/\(a==sysModules)=false/\∃ xs:List (List Key×Addr×Value),
   Paired (λ(p:List Key×V) (q:List Key×Addr×Value)=>p.1=q.1/\H q.2.1=some (.tup (p.1.map kV))/\RelV p.2 q.2.2) kvs xs/\
   ∃ o es ep,h.get? a=some o/\o.ExactDict/\o.data = .dict es ep/\es.toList=xs.map (entryOfKey (tupleKind (zcF P w)))/\(xs.map (·.1)).Nodup
 | .set S n=>h.SetOf (intKind P w) a S n
 | .ins C dx fs=>H dx=some (.own a)/\fs.length<=1000/\dx≠a/\h.get? a=some (instObj C dx)/\
   ∃ mA,h.Ns1 dx mA/\(∀ f,zju (fs.lookup f) (mA f))/\PySem.Within mA (fs.map (·.1))
 | .own _=>∃ o,h.get? a=some o
 | .xd fs=>∃ mA,h.Ns1 a mA/\∀ f,zju (fs.lookup f) (mA f)
 | .rng lo hi=>∃ t u v,h.get? a=some { cls:=.type "range",data:=.fields #[.int lo t,.int hi u,.int 1 v] }
 | .frz o u=>h.get? a=some o/\Xp H h a u
 | .tbl cr=>∃ ps:Array Value,h.get? a=some { cls:=.none,data:=.fields ps }/\TriplesOk ps.toList/\∀ (pos:Pos) (v:Value),codeAmong pos ps.toList=some v->
   ∃ (c:Addr) (oc:Obj) (q:Str),v = .ref c/\cr pos.line pos.col=some q/\H c=some (.frz oc (.own c))/\zhw oc q
 | .met f x=>h.get? a=some (methodObj (.ref f) (.ref x))
 | .ext φ=>φ h/\(∃ o,h.get? a=some o)/\∀ h1 h2:Heap,φ h1->(∀ o,h1.get? a=some o->h2.get? a=some o)->φ h2
def HOk (H:Hp)(h:Heap):Prop:=∀ a o,H a=some o->Xp P w H h a o
end
section
variable {P:Program}{w:World}{H H' : Hp}{h h' : Heap}{a:Addr}{o:HO}
theorem Xp.lt (x:Xp P w H h a o):a<h.objs.size:=by
 cases o with
 | lst xs=>obtain ⟨_,_,_,_,e⟩:=x;exact lt_size e
 | tup xs=>obtain ⟨_,_,_,p,_⟩:=x;exact p.lt
 | dK kvs=>obtain ⟨_,_,_,_,o,_,_,e,_⟩:=x;exact lt_size e
 | dT kvs=>obtain ⟨_,_,_,_,o,_,_,e,_⟩:=x;exact lt_size e
 | set S n=>obtain ⟨o,_,_,_,e,_⟩:=x;exact lt_size e
 | ins C dx fs=>obtain ⟨_,_,_,e,_⟩:=x;exact lt_size e
 | own y=>obtain ⟨_,e⟩:=x;exact lt_size e
 | xd fs=>obtain ⟨_,⟨_,_,_,e,_⟩,_⟩:=x;exact lt_size e
 | rng lo hi=>obtain ⟨_,_,_,e⟩:=x;exact lt_size e
 | frz ob u=>obtain ⟨e,_⟩:=x;exact lt_size e
 | tbl cr=>obtain ⟨_,e,_⟩:=x;exact lt_size e
 | met f y=>exact lt_size (show h.get? a=some _ from x)
 | ext φ=>obtain ⟨_,⟨_,e⟩,_⟩:=x;exact lt_size e
theorem Paired.zka {α β:Type}{F G:α->β->Prop}:∀ {l₁:List α}{l₂:List β},Paired F l₁ l₂->(∀ a b,F a b->G a b)->Paired G l₁ l₂
 | _,_,.nil,_=>.nil
 | _,_,.cons r t,f=>.cons (f _ _ r) (Paired.zka t f)
theorem Xp.stay (x:Xp P w H h a o)(k:∀ b u,(b=a\/H b=some (.own a))->h.get? b=some u->h'.get? b=some u)
  (ho:∀ b,H b=some (.own a)->H' b=some (.own a)) (ht:∀ b xs,H b=some (.tup xs)->H' b=some (.tup xs)) (hz:∀ b o u,H b=some (.frz o u)->H' b=some (.frz o u)):Xp P w H' h' a o:=by
 induction o with
 | lst xs=>obtain ⟨z,its,n,r,e⟩:=x;exact ⟨z,its,n,r,k _ _ (.inl rfl) e⟩
 | tup xs=>obtain ⟨z,its,r,⟨ob,e,c⟩,od,e',d'⟩:=x;exact ⟨z,its,r,⟨ob,k _ _ (.inl rfl) e,c⟩,od,k _ _ (.inl rfl) e',d'⟩
 | dK kvs=>obtain ⟨z,y,vs,r,ob,es,ep,e,c⟩:=x;exact ⟨z,y,vs,r,ob,es,ep,k _ _ (.inl rfl) e,c⟩
 | dT kvs=>
  obtain ⟨z,y,xs,r,ob,es,ep,e,c⟩:=x
  exact ⟨z,y,xs,Paired.zka r λp q z=>⟨z.1,ht _ _ z.2.1,z.2.2⟩,ob,es,ep,k _ _ (.inl rfl) e,c⟩
 | set S n=>obtain ⟨ob,es,ep,t,e,c⟩:=x;exact ⟨ob,es,ep,t,k _ _ (.inl rfl) e,c⟩
 | ins C dx fs=>
  obtain ⟨d,z,ne,e,mA,⟨od,es,ep,e2,c⟩,r⟩:=x
  exact ⟨ho _ d,z,ne,k _ _ (.inl rfl) e,mA,⟨od,es,ep,k _ _ (.inr d) e2,c⟩,r⟩
 | own y=>obtain ⟨ob,e⟩:=x;exact ⟨ob,k _ _ (.inl rfl) e⟩
 | xd fs=>obtain ⟨mA,⟨od,es,ep,e,c⟩,r⟩:=x;exact ⟨mA,⟨od,es,ep,k _ _ (.inl rfl) e,c⟩,r⟩
 | rng lo hi=>obtain ⟨t,u,v,e⟩:=x;exact ⟨t,u,v,k _ _ (.inl rfl) e⟩
 | frz ob u ih=>obtain ⟨e,q⟩:=x;exact ⟨k _ _ (.inl rfl) e,ih q⟩
 | tbl cr=>
  obtain ⟨ps,e,ht3,hc⟩:=x
  exact ⟨ps,k a _ (.inl rfl) e,ht3,λpos v q=>let ⟨c,oc,z,h1,h2,h3,h4⟩:=hc pos v q;⟨c,oc,z,h1,h2,hz _ _ _ h3,h4⟩⟩
 | met f y=>
  have e:h.get? a=some (methodObj (.ref f) (.ref y)):=x
  show h'.get? a=some (methodObj (.ref f) (.ref y))
  exact k a _ (.inl rfl) e
 | ext φ=>obtain ⟨p,⟨o,e⟩,st⟩:=x;exact ⟨st _ _ p λo q=>k _ _ (.inl rfl) q,⟨o,k _ _ (.inl rfl) e⟩,st⟩
theorem HOk.lt (x:HOk P w H h)(e:H a=some o):a<h.objs.size:=(x a o e).lt
theorem HOk.fresh (x:HOk P w H h)(e:h.objs.size<=a):H a=none:=by
 cases q:H a with
 | none=>rfl
 | some u=>exact absurd (Nat.lt_of_lt_of_le (x.lt q) e) (lt_irrefl _)
theorem HOk.kept (x:HOk P w H h)(k:∀ b u,h.get? b=some u->h'.get? b=some u):HOk P w H h' := λa o e=>
 (x a o e).stay (λb u _ q=>k b u q) (λ_ q=>q) (λ_ _ q=>q) λ_ _ _ q=>q
theorem HOk.laid (x:HOk P w H h)(k:∀ b u,h.get? b=some u->h'.get? b=some u)(hp:h.objs.size<=a)(new:Xp P w (upd H a o) h' a o):HOk P w (upd H a o) h' := λb u e=>by
 have hn:=x.fresh hp
 by_cases hb:b=a
 ·subst hb;rw[Zz] at e;cases e;exact new
 ·rw[ZC hb] at e
  exact (x b u e).stay (λc v _ q=>k c v q) (λc q=>by rw[ZC (Yj q hn)];exact q) (λc xs q=>by rw[ZC (Yj q hn)];exact q) λc o u q=>by rw[ZC (Yj q hn)];exact q
end
def Rd (H:Hp)(a:Addr)(u:HO):Prop:=H a=some u\/∃ o,H a=some (.frz o u)
theorem Rd.ok {P:Program}{w:World}{H:Hp}{h:Heap}{a:Addr}{u:HO}(r:Rd H a u)(x:HOk P w H h):Xp P w H h a u:=by
 rcases r with r | ⟨o,r⟩
 ·exact x a u r
 ·obtain ⟨_,q⟩:=x a _ r
  exact q
def Mut:Option HO->Prop
 | some (.lst _)=>True
 | some (.dK _)=>True
 | some (.dT _)=>True
 | some (.set _ _)=>True
 | some (.ins _ _ _)=>True
 | some (.ext _)=>True
 | _=>False
section
variable {P:Program}{w:World}{H:Hp}{h h' : Heap}{x e:Addr}{o' : HO}
theorem HOk.write (ok:HOk P w H h)(mu:Mut (H x))(he:e=x\/H e=some (.own x))(k:∀ b u,b≠e->h.get? b=some u->h'.get? b=some u)(heo:∃ u,h'.get? e=some u)
  (new:Xp P w (upd H x o') h' x o'):HOk P w (upd H x o') h' := λb u q=>by
 have nown:∀ c y,H c=some (.own y)->c≠x:=λc y r z=>by subst z;rw[r] at mu;exact mu
 have ntup:∀ c xs,H c=some (.tup xs)->c≠x:=λc xs r z=>by subst z;rw[r] at mu;exact mu
 have nfrz:∀ c o u,H c=some (.frz o u)->c≠x:=λc o u r z=>by subst z;rw[r] at mu;exact mu
 by_cases hb:b=x
 ·subst hb;rw[Zz] at q;cases q;exact new
 ·rw[ZC hb] at q
  by_cases hbe:b=e
  ·have q' : H b=some (.own x):=by
    rcases he with z | z
    ·exact absurd (hbe.trans z) hb
    ·rw[hbe];exact z
   rw[q] at q';cases q'
   obtain ⟨v,hv⟩:=heo
   exact ⟨v,by rw[hbe];exact hv⟩
  ·refine (ok b u q).stay (λc v hc r=>k c v ?_ r) (λc r=>by rw[ZC (nown c b r)];exact r) (λc xs r=>by rw[ZC (ntup c xs r)];exact r) λc o u r=>by rw[ZC (nfrz c o u r)];exact r
   rcases hc with rfl | hc
   ·exact hbe
   ·rintro rfl
    rcases he with z | z
    ·exact nown c b hc z
    ·rw[hc] at z;cases z;exact hb rfl
end
structure Un (fs ex:List Addr)(H H' : Hp)(h h' : Heap):Prop where
 keep:∀ b o,h.get? b=some o->H b=none->b∉fs->b∉ex->h'.get? b=some o
 slot:∀ b o,h.get? b=some o->H b=none->b∈fs->b∉ex->∃ sl,h'.get? b=some { o with slots:=sl }
 free:∀ b o,h.get? b=some o->H b=none->b∉ex->H' b=none
 there:∀ b o,h.get? b=some o->b∉ex->∃ o',h'.get? b=some o'
 tups:∀ b xs,H b=some (.tup xs)->H' b=some (.tup xs)
 frzs:∀ b o u,H b=some (.frz o u)->H' b=some (.frz o u)
 tbls:∀ b cr,H b=some (.tbl cr)->H' b=some (.tbl cr)
section
variable {fs fs' ex ex' : List Addr}{H H1 H2:Hp}{h h1 h2 h' : Heap}{a x e:Addr}{o:HO}
theorem Un.any (u:Un fs ex H H1 h h1){b:Addr}{ob:Obj}(q:h.get? b=some ob)(n:H b=none)(hx:b∉ex):∃ sl,h1.get? b=some { ob with slots:=sl }:=by
 by_cases hb:b∈fs
 ·exact u.slot b ob q n hb hx
 ·exact ⟨ob.slots,u.keep b ob q n hb hx⟩
theorem Un.kept (k:∀ b u,h.get? b=some u->h'.get? b=some u):Un fs ex H H h h' :=
 ⟨λb ob q _ _ _=>k b ob q,λb ob q _ _ _=>⟨ob.slots,k b ob q⟩,λ_ _ _ n _=>n,λb ob q _=>⟨ob,k b ob q⟩,λ_ _ q=>q,λ_ _ _ q=>q,λ_ _ q=>q⟩
theorem Un.refl:Un fs ex H H h h:=Un.kept λ_ _ q=>q
theorem Un.laid (k:∀ b u,h.get? b=some u->h'.get? b=some u)(hp:h.objs.size<=a)(hn:H a=none):Un fs ex H (upd H a o) h h' where
 keep:=λb u q _ _ _=>k b u q
 slot:=λb u q _ _ _=>⟨u.slots,k b u q⟩
 free:=λb u q n _=>by rw[ZC (ne_of_lt (Nat.lt_of_lt_of_le (lt_size q) hp))];exact n
 there:=λb u q _=>⟨u,k b u q⟩
 tups:=λb xs q=>by rw[ZC (Yj q hn)];exact q
 frzs:=λb u xs q=>by rw[ZC (Yj q hn)];exact q
 tbls:=λb cr q=>by rw[ZC (Yj q hn)];exact q
theorem Un.write (mu:Mut (H x))(he:e=x\/H e=some (.own x))(k:∀ b u,b≠e->h.get? b=some u->h'.get? b=some u)(heo:∃ u,h'.get? e=some u):Un fs ex H (upd H x o) h h' := by
 have hx:∀ b,H b=none->b≠x:=λb n z=>by subst z;rw[n] at mu;exact mu
 have hb:∀ b,H b=none->b≠e:=λb n z=>by
  subst z
  rcases he with r | r
  ·exact hx b n r
  ·rw[n] at r;cases r
 have hm:∀ b u,H b=some u->¬ Mut (some u)->b≠x:=λb u q nm z=>by subst z;rw[q] at mu;exact nm mu
 refine ⟨λb u q n _ _=>k b u (hb b n) q,λb u q n _ _=>⟨u.slots,k b u (hb b n) q⟩,λb u q n _=>by rw[ZC (hx b n)];exact n,λb u q _=>?_,
  λb xs q=>by rw[ZC (hm b _ q λz=>z)];exact q,λb u xs q=>by rw[ZC (hm b _ q λz=>z)];exact q,λb cr q=>by rw[ZC (hm b _ q λz=>z)];exact q⟩
 by_cases hbe:b=e
 ·subst hbe;exact heo
 ·exact ⟨u,k b u hbe q⟩
end
noncomputable def trk (h:Heap) (H:Hp):List Addr:=(List.range h.objs.size).filter λa=>(H a).isSome
noncomputable def zee (h:Heap) (H:Hp):Heap:=PySem.W.hideAll h (trk h H)
theorem zdV (h:Heap)(H:Hp):(zee h H).objs.size=h.objs.size:=PySem.W.hideAll_size _ _
theorem zeQ {h:Heap}{H:Hp}{b:Addr}{o:Obj}(e:h.get? b=some o)(n:H b=none):(zee h H).get? b=some o:=
 PySem.W.hideAll_get _ e λhm=>by
  have q:(H b).isSome=true:=(mem_filter.mp hm).2
  rw[n] at q;simp at q
theorem zfJ {h:Heap}{H:Hp}{b:Addr}{o:Obj}(e:(zee h H).get? b=some o):h.get? b=some o/\H b=none:=by
 have e' : h.get? b=some o:=PySem.W.of_hideAll (trk h H) e
 refine ⟨e',?_⟩
 cases q:H b with
 | none=>rfl
 | some x=>
  have hm:b∈trk h H:=mem_filter.mpr ⟨mem_range.mpr (lt_size e'),by simp[q]⟩
  have z:(zee h H).get? b=none:=PySem.W.hideAll_none (trk h H) hm
  rw[z] at e;cases e
structure Mod (K:PySem.W.Frag)(mg:Str->Option Value)(base:Heap):Prop where
 kin:K.In base
 glob:base.Ns mainGlobals mg
 blt:∃ mb,base.Ns builtinsNs mb/\∀ x:Str,x≠ "__name__" -> mb x=bootBuiltins x
 nolimit:base.NoLimit
structure Cx where
 prog:Program
 w:World
 K:PySem.W.Frag
 mg:Str->Option Value
 base:Heap
 A:Around
 N:List Str
 s₀:Shared
 H₀:Hp
 env:Env
 outer:List Env
 stack:List Env
 ex:List Addr
 fn:Str->Bool
 calm:Bool
 pn:List (Addr×Obj)
 xe:Value->Shared->Prop
noncomputable def frs (l:List Env):List Addr:=l.filterMap (·.frame)
abbrev Cx.fs (X:Cx):List Addr:=frs X.outer
def Vis (sc:Scope)(x:Str):Prop:=sc.names.lookup x=some .local\/sc.names.lookup x=some .cell\/sc.names.lookup x=some .free
def Loc (sc:Scope)(x:Str):Prop:=sc.names.lookup x=some .local\/sc.names.lookup x=some .cell
def Look (env:Env)(h:Heap)(m:Str->Option Value)(x:Str)(u:Value):Prop:=
 (env.kindOf x=some .local/\m x=some u)\/((env.kindOf x=some .cell\/env.kindOf x=some .free)/\∃ c,env.cells.lookup x=some c/\h.IsCell c (some u))
structure Cx.Ok (X:Cx):Prop where
 mod:Mod X.K X.mg X.base
 kind:X.env.scope.kind = .function
 glob:X.env.globals=mainGlobals
 blt:X.env.builtins=builtinsNs
 above:X.s₀.heap.objs.size<=X.env.locals
 inj:∀ x y c,X.env.cells.lookup x=some c->X.env.cells.lookup y=some c->x=y
 has:∀ x,(X.env.kindOf x=some .cell\/X.env.kindOf x=some .free)->∃ c,X.env.cells.lookup x=some c
 cab:∀ x c,X.fn x=true->X.env.cells.lookup x=some c->X.s₀.heap.objs.size<=c
 hd:X.calm=true->X.A.handled=none
 frames:X.A.frames=some X.stack
 stk:X.stack=X.outer\/(X.stack=X.env::X.outer/\X.env.frame=some X.env.locals)
 exf:∀ b∈X.ex,b≠X.env.locals/\∀ x c,X.env.cells.lookup x=some c->c≠b
 bs:∀ b o,X.base.get? b=some o->X.s₀.heap.get? b=some o/\X.H₀ b=none
 bsz:X.base.objs.size<=X.s₀.heap.objs.size
 noex:∀ b o,X.base.get? b=some o->b∉X.ex
 exfs:∀ b∈X.ex,b∉X.fs
 zcn:X.s₀.heap.FunFrames X.base X.outer
 frf:∀ b∈X.fs,X.H₀ b=none
structure Inv (X:Cx)(pins:List (Addr×Obj))(σ:List (Option V))(H:Hp)(s:Shared):Prop where
 ok:X.Ok
 os:s.os=X.s₀.os
 bare:AllBare s.gens
 base:Un X.fs X.ex X.H₀ H X.s₀.heap s.heap
 loc:∃ m,s.heap.Ns X.env.locals m/\∀ (i:Nat) (x:Str) (v:V),X.N[i]?=some x->σ[i]?=some (some v)->Vis X.env.scope x->∃ u,RelV v u/\Look X.env s.heap m x u
 cell:∀ x c,X.env.cells.lookup x=some c->∃ v,s.heap.IsCell c v
 free:H X.env.locals=none
 freeC:∀ x c,X.env.cells.lookup x=some c->H c=none
 pin:∀ p∈X.pn++pins,s.heap.get? p.1=some p.2/\H p.1=none/\p.1≠X.env.locals/\p.1∉X.fs/\∀ v,p.2.data≠.cell v
 hok:HOk X.prog X.w H s.heap
 len:σ.length=X.N.length
section
variable {X:Cx}{pins:List (Addr×Obj)}{σ:List (Option V)}{H H' : Hp}{s:Shared}{h' : Heap}
theorem Cx.Ok.zkH (ok:X.Ok){b:Addr}{o:Obj}(e:X.base.get? b=some o):b∉X.fs:=λhb=>by
 have:=(ok.zcn.mem hb).1
 rw[e] at this;cases this
theorem Inv.bs (I:Inv X pins σ H s):∀ b o,X.base.get? b=some o->s.heap.get? b=some o/\H b=none:=λb o e=>
 ⟨I.base.keep b o (I.ok.bs b o e).1 (I.ok.bs b o e).2 (I.ok.zkH e) (I.ok.noex b o e),I.base.free b o (I.ok.bs b o e).1 (I.ok.bs b o e).2 (I.ok.noex b o e)⟩
theorem Inv.bk (I:Inv X pins σ H s):∀ b o,X.base.get? b=some o->s.heap.get? b=some o:=λb o e=>(I.bs b o e).1
theorem Inv.mod (I:Inv X pins σ H s):Mod X.K X.mg X.base:=I.ok.mod
theorem Inv.kIn (I:Inv X pins σ H s):X.K.In s.heap:=I.ok.mod.kin.keeps I.bk
theorem Inv.lt (I:Inv X pins σ H s):X.env.locals<s.heap.objs.size:=let ⟨_,hn,_⟩:=I.loc;hn.lt
theorem Inv.sz (I:Inv X pins σ H s):X.s₀.heap.objs.size<=s.heap.objs.size:=Nat.le_trans I.ok.above (le_of_lt I.lt)
theorem Inv.zku (I:Inv X pins σ H s){a:Addr}(h:s.heap.objs.size<=a):a∉X.fs:=λhb=>by
 obtain ⟨_,o,ho,_⟩:=I.ok.zcn.mem hb
 exact absurd (Nat.lt_of_lt_of_le (lt_size ho) (Nat.le_trans I.sz h)) (lt_irrefl _)
theorem Inv.cne (I:Inv X pins σ H s):∀ x c,X.env.cells.lookup x=some c->c≠X.env.locals:=λx c e z=>by
 obtain ⟨v,o,ho,hd⟩:=I.cell x c e
 obtain ⟨m,⟨o',es,ep,ho',hd',_⟩,_⟩:=I.loc
 rw[z,ho'] at ho;cases ho;rw[hd'] at hd;cases hd
theorem Inv.zcn (I:Inv X pins σ H s):s.heap.FunFrames X.base X.outer:=by
 have all:∀ (l:List Env),(∀ b∈frs l,b∈X.fs)->X.s₀.heap.FunFrames X.base l->s.heap.FunFrames X.base l:=by
  intro l
  induction l with
  | nil=>intro _ _;trivial
  | cons env r ih=>
   intro hs hl
   obtain ⟨hk,⟨L,o,hf,hn,ho,hd⟩,hr⟩:=hl
   have hL:L∈X.fs:=hs L (by unfold frs;rw[filterMap_cons,hf];exact mem_cons_self)
   obtain ⟨sl,e⟩:=I.base.slot L o ho (I.ok.frf L hL) hL λz=>I.ok.exfs L z hL
   exact ⟨hk,⟨L,_,hf,hn,e,hd⟩,ih (λb hb=>hs b (by unfold frs;rw[filterMap_cons,hf];exact mem_cons_of_mem _ hb)) hr⟩
 exact all X.outer (λ_ hb=>hb) I.ok.zcn
theorem Inv.stack (I:Inv X pins σ H s):s.heap.FunFrames X.base X.stack:=by
 rcases I.ok.stk with e | ⟨e,hf⟩
 ·rw[e];exact I.zcn
 ·rw[e]
  obtain ⟨m,hn,_⟩:=I.loc
  refine .cons (by rw[I.ok.kind];decide) hf hn ?_ I.zcn
  exact Heap.get?_none_of_le (Nat.le_trans I.ok.bsz I.ok.above)
theorem Inv.zbg (I:Inv X pins σ H s):∀ b∈frs X.stack,b∈X.env.locals::X.fs:=λb hb=>by
 rcases I.ok.stk with e | ⟨e,hf⟩
 ·rw[e] at hb;exact mem_cons_of_mem _ hb
 ·rw[e] at hb
  unfold frs at hb
  rw[filterMap_cons,hf] at hb
  exact hb
theorem Inv.zaP (I:Inv X pins σ H s):∀ b∈frs X.stack,H b=none:=λb hb=>by
 rcases mem_cons.mp (I.zbg b hb) with e | hb
 ·rw[e];exact I.free
 ·obtain ⟨_,o,ho,_⟩:=I.ok.zcn.mem hb
  exact I.base.free b o ho (I.ok.frf b hb) λz=>I.ok.exfs b z hb
theorem Inv.step {g' : Array GenState}{t' : Nat}{d' : Drawn}{ch:List Addr}(I:Inv X pins σ H s)
  (hch:∀ b∈ch,(b∈X.ex\/X.s₀.heap.objs.size<=b)/\b≠X.env.locals/\(∀ x c,X.env.cells.lookup x=some c->c≠b)/\∀ p∈X.pn++pins,p.1≠b)
  (keep:∀ b o,b≠X.env.locals->b∉X.fs->b∉ch->s.heap.get? b=some o->H b=none->h'.get? b=some o)
  (slot:∀ b o,b≠X.env.locals->b∈X.fs->b∉ch->s.heap.get? b=some o->H b=none->∃ sl,h'.get? b=some { o with slots:=sl }) (free:∀ b o,b∉ch->s.heap.get? b=some o->H b=none->H' b=none)
  (there:∀ b o,b∉ch->s.heap.get? b=some o->∃ o',h'.get? b=some o')
  (tups:∀ b xs,H b=some (.tup xs)->H' b=some (.tup xs)) (frzs:∀ b o u,H b=some (.frz o u)->H' b=some (.frz o u)) (tbls:∀ b cr,H b=some (.tbl cr)->H' b=some (.tbl cr))
  (ns:∀ m,s.heap.Ns X.env.locals m->h'.Ns X.env.locals m) (hok:HOk X.prog X.w H' h') (hg:AllBare g'):
  Inv X pins σ H' { s with heap:=h',gens:=g',drawn:=d',toks:=t' }:=by
 have neL:∀ b o,X.s₀.heap.get? b=some o->b≠X.env.locals:=λb o e=>ne_of_lt (Nat.lt_of_lt_of_le (lt_size e) I.ok.above)
 have neC:∀ b o,X.s₀.heap.get? b=some o->b∉X.ex->b∉ch:=λb o e hx hb=>by
  rcases (hch b hb).1 with z | z
  ·exact hx z
  ·exact absurd (Nat.lt_of_lt_of_le (lt_size e) z) (lt_irrefl _)
 have cellK:∀ x c,X.env.cells.lookup x=some c->∀ v,s.heap.IsCell c v->h'.IsCell c v:=λx c e v ⟨o,ho,hd⟩=>by
  have nch:c∉ch:=λz=>(hch c z).2.2.1 x c e rfl
  by_cases hc:c∈X.fs
  ·obtain ⟨sl,q⟩:=slot c o (I.cne x c e) hc nch ho (I.freeC x c e)
   exact ⟨_,q,hd⟩
  ·exact ⟨o,keep c o (I.cne x c e) hc nch ho (I.freeC x c e),hd⟩
 refine ⟨I.ok,I.os,hg,⟨λb o e n hb hx=>?_,λb o e n hb hx=>?_,λb o e n hx=>?_,λb o e hx=>?_,λb xs e=>tups b xs (I.base.tups b xs e),λb o xs e=>frzs b o xs (I.base.frzs b o xs e),λb ps e=>?_⟩,?_,λx c e=>?_,?_,λx c e=>?_,λp hp=>?_,hok,I.len⟩
 ·exact keep b o (neL b o e) hb (neC b o e hx) (I.base.keep b o e n hb hx) (I.base.free b o e n hx)
 ·obtain ⟨sl,e1⟩:=I.base.slot b o e n hb hx
  obtain ⟨sl',e2⟩:=slot b _ (neL b o e) hb (neC b o e hx) e1 (I.base.free b o e n hx)
  exact ⟨sl',e2⟩
 ·obtain ⟨o',e1⟩:=I.base.there b o e hx
  exact free b o' (neC b o e hx) e1 (I.base.free b o e n hx)
 ·obtain ⟨o',e1⟩:=I.base.there b o e hx
  exact there b o' (neC b o e hx) e1
 ·exact tbls b ps (I.base.tbls b ps e)
 ·obtain ⟨m,hn,hl⟩:=I.loc
  refine ⟨m,ns m hn,λi x v e1 e2 e3=>?_⟩
  obtain ⟨u,r,l⟩:=hl i x v e1 e2 e3
  refine ⟨u,r,?_⟩
  rcases l with l | ⟨k,c,e,z⟩
  ·exact .inl l
  ·exact .inr ⟨k,c,e,cellK x c e _ z⟩
 ·obtain ⟨v,z⟩:=I.cell x c e
  exact ⟨v,cellK x c e v z⟩
 ·obtain ⟨m,⟨o,_,_,ho,_⟩,_⟩:=I.loc
  exact free _ o (λz=>(hch _ z).2.1 rfl) ho I.free
 ·obtain ⟨v,o,ho,hd⟩:=I.cell x c e
  exact free c o (λz=>(hch c z).2.2.1 x c e rfl) ho (I.freeC x c e)
 ·obtain ⟨e,n,ne,nf,d⟩:=I.pin p hp
  have nch:p.1∉ch:=λz=>(hch p.1 z).2.2.2 p hp rfl
  exact ⟨keep p.1 p.2 ne nf nch e n,free p.1 p.2 nch e n,ne,nf,d⟩
theorem Inv.un {t' : Nat}(I:Inv X pins σ H s)(u:Un X.fs [] H H' s.heap h')(hok:HOk X.prog X.w H' h'):Inv X pins σ H' { s with heap:=h',toks:=t' }:=by
 obtain ⟨m,⟨o,es,ep,ho,r⟩,_⟩:=id I.loc
 obtain ⟨sl,hL⟩:=u.any ho I.free (by simp)
 exact I.step (g' := s.gens) (d' := s.drawn) (ch:=[]) (λ_ z=>nomatch z) (λb o _ hb _ e n=>u.keep b o e n hb (by simp)) (λb o _ hb _ e n=>u.slot b o e n hb (by simp)) (λb o _ e n=>u.free b o e n (by simp)) (λb o _ e=>u.there b o e (by simp)) u.tups u.frzs u.tbls (λm' hm=>by
  obtain ⟨o',es',ep',ho',r'⟩:=hm
  rw[ho] at ho';cases ho'
  exact ⟨_,es',ep',hL,r'⟩) hok I.bare
theorem Inv.call {g' : Array GenState}{t' : Nat}{d' : Drawn}{ch:List Addr}(I:Inv X pins σ H s)(u:Un (frs X.stack) ch H H' s.heap h')(hok:HOk X.prog X.w H' h')(hg:AllBare g')
  (hch:∀ b∈ch,(b∈X.ex\/X.s₀.heap.objs.size<=b)/\b≠X.env.locals/\(∀ x c,X.env.cells.lookup x=some c->c≠b)/\∀ p∈X.pn++pins,p.1≠b):
  Inv X pins σ H' { s with heap:=h',gens:=g',drawn:=d',toks:=t' }:=by
 obtain ⟨m,⟨o,es,ep,ho,r⟩,_⟩:=id I.loc
 obtain ⟨sl,hL⟩:=u.any ho I.free λz=>(hch _ z).2.1 rfl
 exact I.step (ch:=ch) hch (λb o hL hb hc e n=>u.keep b o e n (λz=>(mem_cons.mp (I.zbg b z)).elim hL hb) hc) (λb o _ _ hc e n=>u.any e n hc) (λb o hc e n=>u.free b o e n hc) (λb o hc e=>u.there b o e hc) u.tups u.frzs u.tbls (λm' hm=>by
  obtain ⟨o',es',ep',ho',r'⟩:=hm
  rw[ho] at ho';cases ho'
  exact ⟨_,es',ep',hL,r'⟩) hok hg
theorem Inv.turned {t' : Nat}{it:Addr}(I:Inv X pins σ H s)(k:∀ b o,b≠it->s.heap.get? b=some o->h'.get? b=some o)(hn:H it=none)(hL:it≠X.env.locals)
  (h1:it∈X.ex\/X.s₀.heap.objs.size<=it) (h2:∀ x c,X.env.cells.lookup x=some c->c≠it) (h3:∀ p∈X.pn++pins,p.1≠it):Inv X pins σ H { s with heap:=h',toks:=t' }:=by
 have nit:∀ b u,H b=some u->b≠it:=λb u e z=>by rw[z,hn] at e;cases e
 refine I.step (g' := s.gens) (d' := s.drawn) (ch:=[it]) (λb hb=>?_) (λb o _ _ hc e _=>k b o (λz=>hc (by simp[z])) e) (λb o _ _ hc e _=>⟨o.slots,k b o (λz=>hc (by simp[z])) e⟩) (λ_ _ _ _ n=>n)
  (λb o hc e=>⟨o,k b o (λz=>hc (by simp[z])) e⟩) (λ_ _ e=>e) (λ_ _ _ e=>e) (λ_ _ e=>e) (λm hm=>?_) (λb u e=>?_) I.bare
 ·have e:b=it:=by simpa using hb
  subst e
  exact ⟨h1,hL,h2,h3⟩
 ·obtain ⟨o,es,ep,ho,r⟩:=hm
  exact ⟨o,es,ep,k _ o (Ne.symm hL) ho,r⟩
 ·refine (I.hok b u e).stay (λc v hc q=>k c v ?_ q) (λ_ q=>q) (λ_ _ q=>q) λ_ _ _ q=>q
  rcases hc with z | z
  ·rw[z];exact nit b u e
  ·exact nit c _ z
theorem Inv.tok (I:Inv X pins σ H s)(t:Nat):Inv X pins σ H { s with toks:=t }:=I.un (h' := s.heap) (t' := t) Un.refl I.hok
theorem Inv.kept {t' : Nat}(I:Inv X pins σ H s)(k:∀ b u,s.heap.get? b=some u->h'.get? b=some u):Inv X pins σ H { s with heap:=h',toks:=t' }:=I.un (Un.kept k) (I.hok.kept k)
theorem Inv.laid {a:Addr}{o:HO}{t' : Nat}(I:Inv X pins σ H s)(k:∀ b u,s.heap.get? b=some u->h'.get? b=some u)(hp:s.heap.objs.size<=a)(new:Xp X.prog X.w (upd H a o) h' a o):
  Inv X pins σ (upd H a o) { s with heap:=h',toks:=t' }:=I.un (Un.laid k hp (I.hok.fresh hp)) (I.hok.laid k hp new)
theorem Inv.write {x e:Addr}{o:HO}{t' : Nat}(I:Inv X pins σ H s)(mu:Mut (H x))(he:e=x\/H e=some (.own x))(k:∀ b u,b≠e->s.heap.get? b=some u->h'.get? b=some u)(heo:∃ u,h'.get? e=some u)
  (new:Xp X.prog X.w (upd H x o) h' x o):Inv X pins σ (upd H x o) { s with heap:=h',toks:=t' }:=I.un (Un.write mu he k heo) (I.hok.write mu he k heo new)
theorem Inv.Jf {pins' : List (Addr×Obj)}(I:Inv X pins σ H s)(h:∀ p∈pins',s.heap.get? p.1=some p.2/\H p.1=none/\p.1≠X.env.locals/\p.1∉X.fs/\∀ v,p.2.data≠.cell v):Inv X pins' σ H s:=
 ⟨I.ok,I.os,I.bare,I.base,I.loc,I.cell,I.free,I.freeC,λp hp=>(mem_append.mp hp).elim (λz=>I.pin p (mem_append_left _ z)) (h p),I.hok,I.len⟩
theorem zbD {N:List Str}(hN:N.Nodup){i j:Nat}{x:Str}(a:N[i]?=some x)(b:N[j]?=some x):i=j:=by
 obtain ⟨h1,e1⟩:=List.getElem?_eq_some_iff.mp a
 obtain ⟨h2,e2⟩:=List.getElem?_eq_some_iff.mp b
 exact (List.getElem_inj hN).mp (e1.trans e2.symm)
theorem zdq {M:Model}{A:Around}{E:Value->Shared->Prop}{i:Nat}{x:Str}{v:V}{u:Value}{Q:Unit->Shared->Prop}(I:Inv X pins σ H s)(hN:X.N.Nodup)(hi:X.N[i]?=some x)(hx:Loc X.env.scope x)(r:RelV v u)
  (h:∀ s',Inv X pins (σ.set i (some v)) H s' -> (∃ a,SameBut a s.heap s'.heap/\(a=X.env.locals\/X.env.cells.lookup x=some a))->Q () s') (hf:X.fn x=true\/X.env.scope.names.lookup x=some .local:=by first | exact .inl rfl | exact .inr rfl | assumption):wpAny M A (storeName X.env x u) Q E s:=by
 obtain ⟨m,hn,hl⟩:=id I.loc
 have hcls:(X.env.scope.kind == .class||(X.env.scope.kind == .module&&X.env.locals != X.env.globals))=false:=by rw[I.ok.kind];rfl
 have hiσ:i<σ.length:=by rw[I.len];exact (List.getElem?_eq_some_iff.mp hi).1
 have cne:=I.cne
 have tracked:∀ {a:Addr}{h' : Heap},(∃ o,s.heap.get? a=some o/\H a=none)->SameBut a s.heap h' -> HOk X.prog X.w H h' := λ{a h'} ha hs b ob e=>by
  obtain ⟨_,_,hfree⟩:=ha
  refine (I.hok b ob e).stay (λc w' hc q=>(hs.2 c ?_).trans q) (λ_ q=>q) (λ_ _ q=>q) λ_ _ _ q=>q
  rintro rfl
  rcases hc with rfl | hc
  ·rw[hfree] at e;cases e
  ·rw[hfree] at hc;cases hc
 rcases hx with hk | hk
 ·refine wpAny_storeName_local hk hn (λh' hn' hs=>?_) hcls
  obtain ⟨oL,_,_,hoL,_⟩:=id hn
  refine h _ ⟨I.ok,I.os,I.bare,⟨λb o e n hb hx=>?_,λb o e n hb hx=>?_,I.base.free,λb o e hx=>?_,I.base.tups,I.base.frzs,I.base.tbls⟩,⟨_,hn',λj y v' e1 e2 e3=>?_⟩,λy c e=>?_,I.free,I.freeC,λp hp=>?_,tracked ⟨oL,hoL,I.free⟩ hs,by simpa using I.len⟩ ⟨_,hs,.inl rfl⟩
  ·exact (hs.2 b (ne_of_lt (Nat.lt_of_lt_of_le (lt_size e) I.ok.above))).trans (I.base.keep b o e n hb hx)
  ·obtain ⟨sl,e1⟩:=I.base.slot b o e n hb hx
   exact ⟨sl,(hs.2 b (ne_of_lt (Nat.lt_of_lt_of_le (lt_size e) I.ok.above))).trans e1⟩
  ·obtain ⟨o',e1⟩:=I.base.there b o e hx
   exact ⟨o',(hs.2 b (ne_of_lt (Nat.lt_of_lt_of_le (lt_size e) I.ok.above))).trans e1⟩
  ·by_cases hj:j=i
   ·subst hj
    rw[hi] at e1;cases e1
    rw[getElem?_set_self hiσ] at e2
    cases e2
    exact ⟨u,r,.inl ⟨hk,by simp⟩⟩
   ·rw[getElem?_set_ne (Ne.symm hj)] at e2
    obtain ⟨u',r',q⟩:=hl j y v' e1 e2 e3
    refine ⟨u',r',?_⟩
    rcases q with ⟨k,e⟩ | ⟨k,c,e,z⟩
    ·refine .inl ⟨k,?_⟩
     have:y≠x:=λe=>hj (zbD hN e1 (e ▸ hi))
     simp[this,e]
    ·exact .inr ⟨k,c,e,z.sameBut hs (cne y c e)⟩
  ·obtain ⟨w',z⟩:=I.cell y c e
   exact ⟨w',z.sameBut hs (cne y c e)⟩
  ·obtain ⟨e,n,ne,nf,d⟩:=I.pin p hp
   exact ⟨(hs.2 p.1 ne).trans e,n,ne,nf,d⟩
 ·have hfn:X.fn x=true:=by
   rcases hf with z | z
   ·exact z
   ·rw[z] at hk;cases hk
  obtain ⟨c,hc⟩:=I.ok.has x (.inl hk)
  obtain ⟨w',z⟩:=I.cell x c hc
  refine wpAny_storeName_cell I.ok.kind hk hc z (λh' hc' hs=>?_)
  obtain ⟨oc,hoc,hocd⟩:=id z
  refine h { s with heap:=h' } ⟨I.ok,I.os,I.bare,⟨λb o e n hb hx=>?_,λb o e n hb hx=>?_,I.base.free,λb o e hx=>?_,I.base.tups,I.base.frzs,I.base.tbls⟩,⟨m,hn.sameBut hs (Ne.symm (cne x c hc)),λj y v' e1 e2 e3=>?_⟩,λy c' e=>?_,I.free,I.freeC,λp hp=>?_,tracked ⟨oc,hoc,I.freeC x c hc⟩ hs,by simpa using I.len⟩ ⟨c,hs,.inr hc⟩
  ·exact (hs.2 b (ne_of_lt (Nat.lt_of_lt_of_le (lt_size e) (I.ok.cab x c hfn hc)))).trans (I.base.keep b o e n hb hx)
  ·obtain ⟨sl,e1⟩:=I.base.slot b o e n hb hx
   exact ⟨sl,(hs.2 b (ne_of_lt (Nat.lt_of_lt_of_le (lt_size e) (I.ok.cab x c hfn hc)))).trans e1⟩
  ·obtain ⟨o',e1⟩:=I.base.there b o e hx
   exact ⟨o',(hs.2 b (ne_of_lt (Nat.lt_of_lt_of_le (lt_size e) (I.ok.cab x c hfn hc)))).trans e1⟩
  ·by_cases hj:j=i
   ·subst hj
    rw[hi] at e1;cases e1
    rw[getElem?_set_self hiσ] at e2
    cases e2
    exact ⟨u,r,.inr ⟨.inl hk,c,hc,hc'⟩⟩
   ·rw[getElem?_set_ne (Ne.symm hj)] at e2
    obtain ⟨u',r',q⟩:=hl j y v' e1 e2 e3
    refine ⟨u',r',?_⟩
    rcases q with q | ⟨k,c',e,z'⟩
    ·exact .inl q
    ·refine .inr ⟨k,c',e,z'.sameBut hs ?_⟩
     rintro rfl
     exact hj (zbD hN e1 (I.ok.inj _ _ _ e hc ▸ hi))
  ·by_cases hcc:c'=c
   ·subst hcc;exact ⟨_,hc'⟩
   ·obtain ⟨w2,z2⟩:=I.cell y c' e
    exact ⟨w2,z2.sameBut hs hcc⟩
  ·obtain ⟨e,n,ne,nf,d⟩:=I.pin p hp
   refine ⟨(hs.2 p.1 ?_).trans e,n,ne,nf,d⟩
   intro q
   rw[q,hoc] at e
   have q' : oc=p.2:=Option.some.inj e
   exact d w' (by rw[← q'];exact hocd)
theorem J4 {M:Model}{A:Around}{E:Value->Shared->Prop}{i:Nat}{x:Str}{v:V}{u:Value}{Q:Unit->Shared->Prop}(I:Inv X pins σ H s)(hN:X.N.Nodup)(hi:X.N[i]?=some x)(hx:Loc X.env.scope x)(r:RelV v u)
  (h:∀ s',Inv X pins (σ.set i (some v)) H s' -> Q () s') (hf:X.fn x=true\/X.env.scope.names.lookup x=some .local:=by first | exact .inl rfl | exact .inr rfl | assumption):wpAny M A (storeName X.env x u) Q E s:=
 zdq I hN hi hx r (λs' I' _=>h s' I') hf
theorem Inv.call' {s' : Shared}{ch:List Addr}(I:Inv X pins σ H s)(ho:s'.os=s.os)(u:Un (frs X.stack) ch H H' s.heap s'.heap)(hok:HOk X.prog X.w H' s'.heap)(hg:AllBare s'.gens)
  (hch:∀ b∈ch,(b∈X.ex\/X.s₀.heap.objs.size<=b)/\b≠X.env.locals/\(∀ x c,X.env.cells.lookup x=some c->c≠b)/\∀ p∈X.pn++pins,p.1≠b):Inv X pins σ H' s' := by
 obtain ⟨h',g',d',t',o'⟩:=s'
 have e:o'=s.os:=ho
 subst e
 exact I.call (g' := g') (t' := t') (d' := d') u hok hg hch
end
abbrev XK:=Value->Option Addr->Hp->Prop
abbrev St:=List (Option V)
abbrev VK:=V->Hp->Prop
abbrev TE:=St->Hp->VK->Prop
abbrev TT:=St->Hp->(Bool->Hp->Prop)->Prop
abbrev TA:=St->Hp->(List V->Hp->Prop)->Prop
structure Ends where
 nx:St->Hp->Prop
 rt:VK
 bk:St->Hp->Prop:=λ_ _=>False
 ct:St->Hp->Prop:=λ_ _=>False
abbrev TS:=Ends->St->Hp->Prop
def EP (X:Cx)(pins:List (Addr×Obj))(σ:St)(Q:VK)(u:Value)(s' : Shared):Prop:=∃ v H',Inv X pins σ H' s' /\ RelV v u/\Q v H'
def TP (X:Cx)(pins:List (Addr×Obj))(σ:St)(Q:Bool->Hp->Prop)(b:Bool)(s' : Shared):Prop:=∃ H',Inv X pins σ H' s' /\ Q b H'
def AP (X:Cx)(pins:List (Addr×Obj))(σ:St)(Q:List V->Hp->Prop)(us:List Value)(s' : Shared):Prop:=∃ vs H',Inv X pins σ H' s' /\ Vals vs us/\Q vs H'
def SP (X:Cx)(pins:List (Addr×Obj))(D:Ends)(f:Flow)(s' : Shared):Prop:=
 match f with
 | .next=>∃ σ' H',Inv X pins σ' H' s' /\ D.nx σ' H'
 | .brk=>∃ σ' H',Inv X pins σ' H' s' /\ D.bk σ' H'
 | .cont=>∃ σ' H',Inv X pins σ' H' s' /\ D.ct σ' H'
 | .ret u=>∃ v σ' H',Inv X pins σ' H' s' /\ RelV v u/\D.rt v H'
def PE (X:Cx)(e:Expr)(t:TE):Prop:=
 ∀ (pins:List (Addr×Obj)) (s:Shared) (σ:St) (H:Hp) (Q:VK),Inv X pins σ H s->t σ H Q->wpAny (model X.prog X.w) X.A (eval e X.env) (EP X pins σ Q) X.xe s
def PT (X:Cx)(e:Expr)(t:TT):Prop:=
 ∀ (pins:List (Addr×Obj)) (s:Shared) (σ:St) (H:Hp) (Q:Bool->Hp->Prop),Inv X pins σ H s->t σ H Q->wpAny (model X.prog X.w) X.A (isTrue e X.env (eval e X.env)) (TP X pins σ Q) X.xe s
def PW (X:Cx)(e:Expr)(t:TT):Prop:=
 ∀ (whole:Sem Value) (pins:List (Addr×Obj)) (s:Shared) (σ:St) (H:Hp) (Q:Bool->Hp->Prop),Inv X pins σ H s->t σ H Q->wpAny (model X.prog X.w) X.A (isTrue e X.env whole) (TP X pins σ Q) X.xe s
theorem PW.pt {X:Cx}{e:Expr}{t:TT}(h:PW X e t):PT X e t:=h _
def PA (X:Cx)(es:List Expr)(t:TA):Prop:=
 ∀ (pos:Pos) (pins:List (Addr×Obj)) (s:Shared) (σ:St) (H:Hp) (Q:List V->Hp->Prop),Inv X pins σ H s->t σ H Q->wpAny (model X.prog X.w) X.A (spliced (backTo pos (starEach es X.env))) (AP X pins σ Q) X.xe s
def PS (X:Cx)(st:Stmt)(t:TS):Prop:=
 ∀ (pins:List (Addr×Obj)) (s:Shared) (σ:St) (H:Hp) (D:Ends),Inv X pins σ H s->t D σ H->wpAny (model X.prog X.w) X.A (exec st X.env) (SP X pins D) X.xe s
def PSs (X:Cx)(st:List Stmt)(t:TS):Prop:=
 ∀ (pins:List (Addr×Obj)) (s:Shared) (σ:St) (H:Hp) (D:Ends),Inv X pins σ H s->t D σ H->wpAny (model X.prog X.w) X.A (execs st X.env) (SP X pins D) X.xe s
theorem thn {α:Type}{t:Sem α}{Q Q' : α->Shared->Prop}{M:Model}{A:Around}{E:Value->Shared->Prop}{s:Shared}(h:wpAny M A t Q E s)(hQ:∀ a s,Q a s->Q' a s):wpAny M A t Q' E s:=wpAny_mono h hQ λ_ _ x=>x
section
variable {X:Cx}
def WL (i:Nat):TE:=fun σ H Q=>∃ v,σ[i]?=some (some v)/\Q v H
def tC (v:V):TE:=λ_ H Q=>Q v H
theorem zhq {i:Nat}{x:Str}{pos:Pos}(hN:X.N[i]?=some x)(hv:Vis X.env.scope x)(hd:(x==("__debug__" : Str))=false:=by decide)(hcd:(x==("__classdict__" : Str))=false:=by decide):PE X (.Name x pos) (WL i):=by
 intro pins s σ H Q I h
 obtain ⟨v,e,h⟩:=h
 obtain ⟨m,hn,hl⟩:=I.loc
 obtain ⟨u,r,l⟩:=hl i x v hN e hv
 have fin:EP X pins σ Q u s:=⟨v,H,I,r,h⟩
 rcases l with ⟨hk,hm⟩ | ⟨hk,c,hc,hcell⟩
 ·exact wpAny_Name (wpAny_loadName_local I.ok.kind hk hn hm fin) hd
 ·rcases hk with hk | hk
  ·exact wpAny_Name (wpAny_loadName_cell I.ok.kind hk hc hcell fin) hd
  ·exact wpAny_Name (wpAny_loadName_free I.ok.kind hk hc hcell fin hcd) hd
theorem Zh {i j pos}:PE X (.Constant (.int i) j pos) (tC (.int i)):=λ_ _ _ H _ I h=>wpAny_Constant_int ⟨.int i,H,I.tok _,⟨_,rfl⟩,h⟩
theorem zdp {b j pos}:PE X (.Constant (.bool b) j pos) (tC (.bl b)):=λ_ _ _ H _ I h=>Constant_bool ⟨.bl b,H,I,rfl,h⟩
theorem Jj {j pos}:PE X (.Constant .none j pos) (tC .non):=λ_ _ _ H _ I h=>Constant_none ⟨.non,H,I,rfl,h⟩
theorem Ji {x j pos}:PE X (.Constant (.str x) j pos) (tC (.str x)):=λ_ _ _ H _ I h=>Calls.Constant_str ⟨.str x,H,I.tok _,⟨_,rfl⟩,h⟩
def Gl (X:Cx)(x:Str):Prop:=X.env.kindOf x=some .globalImplicit
theorem zfR {E:Value->Shared->Prop}{pins:List (Addr×Obj)}{s:Shared}{σ:St}{H:Hp}{x:Str}{u:Value}{pos:Pos}{Q:Value->Shared->Prop}(I:Inv X pins σ H s)(hg:Gl X x)(hm:X.mg x=some u)(h:Q u s)
  (hd:(x==("__debug__" : Str))=false:=by decide):wpAny (model X.prog X.w) X.A (eval (.Name x pos) X.env) Q E s:=
 Calls.Name_function_global I.ok.kind hg (Calls.loadGlobal_global (by rw[I.ok.glob];exact I.mod.glob.keeps I.bk) hm h) hd
theorem WK {E:Value->Shared->Prop}{pins:List (Addr×Obj)}{s:Shared}{σ:St}{H:Hp}{x:Str}{u:Value}{pos:Pos}{Q:Value->Shared->Prop}(I:Inv X pins σ H s)(hg:Gl X x)(hm:X.mg x=none)(hv:bootBuiltins x=some u)(h:Q u s)
  (hn:x≠ "__name__" := by decide) (hd:(x==("__debug__" : Str))=false:=by decide):wpAny (model X.prog X.w) X.A (eval (.Name x pos) X.env) Q E s:=by
 obtain ⟨mb,h1,h2⟩:=I.mod.blt
 exact Calls.Name_function_global I.ok.kind hg (Calls.loadGlobal_builtin (by rw[I.ok.glob];exact I.mod.glob.keeps I.bk) hm (by rw[I.ok.blt];exact h1.keeps I.bk) ((h2 x hn).trans hv) h) hd
theorem zfG {x:Str}{v:V}{u:Value}{pos:Pos}(hg:Gl X x)(hm:X.mg x=none)(hv:bootBuiltins x=some u)(r:RelV v u)(hn:x≠ "__name__" := by decide)(hd:(x==("__debug__" : Str))=false:=by decide):PE X (.Name x pos) (tC v):=
 λ_ _ _ H _ I h=>WK I hg hm hv ⟨v,H,I,r,h⟩ hn hd
variable {a b:Expr}{ta tb:TE}{pos:Pos}
def tB (t:TE):TT:=fun σ H Q=>t σ H λx H1=>∃ c,x = .bl c/\Q c H1
theorem QK {e:Expr}{t:TE}(h:PE X e t)(he:∀ whole,isTrue e X.env whole=(do let v ← whole;standAt e.pos;holding [v] (truthy v)):=by intro _;rfl):PT X e (tB t):=by
 intro pins s σ H Q I hw
 refine isTrue_plain (thn (h pins s σ H _ I hw) λv s1 ⟨x,H1,I1,r1,q1⟩=>?_) (he _)
 obtain ⟨d,rfl,q⟩:=q1
 cases r1
 exact wpAny_truthy_bool ⟨H1,I1,q⟩
variable {tA tB' : TT}{rest:List Expr}
def zjK (t u:TT):TT:=fun σ H Q=>t σ H λc H1=>if c=true then u σ H1 Q else Q false H1
def tOr (t u:TT):TT:=fun σ H Q=>t σ H λc H1=>if c=true then Q true H1 else u σ H1 Q
def zjF (t:TT):TT:=fun σ H Q=>t σ H λc H1=>Q (!c) H1
theorem pw_and1 (ha:PT X a tA):PW X (.BoolOp .And [a] pos) tA:=by
 intro wh pins s σ H Q I h
 refine isTrue_and (thn (ha pins s σ H Q I h) λc s1 e=>?_)
 cases c with
 | true=>exact isTrue_and_nil e
 | false=>exact e
theorem pw_or1 (ha:PT X a tA):PW X (.BoolOp .Or [a] pos) tA:=by
 intro wh pins s σ H Q I h
 refine isTrue_or (thn (ha pins s σ H Q I h) λc s1 e=>?_)
 cases c with
 | false=>exact isTrue_or_nil e
 | true=>exact e
theorem pw_and (ha:PT X a tA)(hb:PW X (.BoolOp .And (b::rest) pos) tB'):PW X (.BoolOp .And (a::b::rest) pos) (zjK tA tB'):=by
 intro wh pins s σ H Q I h
 refine isTrue_and (thn (ha pins s σ H _ I h) λc s1 ⟨H1,I1,q1⟩=>?_)
 cases c with
 | true=>exact hb wh pins s1 σ H1 Q I1 q1
 | false=>exact ⟨H1,I1,q1⟩
theorem pw_or (ha:PT X a tA)(hb:PW X (.BoolOp .Or (b::rest) pos) tB'):PW X (.BoolOp .Or (a::b::rest) pos) (tOr tA tB'):=by
 intro wh pins s σ H Q I h
 refine isTrue_or (thn (ha pins s σ H _ I h) λc s1 ⟨H1,I1,q1⟩=>?_)
 cases c with
 | true=>exact ⟨H1,I1,q1⟩
 | false=>exact hb wh pins s1 σ H1 Q I1 q1
theorem zas (ha:PT X a tA):PT X (.UnaryOp .Not a pos) (zjF tA):=by
 intro pins s σ H Q I h
 exact isTrue_not (ha pins s σ H (λc H1=>Q (!c) H1) I h)
def zg5 (ta tb:TE):TE:=fun σ H Q=>ta σ H λx H1=>∃ c,x = .bl c/\if c=true then tb σ H1 Q else Q (.bl false) H1
theorem zcG {op}{t:TE}(h:PE X a t):PE X (.BoolOp op [a] pos) t:=λpins s σ H Q I hw=>BoolOp_one (h pins s σ H Q I hw)
theorem zdc (ha:PE X a ta)(hb:PE X (.BoolOp .And (b::rest) pos) tb):PE X (.BoolOp .And (a::b::rest) pos) (zg5 ta tb):=by
 intro pins s σ H Q I h
 refine BoolOp_and (thn (ha pins s σ H _ I h) λv s1 ⟨x,H1,I1,r1,q1⟩=>?_)
 obtain ⟨c,rfl,q1⟩:=q1
 cases r1
 refine wpAny_truthy_bool ?_
 cases c with
 | true=>exact hb pins s1 σ H1 Q I1 q1
 | false=>exact ⟨.bl false,H1,I1,rfl,q1⟩
def tIf (t:TT)(ta tb:TE):TE:=fun σ H Q=>t σ H λc H1=>if c=true then ta σ H1 Q else tb σ H1 Q
theorem zd8 {c:Expr}(hc:PT X c tA)(ha:PE X a ta)(hb:PE X b tb):PE X (.IfExp c a b pos) (tIf tA ta tb):=by
 intro pins s σ H Q I h
 refine wpAny_IfExp (thn (hc pins s σ H _ I h) λd s1 ⟨H1,I1,q1⟩=>?_)
 cases d with
 | true=>exact ha pins s1 σ H1 Q I1 q1
 | false=>exact hb pins s1 σ H1 Q I1 q1
end
def SqL (K:PySem.W.Frag)(H:Hp)(a:Addr)(xs:List V):Prop:=
 Rd H a (.lst xs)\/
  ∃ (o:Obj) (its:Array Value) (n:Nat),K.lookup a=some o/\o.cls = .type "list" /\ o.dict=none/\o.data = .seq its n/\its.size<=sizeLine/\Vals xs its.toList
def SqT (K:PySem.W.Frag)(H:Hp)(a:Addr)(xs:List V):Prop:=
 Rd H a (.tup xs)\/
  ∃ (o:Obj) (its:Array Value) (n:Nat),K.lookup a=some o/\o.cls = .type "tuple" /\ o.data = .seq its n/\its.size<=sizeLine/\Vals xs its.toList
noncomputable def zky:Value->Option V
 | .none=>some .non
 | .bool b=>some (.bl b)
 | .int i _=>some (.int i)
 | .str x _=>some (.str x)
 | .bytes b _=>some (.byt b)
 | .float b _=>some (.flt b)
 | .ref a=>some (.ref a)
 | .type n=>some (.ty n)
 | _=>none
theorem RelV.abs {x:V}{u:Value}(r:RelV x u):zky u=some x:=by
 cases x with
 | non=>cases r;rfl
 | bl _=>cases r;rfl
 | int _=>obtain ⟨t,rfl⟩:=r;rfl
 | str _=>obtain ⟨t,rfl⟩:=r;rfl
 | byt _=>obtain ⟨t,rfl⟩:=r;rfl
 | flt _=>obtain ⟨t,rfl⟩:=r;rfl
 | ref _=>cases r;rfl
 | ty _=>cases r;rfl
theorem RelV.inj {x y:V}{u:Value}(r:RelV x u)(q:RelV y u):x=y:=Option.some.inj (r.abs.symm.trans q.abs)
theorem Vals.inj:∀ {xs ys:List V}{us:List Value},Vals xs us->Vals ys us->xs=ys
 | _,_,_,.nil,.nil=>rfl
 | _,_,_,.cons r t,.cons r' t' => by rw[r.inj r',Vals.inj t t']
section
variable {X:Cx}{pins:List (Addr×Obj)}{σ:St}{H:Hp}{s:Shared}{a:Addr}{xs ys:List V}
theorem SqL.of {K:PySem.W.Frag}(h:H a=some (.lst xs)):SqL K H a xs:=.inl (.inl h)
theorem SqT.of {K:PySem.W.Frag}(h:H a=some (.tup xs)):SqT K H a xs:=.inl (.inl h)
theorem Inv.list (I:Inv X pins σ H s)(h:SqL X.K H a xs):∃ its:List Value,Vals xs its/\PlainL s.heap a its.toArray/\xs.length<=sizeLine:=by
 rcases h with h | ⟨o,its,n,hk,hc,hd,hs,hz,r⟩
 ·obtain ⟨z,its,n,r,e⟩:=h.ok I.hok
  exact ⟨its,r,⟨_,n,e,rfl,rfl,rfl⟩,z⟩
 ·refine ⟨its.toList,r,⟨o,n,I.kIn a o hk,hc,hd,by simpa using hs⟩,?_⟩
  have e:=r.length
  simp only[length_toList] at e
  omega
theorem Inv.tuple (I:Inv X pins σ H s)(h:SqT X.K H a xs):∃ its:List Value,Vals xs its/\IsTup s.heap a its.toArray/\xs.length<=sizeLine:=by
 rcases h with h | ⟨o,its,n,hk,hc,hs,hz,r⟩
 ·obtain ⟨z,its,r,p,_⟩:=h.ok I.hok
  exact ⟨its,r,p,z⟩
 ·refine ⟨its.toList,r,⟨o,I.kIn a o hk,hc,n,by simpa using hs⟩,?_⟩
  have e:=r.length
  simp only[length_toList] at e
  omega
theorem Inv.zey (I:Inv X pins σ H s)(h:SqL X.K H a xs)(h' : SqL X.K H a ys):xs=ys:=by
 obtain ⟨its,r,⟨o,n,e,_,_,d⟩,_⟩:=I.list h
 obtain ⟨its',r',⟨o',n',e',_,_,d'⟩,_⟩:=I.list h'
 rw[e] at e';cases e'
 rw[d] at d'
 injection d' with d1 _
 have:its=its' := by simpa using congrArg Array.toList d1
 subst this
 exact r.inj r'
theorem Inv.J6 (I:Inv X pins σ H s)(h:SqT X.K H a xs)(h' : SqT X.K H a ys):xs=ys:=by
 obtain ⟨its,r,⟨o,e,_,n,d⟩,_⟩:=I.tuple h
 obtain ⟨its',r',⟨o',e',_,n',d'⟩,_⟩:=I.tuple h'
 rw[e] at e';cases e'
 rw[d] at d'
 injection d' with d1 _
 have:its=its' := by simpa using congrArg Array.toList d1
 subst this
 exact r.inj r'
end
abbrev Cx.wish (X:Cx)(E:Value->Shared->Prop):Cx:={ X with xe:=E }
abbrev Cx.nox (X:Cx):Cx:=X.wish λ_ _=>False
theorem Cx.Ok.wish {X:Cx}(ok:X.Ok)(E:Value->Shared->Prop):(X.wish E).Ok:=
 ⟨ok.mod,ok.kind,ok.glob,ok.blt,ok.above,ok.inj,ok.has,ok.cab,ok.hd,ok.frames,ok.stk,ok.exf,ok.bs,ok.bsz,ok.noex,ok.exfs,ok.zcn,ok.frf⟩
theorem Cx.Ok.Qz {X:Cx}{E:Value->Shared->Prop}(ok:(X.wish E).Ok):X.Ok:=
 ⟨ok.mod,ok.kind,ok.glob,ok.blt,ok.above,ok.inj,ok.has,ok.cab,ok.hd,ok.frames,ok.stk,ok.exf,ok.bs,ok.bsz,ok.noex,ok.exfs,ok.zcn,ok.frf⟩
section
variable {X:Cx}{pins:List (Addr×Obj)}{σ:St}{H:Hp}{s:Shared}{E:Value->Shared->Prop}
theorem Inv.wish (I:Inv X pins σ H s)(E:Value->Shared->Prop):Inv (X.wish E) pins σ H s:=⟨I.ok.wish E,I.os,I.bare,I.base,I.loc,I.cell,I.free,I.freeC,I.pin,I.hok,I.len⟩
theorem Inv.Qz (I:Inv (X.wish E) pins σ H s):Inv X pins σ H s:=⟨I.ok.Qz,I.os,I.bare,I.base,I.loc,I.cell,I.free,I.freeC,I.pin,I.hok,I.len⟩
theorem SP.Qz {D:Ends}{f:Flow}{s' : Shared}(h:SP (X.wish E) pins D f s'):SP X pins D f s' := by
 cases f with
 | next=>obtain ⟨σ',H',I,q⟩:=h;exact ⟨σ',H',I.Qz,q⟩
 | brk=>obtain ⟨σ',H',I,q⟩:=h;exact ⟨σ',H',I.Qz,q⟩
 | cont=>obtain ⟨σ',H',I,q⟩:=h;exact ⟨σ',H',I.Qz,q⟩
 | ret u=>obtain ⟨v,σ',H',I,r,q⟩:=h;exact ⟨v,σ',H',I.Qz,r,q⟩
theorem PSs.nox {st:List Stmt}{t:TS}(h:PSs X.nox st t):PSs X st t:=λpins s σ H D I hw=>
 wpAny_mono (h pins s σ H D (I.wish _) hw) (λ_ _ q=>q.Qz) λ_ _ z=>False.elim z
end
section
variable {X:Cx}{st:Stmt}{rest:List Stmt}{t u:TS}{e:Expr}{te:TE}{pos:Pos}
def ziw:TS:=λD σ H=>D.nx σ H
def zjW (t u:TS):TS:=λD σ H=>t { D with nx:=u D } σ H
theorem ZX:PSs X [] ziw:=λ_ _ σ H _ I h=>wpAny_execs_nil ⟨σ,H,I,h⟩
theorem Ze (h1:PS X st t)(h2:PSs X rest u):PSs X (st::rest) (zjW t u):=by
 intro pins s σ H D I h
 refine wpAny_execs_cons (thn (h1 pins s σ H { D with nx:=u D } I h) λf s1 q=>?_)
 cases f with
 | next=>
  obtain ⟨σ',H',I',q⟩:=q
  exact h2 pins s1 σ' H' D I' q
 | ret v=>exact q
 | brk=>exact q
 | cont=>exact q
theorem Zm (h1:PS X st t):PSs X [st] t:=by
 intro pins s σ H D I h
 refine wpAny_execs_cons (thn (h1 pins s σ H D I h) λf s1 q=>?_)
 cases f with
 | next=>exact wpAny_execs_nil q
 | ret v=>exact q
 | brk=>exact q
 | cont=>exact q
theorem Inv.quiet {pins:List (Addr×Obj)}{σ:St}{H:Hp}{s:Shared}(I:Inv X pins σ H s):interactive X.env=false:=by simp[interactive,I.ok.kind]
def zgV (te:TE):TS:=λD σ H=>te σ H λ_ H1=>D.nx σ H1
theorem Wu (he:PE X e te)(hs:swapsWith e none pos.line X.env=pure false:=by rfl):PS X (.Expr e pos) (zgV te):=by
 intro pins s σ H D I h
 exact wpAny_Expr_any (thn (he pins s σ H _ I h) λv s1 ⟨x,H1,I1,r1,q1⟩=>⟨σ,H1,I1,q1⟩) I.quiet hs
def zj9 (te:TE):TS:=λD σ H=>te σ H D.rt
theorem Z5 (he:PE X e te):PS X (.Return (some e) pos) (zj9 te):=by
 intro pins s σ H D I h
 exact wpAny_Return_some (thn (he pins s σ H _ I h) λv s1 ⟨x,H1,I1,r1,q1⟩=>⟨x,σ,H1,I1,r1,q1⟩)
def zji (c:TT)(t u:TS):TS:=λD σ H=>c σ H λb H1=>if b=true then t D σ H1 else u D σ H1
theorem YX {c:Expr}{a b:List Stmt}{tc:TT}(hc:PT X c tc)(ha:PSs X a t)(hb:PSs X b u):PS X (.If c a b pos) (zji tc t u):=by
 intro pins s σ H D I h
 refine wpAny_If (thn (hc pins s σ H _ I h) λd s1 ⟨H1,I1,q1⟩=>?_)
 cases d with
 | true=>exact ha pins s1 σ H1 D I1 q1
 | false=>exact hb pins s1 σ H1 D I1 q1
end
abbrev TG:=V->St->Hp->(St->Hp->Prop)->Prop
abbrev TGs:=List V->St->Hp->(St->Hp->Prop)->Prop
def PG (X:Cx)(target:Expr)(t:TG):Prop:=
 ∀ (pins:List (Addr×Obj)) (s:Shared) (σ:St) (H:Hp) (v:V) (u:Value) (Q:St->Hp->Prop),Inv X pins σ H s->RelV v u->t v σ H Q->
  wpAny (model X.prog X.w) X.A (assign target X.env u) (λ_ s' => ∃ σ' H',Inv X pins σ' H' s' /\ Q σ' H') X.xe s
def PGs (X:Cx)(ts:List Expr)(t:TGs):Prop:=
 ∀ (pins:List (Addr×Obj)) (s:Shared) (σ:St) (H:Hp) (vs:List V) (us:List Value) (Q:St->Hp->Prop),Inv X pins σ H s->Vals vs us->t vs σ H Q->
  wpAny (model X.prog X.w) X.A (assignInOrder ((assignEach ts X.env).map (·.2)) us) (λ_ s' => ∃ σ' H',Inv X pins σ' H' s' /\ Q σ' H') X.xe s
abbrev V8:=V->V->V->Hp->(Hp->Prop)->Prop
def zkm (X:Cx)(t:V8):Prop:=
 ∀ (pins:List (Addr×Obj)) (s:Shared) (σ:St) (H:Hp) (o i v:V) (ov iv u:Value) (Q:Hp->Prop),Inv X pins σ H s->RelV o ov->RelV i iv->RelV v u->t o i v H Q->
  wpAny (model X.prog X.w) X.A (setItem ov iv u) (λ_ s' => ∃ H',Inv X pins σ H' s' /\ Q H') X.xe s
section
variable {X:Cx}{pos:Pos}
def Ja (i:Nat):TG:=λv σ H Q=>Q (σ.set i (some v)) H
theorem Z8 {i:Nat}{x:Str}(hN:X.N.Nodup)(hi:X.N[i]?=some x)(hx:Loc X.env.scope x)(hf:X.fn x=true\/X.env.scope.names.lookup x=some .local:=by first | exact .inl rfl | exact .inr rfl | assumption):PG X (.Name x pos) (Ja i):=by
 intro pins s σ H v u Q I r h
 exact wpAny_assign_Name (J4 I hN hi hx r (λs' I' => ⟨_,H,I',h⟩) hf)
def zhk:TGs:=λvs σ H Q=>vs=[]/\Q σ H
def QR (t:TG)(u:TGs):TGs:=λvs σ H Q=>∃ v r,vs=v::r/\t v σ H fun σ' H' => u r σ' H' Q
theorem Jd:PGs X [] zhk:=by
 intro pins s σ H vs us Q I r h
 obtain ⟨e,h⟩:=h
 subst e
 cases r
 exact assignInOrder_nil ⟨σ,H,I,h⟩
theorem Yv {e:Expr}{es:List Expr}{t:TG}{u:TGs}(h1:PG X e t)(h2:PGs X es u)
  (hs:(assignEach (e::es) X.env).map (·.2)=assign e X.env::(assignEach es X.env).map (·.2):=by rfl):PGs X (e::es) (QR t u):=by
 intro pins s σ H vs us Q I r h
 obtain ⟨v,vr,e1,h⟩:=h
 subst e1
 cases r with
 | cons r rr=>
  rw[hs]
  refine assignInOrder_cons (thn (h1 pins s σ H _ _ _ I r h) λ_ s1 ⟨σ1,H1,I1,q1⟩=>?_)
  exact h2 pins s1 σ1 H1 _ _ Q I1 rr q1
def zh3 (K:PySem.W.Frag)(n:Nat)(t:TGs):TG:=λv σ H Q=>∃ a xs,v = .ref a/\SqT K H a xs/\xs.length=n/\t xs σ H Q
theorem QC {es:List Expr}{k:Nat}{t:TGs}{n:Nat}(hc:X.calm=true)(h:PGs X es t)
  (hn:(assignEach es X.env).length=n:=by rfl) (hst:(assignEach es X.env).findIdx? (·.1)=none:=by rfl):PG X (.Tuple es k pos) (zh3 X.K n t):=by
 intro pins s σ H v u Q I r hw
 obtain ⟨a,xs,e1,hq,hl,hw⟩:=hw
 subst e1
 cases r
 obtain ⟨its,rv,ht,hz⟩:=I.tuple hq
 refine assign_Tuple_tuple (I.ok.hd hc) ht (by simp[hn,← hl,rv.length]) hst λh' hx=>?_
 have I1:Inv X pins σ H { s with heap:=h' }:=I.kept (t' := s.toks) λb o e=>hx b o (ne_of_lt (lt_size e)) e
 exact h pins _ σ H xs _ Q I1 (by simpa using rv) hw
def zkq (to ti:TE)(t:V8):TG:=λv σ H Q=>to σ H λo H1=>ti σ H1 λi H2=>t o i v H2 λH3=>Q σ H3
theorem zij {o i:Expr}{to ti:TE}{t:V8}(ho:PE X o to)(hi:PE X i ti)(hs:zkm X t)
  (ha:∀ v,assign (.Subscript o i pos) X.env v=(do
   let ov ← holding [v] (eval o X.env)
   let iv ← holding [v,ov] (eval i X.env)
   standAt pos
   holding [v,ov,iv] (setItem ov iv v)
   release [v,ov,iv] []):=by intro _;rfl):PG X (.Subscript o i pos) (zkq to ti t):=by
 intro pins s σ H v u Q I r h
 rw[ha]
 refine wpAny_bind (wpAny_holding (thn (ho pins s σ H _ I h) λov s1 ⟨x,H1,I1,r1,q1⟩=>?_))
 refine wpAny_bind (wpAny_holding (thn (hi pins s1 σ H1 _ I1 q1) λiv s2 ⟨y,H2,I2,r2,q2⟩=>?_))
 refine wpAny_bind (wpAny_standAt (wpAny_bind (wpAny_holding (thn (hs pins s2 σ H2 x y v ov iv u _ I2 r1 r2 r q2) λ_ s3 ⟨H3,I3,q3⟩=>?_))))
 exact wpAny_release ⟨σ,H3,I3,q3⟩
def ziP (te:TE)(g:TG):TS:=λD σ H=>te σ H λx H1=>g x σ H1 D.nx
theorem zbI {tg e:Expr}{te:TE}{g:TG}(he:PE X e te)(hg:PG X tg g)(hs:swapsWithSole [tg] e pos.line X.env=pure false:=by rfl)(hw:swappedStores [tg] e X.env=pure none:=by rfl)
  (h1:(assignEach [tg] X.env).map (·.2)=[assign tg X.env]:=by rfl):PS X (.Assign [tg] e pos) (ziP te g):=by
 intro pins s σ H D I h
 refine wpAny_Assign_stores (thn (he pins s σ H _ I h) λv s1 ⟨x,H1,I1,r1,q1⟩=>?_) hs hw
 rw[h1]
 exact thn (hg pins s1 σ H1 x v _ I1 r1 q1) λ_ s2 q=>q
theorem Zr {i:Nat}{x:Str}{e:Expr}{te:TE}{pos' : Pos}(hN:X.N.Nodup)(hi:X.N[i]?=some x)(hx:Loc X.env.scope x)(he:PE X e te)(hs:swapsWith e (some (.Name x pos')) pos.line X.env=pure false:=by rfl)(hf:X.fn x=true\/X.env.scope.names.lookup x=some .local:=by first | exact .inl rfl | exact .inr rfl | assumption):
  PS X (.Assign [.Name x pos'] e pos) (ziP te (Ja i)):=by
 intro pins s σ H D I h
 refine wpAny_Assign_Name (thn (he pins s σ H _ I h) λv s1 ⟨y,H1,I1,r1,q1⟩=>?_) hs
 exact J4 I1 hN hi hx r1 (λs2 I2=>⟨_,H1,I2,q1⟩) hf
def zkk (i j:Nat)(ta:TA):TS:=λD σ H=>ta σ H λvs H1=>∃ v w,vs=[v,w]/\D.nx ((σ.set i (some v)).set j (some w)) H1
theorem zil {i j:Nat}{x y:Str}{a b:Expr}{ta:TA}{px py pt:Pos}{kt k2 pt2}(hc:X.calm=true)(hN:X.N.Nodup)(hi:X.N[i]?=some x)(hj:X.N[j]?=some y)(hij:i≠j)
  (hx:X.env.scope.names.lookup x=some .local) (hy:X.env.scope.names.lookup y=some .local) (ha:PA X [a,b] ta)
  (hw:swappedStores [.Tuple [.Name x px,.Name y py] kt pt] (.Tuple [a,b] k2 pt2) X.env=pure (some [x,y]))
  (hs:swapsWithSole [.Tuple [.Name x px,.Name y py] kt pt] (.Tuple [a,b] k2 pt2) pos.line X.env=pure false:=by rfl):
  PS X (.Assign [.Tuple [.Name x px,.Name y py] kt pt] (.Tuple [a,b] k2 pt2) pos) (zkk i j ta):=by
 intro pins s σ H D I h
 rw[exec_Assign_arm]
 refine wpAny_bind (wpAny_standAt ?_)
 rw[hs]
 refine wpAny_bind (wpAny_pure ?_)
 rw[if_neg (by decide)]
 refine wpAny_bind (Tuple_ (thn (ha _ pins s σ H _ I h) λus s1 ⟨vs,H1,I1,r1,q1⟩=>?_))
 obtain ⟨v,w,e1,q1⟩:=q1
 subst e1
 obtain ⟨u1,u2,rfl,rv,rw'⟩:∃ u1 u2,us=[u1,u2]/\RelV v u1/\RelV w u2:=by
  cases r1 with
  | cons p q=>
   cases q with
   | cons p' q' =>
    cases q'
    exact ⟨_,_,rfl,p,p'⟩
 refine wpAny_newObj_type ?_ (by show 2<=sizeLine;decide)
 have I2:Inv X pins σ H1 { s1 with heap:=s1.heap.push { cls:=.type "tuple",data:=.seq [u1,u2].toArray } }:=I1.kept (t' := s1.toks) λb o e=>get?_push_of_some _ e
 rw[hw]
 refine wpAny_bind (wpAny_pure ?_)
 show wpAny (model X.prog X.w) X.A (do rule "assign.swapped-stores";let items ← unpackItems (.ref s1.heap.objs.size) 2 none;assignInOrder [λv=>bindName X.env y v,λv=>bindName X.env x v] items.reverse;pure Flow.next) _ _ _
 refine wpAny_bind (wpAny_rule (wpAny_bind (unpackItems_tuple (items:=#[u1,u2]) (I.ok.hd hc) (IsTup.new s1.heap _) λh' hx' => ?_)))
 have I3:=I2.kept (h' := h') (t' := s1.toks) λb o e=>hx' b o (ne_of_lt (lt_size e)) e
 show wpAny _ _ (assignInOrder [λv=>bindName X.env y v,λv=>bindName X.env x v] [u2,u1] >>= λ_=>pure Flow.next) _ _ _
 refine wpAny_bind (assignInOrder_cons (wpAny_bindName (J4 I3 hN hj (.inl hy) rw' (λs2 I4=>?_) (.inr hy))))
 refine assignInOrder_cons (wpAny_bindName (J4 I4 hN hi (.inl hx) rv (λs3 I5=>assignInOrder_nil (wpAny_pure ?_)) (.inr hx)))
 rw[List.set_comm _ _ (Ne.symm hij)] at I5
 exact ⟨_,H1,I5,q1⟩
def zfp (c:TT)(tb:TS):TS:=λD σ H=>∃ W:Nat->St->Hp->Prop,(∃ m,W m σ H)/\∀ m σ H,W m σ H->
 c σ H λb H1=>if b=true then ∃ N:St->Hp->Prop,(∀ σ' H',N σ' H' -> ∃ m',m'<m/\W m' σ' H')/\tb { D with nx:=N,ct:=N,bk:=D.nx } σ H1 else D.nx σ H1
theorem J1 {c:Expr}{body:List Stmt}{tc:TT}{tb:TS}(hp:PassesOwn (model X.prog X.w) X.A X.env X.xe)(hc:PT X c tc)(hb:PSs X body tb):PS X (.While c body [] pos) (zfp tc tb):=by
 intro pins s σ H D I h
 obtain ⟨W,⟨m0,w0⟩,turn⟩:=h
 refine wpAny_While (codeAny_whileLoop (λn s' => ∃ σ' H',Inv X pins σ' H' s' /\ W n σ' H') ?_ m0 ⟨σ,H,I,w0⟩)
 rintro n s1 ⟨σ1,H1,I1,w1⟩
 refine wpAny_passesOwn hp (thn (hc pins s1 σ1 H1 _ I1 (turn n σ1 H1 w1)) λb s2 ⟨H2,I2,q2⟩=>?_)
 cases b with
 | true=>
  obtain ⟨N,hN,q2⟩:=q2
  rw[if_pos rfl]
  refine wpAny_passesOwn hp (thn (hb pins s2 σ1 H2 _ I2 q2) λf s3 q3=>?_)
  cases f with
  | next=>
   obtain ⟨σ3,H3,I3,n3⟩:=q3
   obtain ⟨m',hm,w3⟩:=hN σ3 H3 n3
   exact ⟨m',hm,σ3,H3,I3,w3⟩
  | cont=>
   obtain ⟨σ3,H3,I3,n3⟩:=q3
   obtain ⟨m',hm,w3⟩:=hN σ3 H3 n3
   exact ⟨m',hm,σ3,H3,I3,w3⟩
  | brk=>exact q3
  | ret v=>exact q3
 | false=>
  rw[if_neg Bool.false_ne_true]
  exact wpAny_execs_nil ⟨σ1,H2,I2,q2⟩
end
structure It where
 go:Nat->Hp->Prop
 yld:Nat->Hp->V->Hp->Prop
 stop:Nat->Hp->Prop
def zaJ (X:Cx)(pins:List (Addr×Obj))(H:Hp)(b:Addr):Prop:=
 H b=none/\b≠X.env.locals/\b∉X.fs/\(b∈X.ex\/X.s₀.heap.objs.size<=b)/\(∀ x c,X.env.cells.lookup x=some c->c≠b)/\∀ p∈X.pn++pins,p.1≠b
theorem Inv.zhj {X:Cx}{pins:List (Addr×Obj)}{σ:St}{H H' : Hp}{s:Shared}{b:Addr}(I:Inv X pins σ H s)(hb:s.heap.objs.size<=b)(hn:H' b=none):zaJ X pins H' b:=by
 refine ⟨hn,ne_of_gt (Nat.lt_of_lt_of_le I.lt hb),I.zku hb,.inr (Nat.le_trans I.sz hb),λx c e z=>?_,λp hp z=>?_⟩
 ·obtain ⟨v,q⟩:=I.cell x c e
  exact absurd (Nat.lt_of_lt_of_le q.lt (by rw[z];exact hb)) (lt_irrefl _)
 ·exact absurd (Nat.lt_of_lt_of_le (lt_size (I.pin p hp).1) (by rw[z];exact hb)) (lt_irrefl _)
structure zid (Φ:Cx->Prop)(P:Program)(w:World)(K:PySem.W.Frag)(tg:Expr)(J:It)(fp:List Addr)(it:Addr)(tn:Nat->Heap->Prop):Prop where
 mem:it∈fp
 obj:∀ i h,tn i h->∀ b∈fp,∃ o,h.get? b=some o/\∀ v,o.data≠.cell v
 keep:∀ i h h',tn i h->(∀ b∈fp,∀ o,h.get? b=some o->h'.get? b=some o)->tn i h'
 item:∀ (X:Cx),X.prog=P->X.w=w->X.K=K->Φ X->∀ (i:Nat) (pins:List (Addr×Obj)) (s:Shared) (σ:St) (H:Hp) (E:Value->Shared->Prop),Inv X pins σ H s->(∀ b∈fp,zaJ X pins H b)->tn i s.heap->J.go i H->
  wpAny (model P w) X.A (pyNext (.ref it)) (λr s1=>∃ u,r=some u/\
   wpAny (model P w) X.A (letOwnedTupleGo tg (.ref it) u) (λ_ s2=>∃ x H',Inv X pins σ H' s2/\RelV x u/\J.yld i H x H' /\ tn (i+1) s2.heap/\∀ b∈fp,H' b=none) E s1) E s
 done:∀ (X:Cx),X.prog=P->X.w=w->X.K=K->Φ X->∀ (i:Nat) (pins:List (Addr×Obj)) (s:Shared) (σ:St) (H:Hp) (E:Value->Shared->Prop),Inv X pins σ H s->(∀ b∈fp,zaJ X pins H b)->tn i s.heap->J.stop i H->
  wpAny (model P w) X.A (pyNext (.ref it)) (λr s1=>r=none/\Inv X pins σ H s1) E s
 self:∀ (A:Around) (i:Nat) (s:Shared) (Q:Value->Shared->Prop) (E:Value->Shared->Prop),tn i s.heap->Q (.ref it) s->wpAny (model P w) A (pyIter (.ref it)) Q E s
abbrev Turn:=zid λX=>X.calm=true
abbrev TI:=St->Hp->(It->Hp->Prop)->Prop
def PIE (X:Cx)(pins:List (Addr×Obj))(σ:St)(tg:Expr)(R:It->Hp->Prop)(itv:Value)(s2:Shared):Prop:=
 ∃ (it:Addr) (fp:List Addr) (tn:Nat->Heap->Prop) (J:It) (H' : Hp),itv = .ref it/\Inv X pins σ H' s2/\Turn X.prog X.w X.K tg J fp it tn/\tn 0 s2.heap/\(∀ b∈fp,zaJ X pins H' b)/\R J H'
def PI (X:Cx)(tg iter:Expr)(wi:TI):Prop:=
 ∀ (pins:List (Addr×Obj)) (s:Shared) (σ:St) (H:Hp) (R:It->Hp->Prop),Inv X pins σ H s->wi σ H R->
  wpAny (model X.prog X.w) X.A (eval iter X.env) (λv s1=>wpAny (model X.prog X.w) X.A (pyIter v) (PIE X pins σ tg R) X.xe s1) X.xe s
theorem zfC {M:Model}{A:Around}{E:Value->Shared->Prop}{s:Shared}{tg:Expr}{it:Addr}{u:Value}{o:Obj}{n:String}{vs:Array Value}{Q:Unit->Shared->Prop}(ho:s.heap.get? it=some o)(hc:o.cls = .type n)(hd:o.data = .fields vs)
  (hn:["enumerate", "zip", "dict_itemiterator", "dict_reverseitemiterator", "odict_iterator", "itertools.zip_longest", "itertools.pairwise"].contains n=false) (hQ:Q () s):wpAny M A (letOwnedTupleGo tg (.ref it) u) Q E s:=by
 unfold letOwnedTupleGo
 cases tg <;> first
  | exact wpAny_pure hQ
  | (cases u <;> first
    | exact wpAny_pure hQ
    | (refine wpAny_bind (wpAny_load ho ?_);rw[hc,hd];show wpAny M A (if (["enumerate", "zip", "dict_itemiterator", "dict_reverseitemiterator", "odict_iterator", "itertools.zip_longest", "itertools.pairwise"].contains n&&vs[0]?==some (rawInt _))=true then _ else _) Q E s;rw[if_neg (by intro h;rw[hn,Bool.false_and] at h;cases h)];exact wpAny_pure hQ))
noncomputable def Itl (K:PySem.W.Frag) (a:Addr):It:=
 ⟨λi H=>∃ xs x,SqL K H a xs/\xs[i]?=some x,λi H x H' => H'=H/\∀ xs,SqL K H a xs->xs[i]?=some x,λi H=>∃ xs,SqL K H a xs/\xs.length<=i⟩
noncomputable def Itt (K:PySem.W.Frag) (a:Addr):It:=
 ⟨λi H=>∃ xs x,SqT K H a xs/\xs[i]?=some x,λi H x H' => H'=H/\∀ xs,SqT K H a xs->xs[i]?=some x,λi H=>∃ xs,SqT K H a xs/\xs.length<=i⟩
noncomputable def Itr (lo:Int) (n:Nat):It:=⟨λi _=>i<n,λi H x H' => H'=H/\x = .int (lo+i),λi _=>n<=i⟩
theorem zdW {P:Program}{w:World}{K:PySem.W.Frag}{tg:Expr}(a it:Addr):Turn P w K tg (Itl K a) [it] it (λi h=>h.IsListIter it a i) where
 mem:=by simp
 obj:=λi h st b hb=>by
  have e:b=it:=by simpa using hb
  subst e
  obtain ⟨o,e,c,d⟩:=st
  exact ⟨o,e,λv z=>by rw[d] at z;cases z⟩
 keep:=λi h h' st k=>st.at λo e=>k it (by simp) o e
 item:=by
  intro X hP hw hK hc i pins s σ H E I hf st hg
  subst hP hw hK
  obtain ⟨xs,x,hq,hx⟩:=hg
  obtain ⟨its,rv,p,hz⟩:=I.list hq
  obtain ⟨u,hu,ru⟩:=rv.get hx
  obtain ⟨f0,f1,f2,f3,f4,f5⟩:=hf it (by simp)
  refine wpAny_pyNext_list_item st p.isList (x:=u) (by simpa using hu) λh' st' sb=>?_
  have I1:Inv X pins σ H { s with heap:=h' }:=I.turned (t' := s.toks) (λb o hb e=>(sb.2 b hb).trans e) f0 f1 f3 f4 f5
  obtain ⟨o,e,c,d⟩:=id st'
  exact ⟨u,rfl,zfC (s:={ s with heap:=h' }) e c d (by decide) ⟨x,H,I1,ru,⟨rfl,λys hy=>by rw[I.zey hy hq];exact hx⟩,st',λb hb=>(hf b hb).1⟩⟩
 done:=by
  intro X hP hw hK hc i pins s σ H E I hf st hg
  subst hP hw hK
  obtain ⟨xs,hq,hx⟩:=hg
  obtain ⟨its,rv,p,hz⟩:=I.list hq
  obtain ⟨f0,f1,f2,f3,f4,f5⟩:=hf it (by simp)
  have hl:=rv.length
  exact wpAny_pyNext_list_end (I.ok.hd hc) st p.isList (by simp;omega) λh' eb=>⟨rfl,I.turned (t' := s.toks) (λb o hb e=>eb b o hb e) f0 f1 f3 f4 f5⟩
 self:=λ_ _ _ _ _ st h=>wpAny_pyIter_listiter st h
theorem zcj {P:Program}{w:World}{K:PySem.W.Frag}{tg:Expr}(a it:Addr):Turn P w K tg (Itt K a) [it] it (λi h=>h.IsTupleIter it a i) where
 mem:=by simp
 obj:=λi h st b hb=>by
  have e:b=it:=by simpa using hb
  subst e
  obtain ⟨o,e,c,d⟩:=st
  exact ⟨o,e,λv z=>by rw[d] at z;cases z⟩
 keep:=λi h h' st k=>st.at λo e=>k it (by simp) o e
 item:=by
  intro X hP hw hK hc i pins s σ H E I hf st hg
  subst hP hw hK
  obtain ⟨xs,x,hq,hx⟩:=hg
  obtain ⟨its,rv,p,hz⟩:=I.tuple hq
  obtain ⟨u,hu,ru⟩:=rv.get hx
  obtain ⟨f0,f1,f2,f3,f4,f5⟩:=hf it (by simp)
  refine wpAny_pyNext_tuple_item st (show s.heap.IsTuple a its.toArray from p) (x:=u) (by simpa using hu) λh' st' sb=>?_
  have I1:Inv X pins σ H { s with heap:=h' }:=I.turned (t' := s.toks) (λb o hb e=>(sb.2 b hb).trans e) f0 f1 f3 f4 f5
  obtain ⟨o,e,c,d⟩:=id st'
  exact ⟨u,rfl,zfC (s:={ s with heap:=h' }) e c d (by decide) ⟨x,H,I1,ru,⟨rfl,λys hy=>by rw[I.J6 hy hq];exact hx⟩,st',λb hb=>(hf b hb).1⟩⟩
 done:=by
  intro X hP hw hK hc i pins s σ H E I hf st hg
  subst hP hw hK
  obtain ⟨xs,hq,hx⟩:=hg
  obtain ⟨its,rv,p,hz⟩:=I.tuple hq
  obtain ⟨f0,f1,f2,f3,f4,f5⟩:=hf it (by simp)
  have hl:=rv.length
  exact wpAny_pyNext_tuple_end (I.ok.hd hc) st (show s.heap.IsTuple a its.toArray from p) (by simp;omega) λh' eb=>⟨rfl,I.turned (t' := s.toks) (λb o hb e=>eb b o hb e) f0 f1 f3 f4 f5⟩
 self:=λ_ _ _ _ _ st h=>wpAny_pyIter_tupleiter st h
theorem zb3 {P:Program}{w:World}{K:PySem.W.Frag}{tg:Expr}(it:Addr)(lo:Int)(n:Nat):Turn P w K tg (Itr lo n) [it] it (λi h=>IsRangeIter h it (lo+(i:Nat)*1) ((n:Int)-(i:Nat)) 1) where
 mem:=by simp
 obj:=λi h st b hb=>by
  have e:b=it:=by simpa using hb
  subst e
  exact ⟨_,st,λv z=>by
   have z' : Data.fields _=Data.cell v:=z
   cases z'⟩
 keep:=λi h h' st k=>k it (by simp) _ st
 item:=by
  intro X hP hw hK hc i pins s σ H E I hf st hg
  subst hP hw hK
  obtain ⟨f0,f1,f2,f3,f4,f5⟩:=hf it (by simp)
  have W:=Walks.range (prog:=X.prog) (w:=X.w) (I.ok.hd hc) it lo 1 n
  refine W.item i s _ _ hg st λv h' tk hv st' kk=>?_
  obtain ⟨t,rfl⟩:=hv
  have I1:Inv X pins σ H { s with heap:=h',toks:=tk }:=I.turned (λb o hb e=>kk b o (by simpa using hb) e) f0 f1 f3 f4 f5
  refine ⟨_,rfl,zfC (s:={ s with heap:=h',toks:=tk }) (n:= "range_iterator") st' rfl rfl (by decide) ⟨.int (lo+i),H,I1,⟨t,?_⟩,⟨rfl,rfl⟩,st',λb hb=>(hf b hb).1⟩⟩
  rw[Int.mul_one]
 done:=by
  intro X hP hw hK hc i pins s σ H E I hf st hg
  subst hP hw hK
  obtain ⟨f0,f1,f2,f3,f4,f5⟩:=hf it (by simp)
  exact wpAny_pyNext_range_end (I.ok.hd hc) st (by have:n<=i:=hg;omega) λh' eb=>⟨rfl,I.turned (t' := s.toks) (λb o hb e=>eb b o hb e) f0 f1 f3 f4 f5⟩
 self:=λ_ _ _ _ _ st h=>wpAny_pyIter_rangeiter st h
section
variable {X:Cx}{tg:Expr}
def zi3 (K:PySem.W.Frag)(tl:TE):TI:=fun σ H R=>tl σ H λx H1=>∃ a,x = .ref a/\(∃ xs,SqL K H1 a xs)/\R (Itl K a) H1
def zja (K:PySem.W.Frag)(tl:TE):TI:=fun σ H R=>tl σ H λx H1=>∃ a,x = .ref a/\(∃ xs,SqT K H1 a xs)/\R (Itt K a) H1
theorem Wv {l:Expr}{tl:TE}(hl:PE X l tl):PI X tg l (zi3 X.K tl):=by
 intro pins s σ H R I h
 refine thn (hl pins s σ H _ I h) λv s1 ⟨x,H1,I1,r1,q1⟩=>?_
 obtain ⟨a,e,⟨xs,hq⟩,q⟩:=q1
 subst e
 cases r1
 obtain ⟨its,rv,p,hz⟩:=I1.list hq
 refine wpAny_pyIter_list p.isList ?_
 refine ⟨s1.heap.objs.size,[s1.heap.objs.size],_,_,H1,rfl,I1.kept (t' := s1.toks) λb o e=>get?_push_of_some _ e,zdW a _,⟨_,get?_push_size _ rfl,rfl,rfl⟩,λb hb=>?_,q⟩
 have e:b=s1.heap.objs.size:=by simpa using hb
 subst e
 exact I1.zhj (Nat.le_refl _) (I1.hok.fresh (Nat.le_refl _))
theorem zbF {l:Expr}{tl:TE}(hl:PE X l tl):PI X tg l (zja X.K tl):=by
 intro pins s σ H R I h
 refine thn (hl pins s σ H _ I h) λv s1 ⟨x,H1,I1,r1,q1⟩=>?_
 obtain ⟨a,e,⟨xs,hq⟩,q⟩:=q1
 subst e
 cases r1
 obtain ⟨its,rv,p,hz⟩:=I1.tuple hq
 refine wpAny_pyIter_tuple (show s1.heap.IsTuple a its.toArray from p) ?_
 refine ⟨s1.heap.objs.size,[s1.heap.objs.size],_,_,H1,rfl,I1.kept (t' := s1.toks) λb o e=>get?_push_of_some _ e,zcj a _,⟨_,get?_push_size _ rfl,rfl,rfl⟩,λb hb=>?_,q⟩
 have e:b=s1.heap.objs.size:=by simpa using hb
 subst e
 exact I1.zhj (Nat.le_refl _) (I1.hok.fresh (Nat.le_refl _))
theorem zeR {pins:List (Addr×Obj)}{σ:St}{H:Hp}{s:Shared}{R:It->Hp->Prop}{E:Value->Shared->Prop}{lo hi:Int}{t u v:Tok}{tk:Nat}(I:Inv X pins σ H s)(h1:-(2 ^ 62)<=lo)(h2:lo<2 ^ 62)(h3:-(2 ^ 62)<=hi)(h4:hi<2 ^ 62)
  (q:R (Itr lo (hi-lo).toNat) H):wpAny (model X.prog X.w) X.A (pyIter (.ref s.heap.objs.size)) (PIE X pins σ tg R) E { s with heap:=s.heap.push { cls:=.type "range",data:=.fields #[.int lo t,.int hi u,.int 1 v] },toks:=tk }:=by
 refine wpAny_pyIter_range (IsRange.new ..) (small_one h1 h2 h3 h4) ?_
 have I1:Inv X pins σ H { s with heap:=s.heap.push { cls:=.type "range",data:=.fields #[.int lo t,.int hi u,.int 1 v] },toks:=tk }:=I.kept λb o e=>get?_push_of_some _ e
 refine ⟨(s.heap.push { cls:=.type "range",data:=.fields #[.int lo t,.int hi u,.int 1 v] }).objs.size,[(s.heap.push { cls:=.type "range",data:=.fields #[.int lo t,.int hi u,.int 1 v] }).objs.size],_,_,H,rfl,
  I1.kept (t' := tk) λb o e=>get?_push_of_some _ e,zb3 _ lo (hi-lo).toNat,?_,λb hb=>?_,q⟩
 ·have e1:lo+((0:Nat):Int)*1=lo:=by simp
  have e2:(((hi-lo).toNat:Nat):Int)-((0:Nat):Int)=Builtin.Range.rangeSize lo hi 1:=by rw[rangeSize_one];split <;> omega
  show IsRangeIter _ _ (lo+((0:Nat):Int)*1) ((((hi-lo).toNat:Nat):Int)-((0:Nat):Int)) 1
  rw[e1,e2]
  exact get?_push_size _ rfl
 ·have e:b=(s.heap.push { cls:=.type "range",data:=.fields #[.int lo t,.int hi u,.int 1 v] }).objs.size:=by simpa using hb
  subst e
  exact I1.zhj (Nat.le_refl _) (I1.hok.fresh (Nat.le_refl _))
def zcM (ta:TA):TI:=fun σ H R=>ta σ H λvs H1=>∃ j:Int,vs=[.int j]/\-(2 ^ 62)<=j/\j<2 ^ 62/\R (Itr 0 j.toNat) H1
theorem Xe {a:Expr}{ta:TA}{p pos:Pos}(hg:Gl X "range")(hm:X.mg "range" = none)(ha:PA X [a] ta)(hs:starEach [a] X.env=[(false,eval a X.env)]:=by rfl):PI X tg (.Call (.Name "range" p) [a] [] pos) (zcM ta):=by
 intro pins s σ H R I h
 refine Call_ (WK I hg hm boot_range (PyProof.Rows.callWith_type1 (thn (ha pos pins s σ H _ I h) λus s1 ⟨vs,H1,I1,r1,q1⟩=>?_) hs rfl))
 obtain ⟨j,e,q1,q2,q⟩:=q1
 subst e
 cases r1 with
 | cons r rr=>
  cases rr
  obtain ⟨t,rfl⟩:=r
  exact call_range_1 (zeR I1 (by omega) (by omega) q1 q2 (by simpa using q))
def zj1 (wi:TI)(g:TG)(tb:TS):TS:=λD σ H=>wi σ H λJ H1=>∃ W:Nat->Nat->St->Hp->Prop,(∃ m,W 0 m σ H1)/\∀ i m σ H,W i m σ H->
 (J.stop i H/\D.nx σ H)\/(J.go i H/\∃ N:St->Hp->Prop,(∀ σ' H',N σ' H' -> ∃ m',m'<m/\W (i+1) m' σ' H')/\∀ x H',J.yld i H x H' -> g x σ H' fun σ2 H2=>tb { D with nx:=N,ct:=N,bk:=D.nx } σ2 H2)
noncomputable def W7 (fp:List Addr) (h:Heap):List (Addr×Obj):=fp.filterMap λb=>(h.get? b).map λo=>(b,o)
theorem Jv {fp:List Addr}{h:Heap}{b:Addr}{o:Obj}(hb:b∈fp)(e:h.get? b=some o):(b,o)∈W7 fp h:=List.mem_filterMap.mpr ⟨b,hb,by rw[e];rfl⟩
theorem Q8 {fp:List Addr}{h:Heap}{p:Addr×Obj}(hp:p∈W7 fp h):p.1∈fp/\h.get? p.1=some p.2:=by
 obtain ⟨b,hb,e⟩:=List.mem_filterMap.mp hp
 cases q:h.get? b with
 | none=>rw[q] at e;cases e
 | some o=>
  rw[q] at e
  have e' : (b,o)=p:=Option.some.inj e
  subst e'
  exact ⟨hb,q⟩
theorem Inv.pinned {pins:List (Addr×Obj)}{σ:St}{H:Hp}{s:Shared}{fp:List Addr}(I:Inv X pins σ H s)(hf:∀ b∈fp,zaJ X pins H b)(ho:∀ b∈fp,∃ o,s.heap.get? b=some o/\∀ v,o.data≠.cell v):Inv X (pins++W7 fp s.heap) σ H s:=
 I.Jf λp hp=>(mem_append.mp hp).elim (λz=>I.pin p (mem_append_right _ z)) λz=>by
  obtain ⟨hb,e⟩:=Q8 z
  obtain ⟨f0,f1,f2,_⟩:=hf p.1 hb
  obtain ⟨o,e',d⟩:=ho p.1 hb
  rw[e] at e';cases e'
  exact ⟨e,f0,f1,f2,d⟩
theorem Inv.Js {pins pl:List (Addr×Obj)}{σ:St}{H:Hp}{s:Shared}(I:Inv X (pins++pl) σ H s):Inv X pins σ H s:=I.Jf λp hp=>I.pin p (mem_append_right _ (mem_append_left _ hp))
theorem Wa {iter:Expr}{body:List Stmt}{wi:TI}{g:TG}{tb:TS}{pos:Pos}(hp:PassesOwn (model X.prog X.w) X.A X.env X.xe)(hc:X.calm=true)(hi:PI X tg iter wi)(hg:PG X tg g)(hb:PSs X body tb)
  (hs:∀ x,foldedSetIterable iter X.env x=pure x:=by intro _;rfl):PS X (.For tg iter body [] pos) (zj1 wi g tb):=by
 intro pins s σ H D I h
 refine wpAny_For (thn (hi pins s σ H _ I h) λv s1 h1=>thn h1 λitv s2 h2=>?_) hs
 obtain ⟨it,fp,tn,J,H2,e,I2,T,st2,f2,W,⟨m0,w0⟩,turn⟩:=h2
 subst e
 have stat:∀ {H' : Hp},(∀ b∈fp,H' b=none)->∀ b∈fp,zaJ X pins H' b:=λhn b hb=>⟨hn b hb,(f2 b hb).2⟩
 refine codeAny_forLoop_any (λn s' => ∃ i σ' H',Inv X pins σ' H' s' /\ tn i s'.heap/\(∀ b∈fp,H' b=none)/\W i n σ' H') ?_ m0 ⟨0,σ,H2,I2,st2,λb hb=>(f2 b hb).1,w0⟩
 rintro n s3 ⟨i,σ3,H3,I3,st3,fr3,w3⟩
 rcases turn i n σ3 H3 w3 with ⟨stop,qn⟩ | ⟨go,N,hN,step⟩
 ·refine wpAny_passesOwn hp (thn (T.done X rfl rfl rfl hc i pins s3 σ3 H3 X.xe I3 (stat fr3) st3 stop) λr s4 ⟨hr,I4⟩=>?_)
  subst hr
  exact wpAny_execs_nil ⟨σ3,H3,I4,qn⟩
 ·refine wpAny_passesOwn hp (thn (T.item X rfl rfl rfl hc i pins s3 σ3 H3 X.xe I3 (stat fr3) st3 go) λr s4 ⟨u,hr,h4⟩=>?_)
  subst hr
  refine wpAny_passesOwn hp (thn h4 λ_ s5 ⟨x,H5,I5,r5,y5,st5,fr5⟩=>?_)
  have I5' := I5.pinned (stat fr5) (T.obj _ _ st5)
  refine wpAny_passesOwn hp (thn (hg _ s5 σ3 H5 x u _ I5' r5 (step x H5 y5)) λ_ s6 ⟨σ6,H6,I6,q6⟩=>?_)
  refine wpAny_passesOwn hp (thn (hb _ s6 σ6 H6 _ I6 q6) λf s7 q7=>?_)
  have again:∀ {σ7:St}{H7:Hp},Inv X (pins++W7 fp s5.heap) σ7 H7 s7->N σ7 H7->∃ m,m<n/\∃ i σ' H',Inv X pins σ' H' s7/\tn i s7.heap/\(∀ b∈fp,H' b=none)/\W i m σ' H' := λ{σ7 H7} I7 n7=>by
   obtain ⟨m',hm,w7⟩:=hN σ7 H7 n7
   refine ⟨m',hm,i+1,σ7,H7,I7.Js,T.keep _ _ _ st5 λb hb o e=>(I7.pin (b,o) (mem_append_right _ (mem_append_right _ (Jv hb e)))).1,λb hb=>?_,w7⟩
   obtain ⟨o,e,d⟩:=T.obj _ _ st5 b hb
   exact (I7.pin (b,o) (mem_append_right _ (mem_append_right _ (Jv hb e)))).2.1
  cases f with
  | next=>obtain ⟨σ7,H7,I7,n7⟩:=q7;exact again I7 n7
  | cont=>obtain ⟨σ7,H7,I7,n7⟩:=q7;exact again I7 n7
  | brk=>obtain ⟨σ7,H7,I7,q7⟩:=q7;exact ⟨σ7,H7,I7.Js,q7⟩
  | ret v=>obtain ⟨x7,σ7,H7,I7,r7,q7⟩:=q7;exact ⟨x7,σ7,H7,I7.Js,r7,q7⟩
end
abbrev R2:=V->V->Hp->VK->Prop
def OpR (X:Cx)(f:Value->Value->Sem Value)(r:R2):Prop:=
 ∀ (pins:List (Addr×Obj)) (s:Shared) (σ:St) (H:Hp) (x y:V) (v u:Value) (Q:VK),Inv X pins σ H s->RelV x v->RelV y u->r x y H Q->
  wpAny (model X.prog X.w) X.A (f v u) (EP X pins σ Q) X.xe s
def UnR (X:Cx)(f:Value->Sem Value)(r:V->Hp->VK->Prop):Prop:=
 ∀ (pins:List (Addr×Obj)) (s:Shared) (σ:St) (H:Hp) (x:V) (v:Value) (Q:VK),Inv X pins σ H s->RelV x v->r x H Q->
  wpAny (model X.prog X.w) X.A (f v) (EP X pins σ Q) X.xe s
def Qa (X:Cx)(f:Value)(r:List V->Hp->VK->Prop):Prop:=
 ∀ (pins:List (Addr×Obj)) (s:Shared) (σ:St) (H:Hp) (xs:List V) (us:List Value) (Q:VK),Inv X pins σ H s->Vals xs us->r xs H Q->
  wpAny (model X.prog X.w) X.A (call f us) (EP X pins σ Q) X.xe s
def tOp (r:R2)(ta tb:TE):TE:=fun σ H Q=>ta σ H λx H1=>tb σ H1 λy H2=>r x y H2 Q
def tUn (r:V->Hp->VK->Prop)(ta:TE):TE:=fun σ H Q=>ta σ H λx H1=>r x H1 Q
def rI (C:Int->Int->Prop)(g:Int->Int->V):R2:=λx y H Q=>∃ i j,x = .int i/\y = .int j/\C i j/\Q (g i j) H
def rI0 (g:Int->Int->V):R2:=λx y H Q=>∃ i j,x = .int i/\y = .int j/\Q (g i j) H
def rU (g:Int->V):V->Hp->VK->Prop:=λx H Q=>∃ i,x = .int i/\Q (g i) H
section
variable {X:Cx}{a b c:Expr}{ta tb tc:TE}{pos:Pos}
theorem zjs (ha:PE X a ta)(hb:PE X b tb){pins:List (Addr×Obj)}{s:Shared}{σ:St}{H:Hp}{R:V->V->Hp->Prop}(I:Inv X pins σ H s)
  (h:ta σ H λx H1=>tb σ H1 λy H2=>R x y H2) {Q:Value->Shared->Prop}{f:Value->Value->Sem Value}
  (hf:∀ v u s2 x y H2,Inv X pins σ H2 s2->RelV x v->RelV y u->R x y H2->wpAny (model X.prog X.w) X.A (f v u) Q X.xe s2):
  wpAny (model X.prog X.w) X.A (eval a X.env) (λv s₁=>wpAny (model X.prog X.w) X.A (eval b X.env) (λu s₂=>wpAny (model X.prog X.w) X.A (f v u) Q X.xe s₂) X.xe s₁) X.xe s:=by
 refine thn (ha pins s σ H _ I h) λv s1 ⟨x,H1,I1,r1,q1⟩=>?_
 refine thn (hb pins s1 σ H1 _ I1 q1) λu s2 ⟨y,H2,I2,r2,q2⟩=>?_
 exact hf v u s2 x y H2 I2 r1 r2 q2
theorem Zo {op:Operator}{r:R2}(ho:OpR X (binaryOp op) r)(ha:PE X a ta)(hb:PE X b tb):PE X (.BinOp a op b pos) (tOp r ta tb):=by
 intro pins s σ H Q I h
 exact wpAny_BinOp (zjs ha hb I h λv u s2 x y H2 I2 rx ry q=>ho pins s2 σ H2 x y v u Q I2 rx ry q)
theorem zdM {op:UnaryOp}{r:V->Hp->VK->Prop}(ho:UnR X (unaryOp op) r)(ha:PE X a ta):PE X (.UnaryOp op a pos) (tUn r ta):=by
 intro pins s σ H Q I h
 exact UnaryOp_ (thn (ha pins s σ H _ I h) λv s1 ⟨x,H1,I1,r1,q1⟩=>ho pins s1 σ H1 x v Q I1 r1 q1)
theorem opI {f:Value->Value->Sem Value}{C:Int->Int->Prop}{g:Int->Int->Int}
  (rule:∀ (i j:Int) (t u:Tok) (s:Shared) (Q:Value->Shared->Prop) (E:Value->Shared->Prop),C i j->Q (.int (g i j) s.toks) { s with toks:=s.toks+1 }->wpAny (model X.prog X.w) X.A (f (.int i t) (.int j u)) Q E s):
  OpR X f (rI C λi j=>.int (g i j)):=by
 intro pins s σ H x y v u Q I rx ry h
 obtain ⟨i,j,rfl,rfl,hc,q⟩:=h
 obtain ⟨t,rfl⟩:=rx
 obtain ⟨t',rfl⟩:=ry
 exact rule i j t t' s _ _ hc ⟨.int (g i j),H,I.tok _,⟨_,rfl⟩,q⟩
theorem zjb {f:Value->Value->Sem Value}{g:Int->Int->Int}
  (rule:∀ (i j:Int) (t u:Tok) (s:Shared) (Q:Value->Shared->Prop) (E:Value->Shared->Prop),Q (.int (g i j) s.toks) { s with toks:=s.toks+1 }->wpAny (model X.prog X.w) X.A (f (.int i t) (.int j u)) Q E s):
  OpR X f (rI0 λi j=>.int (g i j)):=by
 intro pins s σ H x y v u Q I rx ry h
 obtain ⟨i,j,rfl,rfl,q⟩:=h
 obtain ⟨t,rfl⟩:=rx
 obtain ⟨t',rfl⟩:=ry
 exact rule i j t t' s _ _ ⟨.int (g i j),H,I.tok _,⟨_,rfl⟩,q⟩
theorem zjI {f:Value->Value->Sem Value}{g:Int->Int->Bool}
  (rule:∀ (i j:Int) (t u:Tok) (s:Shared) (Q:Value->Shared->Prop) (E:Value->Shared->Prop),Q (.bool (g i j)) s->wpAny (model X.prog X.w) X.A (f (.int i t) (.int j u)) Q E s):
  OpR X f (rI0 λi j=>.bl (g i j)):=by
 intro pins s σ H x y v u Q I rx ry h
 obtain ⟨i,j,rfl,rfl,q⟩:=h
 obtain ⟨t,rfl⟩:=rx
 obtain ⟨t',rfl⟩:=ry
 exact rule i j t t' s _ _ ⟨.bl (g i j),H,I,rfl,q⟩
def zhe (i j:Int):Prop:=0<=j/\j<=1000000/\i.natAbs<2 ^ 64
theorem zcl (k:Nat):(0:Int)<=2 ^ k:=by
 rw[two_pow_cast]
 exact Int.natCast_nonneg _
theorem YF:OpR X (binaryOp .Add) (rI0 λi j=>.int (i+j)):=zjb λ_ _ _ _ _ _ _ q=>add_int q
theorem QG:OpR X (binaryOp .Sub) (rI0 λi j=>.int (i-j)):=zjb λ_ _ _ _ _ _ _ q=>sub_int q
theorem Yn:OpR X (binaryOp .Mod) (rI (λ_ j=>0<j) λi j=>.int (i % j)):=opI λi j _ _ _ _ _ hc q=>by
 have h1:(0:Int)<j:=hc
 exact mod_int' (by omega) (by rw[Int.fmod_eq_emod_of_nonneg i (by omega)];exact q)
theorem zie:OpR X (binaryOp .Pow) (rI zhe λi j=>.int (i ^ j.toNat)):=opI λ_ _ _ _ _ _ _ hc q=>pow_int_small hc.1 hc.2.1 hc.2.2 q
theorem zhA:OpR X (binaryOp .LShift) (rI zhe λi j=>.int (i*2 ^ j.toNat)):=opI λ_ _ _ _ _ _ _ hc q=>lshift_int_small hc.1 hc.2.1 hc.2.2 q
theorem ze2:OpR X (binaryOp .RShift) (rI (λ_ j=>0<=j) λi j=>.int (i / 2 ^ j.toNat)):=opI λi j _ _ _ _ _ hc q=>
 rshift_int hc (by rw[Int.fdiv_eq_ediv_of_nonneg i (zcl _)];exact q)
theorem zfk:OpR X (binaryOp .BitAnd) (rI0 λi j=>.int (Builtin.bitAnd i j)):=zjb λ_ _ _ _ _ _ _ q=>and_int q
theorem zho:OpR X (binaryOp .BitOr) (rI0 λi j=>.int (Builtin.bitOr i j)):=zjb λ_ _ _ _ _ _ _ q=>or_int q
theorem unI {f:Value->Sem Value}{g:Int->Int}
  (rule:∀ (i:Int) (t:Tok) (s:Shared) (Q:Value->Shared->Prop) (E:Value->Shared->Prop),Q (.int (g i) s.toks) { s with toks:=s.toks+1 }->wpAny (model X.prog X.w) X.A (f (.int i t)) Q E s):
  UnR X f (rU λi=>.int (g i)):=by
 intro pins s σ H x v Q I rx h
 obtain ⟨i,rfl,q⟩:=h
 obtain ⟨t,rfl⟩:=rx
 exact rule i t s _ _ ⟨.int (g i),H,I.tok _,⟨_,rfl⟩,q⟩
theorem zav:UnR X (unaryOp .USub) (rU λi=>.int (-i)):=unI λ_ _ _ _ _ q=>neg_int q
end
noncomputable def zkK:V->V->Bool
 | .non,.non=>true | .non,.int _=>true | .int _,.non=>true | .non,.bl _=>true | .bl _,.non=>true | .non,.str _=>true | .str _,.non=>true
 | .int _,.int _=>true | .bl _,.bl _=>true | .str _,.str _=>true | .byt _,.byt _=>true
 | .int _,.str _=>true | .str _,.int _=>true | .bl _,.str _=>true | .str _,.bl _=>true
 | _,_=>false
def rEq:R2:=λx y H Q=>zkK x y=true/\Q (.bl (decide (x=y))) H
theorem zfX {i j:Int}:decide (V.int i=V.int j)=(i==j):=by
 rw[Bool.eq_iff_iff]
 simp
theorem zhh {i j:Bool}:decide (V.bl i=V.bl j)=(i==j):=by
 rw[Bool.eq_iff_iff]
 simp
theorem zgz {i j:Str}:decide (V.str i=V.str j)=(i==j):=by
 rw[Bool.eq_iff_iff]
 simp
theorem zg2 {i j:Array UInt8}:decide (V.byt i=V.byt j)=(i.toList==j.toList):=by
 rw[Bool.eq_iff_iff]
 cases i
 cases j
 simp
section
variable {X:Cx}{a b c:Expr}{ta tb tc:TE}{pos:Pos}
theorem X4 {pins:List (Addr×Obj)}{σ:St}{H:Hp}{s:Shared}{Q:VK}{k k' : Bool}(I:Inv X pins σ H s)(q:Q (.bl k) H)(e:k=k'):EP X pins σ Q (.bool k') s:=by
 subst e
 exact ⟨.bl k,H,I,rfl,q⟩
theorem XF:OpR X (compareOp .Eq) rEq:=by
 intro pins s σ H x y v u Q I rx ry h
 obtain ⟨hs,q⟩:=h
 cases x with
 | non=>
  cases rx
  cases y with
  | non=>cases ry;exact PySem.EqNone.eq_none_none (X4 I q (by simp))
  | bl j=>cases ry;exact PySem.EqNone.eq_none_bool (X4 I q (by simp))
  | int j=>obtain ⟨t',rfl⟩:=ry;exact PySem.EqNone.eq_none_int (X4 I q (by simp))
  | str j=>obtain ⟨t',rfl⟩:=ry;exact PySem.EqNone.eq_none_str (X4 I q (by simp))
  | _=>exact absurd (show false=true from hs) Bool.false_ne_true
 | bl i=>
  cases rx
  cases y with
  | non=>cases ry;exact PySem.EqNone.eq_bool_none (X4 I q (by simp))
  | bl j=>cases ry;exact eq_bool (X4 I q zhh)
  | str j=>obtain ⟨t',rfl⟩:=ry;exact PySem.EqMixed.eq_bool_str (X4 I q (by simp))
  | _=>exact absurd (show false=true from hs) Bool.false_ne_true
 | int i=>
  obtain ⟨t,rfl⟩:=rx
  cases y with
  | non=>cases ry;exact PySem.EqNone.eq_int_none (X4 I q (by simp))
  | int j=>obtain ⟨t',rfl⟩:=ry;exact eq_int (X4 I q zfX)
  | str j=>obtain ⟨t',rfl⟩:=ry;exact PySem.EqMixed.eq_int_str (X4 I q (by simp))
  | _=>exact absurd (show false=true from hs) Bool.false_ne_true
 | str i=>
  obtain ⟨t,rfl⟩:=rx
  cases y with
  | non=>cases ry;exact PySem.EqNone.eq_str_none (X4 I q (by simp))
  | bl j=>cases ry;exact PySem.EqMixed.eq_str_bool (X4 I q (by simp))
  | int j=>obtain ⟨t',rfl⟩:=ry;exact PySem.EqMixed.eq_str_int (X4 I q (by simp))
  | str j=>obtain ⟨t',rfl⟩:=ry;exact eq_str (X4 I q zgz)
  | _=>exact absurd (show false=true from hs) Bool.false_ne_true
 | byt i=>
  obtain ⟨t,rfl⟩:=rx
  cases y with
  | byt j=>obtain ⟨t',rfl⟩:=ry;exact PySem.W.eq_bytes (X4 I q zg2)
  | _=>exact absurd (show false=true from hs) Bool.false_ne_true
 | _=>cases y <;> exact absurd (show false=true from hs) Bool.false_ne_true
theorem U9:OpR X (compareOp .Lt) (rI0 λi j=>.bl (decide (i<j))):=zjI λ_ _ _ _ _ _ _ q=>lt_int q
theorem zei:OpR X (compareOp .LtE) (rI0 λi j=>.bl (decide (i<=j))):=zjI λ_ _ _ _ _ _ _ q=>le_int q
theorem ziU:OpR X (compareOp .Gt) (rI0 λi j=>.bl (decide (j<i))):=zjI λ_ _ _ _ _ _ _ q=>gt_int q
theorem zcz:OpR X (compareOp .Is) (λx y H Q=>y = .non/\Q (.bl (decide (x = .non))) H):=by
 intro pins s σ H x y v u Q I rx ry h
 obtain ⟨rfl,q⟩:=h
 cases ry
 refine is_none_gen (X4 I q ?_)
 cases x <;> first
  | (cases rx;rfl)
  | (obtain ⟨t,rfl⟩:=rx;rfl)
theorem ZR (b:Expr){op:CmpOp}(h:op≠.In:=by decide)(h2:op≠.NotIn:=by decide):behindInMarks op b=false:=by
 have e1:(op==CmpOp.In)=false:=by cases op <;> first | rfl | exact absurd rfl h
 have e2:(op==CmpOp.NotIn)=false:=by cases op <;> first | rfl | exact absurd rfl h2
 cases b <;> simp[behindInMarks,e1,e2]
theorem Wm {op:CmpOp}{r:R2}(ho:OpR X (compareOp op) r)(ha:PE X a ta)(hb:PE X b tb)(hm:behindInMarks op b=false):PE X (.Compare a [op] [b] pos) (tOp r ta tb):=by
 intro pins s σ H Q I h
 exact wpAny_Compare1 (zjs ha hb I h λv u s2 x y H2 I2 rx ry q=>ho pins s2 σ H2 x y v u Q I2 rx ry q) hm
def za7 (t:TE):TT:=fun σ H Q=>t σ H λx H' => ∃ k,x = .bl k/\Q k H'
theorem Zy {op:CmpOp}{r:R2}(ho:OpR X (compareOp op) r)(ha:PE X a ta)(hb:PE X b tb)(hm:behindInMarks op b=false):PT X (.Compare a [op] [b] pos) (za7 (tOp r ta tb)):=by
 intro pins s σ H Q I h
 refine wpAny_isTrue_Compare1 (thn (ha pins s σ H _ I h) λv s1 ⟨x,H1,I1,r1,q1⟩=>thn (hb pins s1 σ H1 _ I1 q1) λu s2 ⟨y,H2,I2,r2,q2⟩=>
  thn (ho pins s2 σ H2 x y v u _ I2 r1 r2 q2) λc s3 ⟨z,H3,I3,r3,k,e,q3⟩=>?_) hm
 subst e
 cases r3
 exact wpAny_truthy_bool ⟨H3,I3,q3⟩
def zcr (r r' : R2)(ta tb tc:TE):TE:=fun σ H Q=>ta σ H λx H1=>tb σ H1 λy H2=>r x y H2 λz H3=>∃ k,z = .bl k/\
 (if k=true then tc σ H3 λw' H4=>r' y w' H4 Q else Q (.bl false) H3)
theorem zej {op op' : CmpOp}{r r' : R2}(ho:OpR X (compareOp op) r)(ho' : OpR X (compareOp op') r')(ha:PE X a ta)(hb:PE X b tb)(hc:PE X c tc)
  (hm:lastMarks [op,op'] [b,c]=false:=by with_unfolding_all rfl):PE X (.Compare a [op,op'] [b,c] pos) (zcr r r' ta tb tc):=by
 intro pins s σ H Q I h
 refine Compare_chain (thn (ha pins s σ H _ I h) λv s1 ⟨x,H1,I1,r1,q1⟩=>chain_link (thn (hb pins s1 σ H1 _ I1 q1) λu s2 ⟨y,H2,I2,r2,q2⟩=>
  thn (ho pins s2 σ H2 x y v u _ I2 r1 r2 q2) λd s3 ⟨z,H3,I3,r3,k,e,q3⟩=>?_)) hm
 subst e
 cases r3
 refine wpAny_truthy_bool ?_
 cases k with
 | false=>exact ite_ff ⟨.bl false,H3,I3,rfl,q3⟩
 | true=>exact ite_tt (chain_last (thn (hc pins s3 σ H3 _ I3 q3) λw' s4 ⟨z',H4,I4,r4,q4⟩=>ho' pins s4 σ H4 y z' u w' Q I4 r2 r4 q4))
theorem zd7 {op op' : CmpOp}{r r' : R2}(ho:OpR X (compareOp op) r)(ho' : OpR X (compareOp op') r')(ha:PE X a ta)(hb:PE X b tb)(hc:PE X c tc)
  (hm:lastMarks [op,op'] [b,c]=false:=by with_unfolding_all rfl):PT X (.Compare a [op,op'] [b,c] pos) (za7 (zcr r r' ta tb tc)):=by
 intro pins s σ H Q I h
 refine isTrue_chain (thn (ha pins s σ H _ I h) λv s1 ⟨x,H1,I1,r1,q1⟩=>test_link (thn (hb pins s1 σ H1 _ I1 q1) λu s2 ⟨y,H2,I2,r2,q2⟩=>
  thn (ho pins s2 σ H2 x y v u _ I2 r1 r2 q2) λd s3 ⟨z,H3,I3,r3,k,e,q3⟩=>?_)) hm
 subst e
 cases r3
 refine wpAny_truthy_bool ?_
 cases k with
 | false=>
  obtain ⟨k',e',q'⟩:=q3
  cases e'
  exact ite_ff ⟨H3,I3,q'⟩
 | true=>
  refine ite_tt (test_last (thn (hc pins s3 σ H3 _ I3 q3) λw' s4 ⟨z',H4,I4,r4,q4⟩=>thn (ho' pins s4 σ H4 y z' u w' _ I4 r2 r4 q4) λd' s5 ⟨z2,H5,I5,r5,k2,e2,q5⟩=>?_))
  subst e2
  cases r5
  exact wpAny_truthy_bool ⟨H5,I5,q5⟩
theorem zbu:(sizeLine:Nat)<2 ^ 63:=by rw[sizeLine_eq];decide
theorem vals1 {x:V}{us:List Value}(r:Vals [x] us):∃ u,us=[u]/\RelV x u:=by
 cases r with
 | cons r1 r2=>cases r2;exact ⟨_,rfl,r1⟩
theorem vals2 {x y:V}{us:List Value}(r:Vals [x,y] us):∃ u w',us=[u,w']/\RelV x u/\RelV y w' := by
 cases r with
 | cons r1 r2=>
  cases r2 with
  | cons r3 r4=>cases r4;exact ⟨_,_,rfl,r1,r3⟩
theorem Vb (hc:X.calm=true):Qa X (.builtin "max") (λxs H Q=>∃ i j,xs=[.int i,.int j]/\Q (.int (if j>i then j else i)) H):=by
 intro pins s σ H xs us Q I r h
 obtain ⟨i,j,rfl,q⟩:=h
 obtain ⟨u,w',rfl,⟨t,rfl⟩,⟨t',rfl⟩⟩:=vals2 r
 refine max_two_ints (I.ok.hd hc) λh' tk k=>⟨_,H,I.kept k,?_,q⟩
 by_cases hj:j>i
 ·rw[if_pos hj,if_pos hj];exact ⟨_,rfl⟩
 ·rw[if_neg hj,if_neg hj];exact ⟨_,rfl⟩
theorem zdY (hc:X.calm=true):Qa X (.builtin "min") (λxs H Q=>∃ i j,xs=[.int i,.int j]/\Q (.int (if j<i then j else i)) H):=by
 intro pins s σ H xs us Q I r h
 obtain ⟨i,j,rfl,q⟩:=h
 obtain ⟨u,w',rfl,⟨t,rfl⟩,⟨t',rfl⟩⟩:=vals2 r
 refine min_two_ints (I.ok.hd hc) λh' tk k=>⟨_,H,I.kept k,?_,q⟩
 by_cases hj:j<i
 ·rw[if_pos hj,if_pos hj];exact ⟨_,rfl⟩
 ·rw[if_neg hj,if_neg hj];exact ⟨_,rfl⟩
theorem zaq:Qa X (.type "int") (λxs H Q=>(∃ i,xs=[.int i]/\Q (.int i) H)\/∃ k,xs=[.bl k]/\Q (.int (if k then 1 else 0)) H):=by
 intro pins s σ H xs us Q I r h
 rcases h with ⟨i,rfl,q⟩ | ⟨k,rfl,q⟩
 ·obtain ⟨u,rfl,t,rfl⟩:=vals1 r
  exact call_int_int ⟨.int i,H,I,⟨_,rfl⟩,q⟩
 ·obtain ⟨u,rfl,r1⟩:=vals1 r
  cases r1
  exact call_int_bool ⟨.int (if k then 1 else 0),H,I.tok _,⟨_,rfl⟩,q⟩
end
structure zjm (h:Heap)(x dx C:Addr)(mA:Str->Option Value):Prop where
 obj:h.get? x=some (instObj C dx)
 ns:h.Ns1 dx mA
 ne:dx≠x
theorem zdN {h:Heap}{dx:Addr}{mA:Str->Option Value}(n:h.Ns1 dx mA):∃ od,h.get? dx=some od/\∀ name,lookIn name od=some (mA name):=by
 obtain ⟨o,es,ep,ho,hd,hk,_,hm⟩:=n
 refine ⟨o,ho,λname=>?_⟩
 have e:=hm name
 unfold nsFind findBy at e
 rw[← Array.find?_toList] at e
 unfold lookIn
 rw[hd]
 dsimp only
 split
 ·rename_i y q
  rw[q] at e
  exact congrArg some e
 ·rename_i q
  rw[q] at e
  have a:es.toList.any (·.refKey)=false:=by
   rw[List.any_eq_false]
   intro y hy
   obtain ⟨z,t,hkey⟩:=hk y (Array.mem_toList_iff.mp hy)
   simp[DictEntry.refKey,hkey]
  have a' : ¬ es.toList.any (·.refKey)=true:=by rw[a];exact Bool.false_ne_true
  rw[if_neg a']
  exact congrArg some e
theorem zjm.look {h:Heap}{x dx C:Addr}{mA:Str->Option Value}(I:zjm h x dx C mA):∃ od,PySem.W.InstAt h x (instObj C dx) C (some od)/\∀ name,lookIn name od=some (mA name):=
 let ⟨od,ho,hl⟩:=zdN I.ns
 ⟨od,⟨I.obj,rfl,rfl,ho⟩,hl⟩
section
variable {P:Program}{w:World}{H H' : Hp}{h h' : Heap}{a C dx:Addr}{fs fs' : List (Str×V)}
theorem zga (hok:HOk P w H h)(e:H a=some (.ins C dx fs)):∃ mA,zjm h a dx C mA/\(∀ f,zju (fs.lookup f) (mA f))/\PySem.Within mA (fs.map (·.1))/\fs.length<=1000/\H dx=some (.own a):=by
 obtain ⟨d,z,ne,ob,mA,n,r,q⟩:=(show Xp P w H h a (.ins C dx fs) from hok a _ e)
 exact ⟨mA,⟨ob,n,ne⟩,r,q,z,d⟩
end
structure Cls (K:PySem.W.Frag)(C:Addr):Prop where
 pg:plainGet K C Str.empty=true
 hd:PySem.W.hasDictIn K C=true
 po:PySem.W.plainOver K C=true
 sa:findIn K (.ref C) "__setattr__" = some (some (.builtin "object.__setattr__"))
theorem Cls.get {K:PySem.W.Frag}{C:Addr}(c:Cls K C)(f:Str):plainGet K C f=true:=c.pg
section
variable {X:Cx}{pins:List (Addr×Obj)}{σ:St}{H:Hp}{s:Shared}{A:Around}{E:Value->Shared->Prop}{Q:Value->Shared->Prop}{c:Value}{b:Bool}
inductive zcp (K:PySem.W.Frag) (H:Hp):V->Value->Prop where
 | non:zcp K H .non (.type "NoneType")
 | bl (x:Bool):zcp K H (.bl x) (.type "bool")
 | int (i:Int):zcp K H (.int i) (.type "int")
 | str (x:Str):zcp K H (.str x) (.type "str")
 | flt (x:UInt64):zcp K H (.flt x) (.type "float")
 | lst {a:Addr}{xs:List V}(e:H a=some (.lst xs)):zcp K H (.ref a) (.type "list")
 | frz {a:Addr}{o:Obj}{xs:List V}(e:H a=some (.frz o (.lst xs))):zcp K H (.ref a) (.type "list")
 | tup {a:Addr}{xs:List V}(e:H a=some (.tup xs)):zcp K H (.ref a) (.type "tuple")
 | dK {a:Addr}{kvs:List (Key×V)}(e:H a=some (.dK kvs)):zcp K H (.ref a) (.type "dict")
 | dT {a:Addr}{kvs:List (List Key×V)}(e:H a=some (.dT kvs)):zcp K H (.ref a) (.type "dict")
 | ins {a C dx:Addr}{fs:List (Str×V)}(e:H a=some (.ins C dx fs)) (cl:Cls K C) (ha:findIn K (.ref C) "__class__" = some (some (.builtin "object.__class__")))
   (hn:PySem.W.specialIn K (.builtin "object.__class__") "__get__" = some (some (.builtin "getset_descriptor.__get__"))) (htk:PySem.W.takesIn K (.builtin "object.__class__")=some true)
   (hm:PySem.W.mroIn K C (.type "object")=some true):zcp K H (.ref a) (.ref C)
theorem JQ {x:V}{u t:Value}(I:Inv X pins σ H s)(rx:RelV x u)(ty:zcp X.K H x t)(e:kitOne X.K t c=some b)(h:∀ tk,Q (.bool b) { s with toks:=tk }):
  wpAny (model X.prog X.w) A (call (.builtin "isinstance") [u,c]) Q E s:=by
 cases ty with
 | non=>cases (show u=Value.none from rx);exact kia_one PySem.W.kitx_none I.kIn True.intro e (λz=>nomatch z) h
 | bl y=>cases (show u=Value.bool y from rx);exact kia_one PySem.W.kitx_bool I.kIn True.intro e (λz=>nomatch z) h
 | int i=>obtain ⟨t,q⟩:=(show ∃ t,u=Value.int i t from rx);cases q;exact kia_one PySem.W.kitx_int I.kIn True.intro e (λz=>nomatch z) h
 | str y=>obtain ⟨t,q⟩:=(show ∃ t,u=Value.str y t from rx);cases q;exact kia_one PySem.W.kitx_str I.kIn True.intro e (λz=>nomatch z) h
 | flt y=>obtain ⟨t,q⟩:=(show ∃ t,u=Value.float y t from rx);cases q;exact kia_one PySem.W.kitx_float I.kIn True.intro e (λz=>nomatch z) h
 | @lst a xs ea=>
  cases (show u=Value.ref a from rx)
  obtain ⟨_,_,n,_,h1⟩:=(show Xp X.prog X.w H s.heap a (.lst xs) from I.hok a _ ea)
  exact kia_one kitx_list I.kIn ⟨_,h1,rfl⟩ e (λz=>nomatch z) h
 | @frz a ob xs ea=>
  cases (show u=Value.ref a from rx)
  obtain ⟨_,_,_,n,_,h1⟩:=(show Xp X.prog X.w H s.heap a (.frz ob (.lst xs)) from I.hok a _ ea)
  exact kia_one kitx_list I.kIn ⟨_,h1,rfl⟩ e (λz=>nomatch z) h
 | @tup a xs ea=>
  cases (show u=Value.ref a from rx)
  obtain ⟨_,_,_,p,_⟩:=(show Xp X.prog X.w H s.heap a (.tup xs) from I.hok a _ ea)
  obtain ⟨o,h1,h2,_⟩:=p
  exact kia_one kitx_tuple I.kIn ⟨o,h1,h2⟩ e (λz=>nomatch z) h
 | @dK a kvs ea=>
  cases (show u=Value.ref a from rx)
  obtain ⟨_,_,vs,_,p⟩:=(show Xp X.prog X.w H s.heap a (.dK kvs) from I.hok a _ ea)
  obtain ⟨o,es,ep,h1,h2,_⟩:=p
  exact kia_one kitx_dict I.kIn ⟨o,h1,h2.1⟩ e (λz=>nomatch z) h
 | @dT a kvs ea=>
  cases (show u=Value.ref a from rx)
  obtain ⟨_,_,xs,_,o,es,ep,h1,h2,_⟩:=(show Xp X.prog X.w H s.heap a (.dT kvs) from I.hok a _ ea)
  exact kia_one kitx_dict I.kIn ⟨o,h1,h2.1⟩ e (λz=>nomatch z) h
 | @ins a C dx fs ea cl ha hn htk hm=>
  cases (show u=Value.ref a from rx)
  obtain ⟨mA,O,_⟩:=zga I.hok ea
  obtain ⟨od,J,_⟩:=O.look
  exact kia_one (PySem.W.kitx_own (cl.get _) cl.hd ha hn htk hm) I.kIn J e (λz=>nomatch z) h
end
structure Vu (k:Nat)(A:Around):Prop where
 hd:A.handled=none
 dp:A.depth+2*k+5<recursionLimit
 un:A.units+16*k+200<cLine
theorem Vu.mono {j k:Nat}{A:Around}(r:Vu k A)(h:j<=k):Vu j A:=⟨r.hd,by have:=r.dp;omega,by have:=r.un;omega⟩
theorem Vu.deeper {k:Nat}{A:Around}(r:Vu (k+1) A)(env:Env):Vu k (A.deeper env):=
 ⟨r.hd,by have:=r.dp;show A.depth+1+2*k+5<_;omega,by have:=r.un;show A.units+3+16*k+200<_;omega⟩
theorem Vu.depth {k:Nat}{A:Around}(r:Vu k A):A.depth<recursionLimit:=by have:=r.dp;omega
theorem Vu.units {k:Nat}{A:Around}(r:Vu k A):A.units+64<cLine:=by have:=r.un;omega
def QT:TA:=λ_ H Q=>Q [] H
def Xc (ta:TE)(tr:TA):TA:=fun σ H Q=>ta σ H λx H1=>tr σ H1 λxs H2=>Q (x::xs) H2
section
variable {X:Cx}{e:Expr}{es:List Expr}{te:TE}{t:TA}{pos:Pos}
theorem Zf:PA X [] QT:=λ_ _ _ _ H Q I h=>spliced_nil ⟨[],H,I,.nil,h⟩
theorem Za (ha:PE X e te)(hr:PA X es t)(hs:starEach (e::es) X.env=(false,eval e X.env)::starEach es X.env:=by rfl):PA X (e::es) (Xc te t):=by
 intro pos pins s σ H Q I h
 rw[hs]
 show wpAny _ _ (spliced ((false,eval e X.env)::backTo pos (starEach es X.env))) _ _ s
 refine spliced_cons (thn (ha pins s σ H _ I h) λu s1 ⟨x,H1,I1,r1,q1⟩=>?_)
 exact thn (hr pos pins s1 σ H1 _ I1 q1) λus s2 ⟨xs,H2,I2,r2,q2⟩=>⟨x::xs,H2,I2,.cons r1 r2,q2⟩
def zfo (t:TA):TE:=fun σ H Q=>t σ H λxs H1=>xs.length<=sizeLine/\∀ p,H1 p=none->Q (.ref p) (upd H1 p (.tup xs))
def zir (t:TA):TE:=fun σ H Q=>t σ H λxs H1=>xs.length<=sizeLine/\∀ p,H1 p=none->Q (.ref p) (upd H1 p (.lst xs))
theorem ZG {x1}(h:PA X es t):PE X (.Tuple es x1 pos) (zfo t):=by
 intro pins s σ H Q I hq
 refine wpAny_Tuple_spliced (thn (h pos pins s σ H _ I hq) λus s1 ⟨xs,H1,I1,r,z,q⟩=>⟨by rw[← r.length];exact z,?_⟩)
 have hf:H1 s1.heap.objs.size=none:=I1.hok.fresh (Nat.le_refl _)
 refine ⟨.ref s1.heap.objs.size,upd H1 s1.heap.objs.size (.tup xs),I1.laid (t' := s1.toks) (λb u e=>get?_push_of_some _ e) (Nat.le_refl _) ?_,rfl,q _ hf⟩
 exact ⟨z,us,r,⟨_,get?_push_size _ rfl,rfl,_,rfl⟩,_,get?_push_size _ rfl,rfl⟩
theorem Yp (h:PA X es t):PE X (.List es pos) (zir t):=by
 intro pins s σ H Q I hq
 refine wpAny_List_spliced (thn (h pos pins s σ H _ I hq) λus s1 ⟨xs,H1,I1,r,z,q⟩=>⟨by rw[← r.length];exact z,?_⟩)
 have hf:H1 s1.heap.objs.size=none:=I1.hok.fresh (Nat.le_refl _)
 refine ⟨.ref s1.heap.objs.size,upd H1 s1.heap.objs.size (.lst xs),I1.laid (t' := s1.toks) (λb u e=>get?_push_of_some _ e) (Nat.le_refl _) ?_,rfl,q _ hf⟩
 exact ⟨z,us,0,r,get?_push_size _ rfl⟩
end
abbrev Sp:=List V->Hp->VK->XK->Prop
abbrev CXT:=List Env->Hp->Shared->XK->Value->Shared->Prop
structure zje (P:Program)(w:World)(K:PySem.W.Frag)(mg:Str->Option Value)(base:Heap)(A:Around)(outer:List Env)(s:Shared)(H:Hp):Prop where
 frames:A.frames=some outer
 mod:Mod K mg base
 bs:∀ b o,base.get? b=some o->s.heap.get? b=some o/\H b=none
 bsz:base.objs.size<=s.heap.objs.size
 zcn:s.heap.FunFrames base outer
 frf:∀ b∈frs outer,H b=none
 hok:HOk P w H s.heap
 bare:AllBare s.gens
def CE (outer:List Env)(P:Program)(w:World)(H:Hp)(s:Shared)(Q:VK)(u:Value)(s' : Shared):Prop:=
 ∃ v H',s'.os=s.os/\AllBare s'.gens/\Un (frs outer) [] H H' s.heap s'.heap/\HOk P w H' s'.heap/\RelV v u/\Q v H'
def CR (CX:CXT)(outer:List Env)(P:Program)(w:World)(H:Hp)(s:Shared)(Q:VK)(E:XK)(r:Result)(s' : Shared):Prop:=
 match r with
 | .ok (.ret u)=>CE outer P w H s Q u s'
 | .ok _=>False
 | .error e=>CX outer H s E e s'
structure Ql (P:Program)(w:World)(K:PySem.W.Frag)(mg:Str->Option Value)(base:Heap)(CX:CXT)(k:Nat)(f:Addr)(fd:FuncData)(ps:List Str)(sp:Sp):Prop where
 len:∀ vs H Q E,sp vs H Q E->vs.length=ps.length
 run:∀ (A:Around) (outer:List Env) (s:Shared) (H:Hp) (args:Args) (us:List Value) (vs:List V) (Q:VK) (E:XK),Vu k A->zje P w K mg base A outer s H->BindsTo s fd args (ps.zip us)->Vals vs us->sp vs H Q E->
  codeAny (model P w) A (.call (.ref f) args) (CR CX outer P w H s Q E) s
theorem Ql.mono {P:Program}{w:World}{K:PySem.W.Frag}{mg:Str->Option Value}{base:Heap}{CX:CXT}{j k:Nat}{f:Addr}{fd:FuncData}{ps:List Str}{sp:Sp}(F:Ql P w K mg base CX j f fd ps sp)(h:j<=k):
  Ql P w K mg base CX k f fd ps sp:=⟨F.len,λA outer s H args us vs Q E hr=>F.run A outer s H args us vs Q E (hr.mono h)⟩
theorem Ql.imp {P:Program}{w:World}{K:PySem.W.Frag}{mg:Str->Option Value}{base:Heap}{CX:CXT}{k:Nat}{f:Addr}{fd:FuncData}{ps:List Str}{sp sp' : Sp}(F:Ql P w K mg base CX k f fd ps sp)
  (h:∀ vs H Q E,sp' vs H Q E->sp vs H Q E):Ql P w K mg base CX k f fd ps sp' :=
 ⟨λvs H Q E q=>F.len vs H Q E (h _ _ _ _ q),λA outer s H args us vs Q E hr he hb hv hs=>F.run A outer s H args us vs Q E hr he hb hv (h _ _ _ _ hs)⟩
section
variable {X:Cx}{pins:List (Addr×Obj)}{σ:St}{H:Hp}{s s' : Shared}
theorem Inv.env0 (I:Inv X pins σ H s):zje X.prog X.w X.K X.mg X.base X.A X.stack s H:=
 ⟨I.ok.frames,I.ok.mod,I.bs,Nat.le_trans I.ok.bsz I.sz,I.stack,I.zaP,I.hok,I.bare⟩
theorem Inv.after {Q:VK}{u:Value}(I:Inv X pins σ H s)(h:CE X.stack X.prog X.w H s Q u s'):EP X pins σ Q u s' := by
 obtain ⟨v,H',os,bare,un,hok,r,q⟩:=h
 obtain ⟨hh,g,d,t,os'⟩:=s'
 obtain rfl:os'=s.os:=os
 exact ⟨v,H',I.call (h' := hh) (g' := g) (d' := d) (t' := t) (ch:=[]) un hok bare (λb z=>absurd z (by simp)),r,q⟩
end
def za9 (sp:Sp)(dvs:List V)(E:XK)(t:TA):TE:=fun σ H Q=>t σ H λvs H1=>sp (vs++dvs) H1 Q E
def Binds (K:PySem.W.Frag)(fd:FuncData)(ps:List Str)(ds:List Value):Prop:=
 ∀ (s:Shared) (us:List Value),K.In s.heap->(us++ds).length=ps.length->BindsTo s fd ⟨us,[]⟩ (ps.zip (us++ds))
theorem Binds.all {K:PySem.W.Frag}{fd:FuncData}{ps:List Str}(h:∀ us:List Value,us.length=ps.length->bindArgs fd ⟨us,[]⟩=pure (ps.zip us)):Binds K fd ps []:=λs us _ hl=>by
 rw[append_nil] at hl ⊢
 exact .of_eq (h us hl)
def zcD (CX:CXT)(X:Cx)(E:XK):Prop:=∀ (pins:List (Addr×Obj)) (σ:St) (H:Hp) (s:Shared) (e:Value) (s' : Shared),Inv X pins σ H s->CX X.stack H s E e s' -> X.xe e s'
section
variable {X:Cx}{CX:CXT}{k:Nat}{f C:Addr}{fd:FuncData}{ps:List Str}{sp:Sp}{dvs:List V}{ds:List Value}{E:XK}{x m:Str}{p pos apos:Pos}{e o:Expr}{es:List Expr}{ta:TE}{t:TA}
theorem zhQ {pins:List (Addr×Obj)}{σ:St}{H:Hp}{s:Shared}{Q:VK}{us:List Value}{vs:List V}(F:Ql X.prog X.w X.K X.mg X.base CX k f fd ps sp)(hr:Vu k X.A)(hb:Binds X.K fd ps ds)(hd:Vals dvs ds)(hx:zcD CX X E)
  (I:Inv X pins σ H s) (r:Vals vs us) (h:sp (vs++dvs) H Q E):wpAny (model X.prog X.w) X.A (call (.ref f) us) (EP X pins σ Q) X.xe s:=by
 have r2:Vals (vs++dvs) (us++ds):=r.append hd
 have hl:(us++ds).length=ps.length:=by rw[← r2.length];exact F.len _ _ _ _ h
 refine wpAny_call (codeAny_mono (F.run X.A X.stack s H ⟨us,[]⟩ (us++ds) (vs++dvs) Q E hr I.env0 (hb s us I.kIn hl) r2 h) λr s' hq=>?_)
 cases r with
 | error e=>exact hx pins σ H s e s' I hq
 | ok fl=>
  cases fl with
  | ret u=>exact I.after hq
  | next=>exact False.elim hq
  | brk=>exact False.elim hq
  | cont=>exact False.elim hq
theorem zfS (F:Ql X.prog X.w X.K X.mg X.base CX k f fd ps sp)(hr:Vu k X.A)(hg:Gl X x)(hm:X.mg x=some (.ref f))(hk:keepIn X.K (.ref f)=true)(hb:Binds X.K fd ps ds)(hd:Vals dvs ds)(hx:zcD CX X E)
  (ha:PA X (e::es) t) (hdb:(x==("__debug__" : Str))=false:=by decide) (he:starEach (e::es) X.env=(false,eval e X.env)::starEach es X.env:=by rfl) (hpl:(backTo pos (starEach es X.env)).any (·.1)=false:=by rfl):
  PE X (.Call (.Name x p) (e::es) [] pos) (za9 sp dvs E t):=by
 intro pins s σ H Q I h
 refine wpAny_Call_Name_kw (zfR I hg hm ?_ hdb)
 refine PySem.W.callWith_K (h₀:=X.base) I.ok.mod.kin hk (thn (ha pos pins s σ H _ I h) λus s1 ⟨vs,H1,I1,r,q⟩=>⟨I1.kIn,?_⟩) he hpl
 exact zhQ F hr hb hd hx I1 r q
end
structure Ys (N P:List Str)(sc:Scope):Prop where
 kind:sc.kind = .function
 co:sc.isCoroutine=false
 gen:sc.isGenerator=false
 nd:N.Nodup
 pre:N.take P.length=P
 par:∀ x∈P,sc.names.lookup x=some .local\/sc.names.lookup x=some .cell
 nofree:∀ y∈sc.names,y.2≠.free
theorem zaj {kindOf:Str->Option NameKind}{x:Str}:∀ {binds:List (Str×Value)}{m:Str->Option Value},(∀ v,(x,v)∉binds)->bindL kindOf binds m x=m x
 | [],_,_=>rfl
 | (n,v)::r,m,h=>by
  unfold bindL
  rw[zaj λw hw=>h w (mem_cons_of_mem _ hw)]
  split
  ·have:x≠n:=by rintro rfl;exact h v mem_cons_self
   simp[this]
  ·rfl
theorem zaE {kindOf:Str->Option NameKind}{x:Str}:∀ {binds:List (Str×Value)}{m:Str->Option Value},(∀ v,(x,v)∉binds)->bindC kindOf binds m x=m x
 | [],_,_=>rfl
 | (n,v)::r,m,h=>by
  unfold bindC
  rw[zaE λw hw=>h w (mem_cons_of_mem _ hw)]
  split
  ·rfl
  ·have:x≠n:=by rintro rfl;exact h v mem_cons_self
   simp[this]
theorem zai {kindOf:Str->Option NameKind}{x:Str}{v:Value}:∀ {P:List Str}{vs:List Value}{i:Nat}{m:Str->Option Value},P.Nodup->P[i]?=some x->vs[i]?=some v->kindOf x=some .local->
  bindL kindOf (P.zip vs) m x=some v
 | [],_,_,_,_,h,_,_=>by simp at h
 | _::_,[],_,_,_,_,h,_=>by simp at h
 | p::P,w::vs,0,m,nd,h1,h2,hk=>by
  simp at h1 h2;subst h1;subst h2
  show bindL kindOf ((p,w)::P.zip vs) m p=_
  unfold bindL
  rw[zaj λv hv=>(nodup_cons.mp nd).1 (of_mem_zip hv).1,if_pos hk]
  simp
 | p::P,w::vs,i+1,m,nd,h1,h2,hk=>by
  show bindL kindOf ((p,w)::P.zip vs) m x=_
  unfold bindL
  exact zai (i:=i) (nodup_cons.mp nd).2 (by simpa using h1) (by simpa using h2) hk
theorem zal {kindOf:Str->Option NameKind}{x:Str}{v:Value}:∀ {P:List Str}{vs:List Value}{i:Nat}{m:Str->Option Value},P.Nodup->P[i]?=some x->vs[i]?=some v->kindOf x≠some .local->
  bindC kindOf (P.zip vs) m x=some v
 | [],_,_,_,_,h,_,_=>by simp at h
 | _::_,[],_,_,_,_,h,_=>by simp at h
 | p::P,w::vs,0,m,nd,h1,h2,hk=>by
  simp at h1 h2;subst h1;subst h2
  show bindC kindOf ((p,w)::P.zip vs) m p=_
  unfold bindC
  rw[zaE λv hv=>(nodup_cons.mp nd).1 (of_mem_zip hv).1,if_neg hk]
  simp
 | p::P,w::vs,i+1,m,nd,h1,h2,hk=>by
  show bindC kindOf ((p,w)::P.zip vs) m x=_
  unfold bindC
  exact zal (i:=i) (nodup_cons.mp nd).2 (by simpa using h1) (by simpa using h2) hk
noncomputable def start (N:List Str) (vs:List V):St:=vs.map some++List.replicate (N.length-vs.length) none
noncomputable def zdX (CX:CXT) (P:Program) (w:World) (K:PySem.W.Frag) (mg:Str->Option Value) (base:Heap) (N:List Str) (qual:Str) (scope:Scope) (f:Addr) (cd:Value) (A:Around) (outer:List Env) (s:Shared) (H:Hp) (E:XK):Cx where
 prog:=P
 w:=w
 K:=K
 mg:=mg
 base:=base
 A:=A.deeper (envOfC qual scope s.heap.objs.size f cd)
 N:=N
 s₀:=s
 H₀:=H
 env:=envOfC qual scope s.heap.objs.size f cd
 outer:=outer
 stack:=envOfC qual scope s.heap.objs.size f cd::outer
 ex:=[]
 calm:=true
 fn:=λ_=>true
 pn:=[]
 xe:=λe s' => wpAny (model P w) (A.deeper (envOfC qual scope s.heap.objs.size f cd)) (leaving (envOfC qual scope s.heap.objs.size f cd) e) (λ_ s'' => CX outer H s E e s'') (λe' s'' => CX outer H s E e' s'') s'
theorem zbE {sc:Scope}{n:Nat}{x:Str}(h:sc.names.lookup x=some .cell):∃ c,(cellsFrom n sc.names []).lookup x=some c:=by
 have q:=PySem.W.cellsFrom_some sc.names n [] (.inl h)
 exact isSome_iff_exists.mp q
theorem zdb {CX:CXT}{P:Program}{w:World}{K:PySem.W.Frag}{mg:Str->Option Value}{base:Heap}{N ps:List Str}{qual:Str}{scope:Scope}{f:Addr}{cd:Value}{A:Around}{outer:List Env}{s s1:Shared}{H:Hp}{E:XK}{us:List Value}{vs:List V}
  (S:Ys N ps scope) (hd:A.handled=none) (e0:zje P w K mg base A outer s H) (hl:vs.length=ps.length) (r:Vals vs us)
  (x:InCallC s s.heap.objs.size (bindL (envOfC qual scope s.heap.objs.size f cd).kindOf (ps.zip us) λ_=>none) (cellsFrom (s.heap.objs.size+1) scope.names []) (bindC (envOfC qual scope s.heap.objs.size f cd).kindOf (ps.zip us) λ_=>none) s1):
  Inv (zdX CX P w K mg base N qual scope f cd A outer s H E) [] (start N vs) H s1:=by
 have hpl:ps.length<=N.length:=by have:=congrArg List.length S.pre;rw[length_take] at this;omega
 obtain ⟨h1,tk,rfl,hk⟩:=x.done
 have noA:∀ b:Addr,b∉(zdX CX P w K mg base N qual scope f cd A outer s H E).ex:=λb z=>absurd (show b∈([]:List Addr) from z) (by simp)
 refine ⟨⟨e0.mod,S.kind,rfl,rfl,Nat.le_refl _,λy z c h1 h2=>?_,λy hy=>?_,λy c _ h=>?_,λ_=>hd,Around.frames_deeper e0.frames,.inr ⟨rfl,rfl⟩,λb z=>absurd z (noA b),e0.bs,e0.bsz,λb _ _=>noA b,λb z=>absurd z (noA b),e0.zcn,e0.frf⟩,
  rfl,e0.bare,Un.kept hk,⟨_,x.toInCall.ns,λi y v h1 h2 h3=>?_⟩,λy c h=>⟨_,x.cell y c h⟩,e0.hok.fresh (Nat.le_refl _),λy c h=>?_,λp hp=>absurd (show p∈([]:List (Addr×Obj)) from hp) (by simp),e0.hok.kept hk,?_⟩
 ·exact name_of_addr x.apart (PySem.mem_of_lookup h1) (PySem.mem_of_lookup h2)
 ·have hy:scope.names.lookup y=some .cell\/scope.names.lookup y=some .free:=hy
  rcases hy with hy | hy
  ·exact zbE hy
  ·exact absurd rfl (S.nofree _ (PySem.mem_of_lookup hy))
 ·exact le_of_lt (x.above y c (PySem.mem_of_lookup h))
 ·have hi:i<vs.length:=by
   unfold start at h2
   by_cases hi:i<vs.length
   ·exact hi
   ·rw[getElem?_append_right (by simpa using hi)] at h2
    rw[List.getElem?_replicate] at h2
    split at h2 <;> cases h2
  have ha:vs[i]?=some v:=by
   unfold start at h2
   rw[getElem?_append_left (by simpa using hi),getElem?_map] at h2
   cases e:vs[i]? with
   | none=>rw[e] at h2;cases h2
   | some a=>rw[e] at h2;cases h2;rfl
  obtain ⟨u,hu,rv⟩:=r.get ha
  have hp:ps[i]?=some y:=by
   rw[← S.pre,List.getElem?_take_of_lt (by omega)];exact h1
  have ndP:ps.Nodup:=by rw[← S.pre];exact S.nd.sublist (List.take_sublist _ _)
  refine ⟨u,rv,?_⟩
  rcases S.par y (mem_of_getElem? hp) with k | k
  ·exact .inl ⟨k,zai ndP hp hu k⟩
  ·obtain ⟨c,e⟩:=zbE (n:=s.heap.objs.size+1) k
   refine .inr ⟨.inl k,c,e,?_⟩
   have q:=x.cell y c e
   rw[zal ndP hp hu (by show scope.names.lookup y≠_;rw[k];decide)] at q
   exact q
 ·exact e0.hok.fresh (le_of_lt (x.above y c (PySem.mem_of_lookup h)))
 ·unfold start
  show _=N.length
  rw[length_append,length_map,length_replicate]
  omega
theorem zjP {CX:CXT}{P:Program}{w:World}{K:PySem.W.Frag}{mg:Str->Option Value}{base:Heap}{k:Nat}{f:Addr}{name qual:Str}{params:Arguments}{body:List Stmt}{scope:Scope}{dV kV doc pm cdv ct oc:Value}{an od:Option Addr}
  {osl:Array (Option Value)}{N ps:List Str}{sp:Sp}(lk:K.lookup f=some ⟨oc,od,.func (PySem.W.fnOf name qual params body scope dV kV doc pm an cdv ct),osl⟩) (hcd:codeIn K cdv qual=true) (S:Ys N ps scope)
  (len:∀ vs H Q E,sp vs H Q E->vs.length=ps.length)
  (hbody:∀ (A:Around) (outer:List Env) (s:Shared) (H:Hp) (vs:List V) (Q:VK) (E:XK),Vu k (A.deeper (envOfC qual scope s.heap.objs.size f cdv))->sp vs H Q E->
   ∃ t,PSs (zdX CX P w K mg base N qual scope f cdv A outer s H E) body t/\t { nx:=λ_ H' => Q .non H',rt:=Q } (start N vs) H):
  Ql P w K mg base CX (k+1) f (PySem.W.fnOf name qual params body scope dV kV doc pm an cdv ct) ps sp:=by
 refine ⟨len,λA outer s H args us vs Q E hr e0 hb r hsp=>?_⟩
 have hl:=len _ _ _ _ hsp
 have KX:K.In s.heap:=e0.mod.kin.keeps λb o e=>(e0.bs b o e).1
 have lim:s.heap.NoLimit:=e0.mod.nolimit.keeps λb o e=>(e0.bs b o e).1
 have hkind:∀ y∈ps.zip us,scope.names.lookup y.1=some .local\/(scope.names.lookup y.1=some .cell/\((cellsFrom (s.heap.objs.size+1) scope.names []).lookup y.1).isSome=true):=λ⟨n,v⟩ hy=>by
  rcases S.par n (of_mem_zip hy).1 with q | q
  ·exact .inl q
  ·exact .inr ⟨q,PySem.W.cellsFrom_some _ _ _ (.inl q)⟩
 refine codeAny_call_function hr.depth (KX _ _ lk) rfl S.co S.gen rfl (PySem.W.codeRec_of KX hcd) (hb _ _ _ _ ?_)
 refine wpAny_newFunctionEnv_cells S.kind hkind λenv he s1 x=>?_
 subst he
 refine ⟨lim.keeps x.toInCall.keep,codeAny_func ?_⟩
 obtain ⟨t,ht,hq⟩:=hbody A outer s H vs Q E (hr.deeper _) hsp
 have I:Inv (zdX CX P w K mg base N qual scope f cdv A outer s H E) [] (start N vs) H s1:=zdb S hr.hd e0 hl r x
 refine wpAny_mono (ht [] s1 (start N vs) H _ I hq) (λfl s' hs=>?_) λe s' hs=>hs
 have fin:∀ {σ' : St} {H' : Hp} {v:V}{u:Value},Inv (zdX CX P w K mg base N qual scope f cdv A outer s H E) [] σ' H' s' -> RelV v u->Q v H' -> CE outer P w H s Q u s' :=
  λ{σ' H' v u} J rv q=>⟨v,H',J.os,J.bare,J.base,J.hok,rv,q⟩
 cases fl with
 | ret u=>
  obtain ⟨v,σ',H',J,rv,q⟩:=hs
  exact fin J rv q
 | next=>
  obtain ⟨σ',H',J,q⟩:=hs
  exact fin (v:=V.non) (u:=Value.none) J rfl q
 | brk=>
  obtain ⟨_,_,_,q⟩:=hs
  exact False.elim q
 | cont=>
  obtain ⟨_,_,_,q⟩:=hs
  exact False.elim q
section
variable {X:Cx}{x:Str}{p pos:Pos}{e:Expr}{es:List Expr}{t:TA}{id T:String}{r:List V->Hp->VK->Prop}
def tCB (r:List V->Hp->VK->Prop)(t:TA):TE:=fun σ H Q=>t σ H λvs H1=>r vs H1 Q
theorem ZJ (hc:Qa X (.builtin id) r)(hg:Gl X x)(hm:X.mg x=none)(hv:bootBuiltins x=some (.builtin id))(ha:PA X (e::es) t)(hn:x≠ "__name__" := by decide)(hdb:(x==("__debug__" : Str))=false:=by decide)
  (he:starEach (e::es) X.env=(false,eval e X.env)::starEach es X.env:=by rfl) (hpl:(backTo pos (starEach es X.env)).any (·.1)=false:=by rfl):PE X (.Call (.Name x p) (e::es) [] pos) (tCB r t):=by
 intro pins s σ H Q I h
 refine wpAny_Call_Name_kw (WK I hg hm hv ?_ hn hdb)
 exact PyProof.Rows.callWith_builtin1 (thn (ha pos pins s σ H _ I h) λus s1 ⟨vs,H1,I1,r1,q1⟩=>hc pins s1 σ H1 vs us Q I1 r1 q1) he hpl
theorem Xf (hc:Qa X (.type T) r)(hg:Gl X x)(hm:X.mg x=none)(hv:bootBuiltins x=some (.type T))(ha:PA X (e::es) t)(hn:x≠ "__name__" := by decide)(hdb:(x==("__debug__" : Str))=false:=by decide)
  (he:starEach (e::es) X.env=(false,eval e X.env)::starEach es X.env:=by rfl) (hpl:(backTo pos (starEach es X.env)).any (·.1)=false:=by rfl):PE X (.Call (.Name x p) (e::es) [] pos) (tCB r t):=by
 intro pins s σ H Q I h
 refine wpAny_Call_Name_kw (WK I hg hm hv ?_ hn hdb)
 exact PyProof.Rows.callWith_type1 (thn (ha pos pins s σ H _ I h) λus s1 ⟨vs,H1,I1,r1,q1⟩=>hc pins s1 σ H1 vs us Q I1 r1 q1) he hpl
end
end L2
namespace HT
open PySem PyProof.Rows
section
variable {prog:Program}{w:World}{A:Around}{E:Value->Shared->Prop}{s:Shared}
theorem zgH {t b:Addr}{vs ws:List Value}{Q:Value->Shared->Prop}(ht:IsTup s.heap t vs.toArray)(hb:IsTup s.heap b ws.toArray)(hv:vs≠[])
  (h1:ws=[]->Q (.ref t) s) (h2:ws≠[]->Q (.ref s.heap.objs.size) { s with heap:=s.heap.push { cls:=.type "tuple",data:=.seq (vs++ws).toArray } })
  (hsz:vs.length+ws.length<=sizeLine):wpAny (model prog w) A (binaryOp .Add (.ref t) (.ref b)) Q E s:=by
 obtain ⟨⟨cls,dd,data,sl⟩,ho,hc,n,hd⟩:=id ht
 obtain ⟨⟨cls2,dd2,data2,sl2⟩,ho2,hc2,n2,hd2⟩:=id hb
 simp only at hc hd hc2 hd2
 subst hc hd hc2 hd2
 have e:vs.toArray++ws.toArray=(vs++ws).toArray:=by simp
 by_cases hw:ws=[]
 ·exact concat_meets ⟨_,ho,rfl⟩ ⟨_,ho2,rfl⟩ noFill_tuple_add seq_tuple_add PySem.F.slot_tuple_add PySem.F.entry_tuple_add (PySem.F.args_tuple_add_2 _ _)
   (tuple_addW1 t b vs.toArray ws.toArray n n2 dd dd2 sl sl2 (by simpa using hv) (by simp[hw])) ⟨ho,ho2,h1 hw⟩
 ·refine concat_meets ⟨_,ho,rfl⟩ ⟨_,ho2,rfl⟩ noFill_tuple_add seq_tuple_add PySem.F.slot_tuple_add PySem.F.entry_tuple_add (PySem.F.args_tuple_add_2 _ _)
   (tuple_addW2 t b vs.toArray ws.toArray n n2 dd dd2 sl sl2 (by simpa using hv) (by simpa using hw) (by rw[size_toArray,size_toArray];exact hsz)) ⟨ho,ho2,?_⟩
  rw[e]
  exact h2 hw
noncomputable def sIx (n d:Nat):Option Int->Nat
 | none=>d
 | some v=>if v<0 then (v+(n:Int)).toNat else min v.toNat n
theorem zbe (n d:Nat):sIx n d none=d:=rfl
theorem zdT (n d k:Nat):sIx n d (some (k:Int))=min k n:=by
 show (if (k:Int)<0 then ((k:Int)+(n:Int)).toNat else min (k:Int).toNat n)=min k n
 rw[if_neg (by omega),toNat_natCast]
theorem zia (n d:Nat)(hd:d<=n)(o:Option Int):sIx n d o<=n:=by
 cases o with
 | none=>exact hd
 | some v=>
  show (if v<0 then (v+(n:Int)).toNat else min v.toNat n)<=n
  by_cases hv:v<0
  ·rw[if_pos hv];omega
  ·rw[if_neg hv];exact Nat.min_le_right _ _
theorem zc6 (v:Int)(n d:Nat):(if v<0 then max (v+(n:Int)) 0 else min v (n:Int))=((sIx n d (some v):Nat):Int):=by
 show (if v<0 then max (v+(n:Int)) 0 else min v (n:Int))=(((if v<0 then (v+(n:Int)).toNat else min v.toNat n):Nat):Int)
 by_cases hv:v<0
 ·simp only[if_pos hv];omega
 ·simp only[if_neg hv];omega
theorem zb2 (lo hi:Option Int)(n:Nat):Builtin.Slice.sliceAdjust lo hi 1 (n:Int)=(((sIx n 0 lo:Nat):Int),((sIx n n hi:Nat):Int)):=by
 have h1:¬ ((1:Int)<0):=by omega
 unfold Builtin.Slice.sliceAdjust
 simp only[h1,if_false]
 refine Prod.ext ?_ ?_
 ·cases lo with
  | none=>rfl
  | some v=>exact zc6 v n 0
 ·cases hi with
  | none=>rfl
  | some v=>exact zc6 v n n
theorem zcb (i j:Nat):Builtin.Slice.slicePlaces (i:Int) (j:Int) 1=j-i:=by
 unfold Builtin.Slice.slicePlaces
 have h1:(1:Int)>0:=by omega
 simp only[h1,if_true,Int.ediv_one]
 split <;> omega
theorem V7 {v:Value}{o:Option Int}{Q:Option Int->Shared->Prop}(p:IsPart v o)(h:Q o s):wpAny (model prog w) A (Builtin.Slice.slicePartIndex v) Q E s:=by
 cases p with
 | none=>exact slicePart_none h
 | int i t=>exact slicePart_int h
theorem W5 {sl:Addr}{vl vu:Value}{lo hi:Option Int}{n:Nat}{Q:Int×Int×Nat->Shared->Prop}(hs:s.heap.IsSliceOf sl vl vu .none)(pl:IsPart vl lo)(pu:IsPart vu hi)
  (h:Q (((sIx n 0 lo:Nat):Int),1,sIx n n hi-sIx n 0 lo) s):wpAny (model prog w) A (Builtin.Slice.sliceApplied (.ref sl) (pure (n:Int))) Q E s:=by
 obtain ⟨os,hos,hcs,hds⟩:=id hs
 unfold Builtin.Slice.sliceApplied Builtin.Slice.sliceFields
 refine wpAny_bind (wpAny_bind (wpAny_field hos hds (x:=vl) rfl (wpAny_bind (wpAny_field hos hds (x:=vu) rfl (wpAny_bind (wpAny_field hos hds (x:=.none) rfl (wpAny_pure ?_)))))))
 refine wpAny_bind (slicePart_none ?_)
 show wpAny _ _ (if ((1:Int)==0)=true then _ else _) _ _ s
 rw[if_neg (by decide)]
 refine wpAny_bind (V7 pl (wpAny_bind (V7 pu (wpAny_bind (wpAny_pure ?_)))))
 show wpAny _ _ (match Builtin.Slice.sliceAdjust lo hi 1 (n:Int) with | (lo,hi)=>pure (lo,(1:Int),Builtin.Slice.slicePlaces lo hi 1)) _ _ s
 rw[zb2 lo hi n]
 show wpAny _ _ (pure (((sIx n 0 lo:Nat):Int),(1:Int),Builtin.Slice.slicePlaces ((sIx n 0 lo:Nat):Int) ((sIx n n hi:Nat):Int) 1)) _ _ s
 rw[zcb]
 exact wpAny_pure h
theorem zeT (xs:Array Value)(i k:Nat):((List.range k).filterMap λ(m:Nat)=>xs[((i:Int)+(m:Int)*1).toNat]?).toArray=((xs.toList.drop i).take k).toArray:=by
 have e:(λ(m:Nat)=>xs[((i:Int)+(m:Int)*1).toNat]?)=λm=>xs[i+m]?:=by
  funext m
  have:((i:Int)+(m:Int)*1).toNat=i+m:=by omega
  rw[this]
 rw[e]
 have:=pick_run xs i k
 rw[List.filterMap_map] at this
 have e2:((λx=>xs[x]?)∘λx=>i+x)=λm=>xs[i+m]?:=rfl
 rw[e2] at this
 rw[this]
theorem Qu {t sl:Addr}{items:Array Value}{vl vu:Value}{lo hi:Option Int}{Q:Value->Shared->Prop}(ht:IsTup s.heap t items)(hs:s.heap.IsSliceOf sl vl vu .none)(pl:IsPart vl lo)(pu:IsPart vu hi)
  (hw:¬ (sIx items.size 0 lo=0/\sIx items.size items.size hi=items.size))
  (h:Q (.ref s.heap.objs.size) { s with heap:=s.heap.push { cls:=.type "tuple",data:=.seq ((items.toList.drop (sIx items.size 0 lo)).take (sIx items.size items.size hi-sIx items.size 0 lo)).toArray } })
  (hsz:items.size<=sizeLine):wpAny (model prog w) A (getItem (.ref t) (.ref sl)) Q E s:=by
 have htake:sizeOk (.seq ((items.toList.drop (sIx items.size 0 lo)).take (sIx items.size items.size hi-sIx items.size 0 lo)).toArray):=by
  show ((items.toList.drop (sIx items.size 0 lo)).take (sIx items.size items.size hi-sIx items.size 0 lo)).toArray.size<=sizeLine
  rw[size_toArray,length_take,length_drop,length_toList]
  omega
 have hj:sIx items.size items.size hi<=items.size:=zia _ _ (Nat.le_refl _) hi
 obtain ⟨os,hos,hcs,hds⟩:=id hs
 have hTs:s.TypeIs (.ref sl) "slice" := ⟨os,hos,hcs⟩
 unfold getItem
 try with_reducible refine wpAny_holding ?_
 first | refine wpAny_bind (wpAny_pure ?_) | skip
 refine wpAny_bind (wpAny_sequenceKey ht.typeIs (by decide) ?_)
 refine wpAny_bind (wpAny_callSpecial?_slot (name:=Str.ofString "__getitem__") ht.typeIs PyProof.Rows.slot_tuple_getitem
  (wpAny_call_entry PyProof.Rows.slot_tuple_getitem ht.typeIs entry_tuple_getitem ?_ (args_tuple_getitem _ _)))
 show wpAny _ _ (Builtin.Tuple.tupleItemsOf (.ref t) >>= _) _ _ s
 refine wpAny_bind (tupleItemsOf_ ht ?_)
 refine wpAny_bind (wpAny_typeOf hTs ?_)
 rw[if_pos (by decide)]
 refine wpAny_bind (W5 hs pl pu ?_)
 have hno:¬ ((((sIx items.size 0 lo:Nat):Int)==0&&(1:Int)==1&&(sIx items.size items.size hi-sIx items.size 0 lo)==items.size)=true):=by
  intro q
  rw[and_eq_true,and_eq_true] at q
  have q1:((sIx items.size 0 lo:Nat):Int)=0:=eq_of_beq q.1.1
  have q2:sIx items.size items.size hi-sIx items.size 0 lo=items.size:=eq_of_beq q.2
  exact hw ⟨by omega,by omega⟩
 show wpAny _ _ (if (((sIx items.size 0 lo:Nat):Int)==0&&(1:Int)==1&&(sIx items.size items.size hi-sIx items.size 0 lo)==items.size)=true then _ else _) _ _ s
 rw[if_neg hno,zeT]
 first
  | exact wpAny_bind (m:=Builtin.Tuple.tupleExact _) (wpAny_newObj_type (wpAny_pure ⟨_,rfl,wpAny_pure h⟩) htake)
  | exact wpAny_bind (m:=Builtin.Tuple.tupleExact _) (wpAny_newObj_type (wpAny_bind (wpAny_pure (wpAny_pure ⟨_,rfl,wpAny_pure h⟩))) htake)
  | exact wpAny_bind (wpAny_bind (m:=Builtin.Tuple.tupleExact _) (wpAny_newObj_type (wpAny_pure (wpAny_pure ⟨_,rfl,wpAny_pure h⟩)) htake))
  | exact wpAny_bind (wpAny_bind (m:=Builtin.Tuple.tupleExact _) (wpAny_newObj_type (wpAny_pure ⟨_,rfl,wpAny_pure h⟩) htake))
end
end HT
namespace L2
open PySem PySem.Spec PyProof.Rows
abbrev TO:=St->Hp->(Option Int->Hp->Prop)->Prop
def PO (X:Cx)(e:Option Expr)(t:TO):Prop:=
 ∀ (pins:List (Addr×Obj)) (s:Shared) (σ:St) (H:Hp) (Q:Option Int->Hp->Prop),Inv X pins σ H s->t σ H Q->
  wpAny (model X.prog X.w) X.A (evalPart e X.env) (λu s' => ∃ o H',Inv X pins σ H' s' /\ IsPart u o/\Q o H') X.xe s
def Jm:TO:=λ_ H Q=>Q none H
def Vj (t:TE):TO:=fun σ H Q=>t σ H λx H1=>∃ i,x = .int i/\Q (some i) H1
theorem intsAre_of {ns:List Int}:∀ {us:List Value},Vals (ns.map V.int) us->IntsAre us ns:=by
 induction ns with
 | nil=>intro us r;rw[List.map_nil] at r;cases r;exact .nil
 | cons n ns ih=>
  intro us r
  rw[map_cons] at r
  cases r with
  | cons r1 r2=>
   obtain ⟨t,e⟩:=r1
   subst e
   exact .cons n t (ih r2)
section
variable {X:Cx}{e:Expr}{te:TE}{lo hi:Option Expr}{tl th:TO}{pos p2:Pos}
theorem Z7:PO X none Jm:=by
 intro pins s σ H Q I h
 rw[evalPart_none]
 exact wpAny_pure ⟨none,H,I,.none,h⟩
theorem Z3 (h:PE X e te):PO X (some e) (Vj te):=by
 intro pins s σ H Q I hw
 rw[evalPart_some]
 refine thn (h pins s σ H _ I hw) λu s1 ⟨x,H1,I1,r1,q1⟩=>?_
 obtain ⟨i,rfl,q⟩:=q1
 obtain ⟨t,rfl⟩:=r1
 exact ⟨some i,H1,I1,.int i t,q⟩
def SlR (X:Cx)(r:V->Option Int->Option Int->Hp->VK->Prop):Prop:=
 ∀ (pins:List (Addr×Obj)) (s:Shared) (σ:St) (H:Hp) (x:V) (v vl vu:Value) (lo hi:Option Int) (sl:Addr) (Q:VK),Inv X pins σ H s->RelV x v->s.heap.IsSliceOf sl vl vu .none->IsPart vl lo->IsPart vu hi->r x lo hi H Q->
  ∃ T id,typeLookup (.type T) "__getitem__" = pure (some (.builtin id))/\s.TypeIs v T/\wpAny (model X.prog X.w) X.A (getItem v (.ref sl)) (EP X pins σ Q) X.xe s
def tSl (r:V->Option Int->Option Int->Hp->VK->Prop)(te:TE)(tl th:TO):TE:=fun σ H Q=>te σ H λx H1=>tl σ H1 λl H2=>th σ H2 λu H3=>r x l u H3 Q
theorem ZK {r:V->Option Int->Option Int->Hp->VK->Prop}(hr:SlR X r)(he:PE X e te)(hl:PO X lo tl)(hu:PO X hi th):PE X (.Subscript e (.Slice lo hi none p2) pos) (tSl r te tl th):=by
 intro pins s σ H Q I h
 refine Subscript_ (thn (he pins s σ H _ I h) λv s1 ⟨x,H1,I1,r1,q1⟩=>?_)
 refine wpAny_Slice (thn (hl pins s1 σ H1 _ I1 q1) λvl s2 ⟨l,H2,I2,pl,q2⟩=>thn (hu pins s2 σ H2 _ I2 q2) λvu s3 ⟨u,H3,I3,pu,q3⟩=>?_)
 rw[evalPart_none]
 refine wpAny_pure ?_
 have I4:Inv X pins σ H3 { s3 with heap:=s3.heap.push { cls:=.type "slice",data:=.fields #[vl,vu,.none] } }:=I3.kept (t' := s3.toks) λb ob q=>get?_push_of_some _ q
 obtain ⟨T,id,hT,ht,hg⟩:=hr pins { s3 with heap:=s3.heap.push { cls:=.type "slice",data:=.fields #[vl,vu,.none] } } σ H3 x v vl vu l u s3.heap.objs.size Q I4 r1 (IsSliceOf.new ..) pl pu q3
 show wpAny (model X.prog X.w) X.A (subscriptTail e (.Slice lo hi none p2) v (.ref s3.heap.objs.size)) (EP X pins σ Q) X.xe { s3 with heap:=s3.heap.push { cls:=.type "slice",data:=.fields #[vl,vu,.none] } }
 exact tail_any (ops:=[.ref s3.heap.objs.size,v]) ht hT hg (by with_unfolding_all rfl)
noncomputable def zco (xs:List V) (lo hi:Option Int):List V:=(xs.drop (HT.sIx xs.length 0 lo)).take (HT.sIx xs.length xs.length hi-HT.sIx xs.length 0 lo)
theorem Vp (xs:List V)(lo hi:Option Int):(zco xs lo hi).length<=xs.length:=by
 unfold zco
 rw[length_take,length_drop]
 omega
def zkL (K:PySem.W.Frag):V->Option Int->Option Int->Hp->VK->Prop:=λx lo hi H Q=>∃ a xs,x = .ref a/\SqT K H a xs/\
 ¬ (HT.sIx xs.length 0 lo=0/\HT.sIx xs.length xs.length hi=xs.length)/\∀ p,H p=none->Q (.ref p) (upd H p (.tup (zco xs lo hi)))
theorem zih:SlR X (zkL X.K):=by
 intro pins s σ H x v vl vu lo hi sl Q I rx hs pl pu h
 obtain ⟨a,xs,rfl,hx,hw,q⟩:=h
 cases rx
 obtain ⟨its,r,ht,hz⟩:=I.tuple hx
 have hlen:its.toArray.size=xs.length:=by rw[size_toArray];exact r.length.symm
 refine ⟨"tuple",_,PyProof.Rows.slot_tuple_getitem.lookup,ht.typeIs,?_⟩
 refine HT.Qu ht hs pl pu (by rw[hlen];exact hw) ?_ (by rw[hlen];exact hz)
 rw[hlen]
 refine ⟨.ref s.heap.objs.size,_,I.laid (t' := s.toks) (o:=.tup (zco xs lo hi)) (λb ob q=>get?_push_of_some _ q) (Nat.le_refl _) ?_,rfl,q _ (I.hok.fresh (Nat.le_refl _))⟩
 exact ⟨Nat.le_trans (Vp xs lo hi) hz,_,(r.drop (HT.sIx xs.length 0 lo)).take (HT.sIx xs.length xs.length hi-HT.sIx xs.length 0 lo),IsTup.new _ _,_,get?_push_size _ rfl,rfl⟩
def zjN (K:PySem.W.Frag):R2:=λx y H Q=>∃ a b xs ys,x = .ref a/\y = .ref b/\SqT K H a xs/\SqT K H b ys/\xs≠[]/\xs.length+ys.length<=sizeLine/\
 (ys=[]->Q (.ref a) H)/\(ys≠[]->∀ p,H p=none->Q (.ref p) (upd H p (.tup (xs++ys))))
theorem Vals.Vq {xs:List V}{us:List Value}(r:Vals xs us):us=[]↔xs=[]:=by
 cases r with
 | nil=>simp
 | cons _ _=>simp
theorem zfE:OpR X (binaryOp .Add) (zjN X.K):=by
 intro pins s σ H x y v u Q I rx ry h
 obtain ⟨a,b,xs,ys,rfl,rfl,ha,hb,hx,hz,q1,q2⟩:=h
 cases rx
 cases ry
 obtain ⟨its,r1,p1,_⟩:=I.tuple ha
 obtain ⟨its2,r2,p2,_⟩:=I.tuple hb
 refine HT.zgH p1 p2 (λz=>hx (r1.Vq.mp z)) (λz=>⟨.ref a,H,I,rfl,q1 (r2.Vq.mp z)⟩) (λz=>?_) (by rw[← r1.length,← r2.length];exact hz)
 refine ⟨.ref s.heap.objs.size,_,I.laid (t' := s.toks) (o:=.tup (xs++ys)) (λb ob q=>get?_push_of_some _ q) (Nat.le_refl _) ?_,rfl,q2 (λw=>z (r2.Vq.mpr w)) _ (I.hok.fresh (Nat.le_refl _))⟩
 exact ⟨by rw[length_append];exact hz,_,r1.append r2,IsTup.new _ _,_,get?_push_size _ rfl,rfl⟩
end
noncomputable def ixN (n:Nat) (i:Int):Option Nat:=if 0<=i then (if i<n then some i.toNat else none) else if -(n:Int)<=i then some (i+n).toNat else none
noncomputable def atI {α:Type}(xs:List α) (i:Int):Option α:=(ixN xs.length i).bind λj=>xs[j]?
theorem zaR {n:Nat}{i:Int}{j:Nat}(h:ixN n i=some j):seqIndex? i n=some j/\j<n/\-(n:Int)<=i/\i<n:=by
 unfold ixN at h
 by_cases h0:0<=i
 ·rw[if_pos h0] at h
  by_cases h1:i<n
  ·rw[if_pos h1] at h
   have e:i.toNat=j:=Option.some.inj h
   exact ⟨by rw[seqIndex_of h0 h1,e],by omega,by omega,h1⟩
  ·rw[if_neg h1] at h;cases h
 ·rw[if_neg h0] at h
  by_cases h1:-(n:Int)<=i
  ·rw[if_pos h1] at h
   have e:(i+n).toNat=j:=Option.some.inj h
   exact ⟨by rw[seqIndex_neg (by omega) h1,e],by omega,h1,by omega⟩
  ·rw[if_neg h1] at h;cases h
theorem zcs {α:Type}{xs:List α}{i:Int}{v:α}(h:atI xs i=some v):∃ j,seqIndex? i xs.length=some j/\xs[j]?=some v/\j<xs.length/\-(xs.length:Int)<=i/\i<xs.length:=by
 unfold atI at h
 cases e:ixN xs.length i with
 | none=>rw[e] at h;cases h
 | some j=>
  rw[e] at h
  obtain ⟨h1,h2,h3,h4⟩:=zaR e
  exact ⟨j,h1,h,h2,h3,h4⟩
def zgl (b:Expr):Prop:=∀ o i,subscripted b false o i=operate [o,i] (getItem o i)
def IxR (X:Cx)(r:R2):Prop:=
 ∀ (value slice:Expr) (pins:List (Addr×Obj)) (s:Shared) (σ:St) (H:Hp) (x y:V) (v u:Value) (Q:VK),Inv X pins σ H s->RelV x v->RelV y u->r x y H Q->
  subscripted slice false v u=operate [v,u] (getItem v u)->wpAny (model X.prog X.w) X.A (subscriptTail value slice v u) (EP X pins σ Q) X.xe s
def MtR (X:Cx)(id:String)(r:V->List V->Hp->VK->Prop):Prop:=
 ∀ (pins:List (Addr×Obj)) (s:Shared) (σ:St) (H:Hp) (x:V) (xs:List V) (v:Value) (us:List Value) (Q:VK),Inv X pins σ H s->RelV x v->Vals xs us->r x xs H Q->
  wpAny (model X.prog X.w) X.A (call (.builtin id) (v::us)) (EP X pins σ Q) X.xe s
section
variable {X:Cx}{a b:Expr}{ta tb:TE}{pos:Pos}
theorem Ym {r:R2}(hr:IxR X r)(ha:PE X a ta)(hb:PE X b tb)(hs:zgl b):PE X (.Subscript a b pos) (tOp r ta tb):=by
 intro pins s σ H Q I h
 exact Subscript_ (zjs ha hb I h λv u s2 x y H2 I2 rx ry q=>hr a b pins s2 σ H2 x y v u Q I2 rx ry q (hs _ _))
def ziL (K:PySem.W.Frag):R2:=λx y H Q=>∃ p xs i v,x = .ref p/\y = .int i/\SqL K H p xs/\atI xs i=some v/\Q v H
def zhf (K:PySem.W.Frag):R2:=λx y H Q=>∃ p xs i v,x = .ref p/\y = .int i/\SqT K H p xs/\atI xs i=some v/\Q v H
theorem zgW:IxR X (ziL X.K):=by
 intro value slice pins s σ H x y v u Q I rx ry h hs
 obtain ⟨p,xs,i,z,rfl,rfl,hq,he,q⟩:=h
 cases rx
 obtain ⟨t,rfl⟩:=ry
 obtain ⟨its,r,pl,hz⟩:=I.list hq
 obtain ⟨j,h1,h2,h3,h4,h5⟩:=zcs he
 obtain ⟨w,ew,rw'⟩:=r.get h2
 have hl:=r.length
 have hn:=zbu
 have fin:EP X pins σ Q w s:=⟨z,H,I,rw',q⟩
 by_cases h0:0<=i
 ·have hj:i.toNat=j:=by
   rw[seqIndex_of h0 h5] at h1
   exact Option.some.inj h1
  exact item_listR pl.isList h0 (by omega) (by rw[hj];simpa using ew) fin hs
 ·have hj:(i+(its.toArray.size:Int)).toNat=j:=by
   rw[seqIndex_neg (by omega) h4] at h1
   rw[size_toArray,← hl]
   exact Option.some.inj h1
  exact subscriptTail_builtinR (x:=w) pl.isList.typeIs slot_list_getitem.lookup
   (wpAny_getItem_list_neg (Q:=λr s' => r=w/\EP X pins σ Q r s') pl.isList (by omega) (by rw[size_toArray] <;> omega) (by omega) (by rw[hj];simpa using ew) ⟨rfl,fin⟩) hs
theorem zhE:IxR X (zhf X.K):=by
 intro value slice pins s σ H x y v u Q I rx ry h hs
 obtain ⟨p,xs,i,z,rfl,rfl,hq,he,q⟩:=h
 cases rx
 obtain ⟨t,rfl⟩:=ry
 obtain ⟨its,r,pl,hz⟩:=I.tuple hq
 obtain ⟨j,h1,h2,h3,h4,h5⟩:=zcs he
 obtain ⟨w,ew,rw'⟩:=r.get h2
 have hl:=r.length
 have hn:=zbu
 have fin:EP X pins σ Q w s:=⟨z,H,I,rw',q⟩
 exact subscriptTail_builtinR (x:=w) pl.typeIs slot_tuple_getitem.lookup
  (getItem_tuple (j:=j) (Q:=λr s' => r=w/\EP X pins σ Q r s') pl (by omega) (by omega) (by rw[size_toArray,← hl];exact h1) (by simpa using ew) ⟨rfl,fin⟩) hs
theorem zb1 (its:List Value)(n j:Nat)(u:Value):Obj.mapSeq (·.setIfInBounds j u) { cls:=.type "list",data:=.seq its.toArray n }={ cls:=.type "list",data:=.seq (its.set j u).toArray n }:=by
 simp[Obj.mapSeq]
theorem Inv.lst {pins:List (Addr×Obj)}{σ:St}{H:Hp}{s:Shared}{p:Addr}{xs:List V}(I:Inv X pins σ H s)(h:H p=some (.lst xs)):
  ∃ (its:List Value) (n:Nat),Vals xs its/\s.heap.get? p=some { cls:=.type "list",data:=.seq its.toArray n }/\xs.length<=sizeLine:=by
 obtain ⟨z,its,n,r,e⟩:=I.hok p _ h
 exact ⟨its,n,r,e,z⟩
theorem Inv.ziD {pins:List (Addr×Obj)}{σ:St}{H:Hp}{s:Shared}{p:Addr}{xs ys:List V}{its its' : List Value}{n n' : Nat}{f:Obj->Obj}(I:Inv X pins σ H s)(h:H p=some (.lst xs))
  (ho:s.heap.get? p=some { cls:=.type "list",data:=.seq its.toArray n }) (hf:f { cls:=.type "list",data:=.seq its.toArray n }={ cls:=.type "list",data:=.seq its'.toArray n' }) (r:Vals ys its') (hz:ys.length<=sizeLine) (t:Nat):
  Inv X pins σ (upd H p (.lst ys)) { s with heap:=s.heap.update p f,toks:=t }:=by
 have e:(s.heap.update p f).get? p=some { cls:=.type "list",data:=.seq its'.toArray n' }:=by
  rw[get?_update_self f ho (by rw[hf] <;> rfl),hf]
 refine I.write (x:=p) (e:=p) (by rw[h];trivial) (.inl rfl) (λb u hb q=>(get?_update_other _ _ (Ne.symm hb)).trans q) ⟨_,e⟩ ?_
 exact ⟨hz,its',n',r,e⟩
def zin:V->V->V->Hp->(Hp->Prop)->Prop:=λo i v H Q=>∃ p xs k j,o = .ref p/\i = .int k/\H p=some (.lst xs)/\ixN xs.length k=some j/\Q (upd H p (.lst (xs.set j v)))
theorem set_list:zkm X zin:=by
 intro pins s σ H o i v ov iv u Q I ro ri rv h
 obtain ⟨p,xs,k,j,rfl,rfl,hp,hj,q⟩:=h
 cases ro
 obtain ⟨t,rfl⟩:=ri
 obtain ⟨its,n,r,ho,hz⟩:=I.lst hp
 obtain ⟨h1,h2,h3,h4⟩:=zaR hj
 have hl:=r.length
 have hn:=zbu
 have I' : Inv X pins σ (upd H p (.lst (xs.set j v))) { s with heap:=s.heap.update p (Obj.mapSeq (·.setIfInBounds j u)) }:=
  I.ziD hp ho (zb1 its n j u) (r.set rv j) (by rw[length_set];exact hz) s.toks
 by_cases h0:0<=k
 ·have hk:k.toNat=j:=by
   rw[seqIndex_of h0 h4] at h1
   exact Option.some.inj h1
  exact PySem.W.ki_setAt ho h0 (by omega) (by rw[size_toArray,← hl];exact h4) (by rw[hk];exact ⟨_,I',q⟩)
 ·have hk:(k+(its.toArray.size:Int)).toNat=j:=by
   rw[seqIndex_neg (by omega) h3] at h1
   rw[size_toArray,← hl]
   exact Option.some.inj h1
  exact PySem.W.ki_setBack ho (by omega) (by rw[size_toArray,← hl];exact h3) (by omega) (by rw[hk];exact ⟨_,I',q⟩)
theorem zaf (lo hi:Option Int)(n:Nat):(sliceBounds lo hi none n).1=((HT.sIx n 0 lo:Nat):Int)/\(sliceBounds lo hi none n).2.1=((HT.sIx n n hi:Nat):Int)/\(sliceBounds lo hi none n).2.2=1:=by
 refine ⟨?_,?_,rfl⟩
 ·cases lo with
  | none=>simp[sliceBounds,HT.sIx]
  | some i=>
   simp only[sliceBounds,HT.sIx,Option.getD_none,show (1:Int)>0 by decide,if_true]
   by_cases h:i<0
   ·simp only[h,if_true] <;> omega
   ·simp only[h,if_false] <;> omega
 ·cases hi with
  | none=>simp[sliceBounds,HT.sIx]
  | some i=>
   simp only[sliceBounds,HT.sIx,Option.getD_none,show (1:Int)>0 by decide,if_true]
   by_cases h:i<0
   ·simp only[h,if_true] <;> omega
   ·simp only[h,if_false] <;> omega
theorem Uq (its:List Value)(lo hi:Option Int):slicePick its.toArray lo hi none=((its.drop (HT.sIx its.length 0 lo)).take (HT.sIx its.length its.length hi-HT.sIx its.length 0 lo)).toArray:=by
 obtain ⟨h1,h2,h3⟩:=zaf lo hi its.toArray.size
 unfold slicePick
 rw[h1,h2,h3]
 simp only[sliceRange_one,pick_run,size_toArray] <;> rfl
def zhv (K:PySem.W.Frag):V->Option Int->Option Int->Hp->VK->Prop:=λx lo hi H Q=>∃ a xs,x = .ref a/\SqL K H a xs/\∀ p,H p=none->Q (.ref p) (upd H p (.lst (zco xs lo hi)))
theorem zf5:SlR X (zhv X.K):=by
 intro pins s σ H x v vl vu lo hi sl Q I rx hs pl pu h
 obtain ⟨a,xs,rfl,hx,q⟩:=h
 cases rx
 obtain ⟨its,r,ht,hz⟩:=I.list hx
 have hlen:=r.length
 refine ⟨"list",_,slot_list_getitem.lookup,ht.isList.typeIs,?_⟩
 refine wpAny_getItem_list_slice ht.isList hs pl pu .none (by simp) ?_ (by rw[size_toArray] <;> omega)
 rw[Uq,← hlen]
 refine ⟨.ref s.heap.objs.size,_,I.laid (t' := s.toks) (o:=.lst (zco xs lo hi)) (λb ob q=>get?_push_of_some _ q) (Nat.le_refl _) ?_,rfl,q _ (I.hok.fresh (Nat.le_refl _))⟩
 exact ⟨Nat.le_trans (Vp xs lo hi) hz,_,0,(r.drop (HT.sIx xs.length 0 lo)).take (HT.sIx xs.length xs.length hi-HT.sIx xs.length 0 lo),get?_push_size _ rfl⟩
theorem zat:Qa X (.builtin "len") (λxs H Q=>∃ p ys,xs=[.ref p]/\(SqL X.K H p ys\/SqT X.K H p ys)/\Q (.int ys.length) H):=by
 intro pins s σ H xs us Q I r h
 obtain ⟨p,ys,rfl,hq,q⟩:=h
 obtain ⟨u,rfl,rx⟩:=vals1 r
 cases rx
 have hn:=zbu
 rcases hq with hq | hq
 ·obtain ⟨its,r',pl,hz⟩:=I.list hq
  have hlen:=r'.length
  exact Calls.call_len_list pl.isList (by simp only[size_toArray] <;> omega) ⟨.int ys.length,H,I.tok _,⟨s.toks+1,by rw[size_toArray,hlen]⟩,q⟩
 ·obtain ⟨its,r',pl,hz⟩:=I.tuple hq
  have hlen:=r'.length
  exact len_tuple pl (by simp only[size_toArray] <;> omega) ⟨.int ys.length,H,I.tok _,⟨s.toks+1,by rw[size_toArray,hlen]⟩,q⟩
theorem UG:Qa X (.type "tuple") (λxs H Q=>∃ p ys,xs=[.ref p]/\((SqL X.K H p ys/\∀ l,H l=none->Q (.ref l) (upd H l (.tup ys)))\/(SqT X.K H p ys/\Q (.ref p) H))):=by
 intro pins s σ H xs us Q I r h
 obtain ⟨p,ys,rfl,h⟩:=h
 obtain ⟨u,rfl,rx⟩:=vals1 r
 cases rx
 rcases h with ⟨hq,q⟩ | ⟨hq,q⟩
 ·obtain ⟨its,r',pl,hz⟩:=I.list hq
  have hlen:=r'.length
  refine call_tuple_list pl.isList (λh' kp=>?_) (by simp only[size_toArray] <;> omega)
  have I1:Inv X pins σ H { s with heap:=h' }:=I.kept (t' := s.toks) kp
  have I2:Inv X pins σ (upd H h'.objs.size (.tup ys)) { s with heap:=h'.push { cls:=.type "tuple",data:=.seq its.toArray } }:=
   I1.laid (t' := s.toks) (λb o e=>get?_push_of_some _ e) (Nat.le_refl _) (show Xp X.prog X.w _ _ _ (.tup ys) from ⟨hz,its,r',IsTup.new _ _,_,get?_push_size _ rfl,rfl⟩)
  exact ⟨.ref h'.objs.size,_,I2,rfl,q _ (I1.hok.fresh (Nat.le_refl _))⟩
 ·obtain ⟨its,r',pl,hz⟩:=I.tuple hq
  exact call_tuple_same pl ⟨.ref p,H,I,rfl,q⟩
def tyV (K:PySem.W.Frag)(T:String)(x:V)(H:Hp):Prop:=match x with
 | .str _=>T = "str"
 | .int _=>T = "int"
 | .ref p=>(T = "list" /\ ∃ xs,SqL K H p xs)\/(T = "tuple" /\ ∃ o,K.lookup p=some o/\o.cls = .type "tuple" /\ o.dict=none)\/
   (T = "dict" /\ ((∃ kvs,H p=some (.dK kvs))\/∃ kvs,H p=some (.dT kvs)))\/(T = "set" /\ ∃ S n,H p=some (.set S n))
 | _=>False
theorem zfd {pins:List (Addr×Obj)}{σ:St}{H:Hp}{s:Shared}{T:String}{x:V}{v:Value}(I:Inv X pins σ H s)(r:RelV x v)(ty:tyV X.K T x H):
  s.TypeIs v T/\∀ a,v = .ref a->∃ ob,s.heap.get? a=some ob/\ob.dict=none:=by
 cases x with
 | str z=>
  obtain ⟨t,rfl⟩:=r
  cases (show T = "str" from ty)
  exact ⟨typeIs_str s z t,λ_ e=>nomatch e⟩
 | int i=>
  obtain ⟨t,rfl⟩:=r
  cases (show T = "int" from ty)
  exact ⟨typeIs_int s i t,λ_ e=>nomatch e⟩
 | ref p=>
  cases r
  rcases ty with ⟨rfl,xs,hq⟩ | ⟨rfl,o,hk,hc,hd⟩ | ⟨rfl,hk⟩ | ⟨rfl,S,n,hk⟩
  ·obtain ⟨its,_,pl,_⟩:=I.list hq
   refine ⟨pl.isList.typeIs,λa e=>?_⟩
   cases e
   obtain ⟨o,n,e,c,hd,_⟩:=pl
   exact ⟨o,e,hd⟩
  ·refine ⟨⟨o,I.kIn p o hk,hc⟩,λa e=>?_⟩
   cases e
   exact ⟨o,I.kIn _ o hk,hd⟩
  ·have z:∃ o,s.heap.get? p=some o/\o.ExactDict:=by
    rcases hk with ⟨kvs,hk⟩ | ⟨kvs,hk⟩
    ·obtain ⟨_,_,_,_,o,_,_,e,ex,_⟩:=I.hok p _ hk
     exact ⟨o,e,ex⟩
    ·obtain ⟨_,_,_,_,o,_,_,e,ex,_⟩:=I.hok p _ hk
     exact ⟨o,e,ex⟩
   obtain ⟨o,e,ex⟩:=z
   refine ⟨⟨o,e,ex.1⟩,λa e2=>?_⟩
   cases e2
   exact ⟨o,e,ex.2.1⟩
  ·obtain ⟨o,_,_,_,e,ex,_⟩:=I.hok p _ hk
   refine ⟨⟨o,e,ex.1⟩,λa e2=>?_⟩
   cases e2
   exact ⟨o,e,ex.2.1⟩
 | _=>exact False.elim ty
def zkj (K:PySem.W.Frag)(T:String)(r:V->List V->Hp->VK->Prop)(to:TE):TE:=fun σ H Q=>to σ H λx H1=>tyV K T x H1/\r x [] H1 Q
def tBM (K:PySem.W.Frag)(T:String)(r:V->List V->Hp->VK->Prop)(to:TE)(t:TA):TE:=fun σ H Q=>to σ H λx H1=>tyV K T x H1/\t σ H1 λxs H2=>r x xs H2 Q
variable {o e:Expr}{es:List Expr}{to:TE}{t:TA}{name:Str}{apos cpos:Pos}{T id:String}{r:V->List V->Hp->VK->Prop}
theorem zh5 (pa:PlainAttrs T)(slot:Slot T name id)(hty:typeOf (.builtin id)=pure (.type "method_descriptor"))(hm:MtR X id r)(ho:PE X o to)
  (hbase:attributeBase o name X.env (eval o X.env)=eval o X.env:=by rfl) (hline:(apos.endLine==cpos.line)=true:=by rfl):PE X (.Call (.Attribute o name apos) [] [] cpos) (zkj X.K T r to):=by
 intro pins s σ H Q I h
 refine wpAny_Call_method0_late hbase hline (thn (ho pins s σ H _ I h) λv s1 ⟨x,H1,I1,r1,ty,q1⟩=>?_)
 obtain ⟨h1,h2⟩:=zfd I1 r1 ty
 exact ⟨T,id,pa,slot,hty,h1,h2,Calls.callWith_builtin rfl (PySem.evalArgs_none (hm pins s1 σ H1 x [] v [] Q I1 r1 .nil q1))⟩
theorem QV (pa:PlainAttrs T)(slot:Slot T name id)(hty:typeOf (.builtin id)=pure (.type "method_descriptor"))(hm:MtR X id r)(ho:PE X o to)(ha:PA X (e::es) t)
  (hbase:attributeBase o name X.env (eval o X.env)=eval o X.env:=by rfl)
  (hfew:((backTo cpos (starEach (e::es) X.env)).all (λx=>!x.1)&&(backToKw cpos (keywordEach [] X.env)).all (λx=>x.1.isSome)
   && decide ((e::es).length+([]:List Keyword).length+(if ([]:List Keyword).isEmpty then 0 else 1)<30))=true:=by rfl)
  (hline:(apos.endLine==cpos.line)=true:=by rfl) (hs:starEach (e::es) X.env=(false,eval e X.env)::starEach es X.env:=by rfl) (hplain:(backTo cpos (starEach es X.env)).any (·.1)=false:=by rfl):
  PE X (.Call (.Attribute o name apos) (e::es) [] cpos) (tBM X.K T r to t):=by
 intro pins s σ H Q I h
 refine wpAny_Call_method_late hbase hfew hline rfl (thn (ho pins s σ H _ I h) λv s1 ⟨x,H1,I1,r1,ty,q1⟩=>?_)
 obtain ⟨h1,h2⟩:=zfd I1 r1 ty
 refine ⟨T,id,pa,slot,hty,h1,h2,?_⟩
 have hA:=ha cpos pins s1 σ H1 _ I1 q1
 rw[hs] at hA ⊢
 refine Calls.callWith_builtin (by show (false||(backTo cpos (starEach es X.env)).any (·.1))=false;rw[hplain] <;> rfl) (Calls.evalArgs_plain ?_)
 exact thn hA λus s2 ⟨vs,H2,I2,r2,q2⟩=>hm pins s2 σ H2 x vs v us Q I2 r1 r2 q2
end
def MtM (X:Cx)(id:String)(r:V->List V->Hp->VK->Prop):Prop:=
 ∀ (pins:List (Addr×Obj)) (s:Shared) (σ:St) (H:Hp) (x:V) (xs:List V) (v:Value) (us:List Value) (Q:VK),Inv X pins σ H s->RelV x v->Vals xs us->r x xs H Q->
  wpAny (model X.prog X.w) X.A (call (.builtin id) (v::us)) (EP X pins σ Q) X.xe s
theorem Vals.one:∀ {x:V}{us:List Value},Vals [x] us->∃ u,us=[u]/\RelV x u
 | _,_,.cons r .nil=>⟨_,rfl,r⟩
theorem Vals.zero:∀ {us:List Value},Vals [] us->us=[]
 | _,.nil=>rfl
theorem Vals.dropLast {xs:List V}{us:List Value}(h:Vals xs us):Vals xs.dropLast us.dropLast:=by
 induction h with
 | nil=>exact .nil
 | cons r t ih=>
  cases t with
  | nil=>exact .nil
  | cons q t' => exact .cons r ih
theorem Vals.eraseIdx:∀ {xs:List V}{us:List Value}(i:Nat),Vals xs us->Vals (xs.eraseIdx i) (us.eraseIdx i)
 | _,_,_,.nil=>.nil
 | _,_,0,.cons _ t=>t
 | _,_,i+1,.cons r t=>.cons r (Vals.eraseIdx i t)
theorem Vals.reverse {xs:List V}{us:List Value}(h:Vals xs us):Vals xs.reverse us.reverse:=by
 induction h with
 | nil=>exact .nil
 | cons r t ih=>rw[reverse_cons,reverse_cons];exact Vals.append ih (.cons r .nil)
theorem Vals.rep {xs:List V}{us:List Value}(h:Vals xs us):∀ k:Nat,Vals (List.replicate k xs).flatten (List.replicate k us).flatten
 | 0=>.nil
 | k+1=>by
  rw[replicate_succ,replicate_succ,flatten_cons,flatten_cons]
  exact Vals.append h (Vals.rep h k)
theorem zbS {α:Type}(l:List α):l.eraseIdx (l.length-1)=l.dropLast:=by
 induction l with
 | nil=>rfl
 | cons a r ih=>
  cases r with
  | nil=>rfl
  | cons b r=>
   have e:(a::b::r).length-1=((b::r).length-1)+1:=by
    have h1:(a::b::r).length=r.length+2:=rfl
    have h2:(b::r).length=r.length+1:=rfl
    omega
   rw[e,List.eraseIdx_cons_succ,ih]
   all_goals rfl
theorem zag {α:Type}:∀ (l:List α) (i:Nat),(l.eraseIdx i).length<=l.length
 | [],_=>Nat.le_refl _
 | _::_,0=>le_succ _
 | _::r,i+1=>Nat.succ_le_succ (zag r i)
theorem foldl_rep (its:List Value):∀ (k:Nat) (acc:List Value),
  List.foldl (λx1 x2=>x1++x2) acc.toArray (List.replicate k its.toArray)=(acc++(List.replicate k its).flatten).toArray
 | 0,acc=>by simp
 | k+1,acc=>by
  have e:acc.toArray++its.toArray=(acc++its).toArray:=by simp
  have e2:(acc++its)++(List.replicate k its).flatten=acc++(List.replicate (k+1) its).flatten:=by
   rw[replicate_succ,flatten_cons,append_assoc]
  rw[← e2,← foldl_rep its k (acc++its),← e,replicate_succ,foldl_cons]
section
variable {X:Cx}{pins:List (Addr×Obj)}{σ:St}{H:Hp}{s:Shared}{l b:Addr}{xs ys zs:List V}
theorem Inv.zjf {its its' : List Value}{n:Nat}{f:Array Value->Array Value}{t' : Nat}(I:Inv X pins σ H s)(hH:H l=some (.lst xs))
  (e:s.heap.get? l=some { cls:=.type "list",data:=.seq its.toArray n }) (hf:f its.toArray=its'.toArray) (hv:Vals ys its') (hz:ys.length<=sizeLine):
  Inv X pins σ (upd H l (.lst ys)) { s with heap:=s.heap.update l (Obj.mapSeq f),toks:=t' }:=by
 have q:=PySem.IsL.update e f
 rw[hf] at q
 refine I.write (x:=l) (e:=l) (by rw[hH];exact trivial) (.inl rfl) (λb' u hb hu=>(get?_update_other s.heap (Obj.mapSeq f) (Ne.symm hb)).trans hu) ⟨_,q⟩ ?_
 exact ⟨hz,its',_,hv,q⟩
theorem Inv.zkw {its:List Value}{t' : Nat}(I:Inv X pins σ H s)(hv:Vals ys its)(hz:ys.length<=sizeLine):
  Inv X pins σ (upd H s.heap.objs.size (.lst ys)) { s with heap:=s.heap.push { cls:=.type "list",data:=.seq its.toArray },toks:=t' }:=
 I.laid (λ_ _ q=>get?_push_of_some _ q) (Nat.le_refl _) ⟨hz,its,0,hv,get?_push_size _ rfl⟩
theorem Inv.fresh (I:Inv X pins σ H s):H s.heap.objs.size=none:=I.hok.fresh (Nat.le_refl _)
theorem Inv.zfc (I:Inv X pins σ H s)(hH:H l=some (.lst xs)):xs.length<=sizeLine/\∃ (its:List Value) (n:Nat),Vals xs its/\xs.length=its.length/\s.heap.get? l=some { cls:=.type "list",data:=.seq its.toArray n }:=by
 obtain ⟨z,its,n,r,e⟩:=I.hok l _ hH
 exact ⟨z,its,n,r,r.length,e⟩
theorem zeJ {n:Nat}(h:n<=sizeLine):Builtin.List.listTooLong n=false:=by
 unfold Builtin.List.listTooLong
 exact decide_eq_false (by omega)
end
section
variable {X:Cx}
def zds:V->List V->Hp->VK->Prop:=λx vs H Q=>∃ l xs y,x = .ref l/\vs=[y]/\H l=some (.lst xs)/\xs.length<sizeLine/\Q .non (upd H l (.lst (xs++[y])))
theorem Xr:MtM X "list.append" zds:=by
 intro pins s σ H x vs v us Q I rx rv h
 obtain ⟨l,xs,y,rfl,rfl,hH,hz,q⟩:=h
 cases rx
 obtain ⟨u,rfl,ru⟩:=rv.one
 obtain ⟨z,its,n,r,hl,e⟩:=I.zfc hH
 refine call_meets F.slot_list_append ⟨_,e,rfl⟩ F.entry_list_append (F.args_list_append_2 _ _) (PySem.list_append l its.toArray n u (by rw[size_toArray];omega)) ⟨e,?_⟩
 refine ⟨.non,_,I.zjf (its' := its++[u]) hH e (by simp) (r.append (.cons ru .nil)) ?_,rfl,q⟩
 rw[length_append,List.length_singleton]
 omega
def zcy:V->List V->Hp->VK->Prop:=λx vs H Q=>∃ l b xs zs,x = .ref l/\vs=[.ref b]/\H l=some (.lst xs)/\H b=some (.lst zs)/\xs.length+zs.length<=sizeLine/\Q .non (upd H l (.lst (xs++zs)))
theorem zc1:MtM X "list.extend" zcy:=by
 intro pins s σ H x vs v us Q I rx rv h
 obtain ⟨l,b,xs,zs,rfl,rfl,hH,hB,hz,q⟩:=h
 cases rx
 obtain ⟨u,rfl,ru⟩:=rv.one
 cases ru
 obtain ⟨z,its,n,r,hl,e⟩:=I.zfc hH
 obtain ⟨z2,its2,n2,r2,hl2,e2⟩:=I.zfc hB
 have hsz:its.toArray.size+its2.toArray.size<=sizeLine:=by rw[size_toArray,size_toArray];omega
 have hlong:¬ (!its.toArray.isEmpty&&Builtin.List.listTooLong (its.toArray.size+its2.toArray.size))=true:=by
  rw[zeJ hsz,Bool.and_false]
  exact Bool.false_ne_true
 refine call_meets F.slot_list_extend ⟨_,e,rfl⟩ F.entry_list_extend (F.args_list_extend_2 _ _)
  (AutoSeq1.list_extend_list_list_0 l its.toArray n b its2.toArray n2 hlong (by rw[size_toArray];omega) (by omega)) ⟨e,e2,?_⟩
 refine ⟨.non,_,I.zjf (its' := its++its2) hH e (by simp) (r.append r2) ?_,rfl,q⟩
 rw[length_append]
 omega
def zko:V->List V->Hp->VK->Prop:=λx vs H Q=>∃ l xs y,x = .ref l/\vs=[]/\H l=some (.lst xs)/\xs[xs.length-1]?=some y/\Q y (upd H l (.lst xs.dropLast))
theorem zig:MtM X "list.pop" zko:=by
 intro pins s σ H x vs v us Q I rx rv h
 obtain ⟨l,xs,y,rfl,rfl,hH,hy,q⟩:=h
 cases rx
 have hus:=rv.zero
 subst hus
 obtain ⟨z,its,n,r,hl,e⟩:=I.zfc hH
 obtain ⟨u,hu,ru⟩:=r.get hy
 have hy' : its.toArray[its.toArray.size-1]?=some u:=by
  show its.toArray[its.length-1]?=some u
  rw[← getElem?_toList,← hl]
  exact hu
 refine call_meets F.slot_list_pop ⟨_,e,rfl⟩ F.entry_list_pop (F.args_list_pop_1 _) (MeetsSeq.list_pop_last l its.toArray n u hy' (by rw[size_toArray];omega)) ⟨e,?_⟩
 refine ⟨y,_,I.zjf (its' := its.dropLast) hH e ?_ r.dropLast ?_,ru,q⟩
 ·show its.toArray.eraseIdxIfInBounds (its.toArray.size-1)=its.dropLast.toArray
  rw[size_toArray,List.eraseIdxIfInBounds_toArray,zbS]
 ·rw[List.length_dropLast]
  omega
def zfs:V->List V->Hp->VK->Prop:=λx vs H Q=>∃ l xs i k y,x = .ref l/\vs=[.int i]/\H l=some (.lst xs)/\-(2 ^ 63)<=i/\i<2 ^ 63/\seqIndex? i xs.length=some k/\xs[k]?=some y/\Q y (upd H l (.lst (xs.eraseIdx k)))
theorem zeV:MtM X "list.pop" zfs:=by
 intro pins s σ H x vs v us Q I rx rv h
 obtain ⟨l,xs,i,k,y,rfl,rfl,hH,h1,h2,hk,hy,q⟩:=h
 cases rx
 obtain ⟨u,rfl,ru⟩:=rv.one
 obtain ⟨t,rfl⟩:=ru
 obtain ⟨z,its,n,r,hl,e⟩:=I.zfc hH
 obtain ⟨w,hw,rw'⟩:=r.get hy
 refine call_meets F.slot_list_pop ⟨_,e,rfl⟩ F.entry_list_pop (F.args_list_pop_2 _ _)
  (MeetsSeq.list_pop_at l its.toArray n i t k w (fitsIndex_both h1 h2) (by rw[size_toArray,← hl];exact hk) (by rw[← getElem?_toList];exact hw) (by rw[size_toArray];omega)) ⟨e,?_⟩
 refine ⟨y,_,I.zjf (its' := its.eraseIdx k) hH e ?_ (r.eraseIdx k) ?_,rw',q⟩
 ·show its.toArray.eraseIdxIfInBounds k=(its.eraseIdx k).toArray
  rw[List.eraseIdxIfInBounds_toArray]
 ·have:=zag xs k
  omega
def zjz:R2:=λx y H Q=>∃ l b xs zs,x = .ref l/\y = .ref b/\H l=some (.lst xs)/\H b=some (.lst zs)/\xs.length+zs.length<=sizeLine/\∀ p,H p=none->Q (.ref p) (upd H p (.lst (xs++zs)))
theorem Vk:OpR X (binaryOp .Add) zjz:=by
 intro pins s σ H x y v u Q I rx ry h
 obtain ⟨l,b,xs,zs,rfl,rfl,hH,hB,hz,q⟩:=h
 cases rx
 cases ry
 obtain ⟨z,its,n,r,hl,e⟩:=I.zfc hH
 obtain ⟨z2,its2,n2,r2,hl2,e2⟩:=I.zfc hB
 refine PySem.P.add_list e e2 ?_ (by rw[size_toArray,size_toArray];omega)
 have ea:its.toArray++its2.toArray=(its++its2).toArray:=by simp
 rw[ea]
 exact ⟨.ref _,_,I.zkw (t' := s.toks) (r.append r2) (by rw[length_append];omega),rfl,q _ I.fresh⟩
theorem len_rep {α:Type}(xs:List α)(k:Nat):(List.replicate k xs).flatten.length=k*xs.length:=by
 induction k with
 | zero=>simp
 | succ k ih=>rw[replicate_succ,flatten_cons,length_append,ih,succ_mul,Nat.add_comm]
end
section
variable {prog:Program}{w:World}{A:Around}{E:Value->Shared->Prop}{s:Shared}
set_option maxRecDepth 100000 in
end
end L2
namespace Att
open PySem PySem.W PySem.Calls PyProof.Rows
theorem Vh {P:Params}{h:Heap}:∀ (ns:List Int) (vs:List Value),WellAll P h vs (ns.map WData.int)->IntsAre vs ns:=by
 intro ns
 induction ns with
 | nil=>
  intro vs w
  rw[List.map_nil] at w
  cases w
  exact .nil
 | cons n ns ih=>
  intro vs w
  rw[map_cons] at w
  cases w with
  | cons a b=>
   cases a
   exact .cons _ _ (ih _ b)
theorem zda {l:OpenLaw}{n:Nat}(hn:l.most=some n){P:Params}{h:Heap}{args:List WData}{vals:List Value}
  (hpre:l.row.toRowW.claim.pre args=true) (hwl:WellAll P h vals args):
  ∃ a vs ns,vals=[Value.ref a]/\args=[WData.list (ns.map WData.int)]/\h.get? a=some { cls:=.type "list",data:=.seq vs.toArray }/\IntsAre vs ns/\ns.length<=n:=by
 have hsh:WShape.hasAll [] args [.list .int]=true:=(pre_splitW hpre).1
 have hc:l.pre.holds [] { args:=args }=true:=(pre_splitW hpre).2
 obtain ⟨d,r,rfl,h1,h2⟩:=hasAllW_cons hsh
 obtain rfl:=hasAllW_nil h2
 obtain ⟨xs,rfl,h3⟩:=hasW_list h1
 obtain ⟨ns,rfl⟩:=items_int h3
 have hlen:ns.length<=n:=by
  unfold OpenLaw.pre at hc
  have h4:(WTm.not (.lt (.lit (.int (n:Int))) (.len (.arg 0)))).holds [] { args:=[.list (ns.map .int)] }=true:=by
   have h4:=(holds_andW hc).1
   rw[hn] at h4
   exact h4
  have h5:=condW_of h4 (w_not (w_lt w_lit (w_len_list (w_arg rfl))))
  rw[length_map] at h5
  refine Nat.le_of_not_lt λq=>?_
  have q' : (n:Int)<((ns.length:Nat):Int):=by omega
  first
   | (rw[decide_eq_true q'] at h5;exact absurd h5 (by decide))
   | (simp at h5;omega)
 cases hwl with
 | cons w1 w2=>
  cases w2
  cases w1 with
  | list ho hall=>exact ⟨_,_,ns,rfl,rfl,ho,Vh ns _ hall,hlen⟩
theorem zdw (l:OpenLaw)(args:List WData):l.row.toRowW.claim.post args (.bool true) args=true:=
 postW_of (r:=l.row.toRowW) (X:=(true==true))
  (show WShape.has [] (.bool true) .bool=true by first | rfl | decide | simp[WShape.has,WShape.arms,WShape.armsAll])
  (show (WTm.eq .res (.lit (.bool true))).value [] { args:=args,res:=some (.bool true),after:=args }=some (.bool (true==true)) from w_eq_bool (w_res rfl) w_lit) rfl
theorem zaQ {l:OpenLaw}{n:Nat}{q:Program}{loose:List Str}{XP:(Str->Option Value)->Heap->Prop}{YP:World->Heap->Prop}{d:DefRec}
  (hn:l.most=some n) (hdf:d.params.defaults=[])
  (call:∀ (w:World) (s₀ s₁:Shared) (mg mb:Str->Option Value) (fa:Addr) (o:Obj) (pm cd doc:Value) (a:Addr) (vs:List Value) (ns:List Int),
   Ground q loose [] XP w s₀ mg mb s₁.heap->YP w s₁.heap->
   s₁.heap.get? fa=some o->o.data = .func (docDef d.name d.params d.body d.scope pm cd doc)->s₁.heap.CodeRec cd d.name->mg d.name=some (.ref fa)->
   s₁.heap.get? a=some { cls:=.type "list",data:=.seq vs.toArray }->IntsAre vs ns->ns.length<=n->s₁.gens = #[]->
   codeAny (model l.prog w) callerA (.call (.ref fa) ⟨[.ref a],[]⟩) (λr s' => r = .ok (.ret (.bool true))/\OldK s₁.heap s'.heap/\s'.os=s₁.os/\AllBare s'.gens) s₁):
  WalkO q loose XP YP l.row.toRowW d [] (λf vs=>PySem.call f vs):=by
 intro w s₀ s₁ mg mb G Y fa o pm cd doc dV kV ho hd hcd hD hmg hg args vals as hpre hlay hrd hwl hlo
 obtain rfl:dV = .none:=Dflts.none hD hdf
 obtain rfl:kV = .none:=Dflts.noKw hD
 obtain ⟨a,vs,ns,rfl,rfl,hobj,hints,hlen⟩:=zda hn hpre hwl
 refine enter_call (codeAny_mono (call w s₀ s₁ mg mb fa o pm cd doc a vs ns G Y ho (fd_plain hd) hcd hmg hobj hints hlen hg) λr s' hq=>?_)
 obtain ⟨rfl,h2,h3,h4⟩:=hq
 exact ⟨.inl ⟨.bool true,.bool true,[],rfl,λ_=>rfl,.bool true,zdw l _,λ_=>⟨List.Pairwise.nil,λ_ hm=>(nomatch hm)⟩⟩,h2,h3,h4⟩
end Att
namespace L2
open PySem PySem.Spec PyProof.Rows
theorem U8:∀ {vs:List Value}{ns:List Int},IntsAre vs ns->Vals (ns.map V.int) vs
 | _,_,.nil=>.nil
 | _,_,.cons n t h=>.cons ⟨t,rfl⟩ (U8 h)
def Only (H:Hp):Prop:=∀ b,H b=none\/∃ o xs,H b=some (.frz o (.lst xs))
theorem zea {P:Program}{w:World}{K:PySem.W.Frag}{mg mb:Str->Option Value}{CX:CXT}{k:Nat}{fa a:Addr}{fd:FuncData}{x:Str}{sp:Sp}{s₁:Shared}{vs:List Value}{ns:List Int}
  (KX:K.In s₁.heap) (hns:s₁.heap.Ns mainGlobals mg) (hb:s₁.heap.Ns builtinsNs mb) (hbb:∀ x:Str,x≠ "__name__" -> mb x=bootBuiltins x) (hlim:s₁.heap.NoLimit) (hg:s₁.gens = #[])
  (ha:s₁.heap.get? a=some { cls:=.type "list",data:=.seq vs.toArray }) (hi:IntsAre vs ns) (hl:ns.length<=sizeLine) (hr:Vu k callerA)
  (F:∀ base:Heap,K.In base->base.Ns mainGlobals mg->Ql P w K mg base CX k fa fd [x] sp) (hbind:∀ (s:Shared) (u:Value),BindsTo s fd ⟨[u],[]⟩ [(x,u)])
  (hsp:∀ H:Hp,Only H->SqL K H a (ns.map V.int)->sp [.ref a] H (λv _=>v = .bl true) λ_ _ _=>False)
  (hCX:∀ H e s',CX [] H s₁ (λ_ _ _=>False) e s' -> False):
  codeAny (model P w) callerA (.call (.ref fa) ⟨[.ref a],[]⟩) (λr s' => r = .ok (.ret (.bool true))/\OldK s₁.heap s'.heap/\s'.os=s₁.os/\AllBare s'.gens) s₁:=by
 have rv:=U8 hi
 have lenV:=hi.length
 have core:∀ H:Hp,Only H->SqL K H a (ns.map V.int)->HOk P w H s₁.heap->(∀ b,H b≠none->b=a)->(H a≠none->K.lookup a=none)->
   codeAny (model P w) callerA (.call (.ref fa) ⟨[.ref a],[]⟩) (λr s' => r = .ok (.ret (.bool true))/\OldK s₁.heap s'.heap/\s'.os=s₁.os/\AllBare s'.gens) s₁:=by
  intro H hO hS hok hA hK
  have base_of:∀ {b:Addr}{o:Obj},s₁.heap.get? b=some o->H b=none->(zee s₁.heap H).get? b=some o:=λe n=>zeQ e n
  have noA:∀ {b:Addr}{o:Obj}{es:Array DictEntry}{ep:Nat},s₁.heap.get? b=some o->o.data = .dict es ep->H b=none:=λ{b o es ep} e d=>by
   cases q:H b with
   | none=>rfl
   | some u=>
    have e' : b=a:=hA b (by rw[q];simp)
    subst e'
    rw[ha] at e;cases e
    have d' : Data.seq vs.toArray _=Data.dict es ep:=d
    cases d'
  have nsK:∀ {b:Addr}{m:Str->Option Value},s₁.heap.Ns b m->(zee s₁.heap H).Ns b m:=λ{b m} ⟨o,es,ep,e,d,r⟩=>⟨o,es,ep,base_of e (noA e d),d,r⟩
  have hKb:K.In (zee s₁.heap H):=λb o e=>base_of (KX b o e) (by
   cases q:H b with
   | none=>rfl
   | some u=>
    have e' : b=a:=hA b (by rw[q];simp)
    subst e'
    rw[hK (by rw[q];simp)] at e;cases e)
  have hM:Mod K mg (zee s₁.heap H):=⟨hKb,nsK hns,⟨mb,nsK hb,hbb⟩,let ⟨mc,h1,h2⟩:=hlim;⟨mc,nsK h1,h2⟩⟩
  have e0:zje P w K mg (zee s₁.heap H) callerA [] s₁ H:=⟨rfl,hM,λb o e=>zfJ e,le_of_eq (zdV _ _),trivial,λb hb=>absurd (show b∈([]:List Addr) from hb) (by simp),hok,.of_eq hg⟩
  refine codeAny_mono ((F _ hKb (nsK hns)).run callerA [] s₁ H ⟨[.ref a],[]⟩ [.ref a] [.ref a] _ _ hr e0 (hbind s₁ (.ref a)) (.cons rfl .nil) (hsp H hO hS)) λr s' h=>?_
  cases r with
  | error e=>exact (hCX H e s' h).elim
  | ok fl=>
   cases fl with
   | next=>exact False.elim h
   | brk=>exact False.elim h
   | cont=>exact False.elim h
   | ret u=>
    obtain ⟨v,H',os,bare,un,hok',r',q⟩:=h
    have q' : v = .bl true:=q
    subst q'
    obtain rfl:u=Value.bool true:=r'
    refine ⟨rfl,OldK.of_keep λb o e=>?_,os,bare⟩
    cases q:H b with
    | none=>exact un.keep b o e q (by intro z;exact absurd (show b∈([]:List Addr) from z) (by simp)) (by simp)
    | some u=>
     rcases hO b with z | ⟨ob,xs,z⟩
     ·rw[q] at z;cases z
     ·have z2:=un.frzs b ob _ z
      obtain ⟨e1,_⟩:=hok b _ z
      obtain ⟨e2,_⟩:=hok' b _ z2
      rw[e] at e1;cases e1
      exact e2
 cases hk:K.lookup a with
 | some o=>
  have e:=KX a o hk
  rw[ha] at e
  cases e
  refine core (λ_=>none) (λ_=>.inl rfl) (.inr ⟨_,vs.toArray,_,hk,rfl,rfl,rfl,by rw[size_toArray,lenV];exact hl,by simpa using rv⟩) (λb u z=>by have z' : (none:Option HO)=some u:=z;cases z') (λb z=>absurd rfl z) λz=>absurd rfl z
 | none=>
  refine core (λb=>if b=a then some (.frz { cls:=.type "list",data:=.seq vs.toArray } (.lst (ns.map V.int))) else none) (λb=>?_) (.inl (.inr ⟨{ cls:=.type "list",data:=.seq vs.toArray },if_pos rfl⟩)) (λb u z=>?_) (λb z=>?_) λ_=>hk
  ·by_cases hb:b=a
   ·exact .inr ⟨_,_,if_pos hb⟩
   ·exact .inl (if_neg hb)
  ·by_cases hb:b=a
   ·have z' := (if_pos hb).symm.trans z
    cases z'
    subst hb
    exact ⟨ha,by rw[length_map];exact hl,vs,_,rv,ha⟩
   ·have z' := (if_neg hb).symm.trans z
    cases z'
  ·by_cases hb:b=a
   ·exact hb
   ·exact absurd (if_neg hb) z
theorem zfN {l:PySem.W.OpenLaw}{n k:Nat}{q:Program}{loose:List Str}{XP:(Str->Option Value)->Heap->Prop}{YP:World->Heap->Prop}{d:DefRec}{K:Params->PySem.W.Frag}{CX:World->CXT}{sp:World->Sp}{x:Str}
  (hn:l.most=some n) (hn2:n<=sizeLine) (hdf:d.params.defaults=[]) (hr:Vu k callerA)
  (hY:∀ (w:World) (h:Heap),YP w h->(K w.params).In h)
  (F:∀ (w:World) (mg:Str->Option Value) (fa:Addr) (h:Heap),(K w.params).In h->h.Ns mainGlobals mg->mg d.name=some (.ref fa)->
   ∃ fd:FuncData,(∀ (s:Shared) (u:Value),BindsTo s fd ⟨[u],[]⟩ [(x,u)])/\
    ∀ base:Heap,(K w.params).In base->base.Ns mainGlobals mg->Ql l.prog w (K w.params) mg base (CX w) k fa fd [x] (sp w))
  (hsp:∀ (w:World) (H:Hp) (a:Addr) (ns:List Int),ns.length<=n->Only H->SqL (K w.params) H a (ns.map V.int)->sp w [.ref a] H (λv _=>v = .bl true) λ_ _ _=>False)
  (hCX:∀ (w:World) (H:Hp) (s:Shared) (e:Value) (s' : Shared),CX w [] H s (λ_ _ _=>False) e s' -> False):
  PySem.W.WalkO q loose XP YP l.row.toRowW d [] (λf vs=>PySem.call f vs):=by
 refine Att.zaQ hn hdf λw s₀ s₁ mg mb fa o pm cd doc a vs ns G Y ho hd hcd hmg hobj hints hlen hg=>?_
 have KX:=hY w _ Y
 obtain ⟨fd,hb,hF⟩:=F w mg fa _ KX G.T.g hmg
 exact zea KX G.T.g G.T.b G.T.builtins G.T.nolimit hg hobj hints (Nat.le_trans hlen hn2) hr hF hb (λH hO hS=>hsp w H a ns hlen hO hS) λH e s' => hCX w H s₁ e s'
noncomputable def Wl (s:Stmt):Arguments:=match s with
 | .FunctionDef _ a _ _ _ _ _ _ _ _=>a
 | _=>{ posonlyargs:=[],args:=[],vararg:=none,kwonlyargs:=[],kw_defaults:=[],kwarg:=none,defaults:=[] }
noncomputable def YT (s:Stmt):List Stmt:=match s with
 | .FunctionDef _ _ b _ _ _ _ _ _ _=>b
 | _=>[]
noncomputable def Zn (s:Stmt):Scope:=match s with
 | .FunctionDef _ _ _ _ _ _ sc _ _ _=>sc
 | _=>{ kind:=.function,names:=[],isGenerator:=false,isCoroutine:=false }
abbrev CX0:CXT:=λ_ _ _ _ _ _=>False
abbrev E0:XK:=λ_ _ _=>False
theorem zjE {X:Cx}:zcD CX0 X E0:=λ_ _ _ _ _ _ _ h=>h.elim
structure Fun (K:PySem.W.Frag)(x qual:Str)(st:Stmt)(f:Addr)(fd:FuncData):Prop where
 ex:∃ (oc:Value) (od:Option Addr) (kV doc pm:Value) (an:Option Addr) (cdv ct:Value) (osl:Array (Option Value)),
  fd=PySem.W.fnOf x qual (Wl st) (YT st) (Zn st) .none kV doc pm an cdv ct/\K.lookup f=some ⟨oc,od,.func fd,osl⟩/\codeIn K cdv qual=true
 kp:keepIn K (.ref f)=true
section
variable {P:Program}{w:World}{K:PySem.W.Frag}{mg:Str->Option Value}{base:Heap}
theorem Fun.ok {x qual:Str}{st:Stmt}{f:Addr}{fd:FuncData}{N ps:List Str}{k:Nat}{sp:Sp}(F:Fun K x qual st f fd)(S:Ys N ps (Zn st))(len:∀ vs H Q E,sp vs H Q E->vs.length=ps.length)
  (hbody:∀ (cdv:Value) (A:Around) (outer:List Env) (s:Shared) (H:Hp) (vs:List V) (Q:VK) (E:XK),Vu k (A.deeper (envOfC qual (Zn st) s.heap.objs.size f cdv))->sp vs H Q E->
   ∃ t,PSs (zdX CX0 P w K mg base N qual (Zn st) f cdv A outer s H E).nox (YT st) t/\t { nx:=λ_ H' => Q .non H',rt:=Q } (start N vs) H):Ql P w K mg base CX0 (k+1) f fd ps sp:=by
 obtain ⟨oc,od,kV,doc,pm,an,cdv,ct,osl,rfl,lk,hcd⟩:=F.ex
 refine zjP lk hcd S len λA outer s H vs Q E hr hsp=>?_
 obtain ⟨t,h,q⟩:=hbody cdv A outer s H vs Q E hr hsp
 exact ⟨t,h.nox,q⟩
theorem Fun.binds {x qual:Str}{st:Stmt}{f:Addr}{fd:FuncData}{ps:List Str}(F:Fun K x qual st f fd)
  (h:∀ (kV doc pm:Value) (an:Option Addr) (cdv ct:Value) (us:List Value),us.length=ps.length->bindArgs (PySem.W.fnOf x qual (Wl st) (YT st) (Zn st) .none kV doc pm an cdv ct) ⟨us,[]⟩=pure (ps.zip us)):Binds K fd ps []:=by
 obtain ⟨oc,od,kV,doc,pm,an,cdv,ct,osl,rfl,lk,hcd⟩:=F.ex
 exact .all (h kV doc pm an cdv ct)
theorem zcH {x qual:Str}{st:Stmt}{f:Addr}{oc:Value}{od an:Option Addr}{osl:Array (Option Value)}{kV doc pm cdv ct:Value}(l:K.lookup f=some ⟨oc,od,.func (PySem.W.fnOf x qual (Wl st) (YT st) (Zn st) .none kV doc pm an cdv ct),osl⟩)
  (c:codeIn K cdv qual=true) (k:keepIn K (.ref f)=true):Fun K x qual st f (PySem.W.fnOf x qual (Wl st) (YT st) (Zn st) .none kV doc pm an cdv ct):=⟨⟨oc,od,kV,doc,pm,an,cdv,ct,osl,rfl,l,c⟩,k⟩
end
section
variable {X:Cx}
theorem pv (i:Nat){x:Str}{pos:Pos}(hN:X.N[i]?=some x:=by rfl)(hv:Vis X.env.scope x:=by first | exact Or.inl rfl | exact Or.inr (Or.inl rfl) | exact Or.inr (Or.inr rfl))(hd:(x==("__debug__" : Str))=false:=by decide)
  (hcd:(x==("__classdict__" : Str))=false:=by decide):PE X (.Name x pos) (WL i):=zhq hN hv hd hcd
end
def ZS (H H' : Hp):Prop:=∀ b o,H b=some o->H' b=some o
theorem ZS.refl (H:Hp):ZS H H:=λ_ _ h=>h
theorem ZS.trans {H H1 H2:Hp}(a:ZS H H1)(b:ZS H1 H2):ZS H H2:=λc o h=>b c o (a c o h)
theorem ZS.free {H H' : Hp}(e:ZS H H'){l:Addr}(h:H' l=Option.none):H l=Option.none:=by
 cases q:H l with
 | none=>rfl
 | some o=>
  rw[e l o q] at h
  cases h
theorem ZS.seq {K:PySem.W.Frag}{H H' : Hp}{a:Addr}{xs:List V}(e:ZS H H')(h:SqL K H a xs):SqL K H' a xs:=by
 rcases h with (h | ⟨o,h⟩) | h
 ·exact .inl (.inl (e _ _ h))
 ·exact .inl (.inr ⟨o,e _ _ h⟩)
 ·exact .inr h
section
variable {X:Cx}
def zes (i j:Int):Prop:=i.natAbs<2 ^ 4000/\j.natAbs<2 ^ 4000
theorem zes.ok {i j:Int}(h:zes i j):IntMulOk i j:=
 IntMulOk.of_le (m:=4000) (n:=4000) (intBits_le_iff.mpr h.1) (intBits_le_iff.mpr h.2) (by decide)
theorem Qn:OpR X (binaryOp .Mult) (rI zes λi j=>.int (i*j)):=opI λ_ _ _ _ _ _ _ hc q=>mul_int q hc.ok
def zjr (i j:Int):Prop:=j≠0/\j.natAbs<2 ^ 4000
theorem zkz {i j:Int}(h:zjr i j):Builtin.divisionGoesByPylong i j=false:=by
 refine PyProof.noPylong_of_log2 ?_
 have h0:j.natAbs≠0:=by have:=h.1;omega
 have:=(Nat.log2_lt h0).mpr h.2
 omega
def zeF (i j:Int):Prop:=0<j/\j.natAbs<2 ^ 4000
theorem YJ:OpR X (binaryOp .FloorDiv) (rI zeF λi j=>.int (i / j)):=opI λi j _ _ _ _ _ hc q=>by
 refine floordiv_int (by have:=hc.1;omega) ?_ (.inl (zkz ⟨by have:=hc.1;omega,hc.2⟩))
 rw[Int.fdiv_eq_ediv_of_nonneg i (by have:=hc.1;omega)]
 exact q
theorem plainIs {h:Heap}{p:Addr}{its:Array Value}(pl:PlainL h p its):h.IsList p its:=by
 obtain ⟨o,n,e,c,_,d⟩:=pl
 exact ⟨o,e,c,n,d⟩
end
noncomputable def UJ (env:Env):List (Str×NameKind)->List (Str×Addr)->List (Str×Addr)
 | [],acc=>acc
 | (n,k)::r,acc=>UJ env r (if (k==NameKind.free)=true then (n,(env.cells.lookup n).getD 0)::acc else acc)
theorem zcd {env:Env}:∀ (names:List (Str×NameKind)) (acc:List (Str×Addr)),(∀ p∈names,p.2 = .free->∃ c,env.cells.lookup p.1=some c)->
  (forIn names acc λ(x:Str×NameKind) (cs:List (Str×Addr))=>(match x with
   | (name,kind)=>if (kind==NameKind.free)=true then (do let __do_lift ← cellOf env name;pure (ForInStep.yield ((name,__do_lift)::cs))) else pure (ForInStep.yield cs):Sem (ForInStep (List (Str×Addr)))))=pure (UJ env names acc):=by
 intro names
 induction names with
 | nil=>intro acc _;rfl
 | cons p r ih=>
  intro acc h
  obtain ⟨n,k⟩:=p
  rw[List.forIn_cons]
  have hr:=λacc=>ih acc λq hq=>h q (mem_cons_of_mem _ hq)
  by_cases hk:k = .free
  ·subst hk
   obtain ⟨c,hc⟩:=h (n,.free) mem_cons_self rfl
   have e:cellOf env n=pure c:=by unfold cellOf;rw[hc]
   simp only[beq_self_eq_true,if_true,e,pure_bind]
   rw[hr]
   simp only[UJ,beq_self_eq_true,if_true,hc,Option.getD_some]
  ·have hb:(k==NameKind.free)=false:=by simpa using hk
   simp only[hb,false_eq_true,if_false,pure_bind]
   rw[hr]
   simp only[UJ,hb,false_eq_true,if_false]
theorem X5 {env:Env}{scope:Scope}(h:∀ p∈scope.names,p.2 = .free->∃ c,env.cells.lookup p.1=some c):closureFor scope env=pure (UJ env scope.names []):=by
 unfold closureFor
 have e:=zcd (env:=env) scope.names [] h
 simp only[e,pure_bind]
theorem Ui {env:Env}{y:Str}{c:Addr}:∀ {names:List (Str×NameKind)}{acc:List (Str×Addr)},(∀ p∈names,p.2 = .free->∃ c,env.cells.lookup p.1=some c)->(∀ y c,acc.lookup y=some c->env.cells.lookup y=some c)->
  (UJ env names acc).lookup y=some c->env.cells.lookup y=some c
 | [],_,_,ha,e=>ha _ _ e
 | (n,k)::r,acc,h,ha,e=>by
  refine Ui (names:=r) (λp hp=>h p (mem_cons_of_mem _ hp)) (λy c q=>?_) e
  by_cases hk:(k==NameKind.free)=true
  ·rw[if_pos hk] at q
   obtain ⟨c',hc'⟩:=h (n,k) mem_cons_self (by simpa using hk)
   rw[lookup_cons] at q
   cases hy:y==n with
   | true=>
    rw[hy] at q
    have hy' : y=n:=by simpa using hy
    subst hy'
    rw[hc'] at q
    cases q
    exact hc'
   | false=>
    rw[hy] at q
    exact ha y c q
  ·rw[if_neg hk] at q
   exact ha y c q
theorem zbG {env:Env}{y:Str}:∀ {names:List (Str×NameKind)}{acc:List (Str×Addr)},(acc.lookup y).isSome=true->((UJ env names acc).lookup y).isSome=true
 | [],_,h=>h
 | (n,k)::r,acc,h=>by
  refine zbG (names:=r) ?_
  split
  ·rw[lookup_cons]
   split
   ·rfl
   ·exact h
  ·exact h
theorem Qd {env:Env}{y:Str}:∀ {names:List (Str×NameKind)}{acc:List (Str×Addr)},(y,NameKind.free)∈names->((UJ env names acc).lookup y).isSome=true
 | (n,k)::r,acc,h=>by
  rcases mem_cons.mp h with e | h
  ·cases e
   refine zbG (names:=r) ?_
   rw[if_pos (by simp),lookup_cons]
   simp
  ·exact Qd (names:=r) h
abbrev Y0 (X:Cx)(scope:Scope)(Nc:List Str)(C:Addr)(s0:Shared)(H0:Hp)(ex:List Addr):Cx:=
 { X with N:=Nc,s₀:=s0,H₀:=H0,env:=compEnvC scope (UJ X.env scope.names []) C X.env,outer:=X.stack,ex:=ex,fn:=λ_=>false,pn:=[],xe:=λ_ _=>False }
structure Y9 (fr sc:Scope)(xs cap:List Str):Prop where
 kind:sc.kind = .function
 cell:∀ p∈sc.names,p.2≠.cell
 names:∀ p∈sc.names,p.2 = .local->sc.names.lookup p.1=some .local
 free:∀ p∈sc.names,p.2 = .free->fr.names.lookup p.1=some .cell
 caps:∀ y∈cap,(y,NameKind.free)∈sc.names
 noboth:∀ y∈cap,sc.names.lookup y≠some .local
structure Jb (fr sc:Scope)(x:Str)(cap:List Str):Prop where
 kind:sc.kind = .function
 cell:∀ p∈sc.names,p.2≠.cell
 names:∀ p∈sc.names,p.2 = .local->sc.names.lookup p.1=some .local
 tgt:sc.names.lookup x=some .local
 free:∀ p∈sc.names,p.2 = .free->fr.names.lookup p.1=some .cell
 caps:∀ y∈cap,(y,NameKind.free)∈sc.names
 nd:(x::cap).Nodup
 noboth:∀ y∈cap,sc.names.lookup y≠some .local
theorem WX {sc:Scope}{env:Env}{y:Str}{k:NameKind}(h:(y,k)∈(relabel sc env).names):∃ k',(y,k')∈sc.names/\(k=k' \/ (k' = .free/\k = .cell)):=by
 unfold relabel at h
 obtain ⟨⟨n,k'⟩,hm,e⟩:=mem_map.mp h
 by_cases hc:(k'==NameKind.free&&env.scope.kind == .function&&env.kindOf n==some .cell)=true
 ·have e:(n,NameKind.cell)=(y,k):=by simpa [hc] using e
  cases e
  refine ⟨k',hm,.inr ⟨?_,rfl⟩⟩
  rw[and_eq_true,and_eq_true] at hc
  simpa using hc.1.1
 ·have e:(n,k')=(y,k):=by simpa [hc] using e
  cases e
  exact ⟨k,hm,.inl rfl⟩
section
variable {X:Cx}{pins:List (Addr×Obj)}{σ:St}{H:Hp}{s:Shared}{sc:Scope}{xs cap:List Str}
theorem Y9.cells (S:Y9 X.env.scope sc xs cap)(ok:X.Ok):∀ p∈sc.names,p.2 = .free->∃ c,X.env.cells.lookup p.1=some c:=
 λp hp e=>ok.has p.1 (.inl (S.free p hp e))
theorem Y9.sub (S:Y9 X.env.scope sc xs cap)(ok:X.Ok){y:Str}{c:Addr}(h:(UJ X.env sc.names []).lookup y=some c):X.env.cells.lookup y=some c:=
 Ui (S.cells ok) (λ_ _ z=>by simp at z) h
theorem zaD {a b:Addr}(h:a<b):a≠b:=ne_of_lt h
theorem zjv {a b:Addr}(h:b<a):a≠b:=ne_of_gt h
noncomputable def Jw (σ:St) (js:List Nat):St:=js.map λj=>(σ[j]?).join
theorem zcP (S:Y9 X.env.scope sc xs cap){js:List Nat}(hjs:js.map (λj=>X.N[j]?)=cap.map some)(I:Inv X pins σ H s){fp:List Addr}(hf:∀ b∈fp,zaJ X pins H b)(hlt:∀ b∈fp,b<s.heap.objs.size)
  {h1:Heap}{tk:Nat}{D C:Addr}{oD:Obj}{m:Str->Option Value}(hD:D=s.heap.objs.size) (hC:C=s.heap.objs.size+1) (keep:∀ b o,s.heap.get? b=some o->h1.get? b=some o) (hoD:h1.get? D=some oD) (hnc:∀ v,oD.data≠.cell v) (hns:h1.Ns C m):
  Inv (Y0 X sc (xs++cap) C s H fp) [(D,oD)] (xs.map (λ_=>none)++Jw σ js) H { s with heap:=h1,toks:=tk }:=by
 subst hD hC
 have lenJ:js.length=cap.length:=by have:=congrArg List.length hjs;simpa using this
 have ok:=I.ok
 refine ⟨⟨ok.mod,S.kind,ok.glob,ok.blt,?_,λy z c h1 h2=>ok.inj y z c (S.sub ok h1) (S.sub ok h2),λy hy=>?_,(λy c h=>noConfusion h),ok.hd,ok.frames,.inl rfl,λb hb=>⟨?_,λy c e=>(hf b hb).2.2.2.2.1 y c (S.sub ok e)⟩,I.bs,Nat.le_trans ok.bsz I.sz,λb o e hb=>?_,λb hb hb' => ?_,I.stack,I.zaP⟩,
  rfl,I.bare,Un.kept keep,⟨m,hns,λi y v e1 e2 e3=>?_⟩,λy c e=>?_,I.hok.fresh (le_succ _),λy c e=>I.freeC y c (S.sub ok e),λp hp=>?_,I.hok.kept keep,?_⟩
 ·exact le_succ _
 ·have hy' : ∃ k,(y,k)∈(relabel sc X.env).names/\(k = .cell\/k = .free):=by
   rcases hy with hy | hy
   ·exact ⟨_,PySem.mem_of_lookup hy,.inl rfl⟩
   ·exact ⟨_,PySem.mem_of_lookup hy,.inr rfl⟩
  obtain ⟨k,hm,hk⟩:=hy'
  obtain ⟨k',hm',hk'⟩:=WX hm
  have hfree:k' = .free:=by
   rcases hk' with e | ⟨e,_⟩
   ·subst e
    rcases hk with e | e
    ·exact absurd e (S.cell _ hm')
    ·exact e
   ·exact e
  subst hfree
  exact isSome_iff_exists.mp (Qd hm')
 ·exact zaD (lt_succ_of_lt (hlt b hb))
 ·obtain ⟨_,_,_,z,_⟩:=hf b hb
  rcases z with z | z
  ·exact ok.noex b o e z
  ·have:=lt_size (ok.bs b o e).1
   exact absurd (Nat.lt_of_lt_of_le this z) (lt_irrefl _)
 ·obtain ⟨_,z1,z2,_⟩:=hf b hb
  rcases mem_cons.mp (I.zbg b hb') with z | z
  ·exact z1 z
  ·exact z2 z
 ·have e2:(xs.map (λ_=>(none:Option V))++Jw σ js)[i]?=some (some v):=e2
  have e1:(xs++cap)[i]?=some y:=e1
  by_cases hi:i<xs.length
  ·rw[getElem?_append_left (by rw[length_map];exact hi),getElem?_map,List.getElem?_eq_getElem hi] at e2
   cases e2
  ·obtain ⟨i,rfl⟩:∃ i',i=xs.length+i' := ⟨i-xs.length,by omega⟩
   rw[getElem?_append_right (by rw[length_map];omega),length_map,Nat.add_sub_cancel_left] at e2
   rw[getElem?_append_right (by omega),Nat.add_sub_cancel_left] at e1
   have e1' := e1
   have e2' := e2
   have hy:y∈cap:=mem_of_getElem? e1'
   unfold Jw at e2'
   rw[getElem?_map] at e2'
   cases ej:js[i]? with
   | none=>rw[ej] at e2';cases e2'
   | some j=>
    rw[ej] at e2'
    have e2'' : (σ[j]?).join=some v:=Option.some.inj e2'
    have eN:X.N[j]?=some y:=by
     have:=congrArg (λl=>l[i]?) hjs
     simp only[getElem?_map,ej,e1',map_some] at this
     exact Option.some.inj this
    have eσ:σ[j]?=some (some v):=by
     cases q:σ[j]? with
     | none=>rw[q] at e2'';cases e2''
     | some w' =>
      rw[q] at e2''
      have:w'=some v:=by simpa using e2''
      rw[this]
    have kc:X.env.scope.names.lookup y=some .cell:=S.free (y,.free) (S.caps y hy) rfl
    obtain ⟨m0,hn0,hl0⟩:=I.loc
    obtain ⟨u,ru,lk⟩:=hl0 j y v eN eσ (.inr (.inl kc))
    refine ⟨u,ru,?_⟩
    rcases lk with ⟨k,_⟩ | ⟨_,c,ec,hc⟩
    ·have k' : X.env.scope.names.lookup y=some .local:=k
     rw[kc] at k';cases k'
    ·obtain ⟨c',hc'⟩:=isSome_iff_exists.mp (Qd (env:=X.env) (acc:=[]) (S.caps y hy))
     have hcc:c'=c:=Option.some.inj ((S.sub ok hc').symm.trans ec)
     subst hcc
     refine .inr ⟨?_,c',hc',?_⟩
     ·rcases e3 with e3 | e3 | e3
      ·exfalso
       have hm:=PySem.mem_of_lookup e3
       obtain ⟨k',hm',hk'⟩:=WX hm
       rcases hk' with e | ⟨_,e⟩
       ·subst e
        exact S.noboth y hy (S.names _ hm' rfl)
       ·cases e
      ·exact .inl e3
      ·exact .inr e3
     ·obtain ⟨o,ho,hd⟩:=hc
      exact ⟨o,keep _ o ho,hd⟩
 ·obtain ⟨v,o,ho,hd⟩:=I.cell y c (S.sub ok e)
  exact ⟨v,o,keep _ o ho,hd⟩
 ·have hp' : p=(s.heap.objs.size,oD):=by simpa using hp
  subst hp'
  refine ⟨hoD,I.hok.fresh (Nat.le_refl _),zaD (lt_succ_self _),λhb=>?_,hnc⟩
  obtain ⟨_,o,ho,_⟩:=I.stack.mem hb
  exact lt_irrefl _ (lt_size ho)
 ·show (xs.map (λ_=>(none:Option V))++Jw σ js).length=(xs++cap).length
  unfold Jw
  simp[lenJ]
theorem Vn (S:Y9 X.env.scope sc xs cap)(I:Inv X pins σ H s){fp:List Addr}(hf:∀ b∈fp,zaJ X pins H b){D C:Addr}{pn' : List (Addr×Obj)}{σ' : St}{H' : Hp}{s' : Shared}{ys:List V}{its:List Value}{k:Nat}{h' : Heap}
  (hD:D=s.heap.objs.size) (hC:C=s.heap.objs.size+1) (J:Inv (Y0 X sc (xs++cap) C s H fp) pn' σ' H' s') (hnD:H' D=none) (hoD:s'.heap.get? D=some { cls:=.type "list",data:=.seq its.toArray k }) (rv:Vals ys its) (hz:ys.length<=sizeLine)
  (hs:SameBut C s'.heap h'):Inv X pins σ (upd H' D (.lst ys)) { s' with heap:=h' }:=by
 subst hD hC
 have base:Un (frs X.stack) fp H H' s.heap s'.heap:=J.base
 have hnC:H' (s.heap.objs.size+1)=none:=J.free
 have neC:∀ {b:Addr}{o:Obj},s.heap.get? b=some o->b≠s.heap.objs.size+1:=λe=>zaD (lt_succ_of_lt (lt_size e))
 have neD:∀ {b:Addr}{o:Obj},s.heap.get? b=some o->b≠s.heap.objs.size:=λe=>zaD (lt_size e)
 have neDH:∀ {b:Addr}{o:HO},H b=some o->b≠s.heap.objs.size:=λe=>zaD (I.hok.lt e)
 refine I.call' (s' := { s' with heap:=h' }) (ch:=fp) J.os ⟨λb o e n hb hx=>?_,λb o e n hb hx=>?_,λb o e n hx=>?_,λb o e hx=>?_,λb xs e=>?_,λb o u e=>?_,λb ps e=>?_⟩ (λb u e=>?_) J.bare λb hb=>?_
 ·exact (hs.2 b (neC e)).trans (base.keep b o e n hb hx)
 ·obtain ⟨sl,q⟩:=base.slot b o e n hb hx
  exact ⟨sl,(hs.2 b (neC e)).trans q⟩
 ·rw[ZC (neD e)];exact base.free b o e n hx
 ·obtain ⟨o',q⟩:=base.there b o e hx
  exact ⟨o',(hs.2 b (neC e)).trans q⟩
 ·rw[ZC (neDH e)];exact base.tups b xs e
 ·rw[ZC (neDH e)];exact base.frzs b o u e
 ·rw[ZC (neDH e)];exact base.tbls b ps e
 ·by_cases hb:b=s.heap.objs.size
  ·subst hb
   rw[Zz] at e
   cases e
   exact ⟨hz,its,k,rv,(hs.2 _ (zaD (lt_succ_self _))).trans hoD⟩
  ·rw[ZC hb] at e
   have J' : Xp X.prog X.w H' s'.heap b u:=J.hok b u e
   refine J'.stay (λc v hc q=>(hs.2 c ?_).trans q) (λc q=>?_) (λc xs q=>?_) λc o u q=>?_
   ·rintro rfl
    rcases hc with rfl | hc
    ·rw[hnC] at e;cases e
    ·rw[hnC] at hc;cases hc
   ·rw[ZC (Yj q hnD)];exact q
   ·rw[ZC (Yj q hnD)];exact q
   ·rw[ZC (Yj q hnD)];exact q
 ·obtain ⟨_,z1,_,z3,z4,z5⟩:=hf b hb
  exact ⟨z3,z1,z4,z5⟩
end
section
variable {X:Cx}{pins:List (Addr×Obj)}{σ:St}{H:Hp}{s:Shared}{sc:Scope}{x:Str}{cap:List Str}
def PIf (X:Cx)(ifs:List Expr)(t:TT):Prop:=
 ∀ (pins:List (Addr×Obj)) (s:Shared) (σ:St) (H:Hp) (Q:Bool->Hp->Prop),Inv X pins σ H s->t σ H Q->
  wpAny (model X.prog X.w) X.A (forIn ifs true λc r=>if r=true then do let ok ← isTrue c X.env (eval c X.env);pure (ForInStep.yield ok) else pure (ForInStep.yield r)) (TP X pins σ Q) X.xe s
def zen:TT:=λ_ H Q=>Q true H
theorem Qy {X:Cx}:PIf X [] zen:=λ_ _ _ H _ I h=>wpAny_tests_nil ⟨H,I,h⟩
theorem Vz {X:Cx}{c:Expr}{t:TT}(h:PT X c t):PIf X [c] t:=λpins s σ H Q I q=>wpAny_tests_one (h pins s σ H Q I q)
end
section
variable {prog:Program}{w:World}{A:Around}{R:Result->Shared->Prop}{s:Shared}
theorem V4 {elt target iter:Expr}{ifs:List Expr}{scope:Scope}{pos:Pos}{it acc:Value}{env:Env}(J:Nat->Shared->Prop)
  (turn:∀ n s,J n s->wpAny (model prog w) A (pyNext it) (λr s₁=>match r with
   | none=>R (.ok .next) s₁
   | some v=>wpAny (model prog w) A (letOwnedTupleGo target it v) (λ_ s₂=>wpAny (model prog w) A (assign target env v) (λ_ s₃=>
     wpAny (model prog w) A (forIn ifs true λc r=>if r=true then do let ok ← isTrue c env (eval c env);pure (ForInStep.yield ok) else pure (ForInStep.yield r)) (λok s₄=>
      if ok=true then wpAny (model prog w) A (eval elt env) (λx s₅=>
       wpAny (model prog w) A (call (.builtin "list.append") [acc,x]) (λ_ s₆=>∃ m,m<n/\J m s₆) (λ_ _=>False) s₅) (λ_ _=>False) s₄
      else ∃ m,m<n/\J m s₄) (λ_ _=>False) s₃) (λ_ _=>False) s₂) (λ_ _=>False) s₁) (λ_ _=>False) s)
  (n:Nat) (h:J n s):codeAny (model prog w) A (.compLoop (.ListComp elt [⟨target,iter,ifs,0⟩] scope pos) 0 it acc env) R s:=by
 refine codeAny_loop rfl J (λn s hJ=>?_) n h
 show wpAny _ A ((compTurn (.ListComp elt [⟨target,iter,ifs,0⟩] scope pos) 0 it acc env).onRaise (λx=>do noteFrame x env;theTreesLotGoes x)) _ _ s
 refine wpAny_noted ?_
 rw[compTurn_list]
 refine wpAny_bind (wpAny_standAt (wpAny_bind (wpAny_mono (turn n s hJ) (λr s₁ h₁=>?_) λ_ _ z=>z.elim)))
 cases r with
 | none=>exact wpAny_pure h₁
 | some v=>
  refine wpAny_bind (wpAny_mono h₁ (λ_ s₂ h₂=>?_) λ_ _ z=>z.elim)
  refine wpAny_bind (wpAny_mono h₂ (λ_ s₃ h₃=>wpAny_bind (wpAny_mono h₃ (λok s₄ h₄=>?_) λ_ _ z=>z.elim)) λ_ _ z=>z.elim)
  cases ok with
  | false=>exact wpAny_pure ⟨rfl,h₄⟩
  | true=>
   exact wpAny_bind (wpAny_bind (wpAny_mono h₄ (λx s₅ h₅=>wpAny_bind (wpAny_mono h₅ (λ_ s₆ h₆=>wpAny_pure (wpAny_pure ⟨rfl,h₆⟩)) λ_ _ z=>z.elim)) λ_ _ z=>z.elim))
end
section
variable {X:Cx}{pins:List (Addr×Obj)}{σ:St}{H:Hp}{s:Shared}{sc:Scope}{x:Str}{cap:List Str}
def LCw (J:It)(js:List Nat)(σ:St)(tt:TT)(te:TE)(Q:VK)(W:Nat->Nat->List V->Hp->Prop):Prop:=
 ∀ i m ys H,W i m ys H->ys.length<sizeLine/\
  ((J.stop i H/\∀ p,H p=none->Q (.ref p) (upd H p (.lst ys)))\/
   (J.go i H/\∀ x H',J.yld i H x H' -> tt (some x::Jw σ js) H' λb H2=>if b=true then te (some x::Jw σ js) H2 λv H3=>∃ m',m'<m/\W (i+1) m' (ys++[v]) H3 else ∃ m',m'<m/\W (i+1) m' ys H2))
def tLC (wi:TI)(js:List Nat)(tt:TT)(te:TE):TE:=fun σ H Q=>wi σ H λJ H1=>∃ W:Nat->Nat->List V->Hp->Prop,(∃ m,W 0 m [] H1)/\LCw J js σ tt te Q W
def zj2 (n:Nat)(J:It)(js:List Nat)(σ:St)(g:TG)(tt:TT)(te:TE)(Q:VK)(W:Nat->Nat->List V->Hp->Prop):Prop:=
 ∀ i m ys H,W i m ys H->ys.length<sizeLine/\
  ((J.stop i H/\∀ p,H p=none->Q (.ref p) (upd H p (.lst ys)))\/
   (J.go i H/\∀ x H',J.yld i H x H' -> ∀ ws:List (Option V),ws.length=n->g x (ws++Jw σ js) H' fun σ2 H2=>∃ ws',σ2=ws'++Jw σ js/\ws'.length=n/\tt σ2 H2 λb H3=>if b=true then te σ2 H3 λv H4=>∃ m',m'<m/\W (i+1) m' (ys++[v]) H4 else ∃ m',m'<m/\W (i+1) m' ys H3))
end
section
variable {X:Cx}{pins:List (Addr×Obj)}{σ:St}{H:Hp}{s:Shared}{sc:Scope}{xs cap:List Str}
theorem Q0 {Φ:Cx->Prop}(S:Y9 X.env.scope sc xs cap){js:List Nat}(hjs:js.map (λj=>X.N[j]?)=cap.map some)(hc:∀ C s0 H0 ex,Φ (Y0 X sc (xs++cap) C s0 H0 ex)){elt iter:Expr}{ifs:List Expr}{pos:Pos}{tg:Expr}{g:TG}{tt:TT}{te:TE}(hg:∀ C s0 H0 ex,PG (Y0 X sc (xs++cap) C s0 H0 ex) tg g)
  {fp:List Addr}(hb:∀ C,PIf (Y0 X sc (xs++cap) C s H fp) ifs tt/\PE (Y0 X sc (xs++cap) C s H fp) elt te)
  (I:Inv X pins σ H s) {J:It}{it:Addr}{tn:Nat->Heap->Prop}(T:zid Φ X.prog X.w X.K tg J fp it tn) (st:tn 0 s.heap) (hf:∀ b∈fp,zaJ X pins H b)
  {Q:VK}{W:Nat->Nat->List V->Hp->Prop}(w0:∃ m,W 0 m [] H) (turn:zj2 xs.length J js σ g tt te Q W) {RR:Value->Addr->Result->Shared->Prop}{E:Value->Shared->Prop}
  (hR:∀ D C s' σ' H' ys its k,D=s.heap.objs.size->C=s.heap.objs.size+1->Inv (Y0 X sc (xs++cap) C s H fp) [(D,{ cls:=.type "list",data:=.seq its.toArray k })] σ' H' s' -> Vals ys its->ys.length<=sizeLine->(∀ p,H' p=none->Q (.ref p) (upd H' p (.lst ys)))->RR (.ref D) C (.ok .next) s'):
  wpAny (model X.prog X.w) X.A (newList []) (λacc s₃=>wpAny (model X.prog X.w) X.A (newFunctionEnv sc X.env.globals (UJ X.env sc.names []) [] X.env.qual none .none (some X.env)) (λcenv s₄=>
   codeAny (model X.prog X.w) X.A (.compStart (.ListComp elt [⟨tg,iter,ifs,0⟩] sc pos) 0 (.ref it) acc { cenv with scope:=relabel sc X.env }) (RR acc cenv.locals) s₄) E s₃) E s:=by
 refine wpAny_newObj_type (wpAny_newFunctionEnv S.cell (by intro y hy;simp at hy) (λh₁ hns₁ hsb₁=>?_) S.kind)
 dsimp only at hns₁ hsb₁ ⊢
 have hlt:∀ b∈fp,b<s.heap.objs.size:=λb hb' => by
  obtain ⟨o,e,_⟩:=T.obj 0 _ st b hb'
  exact lt_size e
 generalize hH2:s.heap.push { cls:=.type "list",dict:=none,data:=.seq ([]:List Value).toArray }=H2 at hns₁ hsb₁ ⊢
 have hC:H2.objs.size=s.heap.objs.size+1:=by rw[← hH2,size_push]
 have old:∀ b o,s.heap.get? b=some o->h₁.get? b=some o:=λb o e=>
  hsb₁.extBut b o (by rw[hC];exact zaD (lt_succ_of_lt (lt_size e))) (get?_push_of_some _ (hH2 ▸ get?_push_of_some _ e))
 have hacc:h₁.get? s.heap.objs.size=some { cls:=.type "list",data:=.seq ([]:List Value).toArray }:=
  hsb₁.extBut _ _ (by rw[hC];exact zaD (lt_succ_self _)) (get?_push_of_some _ (hH2 ▸ get?_push_size _ rfl))
 have st₁:tn 0 h₁:=T.keep _ _ _ st λb _ o e=>old b o e
 obtain ⟨m0,w0⟩:=w0
 rw[hC] at hns₁ hsb₁ ⊢
 generalize hCe:s.heap.objs.size+1=C at hns₁ hsb₁ hR ⊢
 generalize hDe:s.heap.objs.size=D at hacc hR ⊢
 have hDe' := hDe.symm
 have hC' : C=s.heap.objs.size+1:=hCe.symm
 have ltD:∀ {b:Addr},b<s.heap.objs.size->b≠D:=λh=>by rw[← hDe];exact zaD h
 have loop:∀ s₃:Shared,s₃={ s with heap:=h₁,toks:=s.toks+([]:List (Str×Value)).length }->
   codeAny (model X.prog X.w) X.A (.compLoop (.ListComp elt [⟨tg,iter,ifs,0⟩] sc pos) 0 (.ref it) (.ref D) (compEnvC sc (UJ X.env sc.names []) C X.env)) (RR (.ref D) C) s₃:=by
  rintro s₃ rfl
  have I0:Inv (Y0 X sc (xs++cap) C s H fp) [(D,{ cls:=.type "list",data:=.seq ([]:List Value).toArray })] (xs.map (λ_=>none)++Jw σ js) H { s with heap:=h₁,toks:=s.toks+([]:List (Str×Value)).length }:=
   zcP S hjs I hf hlt hDe' hC' old hacc (λv z=>by cases z) hns₁
  have fpD:∀ b∈fp,b≠D:=λb hb' => ltD (hlt b hb')
  refine V4 (λn s' => ∃ i ws H' ys its k,ws.length=xs.length/\Inv (Y0 X sc (xs++cap) C s H fp) [(D,{ cls:=.type "list",data:=.seq its.toArray k })] (ws++Jw σ js) H' s' /\ tn i s'.heap/\(∀ b∈fp,H' b=none)/\Vals ys its/\W i n ys H')
   ?_ m0 ⟨0,xs.map (λ_=>none),H,[],[],0,length_map _,I0,st₁,λb hb' => (hf b hb').1,.nil,w0⟩
  rintro n s3 ⟨i,ws,H3,ys,its,k,hws,I3,st3,fr3,rv,w3⟩
  obtain ⟨hlen,hor⟩:=turn i n ys H3 w3
  have stat:∀ {H' : Hp} {o:Obj},(∀ b∈fp,H' b=none)->∀ b∈fp,zaJ (Y0 X sc (xs++cap) C s H fp) [(D,o)] H' b:=λ{H' o} hn b hb' =>
   ⟨hn b hb',(I3.ok.exf b hb').1,I3.ok.exfs b hb',.inl hb',(I3.ok.exf b hb').2,λp hp=>by
    have hp' : p=(D,o):=by simpa using hp
    rw[hp']
    exact Ne.symm (fpD b hb')⟩
  rcases hor with ⟨stop,qn⟩ | ⟨go,step⟩
  ·refine thn (T.done (Y0 X sc (xs++cap) C s H fp) rfl rfl rfl (hc _ _ _ _) i _ s3 _ H3 _ I3 (stat fr3) st3 stop) λr s4 ⟨hr,I4⟩=>?_
   subst hr
   exact hR D C s4 _ H3 ys its k rfl rfl I4 rv (le_of_lt hlen) qn
  ·refine thn (T.item (Y0 X sc (xs++cap) C s H fp) rfl rfl rfl (hc _ _ _ _) i _ s3 _ H3 _ I3 (stat fr3) st3 go) λr s4 ⟨u,hr,h4⟩=>?_
   subst hr
   refine thn h4 λ_ s5 ⟨xv,H5,I5,r5,y5,st5,fr5⟩=>?_
   have I5' := I5.pinned (stat fr5) (T.obj _ _ st5)
   refine thn (hg C s H fp _ s5 _ H5 xv u _ I5' r5 (step xv H5 y5 ws hws)) λ_ s6 ⟨σ6,H6,I6,ws',e6,hws',q6⟩=>?_
   subst e6
   refine thn ((hb C).1 _ s6 _ H6 _ I6 q6) λok s7 ⟨H7,I7,q7⟩=>?_
   have fin:∀ {s8:Shared}{H8:Hp}{σ8:St},Inv (Y0 X sc (xs++cap) C s H fp) ([(D,{ cls:=.type "list",data:=.seq its.toArray k })]++W7 fp s5.heap) σ8 H8 s8->tn (i+1) s8.heap/\(∀ b∈fp,H8 b=none)/\s8.heap.get? D=some { cls:=.type "list",data:=.seq its.toArray k }/\H8 D=none/\D≠C:=λ{s8 H8 σ8} I8=>by
    have pinD:=I8.pin (D,{ cls:=.type "list",data:=.seq its.toArray k }) (mem_append_right _ (mem_append_left _ (mem_singleton.mpr rfl)))
    have pinF:∀ b∈fp,∀ o,s5.heap.get? b=some o->s8.heap.get? b=some o/\H8 b=none:=λb hb' o e=>
     have z:=I8.pin (b,o) (mem_append_right _ (mem_append_right _ (Jv hb' e)))
     ⟨z.1,z.2.1⟩
    refine ⟨T.keep _ _ _ st5 λb hb' o e=>(pinF b hb' o e).1,λb hb' => ?_,pinD.1,pinD.2.1,pinD.2.2.1⟩
    obtain ⟨o,e,_⟩:=T.obj _ _ st5 b hb'
    exact (pinF b hb' o e).2
   cases ok with
   | false=>
    rw[if_neg Bool.false_ne_true] at q7 ⊢
    obtain ⟨m',hm,w7⟩:=q7
    obtain ⟨f1,f2,_⟩:=fin I7
    exact ⟨m',hm,i+1,ws',H7,ys,its,k,hws',I7.Js,f1,f2,rv,w7⟩
   | true=>
    rw[if_pos rfl] at q7 ⊢
    refine thn ((hb C).2 _ s7 _ H7 _ I7 q7) λu8 s8 ⟨v,H8,I8,r8,q8⟩=>?_
    obtain ⟨f1,f2,f3,f4,f5⟩:=fin I8
    obtain ⟨m',hm,w8⟩:=q8
    have rv' : Vals (ys++[v]) (its++[u8]):=rv.append (.cons r8 .nil)
    refine wpAny_list_append_plain ⟨k,f3⟩ (λh9 hl9 hs9=>?_) (by rw[size_toArray,← rv.length];exact le_of_lt hlen)
    obtain ⟨k9,e9⟩:=hl9
    have e9' : h9.get? D=some { cls:=.type "list",data:=.seq (its++[u8]).toArray k9 }:=by rw[e9];simp
    have In:Inv (Y0 X sc (xs++cap) C s H fp) (W7 fp s5.heap) (ws'++Jw σ js) H8 s8:=I8.Jf λp hp=>I8.pin p (mem_append_right _ (mem_append_right _ hp))
    have It' : Inv (Y0 X sc (xs++cap) C s H fp) (W7 fp s5.heap) (ws'++Jw σ js) H8 { s8 with heap:=h9 }:=
     In.turned (it:=D) (h' := h9) (t' := s8.toks) (λb o hb' e=>hs9.extBut b o hb' e) f4 f5 (.inr (le_of_eq hDe)) (λy c e z=>by
      obtain ⟨v',o,ho,_⟩:=I.cell y c (S.sub I.ok e)
      exact ltD (lt_size ho) z) λp hp z=>by
      have hp' : p∈W7 fp s5.heap:=by simpa using hp
      exact fpD p.1 (Q8 hp').1 z
    refine ⟨m',hm,i+1,ws',H8,ys++[v],its++[u8],k9,hws',It'.Jf λp hp=>?_,T.keep _ _ _ f1 λb hb' o e=>hs9.extBut b o (fpD b hb') e,f2,rv',w8⟩
    have hp' : p=(D,{ cls:=.type "list",data:=.seq (its++[u8]).toArray k9 }):=by simpa using hp
    subst hp'
    refine ⟨e9',f4,f5,λhb' => ?_,λv z=>by cases z⟩
    obtain ⟨_,o,ho,_⟩:=I.stack.mem hb'
    exact ltD (lt_size ho) rfl
 exact codeAny_compStart_list (loop _ rfl) (T.self X.A 0 _ _ _ st₁ (loop _ rfl))
theorem zjY {J:It}{js:List Nat}{tt:TT}{te:TE}{Q:VK}{W:Nat->Nat->List V->Hp->Prop}(h:LCw J js σ tt te Q W):zj2 1 J js σ (Ja 0) tt te Q W:=λi m ys H w=>by
 obtain ⟨a,b⟩:=h i m ys H w
 refine ⟨a,b.imp id λ⟨go,st⟩=>⟨go,λx H' y ws hw=>?_⟩⟩
 match ws,hw with
 | [v],_=>exact ⟨[some x],rfl,rfl,st x H' y⟩
end
section
variable {X:Cx}{pins:List (Addr×Obj)}{σ:St}{H:Hp}{s:Shared}{sc:Scope}{x:Str}{cap:List Str}
theorem Jb.n {fr:Scope}(S:Jb fr sc x cap):Y9 fr sc [x] cap:=⟨S.kind,S.cell,S.names,S.free,S.caps,S.noboth⟩
theorem Jb.pg (S:Jb X.env.scope sc x cap){px:Pos}(C:Addr)(s0:Shared)(H0:Hp)(ex:List Addr):PG (Y0 X sc ([x]++cap) C s0 H0 ex) (.Name x px) (Ja 0):=Z8 S.nd rfl (.inl (lookup_relabel_local S.tgt)) (.inr (lookup_relabel_local S.tgt))
theorem zhK (S:Jb X.env.scope sc x cap){js:List Nat}(hjs:js.map (λj=>X.N[j]?)=cap.map some)(hc:X.calm=true)(hxe:∀ e s,¬ X.xe e s){elt iter:Expr}{ifs:List Expr}{pos px:Pos}{wi:TI}{tt:TT}{te:TE}
  (hi:PI X (.Name x px) iter wi) (hb:∀ C s0 H0 ex,PIf (Y0 X sc (x::cap) C s0 H0 ex) ifs tt/\PE (Y0 X sc (x::cap) C s0 H0 ex) elt te)
  (hs:∀ x,foldedSetIterable iter X.env x=pure x:=by intro _;rfl):PE X (.ListComp elt [⟨.Name x px,iter,ifs,0⟩] sc pos) (tLC wi js tt te):=by
 intro pins s σ H Q I h
 rw[eval_ListComp]
 refine wpAny_comprehension_free (use:=none) rfl hs (X5 (S.n.cells I.ok)) S.kind S.names (thn (hi pins s σ H _ I h) λxv s₁ h₁=>thn h₁ λitv s₂ h₂=>?_)
 obtain ⟨it,fp,tn,J,H2,e,I2,T,st2,f2,W,w0,turn⟩:=h₂
 subst e
 refine Q0 (xs:=[x]) (Q:=Q) (RR:=λacc C=>compPost (model X.prog X.w) X.A X.xe none (EP X pins σ Q) acc C) S.n hjs (λ_ _ _ _=>hc) S.pg (λC=>hb C _ _ _) I2 T st2 f2 w0 (zjY turn) ?_
 intro D C s' σ' H' ys its k hD hC J' rv hz q
 obtain ⟨m,hn,_⟩:=J'.loc
 have pinD:=J'.pin (D,{ cls:=.type "list",data:=.seq its.toArray k }) (mem_append_right _ (mem_singleton.mpr rfl))
 exact ⟨m,hn,λh' hs' => ⟨.ref D,_,Vn (xs:=[x]) S.n I2 f2 hD hC J' pinD.2.1 pinD.1 rv hz hs',rfl,q D pinD.2.1⟩⟩
end
section
variable {X:Cx}
theorem zeu (hc:X.calm=true):Qa X (.builtin "all") (λxs H Q=>∃ (p:Addr) (bs:List Bool),xs=[.ref p]/\SqL X.K H p (bs.map V.bl)/\Q (.bl (bs.all id)) H):=by
 intro pins s σ H xs us Q I r h
 obtain ⟨p,bs,rfl,hq,q⟩:=h
 obtain ⟨u,rfl,r1⟩:=vals1 r
 cases r1
 obtain ⟨its,rv,pl,hz⟩:=I.list hq
 have hl:=plainIs pl
 have hlt:p<s.heap.objs.size:=by obtain ⟨_,e,_⟩:=hl;exact lt_size e
 have hlen:its.length=bs.length:=by rw[← rv.length,length_map]
 refine call_all_walk (wpAny_pyIter_list hl ?_)
 refine ⟨s.heap.objs.size,[s.heap.objs.size,p],[s.heap.objs.size],its.toArray.size,_,_,λi=>(bs[i]?).getD true,rfl,Walks.list (A:=X.A.in1) (I.ok.hd hc) _ p (ne_of_lt hlt) its.toArray,
  ⟨⟨_,get?_push_size _ rfl,rfl,rfl⟩,hl.push _⟩,λi v s' Q' E' hP hQ=>?_,λh' tk hk=>?_⟩
 ·have hP' : its[i]?=some v:=by simpa using hP
  have hi:i<bs.length:=by rw[← hlen];exact (List.getElem?_eq_some_iff.mp hP').1
  obtain ⟨u,hu,ru⟩:=rv.get (i:=i) (x:=V.bl bs[i]) (by rw[getElem?_map,List.getElem?_eq_getElem hi];rfl)
  rw[hP'] at hu
  cases hu
  cases (show v=Value.bool bs[i] from ru)
  simp only[List.getElem?_eq_getElem hi,Option.getD_some] at hQ
  exact wpAny_truthy_bool hQ
 ·have e:((List.range its.toArray.size).all λi=>(bs[i]?).getD true)=bs.all id:=by
   rw[size_toArray,hlen];exact PyProof.Rows.LSm.range_all bs
  rw[e]
  exact ⟨.bl (bs.all id),H,I.kept λb o e=>hk b o (λhm=>by rw[mem_singleton.mp hm] at e;exact lt_irrefl _ (lt_size e)) (get?_push_of_some _ e),rfl,q⟩
end
mutual
def Dat (K:PySem.W.Frag)(G:Hp):V->PyData->Prop
 | v,.none=>v = .non
 | v,.bool b=>v = .bl b
 | v,.int i=>v = .int i
 | v,.str x=>v = .str x
 | v,.list ds=>∃ p xs,v = .ref p/\G p=some (.lst xs)/\Yr K G xs ds
 | v,.tuple ds=>∃ p xs,v = .ref p/\SqT K G p xs/\Yr K G xs ds
 | _,.dict _=>False
def Yr (K:PySem.W.Frag)(G:Hp):List V->List PyData->Prop
 | xs,[]=>xs=[]
 | xs,d::ds=>∃ y ys,xs=y::ys/\Dat K G y d/\Yr K G ys ds
end
theorem ZS.tup {K:PySem.W.Frag}{H H' : Hp}{a:Addr}{xs:List V}(e:ZS H H')(h:SqT K H a xs):SqT K H' a xs:=by
 rcases h with (h | ⟨o,h⟩) | h
 ·exact .inl (.inl (e _ _ h))
 ·exact .inl (.inr ⟨o,e _ _ h⟩)
 ·exact .inr h
section
variable {K:PySem.W.Frag}{G G' : Hp}
theorem Zk (i:Int):Dat K G (.int i) (.int i):=by unfold Dat;rfl
theorem zaZ (x:Str):Dat K G (.str x) (.str x):=by unfold Dat;rfl
theorem Yy (b:Bool):Dat K G (.bl b) (.bool b):=by unfold Dat;rfl
theorem Qg:Dat K G .non .none:=by unfold Dat;rfl
theorem Xv {p:Addr}{xs:List V}{ds:List PyData}(h:SqT K G p xs)(r:Yr K G xs ds):Dat K G (.ref p) (.tuple ds):=by unfold Dat;exact ⟨p,xs,rfl,h,r⟩
theorem YZ {p:Addr}{xs:List V}{ds:List PyData}(h:G p=some (.lst xs))(r:Yr K G xs ds):Dat K G (.ref p) (.list ds):=by unfold Dat;exact ⟨p,xs,rfl,h,r⟩
theorem Yq:Yr K G [] []:=by unfold Yr;rfl
theorem Ye {x:V}{xs:List V}{d:PyData}{ds:List PyData}(h:Dat K G x d)(r:Yr K G xs ds):Yr K G (x::xs) (d::ds):=by
 unfold Yr;exact ⟨x,xs,rfl,h,r⟩
theorem Dat.int {v:V}{i:Int}(h:Dat K G v (.int i)):v = .int i:=by unfold Dat at h;exact h
theorem Dat.str {v:V}{x:Str}(h:Dat K G v (.str x)):v = .str x:=by unfold Dat at h;exact h
theorem Dat.bl {v:V}{x:Bool}(h:Dat K G v (.bool x)):v = .bl x:=by unfold Dat at h;exact h
theorem Dat.non {v:V}(h:Dat K G v .none):v = .non:=by unfold Dat at h;exact h
theorem Dat.tup {v:V}{ds:List PyData}(h:Dat K G v (.tuple ds)):∃ p xs,v = .ref p/\SqT K G p xs/\Yr K G xs ds:=by unfold Dat at h;exact h
theorem Dat.lst {v:V}{ds:List PyData}(h:Dat K G v (.list ds)):∃ p xs,v = .ref p/\G p=some (.lst xs)/\Yr K G xs ds:=by unfold Dat at h;exact h
theorem Yr.nil {xs:List V}(h:Yr K G xs []):xs=[]:=by unfold Yr at h;exact h
theorem Yr.cons {xs:List V}{d:PyData}{ds:List PyData}(h:Yr K G xs (d::ds)):∃ y ys,xs=y::ys/\Dat K G y d/\Yr K G ys ds:=by unfold Yr at h;exact h
theorem Yr.length:∀ {ds:List PyData}{xs:List V},Yr K G xs ds->xs.length=ds.length
 | [],_,h=>by rw[h.nil];rfl
 | d::ds,_,h=>by
  obtain ⟨y,ys,rfl,_,r⟩:=h.cons
  show ys.length+1=ds.length+1
  rw[r.length]
theorem Yr.get:∀ {ds:List PyData}{xs:List V}{i:Nat}{d:PyData},Yr K G xs ds->ds[i]?=some d->∃ x,xs[i]?=some x/\Dat K G x d
 | [],_,_,_,_,e=>by simp at e
 | d::ds,_,0,_,h,e=>by
  obtain ⟨y,ys,rfl,hd,r⟩:=h.cons
  simp at e;subst e;exact ⟨y,rfl,hd⟩
 | d::ds,_,i+1,d',h,e=>by
  obtain ⟨y,ys,rfl,hd,r⟩:=h.cons
  obtain ⟨x,h1,h2⟩:=Yr.get (i:=i) (d:=d') r (by simpa using e)
  exact ⟨x,by simpa using h1,h2⟩
theorem Yr.zj8 {ds:List PyData}{xs:List V}{i:Nat}{x:V}(h:Yr K G xs ds)(e:xs[i]?=some x):∃ d,ds[i]?=some d/\Dat K G x d:=by
 have hl:=h.length
 have hi:i<xs.length:=(List.getElem?_eq_some_iff.mp e).1
 obtain ⟨y,h1,h2⟩:=h.get (List.getElem?_eq_getElem (show i<ds.length by omega))
 rw[e] at h1;cases h1
 exact ⟨_,List.getElem?_eq_getElem (by omega),h2⟩
theorem Xz:∀ {ds es:List PyData}{xs ys:List V},Yr K G xs ds->Yr K G ys es->Yr K G (xs++ys) (ds++es)
 | [],_,_,_,h,r=>by rw[h.nil];exact r
 | d::ds,_,_,_,h,r=>by
  obtain ⟨y,ys,rfl,hd,r'⟩:=h.cons
  exact Ye hd (Xz r' r)
theorem Qc {ds:List PyData}{d:PyData}{xs:List V}{x:V}(h:Yr K G xs ds)(r:Dat K G x d):Yr K G (xs++[x]) (ds++[d]):=Xz h (Ye r Yq)
theorem J0:∀ {ds:List PyData}{xs:List V}(n:Nat),Yr K G xs ds->Yr K G (xs.take n) (ds.take n)
 | _,_,0,_=>Yq
 | [],_,n+1,h=>by rw[h.nil];exact Yq
 | d::ds,_,n+1,h=>by
  obtain ⟨y,ys,rfl,hd,r⟩:=h.cons
  exact Ye hd (J0 n r)
theorem JS:∀ {ds:List PyData}{xs:List V}(n:Nat),Yr K G xs ds->Yr K G (xs.drop n) (ds.drop n)
 | _,_,0,h=>h
 | [],_,n+1,h=>by rw[h.nil];exact Yq
 | d::ds,_,n+1,h=>by
  obtain ⟨y,ys,rfl,hd,r⟩:=h.cons
  exact JS n r
theorem zbJ:∀ {ds:List PyData}{xs:List V}{x:V}{d:PyData}(n:Nat),Yr K G xs ds->Dat K G x d->Yr K G (xs.set n x) (ds.set n d)
 | [],_,_,_,_,h,_=>by rw[h.nil];exact Yq
 | d::ds,_,_,_,0,h,e=>by
  obtain ⟨y,ys,rfl,hd,r⟩:=h.cons
  exact Ye e r
 | d::ds,_,_,_,n+1,h,e=>by
  obtain ⟨y,ys,rfl,hd,r⟩:=h.cons
  exact Ye hd (zbJ n r e)
theorem V6:∀ {ds:List PyData}{xs:List V}(n:Nat),Yr K G xs ds->Yr K G (xs.eraseIdx n) (ds.eraseIdx n)
 | [],_,_,h=>by rw[h.nil];exact Yq
 | d::ds,_,0,h=>by
  obtain ⟨y,ys,rfl,hd,r⟩:=h.cons
  exact r
 | d::ds,_,n+1,h=>by
  obtain ⟨y,ys,rfl,hd,r⟩:=h.cons
  exact Ye hd (V6 n r)
theorem Ug:∀ {ds:List PyData}{xs:List V},Yr K G xs ds->Yr K G xs.reverse ds.reverse
 | [],_,h=>by rw[h.nil];exact Yq
 | d::ds,_,h=>by
  obtain ⟨y,ys,rfl,hd,r⟩:=h.cons
  rw[reverse_cons,reverse_cons]
  exact Qc (Ug r) hd
theorem J7:∀ ns:List Int,Yr K G (ns.map V.int) (ns.map PyData.int)
 | []=>Yq
 | n::ns=>Ye (Zk n) (J7 ns)
theorem Yr.ints:∀ {ns:List Int}{xs:List V},Yr K G xs (ns.map PyData.int)->xs=ns.map V.int
 | [],_,h=>h.nil
 | n::ns,_,h=>by
  obtain ⟨y,ys,rfl,hd,r⟩:=h.cons
  rw[hd.int,Yr.ints r];rfl
end
mutual
theorem Dat.same {K:PySem.W.Frag}{G G' : Hp}(e:ZS G G'):∀ {d:PyData}{v:V},Dat K G v d->Dat K G' v d
 | .none,_,h=>by rw[h.non];exact Qg
 | .bool b,_,h=>by rw[h.bl];exact Yy b
 | .int i,_,h=>by rw[h.int];exact Zk i
 | .str x,_,h=>by rw[h.str];exact zaZ x
 | .list ds,_,h=>by
  obtain ⟨p,xs,rfl,h1,h2⟩:=h.lst
  exact YZ (e _ _ h1) (Yr.same e h2)
 | .tuple ds,_,h=>by
  obtain ⟨p,xs,rfl,h1,h2⟩:=h.tup
  exact Xv (e.tup h1) (Yr.same e h2)
 | .dict _,_,h=>by unfold Dat at h;exact h.elim
theorem Yr.same {K:PySem.W.Frag}{G G' : Hp}(e:ZS G G'):∀ {ds:List PyData}{xs:List V},Yr K G xs ds->Yr K G' xs ds
 | [],_,h=>by rw[h.nil];exact Yq
 | d::ds,_,h=>by
  obtain ⟨y,ys,rfl,hd,r⟩:=h.cons
  exact Ye (Dat.same e hd) (Yr.same e r)
end
section
variable {X:Cx}{pins:List (Addr×Obj)}{σ:St}{H G:Hp}{s:Shared}
mutual
theorem Dat.reads (I:Inv X pins σ H s)(e:ZS G H):∀ {d:PyData}{v:V}{u:Value},Dat X.K G v d->RelV v u->∃ as,Reads s.heap u d as
 | .none,_,u,h,r=>by
  rw[h.non] at r
  cases (show u=Value.none from r)
  exact ⟨_,.none⟩
 | .bool b,_,u,h,r=>by
  rw[h.bl] at r
  cases (show u=Value.bool b from r)
  exact ⟨_,.bool b⟩
 | .int i,_,u,h,r=>by
  rw[h.int] at r
  obtain ⟨t,q⟩:=(show ∃ t,u=Value.int i t from r)
  subst q
  exact ⟨_,.int i t⟩
 | .str x,_,u,h,r=>by
  rw[h.str] at r
  obtain ⟨t,q⟩:=(show ∃ t,u=Value.str x t from r)
  subst q
  exact ⟨_,.str x t⟩
 | .list ds,_,u,h,r=>by
  obtain ⟨p,xs,rfl,h1,h2⟩:=h.lst
  cases (show u=Value.ref p from r)
  obtain ⟨its,rv,⟨o,n,e1,c,_,d1⟩,_⟩:=I.list (SqL.of (e _ _ h1))
  obtain ⟨as,ra⟩:=Yr.reads I e h2 rv
  exact ⟨_,Reads.list e1 c d1 (by simpa using ra)⟩
 | .tuple ds,_,u,h,r=>by
  obtain ⟨p,xs,rfl,h1,h2⟩:=h.tup
  cases (show u=Value.ref p from r)
  obtain ⟨its,rv,⟨o,e1,c,n,d1⟩,_⟩:=I.tuple (e.tup h1)
  obtain ⟨as,ra⟩:=Yr.reads I e h2 rv
  exact ⟨_,Reads.tuple e1 c d1 (by simpa using ra)⟩
 | .dict _,_,_,h,_=>by unfold Dat at h;exact h.elim
theorem Yr.reads (I:Inv X pins σ H s)(e:ZS G H):∀ {ds:List PyData}{xs:List V}{us:List Value},Yr X.K G xs ds->Vals xs us->∃ as,ReadsAll s.heap us ds as
 | [],_,us,h,r=>by
  rw[h.nil] at r
  cases r
  exact ⟨_,.nil⟩
 | d::ds,_,us,h,r=>by
  obtain ⟨y,ys,rfl,hd,hr⟩:=h.cons
  cases r with
  | cons r1 r2=>
   obtain ⟨as,ra⟩:=Dat.reads I e hd r1
   obtain ⟨bs,rb⟩:=Yr.reads I e hr r2
   exact ⟨_,.cons ra rb⟩
end
end
mutual
noncomputable def noBool:PyData->Bool
 | .bool _=>false
 | .dict _=>false
 | .list xs=>Wk xs
 | .tuple xs=>Wk xs
 | .none | .int _ | .str _=>true
noncomputable def Wk:List PyData->Bool
 | []=>true
 | x::xs=>noBool x&&Wk xs
end
mutual
theorem zbA:∀ a b:PyData,noBool a=true->noBool b=true->SeqAt.noMix a b=true
 | .list xs,.list ys,h,k=>by rw[SeqAt.noMix];exact Q7 xs ys (by simpa [noBool] using h) (by simpa [noBool] using k)
 | .tuple xs,.tuple ys,h,k=>by rw[SeqAt.noMix];exact Q7 xs ys (by simpa [noBool] using h) (by simpa [noBool] using k)
 | .bool _,_,h,_=>by simp[noBool] at h
 | .dict _,_,h,_=>by simp[noBool] at h
 | .none,.bool _,_,k | .int _,.bool _,_,k | .str _,.bool _,_,k | .list _,.bool _,_,k | .tuple _,.bool _,_,k=>by simp[noBool] at k
 | .none,.dict _,_,k | .int _,.dict _,_,k | .str _,.dict _,_,k | .list _,.dict _,_,k | .tuple _,.dict _,_,k=>by simp[noBool] at k
 | .none,.none,_,_ | .none,.int _,_,_ | .none,.str _,_,_ | .none,.list _,_,_ | .none,.tuple _,_,_=>by simp[SeqAt.noMix]
 | .int _,.none,_,_ | .int _,.int _,_,_ | .int _,.str _,_,_ | .int _,.list _,_,_ | .int _,.tuple _,_,_=>by simp[SeqAt.noMix]
 | .str _,.none,_,_ | .str _,.int _,_,_ | .str _,.str _,_,_ | .str _,.list _,_,_ | .str _,.tuple _,_,_=>by simp[SeqAt.noMix]
 | .list _,.none,_,_ | .list _,.int _,_,_ | .list _,.str _,_,_ | .list _,.tuple _,_,_=>by simp[SeqAt.noMix]
 | .tuple _,.none,_,_ | .tuple _,.int _,_,_ | .tuple _,.str _,_,_ | .tuple _,.list _,_,_=>by simp[SeqAt.noMix]
theorem Q7:∀ a b:List PyData,Wk a=true->Wk b=true->SeqAt.noMixAll a b=true
 | [],[],_,_ | [],_::_,_,_ | _::_,[],_,_=>by simp[SeqAt.noMixAll]
 | x::xs,y::ys,h,k=>by
  have h' : noBool x=true/\Wk xs=true:=by simpa [Wk] using h
  have k' : noBool y=true/\Wk ys=true:=by simpa [Wk] using k
  rw[SeqAt.noMixAll,zbA x y h'.1 k'.1,Q7 xs ys h'.2 k'.2];rfl
end
structure Pl (n:Nat)(d:PyData):Prop where
 lay:d.canLay0=true
 dep:d.depth<=n
 nb:noBool d=true
theorem Pl.mono {n m:Nat}{d:PyData}(h:Pl n d)(k:n<=m):Pl m d:=⟨h.lay,Nat.le_trans h.dep k,h.nb⟩
theorem Pl.shaped {n:Nat}{d:PyData}(h:Pl n d)(k:n<=64):SeqAt.shaped d=true:=by
 show (PyData.canLay0 d&&decide (PyData.depth d<=64))=true
 rw[and_eq_true]
 exact ⟨h.lay,decide_eq_true (Nat.le_trans h.dep k)⟩
theorem Pl.mix {n:Nat}{a b:PyData}(h:Pl n a)(k:Pl n b):SeqAt.noMix a b=true:=zbA a b h.nb k.nb
mutual
theorem Ud:∀ {a b:PyData},PySem.Spec.same a b=true->a=b
 | .none,b,h=>by cases b <;> first | rfl | simp[PySem.Spec.same] at h
 | .bool x,b,h=>by cases b <;> simp[PySem.Spec.same] at h <;> rw[h]
 | .int x,b,h=>by cases b <;> simp[PySem.Spec.same] at h <;> rw[h]
 | .str x,b,h=>by cases b <;> simp[PySem.Spec.same] at h <;> rw[h]
 | .list x,b,h=>by
  cases b <;> simp[PySem.Spec.same] at h
  rw[Qp h]
 | .tuple x,b,h=>by
  cases b <;> simp[PySem.Spec.same] at h
  rw[Qp h]
 | .dict x,b,h=>by
  cases b <;> simp[PySem.Spec.same] at h
  rw[QQ h]
theorem Qp:∀ {a b:List PyData},sameAll a b=true->a=b
 | [],[],_=>rfl
 | [],_::_,h=>by simp[sameAll] at h
 | _::_,[],h=>by simp[sameAll] at h
 | x::xs,y::ys,h=>by
  have h' : PySem.Spec.same x y=true/\sameAll xs ys=true:=by simpa [sameAll] using h
  rw[Ud h'.1,Qp h'.2]
theorem QQ:∀ {a b:List (PyData×PyData)},samePairs a b=true->a=b
 | [],[],_=>rfl
 | [],_::_,h=>by simp[samePairs] at h
 | _::_,[],h=>by simp[samePairs] at h
 | (x,z)::xs,(y,w)::ys,h=>by
  have h' : (PySem.Spec.same x y=true/\PySem.Spec.same z w=true)/\samePairs xs ys=true:=by simpa [samePairs] using h
  rw[Ud h'.1.1,Ud h'.1.2,QQ h'.2]
end
theorem Qq {a b:PyData}(h:a≠b):PySem.Spec.same a b=false:=by
 cases e:PySem.Spec.same a b with
 | false=>rfl
 | true=>exact absurd (Ud e) h
section
variable {X:Cx}
def zhd (K:PySem.W.Frag)(g:Bool->Bool):R2:=λx y H Q=>∃ (G:Hp) (a b:PyData),ZS G H/\Dat K G x a/\Dat K G y b/\(SeqAt.shaped a=true/\SeqAt.shaped b=true/\SeqAt.noMix a b=true)/\Q (.bl (g (PySem.Spec.same a b))) H
theorem zhG (hu:X.A.units+64<cLine):OpR X (compareOp .Eq) (zhd X.K λb=>b):=by
 intro pins s σ H x y v u Q I rx ry h
 obtain ⟨G,a,b,e,ha,hb,⟨sa,sb,nm⟩,q⟩:=h
 obtain ⟨as,ra⟩:=Dat.reads I e ha rx
 obtain ⟨bs,rb⟩:=Dat.reads I e hb ry
 exact eq_dataH_same ra rb sa sb hu nm ⟨.bl (PySem.Spec.same a b),H,I,rfl,q⟩
theorem zhX (hu:X.A.units+64<cLine):OpR X (compareOp .NotEq) (zhd X.K λb=>!b):=by
 intro pins s σ H x y v u Q I rx ry h
 obtain ⟨G,a,b,e,ha,hb,⟨sa,sb,nm⟩,q⟩:=h
 obtain ⟨as,ra⟩:=Dat.reads I e ha rx
 obtain ⟨bs,rb⟩:=Dat.reads I e hb ry
 exact ne_dataH_same ra rb sa sb hu nm ⟨.bl (!PySem.Spec.same a b),H,I,rfl,q⟩
end
theorem Xd (i:Int){n:Nat}:Pl n (.int i):=⟨by unfold PyData.canLay0;rfl,by unfold PyData.depth;omega,by unfold noBool;rfl⟩
theorem WT:∀ {ds:List PyData},(∀ d∈ds,d.canLay0=true)->PyData.canLayAll0 ds=true
 | [],_=>rfl
 | d::ds,h=>by
  unfold PyData.canLayAll0
  rw[h d (by simp),WT λe he=>h e (by simp[he])];rfl
theorem JL:∀ {ds:List PyData}{n:Nat},(∀ d∈ds,d.depth<=n)->PyData.depthAll ds<=n
 | [],_,_=>by unfold PyData.depthAll;omega
 | d::ds,n,h=>by
  have h1:=h d (by simp)
  have h2:=JL (ds:=ds) (n:=n) λe he=>h e (by simp[he])
  unfold PyData.depthAll
  omega
theorem Qk:∀ {ds:List PyData},(∀ d∈ds,noBool d=true)->Wk ds=true
 | [],_=>rfl
 | d::ds,h=>by
  unfold Wk
  rw[h d (by simp),Qk λe he=>h e (by simp[he])];rfl
theorem Qf {n:Nat}{ds:List PyData}(h:∀ d∈ds,Pl n d):Pl (n+1) (.tuple ds):=by
 refine ⟨?_,?_,?_⟩
 ·unfold PyData.canLay0;exact WT λd hd=>(h d hd).lay
 ·have:=JL λd hd=>(h d hd).dep
  unfold PyData.depth;omega
 ·unfold noBool;exact Qk λd hd=>(h d hd).nb
theorem Wb {n:Nat}{ds:List PyData}(h:∀ d∈ds,Pl n d):Pl (n+1) (.list ds):=by
 refine ⟨?_,?_,?_⟩
 ·unfold PyData.canLay0;exact WT λd hd=>(h d hd).lay
 ·have:=JL λd hd=>(h d hd).dep
  unfold PyData.depth;omega
 ·unfold noBool;exact Qk λd hd=>(h d hd).nb
structure Xq (G H G' H' : Hp):Prop where
 gg:ZS G G'
 gh:ZS G' H'
 hh:ZS H H'
 fr:∀ b o,G' b=some o->G b=some o\/H b=none
theorem Xq.refl {G H:Hp}(s:ZS G H):Xq G H G H:=⟨ZS.refl _,s,ZS.refl _,λ_ _ h=>.inl h⟩
theorem Xq.trans {G H G1 H1 G2 H2:Hp}(a:Xq G H G1 H1)(b:Xq G1 H1 G2 H2):Xq G H G2 H2:=
 ⟨a.gg.trans b.gg,b.gh,a.hh.trans b.hh,λx o h=>by
  rcases b.fr x o h with h | h
  ·exact a.fr x o h
  ·exact .inr (a.hh.free h)⟩
theorem Yl {G H:Hp}{p:Addr}{o:HO}(s:ZS G H)(hp:H p=none):Xq G H (upd G p o) (upd H p o):=by
 have hg:G p=none:=s.free hp
 refine ⟨λb u e=>?_,λb u e=>?_,λb u e=>?_,λb u e=>?_⟩
 ·rw[ZC (Yj e hg)];exact e
 ·by_cases h:b=p
  ·subst h;rw[Zz] at e ⊢;exact e
  ·rw[ZC h] at e ⊢;exact s b u e
 ·rw[ZC (Yj e hp)];exact e
 ·by_cases h:b=p
  ·subst h;exact .inr hp
  ·rw[ZC h] at e;exact .inl e
theorem Vi {G H H' : Hp}(s:ZS G H)(h:ZS H H'):Xq G H G H' := ⟨ZS.refl _,s.trans h,h,λ_ _ e=>.inl e⟩
theorem Xq.out {G H G' H' : Hp}(a:Xq G H G' H'){p:Addr}{o:HO}(hp:H p=some o)(hg:G p=none):G' p=none:=by
 cases e:G' p with
 | none=>rfl
 | some u=>
  rcases a.fr p u e with h | h
  ·rw[hg] at h;cases h
  ·rw[hp] at h;cases h
def Ev (K:PySem.W.Frag)(t:TE)(σ:St)(G:Hp)(d:PyData):Prop:=
 ∀ G1 H,ZS G G1->ZS G1 H->∀ Q:VK,(∀ v G' H',Xq G1 H G' H' -> Dat K G' v d->Q v H')->t σ H Q
def EvT (t:TT)(σ:St)(G:Hp)(b:Bool):Prop:=
 ∀ G1 H,ZS G G1->ZS G1 H->∀ Q:Bool->Hp->Prop,(∀ G' H',Xq G1 H G' H' -> Q b H')->t σ H Q
def EvA (K:PySem.W.Frag)(t:TA)(σ:St)(G:Hp)(ds:List PyData):Prop:=
 ∀ G1 H,ZS G G1->ZS G1 H->∀ Q:List V->Hp->Prop,(∀ vs G' H',Xq G1 H G' H' -> Yr K G' vs ds->Q vs H')->t σ H Q
section
variable {K:PySem.W.Frag}{σ:St}{G:Hp}{ta tb tc:TE}{a b d:PyData}
theorem ze1 {i:Nat}{v:V}(h:σ[i]?=some (some v))(hd:Dat K G v d):Ev K (WL i) σ G d:=λG1 H s1 s2 Q k=>⟨v,h,k v G1 H (Xq.refl s2) (hd.same s1)⟩
theorem UL {v:V}(hd:Dat K G v d):Ev K (tC v) σ G d:=λG1 H s1 s2 Q k=>k v G1 H (Xq.refl s2) (hd.same s1)
theorem zi7 {i:Int}:Ev K (tC (.int i)) σ G (.int i):=UL (Zk i)
theorem zh4 {x:Str}:Ev K (tC (.str x)) σ G (.str x):=UL (zaZ x)
theorem zjV {x:Bool}:Ev K (tC (.bl x)) σ G (.bool x):=UL (Yy x)
theorem zfr:Ev K (tC .non) σ G .none:=UL Qg
theorem Qj {r:R2}(ha:Ev K ta σ G a)(hb:Ev K tb σ G b)(hr:∀ G1 H x y (Q:VK),ZS G G1->ZS G1 H->Dat K G1 x a->Dat K G1 y b->(∀ v G' H',Xq G1 H G' H' -> Dat K G' v d->Q v H')->r x y H Q):Ev K (tOp r ta tb) σ G d:=
 λG1 H s1 s2 Q k=>ha G1 H s1 s2 _ λx G2 H2 g2 hx=>hb G2 H2 (s1.trans g2.gg) g2.gh _ λy G3 H3 g3 hy=>
  hr G3 H3 x y Q ((s1.trans g2.gg).trans g3.gg) g3.gh (hx.same g3.gg) hy λv G' H' g hv=>k v G' H' ((g2.trans g3).trans g) hv
theorem ziG {g:Int->Int->V}{i j:Int}(ha:Ev K ta σ G (.int i))(hb:Ev K tb σ G (.int j))(hg:Dat K G (g i j) d):Ev K (tOp (rI0 g) ta tb) σ G d:=
 Qj ha hb λG1 H x y Q s1 s2 hx hy k=>by
  rw[hx.int,hy.int]
  exact ⟨i,j,rfl,rfl,k _ G1 H (Xq.refl s2) (hg.same s1)⟩
theorem zgK {C:Int->Int->Prop}{g:Int->Int->V}{i j:Int}(ha:Ev K ta σ G (.int i))(hb:Ev K tb σ G (.int j))(hc:C i j)(hg:Dat K G (g i j) d):Ev K (tOp (rI C g) ta tb) σ G d:=
 Qj ha hb λG1 H x y Q s1 s2 hx hy k=>by
  rw[hx.int,hy.int]
  exact ⟨i,j,rfl,rfl,hc,k _ G1 H (Xq.refl s2) (hg.same s1)⟩
theorem ziN {ds:List PyData}{i:Int}{n:Nat}(ha:Ev K ta σ G (.tuple ds))(hb:Ev K tb σ G (.int i))(hn:ixN ds.length i=some n)(hd:ds[n]?=some d):Ev K (tOp (zhf K) ta tb) σ G d:=
 Qj ha hb λG1 H x y Q s1 s2 hx hy k=>by
  obtain ⟨p,xs,rfl,hp,hxs⟩:=hx.tup
  obtain ⟨z,hz,hzd⟩:=hxs.get hd
  rw[hy.int]
  exact ⟨p,xs,i,z,rfl,rfl,s2.tup hp,by unfold atI;rw[hxs.length,hn];exact hz,k z G1 H (Xq.refl s2) hzd⟩
theorem zeZ {ds:List PyData}{i:Int}{n:Nat}(ha:Ev K ta σ G (.list ds))(hb:Ev K tb σ G (.int i))(hn:ixN ds.length i=some n)(hd:ds[n]?=some d):Ev K (tOp (ziL K) ta tb) σ G d:=
 Qj ha hb λG1 H x y Q s1 s2 hx hy k=>by
  obtain ⟨p,xs,rfl,hp,hxs⟩:=hx.lst
  obtain ⟨z,hz,hzd⟩:=hxs.get hd
  rw[hy.int]
  exact ⟨p,xs,i,z,rfl,rfl,SqL.of (s2 _ _ hp),by unfold atI;rw[hxs.length,hn];exact hz,k z G1 H (Xq.refl s2) hzd⟩
theorem zhr {g:Bool->Bool}{n:Nat}(ha:Ev K ta σ G a)(hb:Ev K tb σ G b)(pa:Pl n a)(pb:Pl n b)(hn:n<=64):Ev K (tOp (zhd K g) ta tb) σ G (.bool (g (PySem.Spec.same a b))):=
 Qj ha hb λG1 H x y Q s1 s2 hx hy k=>⟨G1,a,b,s2,hx,hy,⟨pa.shaped hn,pb.shaped hn,pa.mix pb⟩,k _ G1 H (Xq.refl s2) (Yy _)⟩
theorem zcU:EvA K QT σ G []:=λG1 H s1 s2 Q k=>k [] G1 H (Xq.refl s2) Yq
theorem zbj {t:TA}{ds:List PyData}(ha:Ev K ta σ G a)(hb:EvA K t σ G ds):EvA K (Xc ta t) σ G (a::ds):=
 λG1 H s1 s2 Q k=>ha G1 H s1 s2 _ λx G2 H2 g2 hx=>hb G2 H2 (s1.trans g2.gg) g2.gh _ λys G3 H3 g3 hy=>k (x::ys) G3 H3 (g2.trans g3) (Ye (hx.same g3.gg) hy)
theorem zik {t:TA}{ds:List PyData}(h:EvA K t σ G ds)(hl:ds.length<=sizeLine):Ev K (zfo t) σ G (.tuple ds):=
 λG1 H s1 s2 Q k=>h G1 H s1 s2 _ λvs G2 H2 g2 hv=>⟨by rw[hv.length];exact hl,λp hp=>by
  have g:=Yl (o:=.tup vs) g2.gh hp
  exact k _ _ _ (g2.trans g) (Xv (SqT.of Zz) (hv.same g.gg))⟩
theorem ziu {t:TA}{ds:List PyData}(h:EvA K t σ G ds)(hl:ds.length<=sizeLine):Ev K (zir t) σ G (.list ds):=
 λG1 H s1 s2 Q k=>h G1 H s1 s2 _ λvs G2 H2 g2 hv=>⟨by rw[hv.length];exact hl,λp hp=>by
  have g:=Yl (o:=.lst vs) g2.gh hp
  exact k _ _ _ (g2.trans g) (YZ Zz (hv.same g.gg))⟩
theorem Uz {r:List V->Hp->VK->Prop}{t:TA}{ds:List PyData}(h:EvA K t σ G ds)(hr:∀ G1 H xs (Q:VK),ZS G G1->ZS G1 H->Yr K G1 xs ds->(∀ v G' H',Xq G1 H G' H' -> Dat K G' v d->Q v H')->r xs H Q):Ev K (tCB r t) σ G d:=
 λG1 H s1 s2 Q k=>h G1 H s1 s2 _ λvs G2 H2 g2 hv=>hr G2 H2 vs Q (s1.trans g2.gg) g2.gh hv λv G' H' g hd=>k v G' H' (g2.trans g) hd
theorem zgp {t:TA}{ds:List PyData}(h:EvA K t σ G [.list ds]):Ev K (tCB (λxs H Q=>∃ p ys,xs=[.ref p]/\(SqL K H p ys\/SqT K H p ys)/\Q (.int ys.length) H) t) σ G (.int ds.length):=
 Uz h λG1 H xs Q s1 s2 hx k=>by
  obtain ⟨y,ys,rfl,hy,r⟩:=hx.cons
  rw[r.nil]
  obtain ⟨p,zs,rfl,hp,hz⟩:=hy.lst
  refine ⟨p,zs,rfl,.inl (SqL.of (s2 _ _ hp)),?_⟩
  rw[hz.length]
  exact k _ G1 H (Xq.refl s2) (Zk _)
theorem zgs {t:TA}{ds:List PyData}(h:EvA K t σ G [.tuple ds]):Ev K (tCB (λxs H Q=>∃ p ys,xs=[.ref p]/\(SqL K H p ys\/SqT K H p ys)/\Q (.int ys.length) H) t) σ G (.int ds.length):=
 Uz h λG1 H xs Q s1 s2 hx k=>by
  obtain ⟨y,ys,rfl,hy,r⟩:=hx.cons
  rw[r.nil]
  obtain ⟨p,zs,rfl,hp,hz⟩:=hy.tup
  refine ⟨p,zs,rfl,.inr (s2.tup hp),?_⟩
  rw[hz.length]
  exact k _ G1 H (Xq.refl s2) (Zk _)
theorem zaF {t:TA}{ds:List PyData}(h:EvA K t σ G [.list ds]):Ev K (tCB (λxs H Q=>∃ p ys,xs=[.ref p]/\((SqL K H p ys/\∀ l,H l=none->Q (.ref l) (upd H l (.tup ys)))\/(SqT K H p ys/\Q (.ref p) H))) t) σ G (.tuple ds):=
 Uz h λG1 H xs Q s1 s2 hx k=>by
  obtain ⟨y,ys,rfl,hy,r⟩:=hx.cons
  rw[r.nil]
  obtain ⟨p,zs,rfl,hp,hz⟩:=hy.lst
  refine ⟨p,zs,rfl,.inl ⟨SqL.of (s2 _ _ hp),λl hl=>?_⟩⟩
  have g:=Yl (o:=.tup zs) s2 hl
  exact k _ _ _ g (Xv (SqT.of Zz) (hz.same g.gg))
theorem zeh {t:TE}{c:Bool}(h:Ev K t σ G (.bool c)):EvT (za7 t) σ G c:=λG1 H s1 s2 Q k=>h G1 H s1 s2 _ λv G' H' g hv=>⟨c,hv.bl,k G' H' g⟩
theorem zjX {t:TE}{c:Bool}(h:Ev K t σ G (.bool c)):EvT (tB t) σ G c:=λG1 H s1 s2 Q k=>h G1 H s1 s2 _ λv G' H' g hv=>⟨c,hv.bl,k G' H' g⟩
theorem zgA {t:TT}{c:Bool}(h:EvT t σ G c):EvT (zjF t) σ G (!c):=λG1 H s1 s2 Q k=>h G1 H s1 s2 _ λG' H' g=>k G' H' g
theorem ziy {t u:TT}{c e:Bool}(h:EvT t σ G c)(h' : c=false->EvT u σ G e):EvT (tOr t u) σ G (c||e):=λG1 H s1 s2 Q k=>h G1 H s1 s2 _ λG' H' g=>by
 cases c with
 | true=>rw[if_pos rfl];exact k G' H' g
 | false=>
  rw[if_neg Bool.false_ne_true]
  exact h' rfl G' H' (s1.trans g.gg) g.gh _ λG2 H2 g2=>k G2 H2 (g.trans g2)
theorem zfZ {t u:TT}{c e:Bool}(h:EvT t σ G c)(h' : c=true->EvT u σ G e):EvT (zjK t u) σ G (c&&e):=λG1 H s1 s2 Q k=>h G1 H s1 s2 _ λG' H' g=>by
 cases c with
 | false=>rw[if_neg Bool.false_ne_true];exact k G' H' g
 | true=>
  rw[if_pos rfl]
  exact h' rfl G' H' (s1.trans g.gg) g.gh _ λG2 H2 g2=>k G2 H2 (g.trans g2)
theorem zjw {t:TE}{e:PyData}(h:Ev K t σ G d)(q:d=e):Ev K t σ G e:=q ▸ h
theorem zhx {t:TT}{c:Bool}(h:EvT t σ G c)(h1:c=true->Ev K ta σ G d)(h2:c=false->Ev K tb σ G d):Ev K (tIf t ta tb) σ G d:=λG1 H s1 s2 Q k=>h G1 H s1 s2 _ λG' H' g=>by
 cases c with
 | true=>rw[if_pos rfl];exact h1 rfl G' H' (s1.trans g.gg) g.gh _ λv G2 H2 g2 hv=>k v G2 H2 (g.trans g2) hv
 | false=>rw[if_neg Bool.false_ne_true];exact h2 rfl G' H' (s1.trans g.gg) g.gh _ λv G2 H2 g2 hv=>k v G2 H2 (g.trans g2) hv
theorem zhW {c e:Bool}(h:Ev K ta σ G (.bool c))(h' : c=true->Ev K tb σ G (.bool e)):Ev K (zg5 ta tb) σ G (.bool (c&&e)):=λG1 H s1 s2 Q k=>h G1 H s1 s2 _ λv G' H' g hv=>⟨c,hv.bl,by
 cases c with
 | false=>rw[if_neg Bool.false_ne_true];exact k _ G' H' g (Yy _)
 | true=>rw[if_pos rfl];exact h' rfl G' H' (s1.trans g.gg) g.gh _ λw G2 H2 g2 hw=>k w G2 H2 (g.trans g2) hw⟩
def spP (K:PySem.W.Frag)(R:List PyData->PyData->Prop):Sp:=λvs H Q _=>∃ (G:Hp) (ds:List PyData) (d:PyData),ZS G H/\Yr K G vs ds/\R ds d/\∀ v G' H',Xq G H G' H' -> Dat K G' v d->Q v H'
theorem zf8 {R:List PyData->PyData->Prop}{E:XK}{t:TA}{ds:List PyData}(h:EvA K t σ G ds)(hR:R ds d):Ev K (za9 (spP K R) [] E t) σ G d:=
 λG1 H s1 s2 Q k=>h G1 H s1 s2 _ λvs G2 H2 g2 hv=>by
  refine ⟨G2,ds,d,g2.gh,?_,hR,λv G' H' g hd=>k v G' H' (g2.trans g) hd⟩
  rw[append_nil];exact hv
theorem zer:EvT zen σ G true:=λG1 H s1 s2 Q k=>k G1 H (Xq.refl s2)
end
section
variable {K:PySem.W.Frag}{σ:St}{G H:Hp}{te:TE}{d:PyData}{D:Ends}
theorem Qx {α β:Type}(f:α->β):∀ l:List α,l.filterMap (λx=>some (f x))=l.map f
 | []=>rfl
 | x::l=>by rw[filterMap_cons,map_cons,Qx f l]
theorem YL {n i:Nat}(h:i<n):ixN n (i:Int)=some i:=by unfold ixN;rw[if_pos (by omega),if_pos (by omega)];simp
end
section
variable {K:PySem.W.Frag}{σ:St}{G H:Hp}{ta tb:TE}
theorem zic {i j:Int}(ha:Ev K ta σ G (.int i))(hb:Ev K tb σ G (.int j)):Ev K (tOp rEq ta tb) σ G (.bool (decide (i=j))):=
 Qj ha hb λG1 H x y Q s1 s2 hx hy k=>by
  rw[hx.int,hy.int]
  refine ⟨rfl,?_⟩
  have e:decide (V.int i=V.int j)=decide (i=j):=by
   by_cases h:i=j
   ·rw[decide_eq_true h,decide_eq_true (by rw[h])]
   ·rw[decide_eq_false h,decide_eq_false λz=>h (by injection z)]
  rw[e]
  exact k _ G1 H (Xq.refl s2) (Yy _)
theorem zd9 {d:Addr}{o:HO}(s:ZS G H)(n:G d=none):ZS G (upd H d o):=λb u e=>by
 rw[ZC (Yj e n)];exact s b u e
end
section
variable {X:Cx}{pins:List (Addr×Obj)}{σ:St}{H:Hp}{s:Shared}{h' : Heap}
theorem Inv.zbs {t' : Nat}{fp:List Addr}{T:Addr}{o:HO}(I:Inv X pins σ H s)(k:∀ b u,b∉fp->s.heap.get? b=some u->h'.get? b=some u)(hf:∀ b∈fp,zaJ X pins H b)
  (hT:s.heap.objs.size<=T) (new:Xp X.prog X.w (upd H T o) h' T o):Inv X pins σ (upd H T o) { s with heap:=h',toks:=t' }:=by
 have nfp:∀ b u,H b=some u->b∉fp:=λb u e z=>by rw[(hf b z).1] at e;cases e
 have nT:∀ b u,H b=some u->b≠T:=λb u e=>ne_of_lt (Nat.lt_of_lt_of_le (I.hok.lt e) hT)
 have nT' : ∀ b u,s.heap.get? b=some u->b≠T:=λb u e=>ne_of_lt (Nat.lt_of_lt_of_le (lt_size e) hT)
 refine I.step (g' := s.gens) (d' := s.drawn) (ch:=fp) (λb hb=>?_) (λb u _ _ hc e _=>k b u hc e) (λb u _ _ hc e _=>⟨u.slots,k b u hc e⟩) (λb u _ e n=>by rw[ZC (nT' b u e)];exact n)
  (λb u hc e=>⟨u,k b u hc e⟩) (λb xs e=>by rw[ZC (nT b _ e)];exact e) (λb u v e=>by rw[ZC (nT b _ e)];exact e) (λb cr e=>by rw[ZC (nT b _ e)];exact e) (λm hm=>?_) (λb u e=>?_) I.bare
 ·obtain ⟨f0,f1,f2,f3,f4,f5⟩:=hf b hb
  exact ⟨f3,f1,f4,f5⟩
 ·obtain ⟨ob,es,ep,ho,r⟩:=hm
  exact ⟨ob,es,ep,k _ ob (λz=>(hf _ z).2.1 rfl) ho,r⟩
 ·by_cases hb:b=T
  ·subst hb;rw[Zz] at e;cases e;exact new
  ·rw[ZC hb] at e
   refine (I.hok b u e).stay (λc v hc q=>k c v ?_ q) (λc q=>by rw[ZC (nT c _ q)];exact q) (λc xs q=>by rw[ZC (nT c _ q)];exact q) λc o u q=>by rw[ZC (nT c _ q)];exact q
   rcases hc with z | z
   ·rw[z];exact nfp b u e
   ·exact nfp c _ z
theorem Inv.turns {t' : Nat}{fp:List Addr}(I:Inv X pins σ H s)(k:∀ b u,b∉fp->s.heap.get? b=some u->h'.get? b=some u)(hf:∀ b∈fp,zaJ X pins H b):Inv X pins σ H { s with heap:=h',toks:=t' }:=by
 have nfp:∀ b u,H b=some u->b∉fp:=λb u e z=>by rw[(hf b z).1] at e;cases e
 refine I.step (g' := s.gens) (d' := s.drawn) (ch:=fp) (λb hb=>?_) (λb u _ _ hc e _=>k b u hc e) (λb u _ _ hc e _=>⟨u.slots,k b u hc e⟩) (λb u _ e n=>n)
  (λb u hc e=>⟨u,k b u hc e⟩) (λb xs e=>e) (λb u v e=>e) (λ_ _ e=>e) (λm hm=>?_) (λb u e=>?_) I.bare
 ·obtain ⟨f0,f1,f2,f3,f4,f5⟩:=hf b hb
  exact ⟨f3,f1,f4,f5⟩
 ·obtain ⟨ob,es,ep,ho,r⟩:=hm
  exact ⟨ob,es,ep,k _ ob (λz=>(hf _ z).2.1 rfl) ho,r⟩
 ·refine (I.hok b u e).stay (λc v hc q=>k c v ?_ q) (λc q=>q) (λc xs q=>q) λc o u q=>q
  rcases hc with z | z
  ·rw[z];exact nfp b u e
  ·exact nfp c _ z
end
section
variable {prog:Program}{w:World}{A:Around}{E:Value->Shared->Prop}{s:Shared}
theorem zcc {it t:Addr}{i:Nat}{items:Array Value}{x:Value}{Q:Value->Shared->Prop}(q1:s.heap.IsTupleIter it t i)(q2:s.heap.IsTuple t items)(q3:items[i]?=some x)
  (k:∀ h',h'.IsTupleIter it t (i+1)->SameBut it s.heap h' -> Q x { s with heap:=h' }):wpAny (model prog w) A (Builtin.SmallTypes.nextOf (.ref it)) Q E s:=by
 obtain ⟨oi,e1,e2,e3⟩:=id q1
 obtain ⟨ot,e4,_,nt,e5⟩:=q2
 unfold Builtin.SmallTypes.nextOf
 refine wpAny_bind (wpAny_callSpecial?_slot (name:=Str.ofString "__next__") q1.typeIs F.slot_tuple_iterator_next (wpAny_call_entry F.slot_tuple_iterator_next q1.typeIs F.entry_tuple_iterator_next ?_ (F.args_tuple_iterator_next_1 _)))
 show wpAny (model prog w) _ (field (.ref it) 0 >>= _) _ _ s
 refine wpAny_bind (wpAny_field e1 e3 (x:=.ref t) rfl ?_)
 rw[if_neg (show ¬ ((Value.ref t==Value.none)=true) from Bool.false_ne_true)]
 refine wpAny_bind (wpAny_field e1 e3 (x:=.int i 0) rfl ?_)
 refine wpAny_bind (wpAny_seqItems e4 e5 ?_)
 simp only[toNat_natCast,q3]
 refine wpAny_bind (wpAny_setField e1 e3 (by simp) (wpAny_pure ⟨x,rfl,wpAny_pure (k _ ⟨_,get?_update_self _ e1 (Obj.isFreed_of_fields (Obj.data_mapFields e3 _)),(Obj.cls_mapFields ..).trans e2,by rw[Obj.data_mapFields e3];simp[rawInt]⟩ (SameBut.update ..))⟩))
theorem JD {it t:Addr}{i:Nat}{items:Array Value}{Q:Value->Shared->Prop}(q0:A.handled=none)(q1:s.heap.IsTupleIter it t i)(q2:s.heap.IsTuple t items)(q3:items[i]?=none)
  (k:∀ h' e,Heap.ExtBut it s.heap h' -> (∃ o,h'.get? e=some o/\o.cls = .type "StopIteration")->E (.ref e) { s with heap:=h' }):wpAny (model prog w) A (Builtin.SmallTypes.nextOf (.ref it)) Q E s:=by
 obtain ⟨oi,e1,e2,e3⟩:=id q1
 obtain ⟨ot,e4,_,nt,e5⟩:=q2
 unfold Builtin.SmallTypes.nextOf
 refine wpAny_bind (wpAny_callSpecial?_slot (name:=Str.ofString "__next__") q1.typeIs F.slot_tuple_iterator_next (wpAny_call_entry F.slot_tuple_iterator_next q1.typeIs F.entry_tuple_iterator_next ?_ (F.args_tuple_iterator_next_1 _)))
 show wpAny (model prog w) _ (field (.ref it) 0 >>= _) _ _ s
 refine wpAny_bind (wpAny_field e1 e3 (x:=.ref t) rfl ?_)
 rw[if_neg (show ¬ ((Value.ref t==Value.none)=true) from Bool.false_ne_true)]
 refine wpAny_bind (wpAny_field e1 e3 (x:=.int i 0) rfl ?_)
 refine wpAny_bind (wpAny_seqItems e4 e5 ?_)
 simp only[toNat_natCast,q3]
 refine wpAny_bind (wpAny_rule (wpAny_bind (wpAny_setField e1 e3 (by simp) (wpAny_bind ?_))))
 simp only[newExc,newTuple]
 refine wpAny_bind (wpAny_newObj_type (wpAny_bind (m:=firstArgMember _ _) (wpAny_of_eq (a:=Value.none) (by first | rfl | (simp only[firstArgMember];rfl)) (wpAny_newObj_type ?_ (by size_fits)))) (by size_fits))
 simp only[raiseNew]
 refine wpAny_bind (wpAny_handled (?_:wpAny _ _ _ _ _ _))
 first | rw[show A.in1.handled=none from q0] | rw[q0]
 exact wpAny_bind (wpAny_pure (wpAny_throw (k _ _ (((SameBut.update ..).extBut.push _).push _) ⟨_,get?_push_size _ rfl,rfl⟩)))
theorem Jk (hh:A.handled=none)(it l:Addr)(hne:l≠it)(items:Array Value):
  Draws prog w A it [it,l] items.size (λi v=>items[i]?=some v) (λi h=>h.IsTupleIter it l i/\h.IsTuple l items) where
 live:=λ_ _ st=>let ⟨o,ho,_⟩:=st.1;⟨o,ho⟩
 frame:=λ_ _ _ st hk=>⟨let ⟨o,ho,r⟩:=st.1;⟨o,hk it (by simp) o ho,r⟩,let ⟨o,ho,r⟩:=st.2;⟨o,hk l (by simp) o ho,r⟩⟩
 item:=λi s Q E hi st hQ=>zcc st.1 st.2 (x:=items[i]) (by simp[hi]) λh' hit' hs' => hQ _ h' s.toks (by simp[hi]) ⟨hit',let ⟨o,ho,r⟩:=st.2;⟨o,(hs'.2 l hne).trans ho,r⟩⟩ hs'
 done:=λs Q E st hE=>JD hh st.1 st.2 (by simp) hE
end
noncomputable def zkd (K:PySem.W.Frag) (a:Addr):It:=
 ⟨λi H=>∃ xs x,SqT K H a xs/\xs[i]?=some x,λi H v H' => ∃ p x,H p=none/\v = .ref p/\H'=upd H p (.tup [.int i,x])/\∀ xs,SqT K H a xs->xs[i]?=some x,λi H=>∃ xs,SqT K H a xs/\xs.length<=i⟩
theorem zbP {h:Heap}{a b:Addr}{o u:Obj}(e:h.get? a=some o)(e' : h.get? b=some u)(n:o.cls≠u.cls):a≠b:=by
 rintro rfl;rw[e] at e';cases e';exact n rfl
theorem zb9 {P:Program}{w:World}{K:PySem.W.Frag}{elts:List Expr}{tk:Nat}{tpos:Pos}(a e it:Addr):Turn P w K (.Tuple elts tk tpos) (zkd K a) [e,it] e (λi h=>(∃ old,IsEnum h e it i old)/\h.IsTupleIter it a i) where
 mem:=by simp
 obj:=λi h st b hb=>by
  obtain ⟨⟨old,he⟩,o,ho,hc,hd⟩:=st
  rcases mem_cons.mp hb with rfl | hb
  ·exact ⟨_,he,λv z=>by cases z⟩
  ·have eb:b=it:=by simpa using hb
   subst eb
   exact ⟨o,ho,λv z=>by rw[hd] at z;cases z⟩
 keep:=λi h h' st k=>by
  obtain ⟨⟨old,he⟩,o,ho,r⟩:=st
  exact ⟨⟨old,k e (by simp) _ he⟩,o,k it (by simp) o ho,r⟩
 item:=by
  intro X hP hw hK hc i pins s σ H E I hf st hg
  subst hP hw hK
  obtain ⟨xs,x,hq,hx⟩:=hg
  obtain ⟨its,rv,p,hz⟩:=I.tuple hq
  obtain ⟨u,hu,ru⟩:=rv.get hx
  obtain ⟨⟨old,he⟩,hit⟩:=st
  obtain ⟨oi,hoi,hci,hdi⟩:=id hit
  obtain ⟨ot,hot,hct,nt,hdt⟩:=id p
  have hei:e≠it:=zbP he hoi (by rw[hci];show Value.type "enumerate" ≠ Value.type "tuple_iterator";decide)
  have hea:e≠a:=zbP he hot (by rw[hct];show Value.type "enumerate" ≠ Value.type "tuple";decide)
  have hai:a≠it:=zbP hot hoi (by rw[hci,hct];decide)
  have hlt:i<its.toArray.size:=by
   have:=(List.getElem?_eq_some_iff.mp hu).1
   simpa using this
  refine wpAny_pyNext_enum_itemD (Jk (show X.A.in1.handled=none from I.ok.hd hc) it a hai its.toArray) he ⟨hit,p⟩ hlt hei (by simp[hei,hea]) λx' h' tk' hP ho hs' hT hsz hk=>?_
  have ex:x'=u:=by
   have hP' : its.toArray[i]?=some x' := hP
   have:its[i]?=some x' := by simpa using hP'
   rw[hu] at this;exact (Option.some.inj this).symm
  subst ex
  refine ⟨_,rfl,wpAny_letOwnedTupleGo_enum ho λh2 he2 hs2=>?_⟩
  have het:e≠s.heap.objs.size:=ne_of_lt (lt_size he)
  have new:Xp X.prog X.w (upd H s.heap.objs.size (.tup [.int i,x])) h2 s.heap.objs.size (.tup [.int i,x]):=
   ⟨by show 2<=sizeLine;decide,[.int i tk',x'],.cons ⟨tk',rfl⟩ (.cons ru .nil),⟨_,(hs2.2 _ (Ne.symm het)).trans hT,rfl,_,rfl⟩,_,(hs2.2 _ (Ne.symm het)).trans hT,rfl⟩
  have kk:∀ b o,b∉[e,it]->s.heap.get? b=some o->h2.get? b=some o:=λb o hb q=>by
   have h1:b≠e:=λz=>hb (by simp[z])
   have h2' : b≠it:=λz=>hb (by simp[z])
   exact (hs2.2 b h1).trans (hk b o h1 h2' q)
  have fresh:=I.hok.fresh (Nat.le_refl s.heap.objs.size)
  refine ⟨.ref s.heap.objs.size,_,I.zbs (t' := tk'+1) kk hf (Nat.le_refl _) new,rfl,⟨_,x,fresh,rfl,rfl,λys hy=>by rw[I.J6 hy hq];exact hx⟩,⟨⟨_,he2⟩,?_⟩,λb hb=>?_⟩
  ·obtain ⟨o3,g1,g2,g3⟩:=hs'.1
   exact ⟨o3,(hs2.2 it (Ne.symm hei)).trans g1,g2,g3⟩
  ·have hb' : b≠s.heap.objs.size:=by
    rcases mem_cons.mp hb with rfl | hb
    ·exact het
    ·rw[mem_singleton.mp hb];exact ne_of_lt (lt_size hoi)
   rw[ZC hb'];exact (hf b hb).1
 done:=by
  intro X hP hw hK hc i pins s σ H E I hf st hg
  subst hP hw hK
  obtain ⟨xs,hq,hx⟩:=hg
  obtain ⟨its,rv,p,hz⟩:=I.tuple hq
  obtain ⟨⟨old,he⟩,hit⟩:=st
  obtain ⟨oi,hoi,hci,hdi⟩:=id hit
  obtain ⟨ot,hot,hct,nt,hdt⟩:=id p
  have hai:a≠it:=zbP hot hoi (by rw[hci,hct];decide)
  have hl:=rv.length
  unfold pyNext
  have hTy:s.TypeIs (.ref e) "enumerate" := ⟨_,he,rfl⟩
  refine wpAny_bind (wpAny_attempt (wpAny_callSpecial?_slot (name:=Str.ofString "__next__") hTy F.slot_enumerate_next (wpAny_call_entry F.slot_enumerate_next hTy F.entry_enumerate_next ?_ (F.args_enumerate_next_1 _))))
  show wpAny (model X.prog X.w) X.A.in1 (field (.ref e) 2 >>= _) _ _ s
  refine wpAny_bind (wpAny_field he rfl (x:=.ref it) rfl (wpAny_bind (JD (I.ok.hd hc) hit p (by simp;omega) λh' y g1 g2=>?_)))
  obtain ⟨o,ho,hcl⟩:=g2
  refine wpAny_bind (wpAny_isInstance (T:= "StopIteration") (b:=true) ⟨o,ho,hcl⟩ isSubtype_stop (wpAny_pure ?_))
  exact ⟨rfl,I.turns (t' := s.toks) (λb u hb q=>g1 b u (λz=>hb (by simp[z])) q) hf⟩
 self:=λ_ _ _ _ _ st h=>by
  obtain ⟨⟨old,he⟩,_⟩:=st
  exact wpAny_pyIter_enum he h
theorem zde (l:Addr)(items:Array Value)(n:Nat)(dct:Option Addr)(sl:Array (Option Value)):
  Meets (Builtin.«enumerate.__new__» ⟨[.type "enumerate",.ref l],[]⟩) (λ_ R s=>s.heap.get? l=some { cls:=.type "tuple",dict:=dct,data:=.seq items n,slots:=sl }/\
   R (.ok (.ret (.ref (s.heap.push { cls:=.type "tuple_iterator",data:=.fields #[.ref l,.int 0 0] }).objs.size)))
    { s with heap:=(s.heap.push { cls:=.type "tuple_iterator",data:=.fields #[.ref l,.int 0 0] }).push { cls:=.type "enumerate",data:=.fields #[.none,.bool false,.ref s.heap.objs.size,rawInt 0,.none,.none] } }):=
 .of_wp λprog w A R s h=>by
  obtain ⟨hp,g,d,tk,os⟩:=s;obtain ⟨q1,h⟩:=h
  have q0:=sub_enumerate
  have q2:Heap.IsTuple (Shared.heap ⟨hp,g,d,tk,os⟩) l items:=⟨_,q1,rfl,n,rfl⟩
  wp_walk using AutoSeq1.wpAny_loadPart' q1
  refine wpAny_stack_any λst0=>wpAny_pure ?_
  split
  ·rename_i c0 _ _ _ _ _
   cases (c0==Value.type "enumerate") <;> (wp_walk using AutoSeq1.wpAny_loadPart' q1,wpAny_pyIter_tuple q2;exact ⟨_,rfl,h⟩)
  ·wp_walk using AutoSeq1.wpAny_loadPart' q1,wpAny_pyIter_tuple q2
   exact ⟨_,rfl,h⟩
section
variable {prog:Program}{w:World}{A:Around}{E:Value->Shared->Prop}{s:Shared}
theorem zck {l:Addr}{items:Array Value}{Q:Value->Shared->Prop}(q2:s.heap.IsTuple l items)
  (h:∀ h',IsEnum h' (s.heap.objs.size+1) s.heap.objs.size 0 .none->h'.IsTupleIter s.heap.objs.size l 0->(∀ b o,s.heap.get? b=some o->h'.get? b=some o)->Q (.ref (s.heap.objs.size+1)) { s with heap:=h' }):
  wpAny (model prog w) A (call (.type "enumerate") [.ref l]) Q E s:=by
 obtain ⟨⟨c,dct,dt,sl⟩,q1,e1,n,e2⟩:=q2
 replace e1:c = .type "tuple" := e1
 replace e2:dt = .seq items n:=e2
 subst e1 e2
 refine callType_new F.called_enumerate (by decide) (F.typeCall_enumerate_1 _) (F.newCall_enumerate_1 _) (λobj=>F.args_object_init_2 obj _) F.entry_enumerate_new (zde l items n dct sl) ⟨q1,?_⟩
 have z1:(s.heap.push { cls:=.type "tuple_iterator",data:=.fields #[.ref l,.int 0 0] }).objs.size=s.heap.objs.size+1:=size_push ..
 show _/\_
 rw[z1]
 have q3:IsEnum ((s.heap.push { cls:=.type "tuple_iterator",data:=.fields #[.ref l,.int 0 0] }).push { cls:=.type "enumerate",data:=.fields #[.none,.bool false,.ref s.heap.objs.size,rawInt 0,.none,.none] }) (s.heap.objs.size+1) s.heap.objs.size 0 .none:=by
  have:=get?_push_size (s.heap.push { cls:=.type "tuple_iterator",data:=.fields #[.ref l,.int 0 0] }) (o:={ cls:=.type "enumerate",data:=.fields #[.none,.bool false,.ref s.heap.objs.size,rawInt 0,.none,.none] }) rfl
  rw[z1] at this;exact this
 exact ⟨⟨_,q3,rfl⟩,h _ q3 ⟨_,get?_push_of_some _ (get?_push_size _ rfl),rfl,rfl⟩ λb o x=>get?_push_of_some _ (get?_push_of_some _ x)⟩
end
section
variable {X:Cx}
def zke (K:PySem.W.Frag)(ta:TA):TI:=fun σ H R=>ta σ H λvs H1=>∃ a,vs=[.ref a]/\(∃ xs,SqT K H1 a xs)/\R (zkd K a) H1
theorem zdZ:bootBuiltins "enumerate" = some (.type "enumerate"):=by decide +kernel
theorem zeE {a:Expr}{ta:TA}{p pos:Pos}{elts:List Expr}{tk:Nat}{tpos:Pos}(hg:Gl X "enumerate")(hm:X.mg "enumerate" = none)(ha:PA X [a] ta)(hs:starEach [a] X.env=[(false,eval a X.env)]:=by rfl):PI X (.Tuple elts tk tpos) (.Call (.Name "enumerate" p) [a] [] pos) (zke X.K ta):=by
 intro pins s σ H R I h
 refine Call_ (WK I hg hm zdZ (PyProof.Rows.callWith_type1 (thn (ha pos pins s σ H _ I h) λus s1 ⟨vs,H1,I1,r1,q1⟩=>?_) hs rfl))
 obtain ⟨l,e,⟨xs,hq⟩,q⟩:=q1
 subst e
 obtain ⟨u,rfl,r⟩:=Vals.one r1
 cases (show u=Value.ref l from r)
 obtain ⟨its,rv,pt,hz⟩:=I1.tuple hq
 refine zck (show s1.heap.IsTuple l its.toArray from pt) λh' he hi hk=>?_
 refine wpAny_pyIter_enum he ⟨s1.heap.objs.size+1,[s1.heap.objs.size+1,s1.heap.objs.size],_,_,H1,rfl,I1.kept (t' := s1.toks) hk,zb9 l _ _,⟨⟨_,he⟩,hi⟩,λb hb=>?_,q⟩
 have hb' : s1.heap.objs.size<=b:=by
  rcases mem_cons.mp hb with rfl | hb
  ·exact le_succ _
  ·rw[mem_singleton.mp hb];exact Nat.le_refl _
 exact I1.zhj hb' (I1.hok.fresh hb')
theorem zeP:bootBuiltins "list" = some (.type "list"):=by decide +kernel
end
section
variable {X:Cx}{K:PySem.W.Frag}
theorem ZQ (e:X.K=K):IxR X (zhf K):=by subst e;exact zhE
theorem Yt (e:X.K=K):IxR X (ziL K):=by subst e;exact zgW
theorem zbo (e:X.K=K):SlR X (zhv K):=by subst e;exact zf5
theorem Ut (e:X.K=K)(hu:X.A.units+64<cLine):OpR X (compareOp .Eq) (zhd K λb=>b):=by subst e;exact zhG hu
theorem JM (e:X.K=K)(hu:X.A.units+64<cLine):OpR X (compareOp .NotEq) (zhd K λb=>!b):=by subst e;exact zhX hu
theorem Z0 (e:X.K=K):Qa X (.builtin "len") (λxs H Q=>∃ p ys,xs=[.ref p]/\(SqL K H p ys\/SqT K H p ys)/\Q (.int ys.length) H):=by subst e;exact zat
theorem Y4 (e:X.K=K):Qa X (.type "tuple") (λxs H Q=>∃ p ys,xs=[.ref p]/\((SqL K H p ys/\∀ l,H l=none->Q (.ref l) (upd H l (.tup ys)))\/(SqT K H p ys/\Q (.ref p) H))):=by subst e;exact UG
end
theorem zct {op:BoolOp}{vs:List Expr}{p:Pos}{es:List Expr}{env:Env}:starEach (.BoolOp op vs p::es) env=(false,eval (.BoolOp op vs p) env)::starEach es env:=rfl
theorem Yg {a:Expr}{op:Operator}{b:Expr}{p:Pos}{es:List Expr}{env:Env}:starEach (.BinOp a op b p::es) env=(false,eval (.BinOp a op b p) env)::starEach es env:=rfl
theorem zb8 {op:UnaryOp}{a:Expr}{p:Pos}{es:List Expr}{env:Env}:starEach (.UnaryOp op a p::es) env=(false,eval (.UnaryOp op a p) env)::starEach es env:=rfl
theorem Xi {a:Expr}{g:List Comprehension}{sc:Scope}{p:Pos}{es:List Expr}{env:Env}:starEach (.ListComp a g sc p::es) env=(false,eval (.ListComp a g sc p) env)::starEach es env:=rfl
theorem zci {a:Expr}{ops:List CmpOp}{cs:List Expr}{p:Pos}{es:List Expr}{env:Env}:starEach (.Compare a ops cs p::es) env=(false,eval (.Compare a ops cs p) env)::starEach es env:=rfl
theorem XX {f:Expr}{as:List Expr}{kw:List Keyword}{p:Pos}{es:List Expr}{env:Env}:starEach (.Call f as kw p::es) env=(false,eval (.Call f as kw p) env)::starEach es env:=rfl
theorem Zx {c:Const}{k:Nat}{p:Pos}{es:List Expr}{env:Env}:starEach (.Constant c k p::es) env=(false,eval (.Constant c k p) env)::starEach es env:=rfl
theorem Zt {a b:Expr}{p:Pos}{es:List Expr}{env:Env}:starEach (.Subscript a b p::es) env=(false,eval (.Subscript a b p) env)::starEach es env:=rfl
theorem Zd {n:Str}{p:Pos}{es:List Expr}{env:Env}:starEach (.Name n p::es) env=(false,eval (.Name n p) env)::starEach es env:=rfl
theorem zgm {as:List Expr}{p:Pos}{es:List Expr}{env:Env}:starEach (.List as p::es) env=(false,eval (.List as p) env)::starEach es env:=rfl
theorem Yc {as:List Expr}{k:Nat}{p:Pos}{es:List Expr}{env:Env}:starEach (.Tuple as k p::es) env=(false,eval (.Tuple as k p) env)::starEach es env:=rfl
section
variable {X:Cx}
def zeN (ta:TA):TE:=fun σ H Q=>ta σ H λvs H1=>∃ j:Int,vs=[.int j]/\0<=j/\j.toNat<=2 ^ 24/\∀ l,H1 l=none->Q (.ref l) (upd H1 l (.lst ((List.range j.toNat).map λ(i:Nat)=>V.int i)))
theorem zam {a:Expr}{ta:TA}{p1 p2 q1 q2:Pos}(hc:X.calm=true)(hg1:Gl X "list")(hm1:X.mg "list" = none)(hg2:Gl X "range")(hm2:X.mg "range" = none)(ha:PA X [a] ta)
  (hs1:starEach [.Call (.Name "range" p2) [a] [] q2] X.env=[(false,eval (.Call (.Name "range" p2) [a] [] q2) X.env)]:=by rfl) (hs2:starEach [a] X.env=[(false,eval a X.env)]:=by rfl):
  PE X (.Call (.Name "list" p1) [.Call (.Name "range" p2) [a] [] q2] [] q1) (zeN ta):=by
 intro pins s σ H Q I h
 refine wpAny_Call_Name_kw (WK I hg1 hm1 zeP (PyProof.Rows.callWith_type1 ?_ hs1 rfl))
 rw[hs1]
 show wpAny _ _ (spliced [(false,eval (.Call (.Name "range" p2) [a] [] q2) X.env)]) _ _ s
 refine spliced_cons (wpAny_Call_Name_kw (WK I hg2 hm2 boot_range (PyProof.Rows.callWith_type1 (thn (ha q2 pins s σ H _ I h) λus s1 ⟨vs,H1,I1,r1,q1⟩=>?_) hs2 rfl)))
 obtain ⟨j,e,j0,j1,q⟩:=q1
 subst e
 obtain ⟨u,rfl,r⟩:=Vals.one r1
 obtain ⟨t,rfl⟩:=r
 refine call_range_1 (spliced_nil ?_)
 have hsz:∀ o:Obj,(s1.heap.push o).objs.size=s1.heap.objs.size+1:=λo=>size_push ..
 refine call_list_range (n:=j.toNat) (I.ok.hd hc) (IsRange.new ..) (small_one (by omega) (by omega) (by omega) (by omega)) (by rw[rangeSize_one];split <;> omega) j1 λh' tk acc c' hk hS hacc=>?_
 dsimp only at hk hS
 rw[hsz] at hS ⊢
 have hold:∀ b o,s1.heap.get? b=some o->h'.get? b=some o:=λb o e=>hk b o (get?_push_of_some _ e)
 have hv:Vals ((List.range j.toNat).map λ(i:Nat)=>V.int i) acc.toList:=by
  obtain ⟨z1,z2⟩:=hacc
  have key:∀ (n:Nat) (l:List Value),l.length=n->(∀ i v,l[i]?=some v->∃ t,v=Value.int (i:Nat) t)->Vals ((List.range n).map λ(i:Nat)=>V.int i) l:=by
   intro n
   induction n with
   | zero=>intro l hl _;cases l with
    | nil=>exact .nil
    | cons _ _=>cases hl
   | succ n ih=>
    intro l hl hi
    have e1:l=l.dropLast++[l[n]'(by omega)]:=by
     have hne:l≠[]:=by intro z;subst z;cases hl
     have:=(List.dropLast_concat_getLast hne).symm
     rw[List.getLast_eq_getElem] at this
     simpa [hl] using this
    rw[e1,range_succ,map_append]
    refine Vals.append (ih l.dropLast (by simp[hl]) λi v hv=>?_) ?_
    ·refine hi i v ?_
     have hlt:=(List.getElem?_eq_some_iff.mp hv).1
     rw[List.getElem?_dropLast] at hv
     split at hv
     ·exact hv
     ·cases hv
    ·obtain ⟨t,e⟩:=hi n (l[n]'(by omega)) (List.getElem?_eq_getElem (by omega))
     exact .cons ⟨t,e⟩ .nil
  refine key j.toNat acc.toList (by simp[z1]) λi v hv=>?_
  obtain ⟨t,e⟩:=z2 i v (by simpa using hv)
  exact ⟨t,by rw[e];simp⟩
 have hn:=I1.hok.fresh (le_succ s1.heap.objs.size)
 have z24:(2:Nat) ^ 24<=sizeLine:=by decide
 exact ⟨.ref (s1.heap.objs.size+1),_,I1.laid (h' := h') (t' := tk) (o:=.lst ((List.range j.toNat).map λ(i:Nat)=>V.int i)) hold (le_succ _) ⟨by simp;omega,acc.toList,c',hv,hS⟩,rfl,q _ hn⟩
theorem zfP {K:PySem.W.Frag}{σ:St}{G:Hp}{t:TA}{j:Int}(h:EvA K t σ G [.int j])(h0:0<=j)(h1:j.toNat<=2 ^ 24):Ev K (zeN t) σ G (.list ((List.range j.toNat).map λ(i:Nat)=>PyData.int i)):=
 λG1 H s1 s2 Q k=>h G1 H s1 s2 _ λvs G2 H2 g2 hv=>by
  obtain ⟨y,ys,rfl,hy,r⟩:=hv.cons
  rw[r.nil,hy.int]
  refine ⟨j,rfl,h0,h1,λl hl=>?_⟩
  have g:=Yl (o:=.lst ((List.range j.toNat).map λ(i:Nat)=>V.int i)) g2.gh hl
  refine k _ _ _ (g2.trans g) (YZ Zz ?_)
  have e1:((List.range j.toNat).map λ(i:Nat)=>V.int i)=((List.range j.toNat).map λ(i:Nat)=>(i:Int)).map V.int:=by rw[map_map];rfl
  have e2:((List.range j.toNat).map λ(i:Nat)=>PyData.int i)=((List.range j.toNat).map λ(i:Nat)=>(i:Int)).map PyData.int:=by rw[map_map];rfl
  rw[e1,e2];exact J7 _
end
noncomputable def tyN:PyData->String
 | .none=> "NoneType"
 | .bool _=> "bool"
 | .int _=> "int"
 | .str _=> "str"
 | .list _=> "list"
 | .tuple _=> "tuple"
 | .dict _=> "dict"
def zj3 (K:PySem.W.Frag):List V->Hp->VK->Prop:=λxs H Q=>∃ G x d n b,xs=[x,.ty n]/\ZS G H/\Dat K G x d/\kitOne K (.type (tyN d)) (.type n)=some b/\Q (.bl b) H
theorem zek {X:Cx}{K:PySem.W.Frag}(eK:X.K=K):Qa X (.builtin "isinstance") (zj3 K):=by
 subst eK
 intro pins s σ H xs us Q I r h
 obtain ⟨G,x,d,n,b,rfl,sg,hd,e,q⟩:=h
 obtain ⟨u,w',rfl,rx,ry⟩:=vals2 r
 cases (show w'=Value.type n from ry)
 have fin:∀ tk,EP X pins σ Q (.bool b) { s with toks:=tk }:=λtk=>⟨.bl b,H,I.tok _,rfl,q⟩
 cases d with
 | none=>rw[hd.non] at rx;exact JQ I rx .non e fin
 | bool y=>rw[hd.bl] at rx;exact JQ I rx (.bl y) e fin
 | int i=>rw[hd.int] at rx;exact JQ I rx (.int i) e fin
 | str y=>rw[hd.str] at rx;exact JQ I rx (.str y) e fin
 | list ds=>
  obtain ⟨p,ys,rfl,hp,_⟩:=hd.lst
  cases (show u=Value.ref p from rx)
  obtain ⟨its,_,⟨o,n',e1,c,_⟩,_⟩:=I.list (SqL.of (sg _ _ hp))
  exact kia_one kitx_list I.kIn ⟨o,e1,c⟩ e (λz=>nomatch z) fin
 | tuple ds=>
  obtain ⟨p,ys,rfl,hp,_⟩:=hd.tup
  cases (show u=Value.ref p from rx)
  obtain ⟨its,_,⟨o,e1,c,_⟩,_⟩:=I.tuple (sg.tup hp)
  exact kia_one kitx_tuple I.kIn ⟨o,e1,c⟩ e (λz=>nomatch z) fin
 | dict _=>unfold Dat at hd;exact hd.elim
theorem zi9 {K:PySem.W.Frag}{σ:St}{G:Hp}{ta:TE}{d:PyData}{n:String}{b:Bool}(ha:Ev K ta σ G d)(e:kitOne K (.type (tyN d)) (.type n)=some b):Ev K (tCB (zj3 K) (Xc ta (Xc (tC (.ty n)) QT))) σ G (.bool b):=
 λG1 H s1 s2 Q k=>ha G1 H s1 s2 _ λx G2 H2 g2 hx=>⟨G2,x,d,n,b,rfl,g2.gh,hx,e,k _ G2 H2 g2 (Yy b)⟩
theorem za8:fillsNumberSlot (.type "tuple") "mul" = pure false:=
 PySem.fillsNumberSlot_seq (id:= "tuple.__mul__") (r:=some (.builtin "tuple.__rmul__")) F.slot_tuple_mul.lookup (by decide +kernel) F.slot_tuple_rmul.lookup (by decide +kernel)
theorem zgw:seqRepeat? (.type "tuple")=pure (some (.builtin "tuple.__mul__")):=by
 unfold seqRepeat?
 rw[PySem.seqSlot_of (T:= "tuple") (name:= "__mul__") (id:= "tuple.__mul__") F.slot_tuple_mul.lookup (by decide +kernel),PySem.seqSlot_of (T:= "tuple") (name:= "__rmul__") (id:= "tuple.__rmul__") F.slot_tuple_rmul.lookup (by decide +kernel)]
 rfl
theorem zad (a:Int)(t:Tok)(l:Addr)(items:Array Value)(n:Nat)(dct:Option Addr)(sl:Array (Option Value)):
  Meets (Builtin.«int.__rmul__» ⟨[.int a t,.ref l],[]⟩) (λ_ R s=>s.heap.get? l=some { cls:=.type "tuple",dict:=dct,data:=.seq items n,slots:=sl }/\R (.ok (.ret Value.notImplemented)) s):=
 .of_wp λprog w A R s h=>by obtain ⟨hp,g,d,tk,os⟩:=s;obtain ⟨q1,h⟩:=h;wp_walk;exact ⟨_,rfl,h⟩
theorem zcC (l:Addr)(items:Array Value)(n:Nat)(t:Tok)(dct:Option Addr)(sl:Array (Option Value)):
  Meets (Builtin.«tuple.__mul__» ⟨[.ref l,.int 1 t],[]⟩) (λ_ R s=>s.heap.get? l=some { cls:=.type "tuple",dict:=dct,data:=.seq items n,slots:=sl }/\R (.ok (.ret (Value.ref l))) s):=
 .of_wp λprog w A R s h=>by
  obtain ⟨hp,g,d,tk,os⟩:=s;obtain ⟨q1,h⟩:=h
  wp_walk using AutoSeq1.wpAny_loadPart' q1
  exact ⟨_,rfl,h⟩
theorem zay (a:Array Value):∀ (k:Nat) (acc:Array Value),(List.foldl (λx1 x2=>x1++x2) acc (List.replicate k a)).size=acc.size+k*a.size
 | 0,acc=>by simp
 | k+1,acc=>by rw[replicate_succ,foldl_cons,zay a k,Array.size_append,succ_mul];omega
theorem zdf (l:Addr)(items:Array Value)(n:Nat)(x:Int)(t:Tok)(dct:Option Addr)(sl:Array (Option Value))(h2:2<=x)(h3:x<=1000)(he:items.isEmpty=false)(hz:items.size<=1000):
  Meets (Builtin.«tuple.__mul__» ⟨[.ref l,.int x t],[]⟩) (λ_ R s=>s.heap.get? l=some { cls:=.type "tuple",dict:=dct,data:=.seq items n,slots:=sl }/\
   R (.ok (.ret (Value.ref s.heap.objs.size))) { s with heap:=s.heap.push { cls:=.type "tuple",data:=.seq ((List.replicate x.toNat items).foldl (· ++ ·) #[]) } }):=
 .of_wp λprog w A R s h=>by
  obtain ⟨hp,g,d,tk,os⟩:=s;obtain ⟨q1,h⟩:=h
  have b1:(decide (x < -(2 ^ 63))||decide (x ≥ 2 ^ 63))=false:=by
   rw[decide_eq_false (by omega),decide_eq_false (by omega)];rfl
  have b2:(items.isEmpty||x==1)=false:=by rw[he,Bool.false_or];exact beq_eq_false_iff_ne.mpr (by omega)
  have b3:(decide (x<=0)||items.isEmpty)=false:=by rw[he,decide_eq_false (by omega)];rfl
  have hs:items.size*x.toNat<=1000*1000:=mul_le_mul hz (by omega)
  have hs' : ((items.size:Nat):Int)*x=((items.size*x.toNat:Nat):Int):=by
   rw[Int.natCast_mul];congr 1;omega
  have b4:decide (((items.size:Nat):Int)*x>(2 ^ 63-1) / 8)=false:=decide_eq_false (by rw[hs'];omega)
  wp_walk using AutoSeq1.wpAny_loadPart' q1
  rw[if_neg (by rw[b1];exact Bool.false_ne_true)]
  wp_walk using AutoSeq1.wpAny_loadPart' q1
  rw[if_neg (by rw[b2];exact Bool.false_ne_true)]
  wp_walk using AutoSeq1.wpAny_loadPart' q1
  rw[if_neg (by rw[b3];exact Bool.false_ne_true)]
  wp_walk using AutoSeq1.wpAny_loadPart' q1
  rw[if_neg (of_decide_eq_false b4)]
  wp_walk using AutoSeq1.wpAny_loadPart' q1
  have zl:(1000:Nat)*1000<=sizeLine:=by decide
  have b5:Builtin.Tuple.tupleTooMany (((items.size:Nat):Int)*x)=false:=by
   unfold Builtin.Tuple.tupleTooMany
   exact decide_eq_false (by rw[hs'];omega)
  rw[if_neg (by rw[b5];exact Bool.false_ne_true)]
  wp_walk using AutoSeq1.wpAny_loadPart' q1
  rw[if_neg (show ¬ (List.foldl (λx1 x2=>x1++x2) #[] (List.replicate x.toNat items)).size>sizeLine by rw[zay];simp;rw[Nat.mul_comm];omega)]
  wp_walk
  exact ⟨_,rfl,h⟩
open PySem PySem.Spec PyProof.Rows StbG
section
variable {prog:Program}{w:World}{A:Around}{E:Value->Shared->Prop}{s:Shared}
def YG (h:Heap)(v:Value)(a b:Int):Prop:=∃ p o t u n,v = .ref p/\h.get? p=some o/\o.cls = .type "tuple" /\ o.data = .seq #[.int a t,.int b u] n
theorem zgU {x y:Value}{a b c d:Int}{Q:Bool->Shared->Prop}(hx:YG s.heap x a b)(hy:YG s.heap y c d)(h:Q (decide (a<c\/(a=c/\b<d))) s):wpAny (model prog w) A (keyLt' (tuples' true) x y) Q E s:=by
 obtain ⟨p,o,t,u,n,rfl,e1,_,d1⟩:=hx
 obtain ⟨p2,o2,t2,u2,n2,rfl,e2,_,d2⟩:=hy
 refine PySem.W.kat_lt e1 d1 e2 d2 ?_
 show PySem.W.KatLex prog w A true _ Q [(.int a t,.int c t2),(.int b u,.int d u2)] 0 s
 refine kat_cons (wpAny_eqBool_int (kat_go (λz=>kat_yes (kat_cons (wpAny_eqBool_int (kat_go (λz2=>kat_yes (PySem.W.kat_nil ?_)) λz2=>kat_no (PySem.W.kat_one _ _ (lt_int ?_)))))) λz=>kat_no (oneLt_int ?_)))
 ·have e1:a=c:=by simpa using z
  have e2:b=d:=by simpa using z2
  have:decide (a<c\/(a=c/\b<d))=false:=decide_eq_false (by omega)
  rw[this] at h
  exact h
 ·have e1:a=c:=by simpa using z
  have:decide (a<c\/(a=c/\b<d))=decide (b<d):=decide_eq_decide.mpr (by omega)
  rw[this] at h
  exact h
 ·have e1:a≠c:=by simpa using z
  have:decide (a<c\/(a=c/\b<d))=decide (a<c):=decide_eq_decide.mpr (by omega)
  rw[this] at h
  exact h
theorem zdJ {ρ:Keyed->Int}{vs:List Value}(h:∀ p∈(vs.toArray.zip vs.toArray).toList,∃ a b,YG s.heap p.1 a b/\0<=b/\b<1000/\ρ p=a*1000+b):Cmp prog w A E s ρ (tuples' true) (vs.toArray.zip vs.toArray):=by
 intro st i j Q hB hi hj hq
 have at_:∀ k,k<(vs.toArray.zip vs.toArray).size->∃ x q a b,(arrOf st)[k]?=some (x,q)/\YG s.heap x a b/\0<=b/\b<1000/\R ρ (arrOf st) k=a*1000+b:=λk hk=>by
  have hk' : k<(arrOf st).size:=by rw[hB.size];exact hk
  have hm:(arrOf st)[k]∈(vs.toArray.zip vs.toArray).toList:=(perm_iff_toList_perm.mp hB.perm).mem_iff.mp (by simp)
  obtain ⟨a,b,hp,b0,b1,e⟩:=h _ hm
  have e' : (arrOf st)[k]?=some (arrOf st)[k]:=getElem?_pos _ k hk'
  exact ⟨(arrOf st)[k].1,(arrOf st)[k].2,a,b,e',hp,b0,b1,by unfold R;rw[e'];exact e⟩
 obtain ⟨x,p,a,b,ei,hx,x0,x1,ri⟩:=at_ i hi
 obtain ⟨y,q,c,d,ej,hy,y0,y1,rj⟩:=at_ j hj
 rw[ri,rj] at hq
 have e:decide (a*1000+b<c*1000+d)=decide (a<c\/(a=c/\b<d)):=decide_eq_decide.mpr (by omega)
 rw[e] at hq
 rw[ltAt'_eq]
 refine wpS_bind (wpS_get ?_)
 show wpS _ _ _ _ (do let x ← elem' (arrOf st) i;let y ← elem' (arrOf st) j;lt' x y) Q st
 rw[elem'_eq,elem'_eq,ei,ej]
 refine wpS_bind (wpS_pure (wpS_bind (wpS_pure ?_)))
 rw[lt'_eq]
 refine wpS_bind (wpS_get ?_)
 rw[hB.kind]
 exact wpS_bind (wpS_lift (wpAny_attempt (zgU hx hy ⟨rfl,wpS_pure hq⟩)))
theorem zbZ {vs:List Value}{Q:SortKind->Shared->Prop}(h:∀ v∈vs,∃ a b,YG s.heap v a b)(hne:vs≠[])(hq:Q (tuples' true) s):wpAny (model prog w) A (keyKind' vs.toArray) Q E s:=by
 have key:∀ vs:List Value,(∀ v∈vs,∃ a b,YG s.heap v a b)->∃ fs:List Value,KatTups s.heap vs fs/\fs.length=vs.length/\∀ f∈fs,∃ a t,f = .int a t:=by
  intro vs
  induction vs with
  | nil=>intro _;exact ⟨[],.nil,rfl,λf hf=>by cases hf⟩
  | cons v r ih=>
   intro h
   obtain ⟨fs,k1,k2,k3⟩:=ih λz hz=>h z (mem_cons_of_mem _ hz)
   obtain ⟨a,b,p,o,t,u,n,rfl,e1,c1,d1⟩:=h v mem_cons_self
   exact ⟨.int a t::fs,KatTups.cons e1 c1 d1 rfl k1,by rw[length_cons,length_cons,k2],λf hf=>by
    rcases mem_cons.mp hf with rfl | hf
    ·exact ⟨a,t,rfl⟩
    ·exact k3 f hf⟩
 obtain ⟨fs,k1,k2,k3⟩:=key vs h
 refine PySem.W.kat_kind (T:=.type "int") k1 (by rw[k2];cases vs with | nil=>exact absurd rfl hne | cons=>simp) (λf hf=>?_) (by decide) hq
 obtain ⟨a,t,rfl⟩:=k3 f hf
 exact PySem.W.Looks.of_pure rfl
noncomputable def pN (h:Heap) (v:Value):Int:=match v with
 | .ref p=>match h.get? p with
  | some o=>match o.data with
   | .seq xs _=>numOf (xs.getD 0 .none)*1000+numOf (xs.getD 1 .none)
   | _=>0
  | none=>0
 | _=>0
theorem zew {h:Heap}{v:Value}{a b:Int}(x:YG h v a b):pN h v=a*1000+b:=by
 obtain ⟨p,o,t,u,n,rfl,e1,_,d1⟩:=x
 unfold pN
 dsimp only
 rw[e1]
 show (match o.data with | .seq xs _=>numOf (xs.getD 0 .none)*1000+numOf (xs.getD 1 .none) | _=>0)=_
 rw[d1]
 rfl
theorem YG.keep {h h' : Heap}{v:Value}{a b:Int}(x:YG h v a b)(k:∀ b o,h.get? b=some o->h'.get? b=some o):YG h' v a b:=by
 obtain ⟨p,o,t,u,n,e,e1,r⟩:=x
 exact ⟨p,o,t,u,n,e,k _ _ e1,r⟩
abbrev pz (vs:List Value):Array Keyed:=vs.toArray.zip vs.toArray
theorem Vy (vs:List Value):(pz vs).size=vs.length:=by simp[pz]
theorem zdd {vs:List Value}{p:Keyed}(h:p∈(pz vs).toList):p.1∈vs/\p.2=p.1:=by
 have e:(pz vs).toList=vs.zip vs:=by simp[pz]
 rw[e] at h
 obtain ⟨i,hi⟩:=List.getElem?_of_mem h
 rw[List.getElem?_zip_eq_some] at hi
 exact ⟨mem_of_getElem? hi.1,Option.some.inj (hi.2.symm.trans hi.1)⟩
theorem Q6 {a:Addr}{vs:List Value}{n:Nat}{ρ:Keyed->Int}{P:PySem.Fin->Shared->Prop}(ho:s.heap.get? a=some (seqObj "list" vs.toArray n))(hv:∀ v∈vs,∃ x y,YG s.heap v x y/\0<=y/\y<1000/\∀ q,ρ (v,q)=x*1000+y)(z64:vs.length<64)
  (k:∀ st' : SortSt,(arrOf st').Perm (pz vs)->Up ρ (λ_=>0) (arrOf st') (pz vs).size->P (.done (.ret .none)) { s with heap:=sortedHeap s.heap a vs ((arrOf st').map (·.2)) }):wpAny (model prog w) A (Builtin.«list.sort» ⟨[.ref a],[]⟩) P E s:=by
 have la:a<s.heap.objs.size:=lt_size ho
 have zl:(64:Nat)<=sizeLine:=by decide
 obtain ⟨e1,ho1⟩:∃ e1,(s.heap.update a (Obj.mapSeq λ_=>#[])).get? a=some (seqObj "list" #[] e1):=⟨_,get?_update_seq ho λ_=>#[]⟩
 have ho6:(((s.heap.update a (Obj.mapSeq λ_=>#[])).push (seqObj "tuple" vs.toArray 0)).push (seqObj "list" #[] 0)).get? a=some (seqObj "list" #[] e1):=get?_push_of_some _ (get?_push_of_some _ ho1)
 rw[list_sort_plain]
 refine wpAny_bind (listItems_at ho rfl (wpAny_bind (listUpdate_at ho rfl ?_ (by rw[size_toArray];omega) (zero_le _))))
 refine wpAny_bind (seqEpoch_at ho1 rfl (wpAny_bind (wpAny_newTuple ?_ (by show vs.toArray.toList.length<=_;rw[List.toList_toArray];omega))))
 refine wpAny_bind (wpAny_newList (wpAny_holding ?_) (zero_le _))
 show wpAny (model prog w) A _ P E { s with heap:=((s.heap.update a (Obj.mapSeq λ_=>#[])).push (seqObj "tuple" vs.toArray 0)).push (seqObj "list" #[] 0) }
 have keep:∀ v∈vs,∀ x y,YG s.heap v x y->YG (((s.heap.update a (Obj.mapSeq λ_=>#[])).push (seqObj "tuple" vs.toArray 0)).push (seqObj "list" #[] 0)) v x y:=λv hv' x y pa=>by
  obtain ⟨p,o,t,u,m,e,e1',c1,d1⟩:=pa
  have npa:a≠p:=λz=>by
   subst z
   rw[ho] at e1'
   have eo:=Option.some.inj e1'
   rw[← eo] at c1
   have c2:Value.type "list" = Value.type "tuple" := c1
   injection c2 with c2
   exact absurd c2 (by decide)
  exact ⟨p,o,t,u,m,e,get?_push_of_some _ (get?_push_of_some _ ((get?_update_other s.heap _ npa).trans e1')),c1,d1⟩
 have osz:∀ st' : SortSt,(arrOf st').Perm (pz vs)->((arrOf st').map (·.2)).size<=sizeLine+1:=λst' hp=>by rw[Array.size_map,hp.size_eq,Vy];omega
 dsimp only
 by_cases h2:vs.toArray.size<2
 ·rw[if_pos h2,if_pos h2]
  refine wpAny_bind (wpAny_pure ?_)
  rw[StateT.run_pure]
  refine wpAny_bind (wpAny_pure ?_)
  dsimp only
  refine wpAny_bind (seqEpoch_at ho6 rfl (wpAny_bind (listUpdate_at ho6 rfl ?_ (zero_le _) (osz (SortSt.mk' general' (pz vs) #[] 7 none) (Array.Perm.refl _)))))
  simp only[bne_self_eq_false,false_eq_true,if_false]
  refine wpAny_pure (k (SortSt.mk' general' (pz vs) #[] 7 none) (Array.Perm.refl _) λi j hij hj=>?_)
  rw[Vy] at hj
  rw[size_toArray] at h2
  omega
 ·rw[if_neg h2,if_neg h2]
  rw[size_toArray] at h2
  refine wpAny_bind (zbZ (λv hv' => ?_) (λz=>by subst z;simp at h2) ?_)
  ·obtain ⟨x,y,pa,_⟩:=hv v hv'
   exact ⟨x,y,keep v hv' x y pa⟩
  refine wpAny_bind (wpAny_mono (zh8 (ρ:=ρ) (τ:=λ_=>0) (κ:=tuples' true) (a₀:=pz vs) (st:=SortSt.mk' (tuples' true) (pz vs) #[] 7 none) (Q:=λ_ st' => (arrOf st').Perm (pz vs)/\failedOf st'=none/\Up ρ (λ_=>0) (arrOf st') (pz vs).size)
   (zdJ λp hp=>?_) ⟨Array.Perm.refl _,rfl,rfl,rfl⟩ (by rw[Vy];omega) (by rw[Vy];exact z64) (λi j _ _ _=>?_) λst' a1 a2 a3=>⟨a1,a2,a3⟩) ?_ λ_ _ e=>e)
  ·obtain ⟨m1,m2⟩:=zdd hp
   obtain ⟨x,y,pa,y0,y1,e⟩:=hv _ m1
   exact ⟨x,y,keep _ m1 x y pa,y0,y1,e p.2⟩
  ·unfold R
   split <;> split <;> exact Int.le_refl _
  rintro ⟨⟨⟩,st'⟩ s' ⟨rfl,hp,hf,hu⟩
  dsimp only
  refine wpAny_bind (seqEpoch_at ho6 rfl (wpAny_bind (listUpdate_at ho6 rfl ?_ (zero_le _) (osz st' hp))))
  rw[hf]
  simp only[bne_self_eq_false,false_eq_true,if_false]
  exact wpAny_pure (k st' hp hu)
theorem UW {l:Addr}{vs:List Value}{ρ:Keyed->Int}{Q:Value->Shared->Prop}(hl:s.heap.IsList l vs.toArray)(hv:∀ v∈vs,∃ x y,YG s.heap v x y/\0<=y/\y<1000/\∀ q,ρ (v,q)=x*1000+y)(z64:vs.length<64)
  (k:∀ st' : SortSt,(arrOf st').Perm (pz vs)->Up ρ (λ_=>0) (arrOf st') (pz vs).size->Q (.ref (s.heap.objs.size+1)) { s with heap:=sortedAll s.heap vs ((arrOf st').map (·.2)) }):wpAny (model prog w) A (call (.builtin "sorted") [.ref l]) Q E s:=by
 have zl:(64:Nat)<=sizeLine:=by decide
 refine Calls.call_function_entry kind_sorted plain_sorted entry_sorted (args_sorted1 _) (show wpAny _ _ (Builtin.«sorted» _) _ _ _ from ?_)
 unfold Builtin.«sorted»
 refine wpAny_bind (m:=checkCount "sorted" 1 1 _) (wpAny_pure (wpAny_bind (collect_list hl (wpAny_bind (wpAny_newList ?_ (by omega))) (by omega))))
 have zs:((s.heap.push (seqObj "list" #[] 0)).update s.heap.objs.size (Obj.mapSeq (· ++ vs.toArray))).objs.size=s.heap.objs.size+1:=by rw[Heap.size_update,size_push']
 have oL:(((s.heap.push (seqObj "list" #[] 0)).update s.heap.objs.size (Obj.mapSeq (· ++ vs.toArray))).push (seqObj "list" vs.toArray 0)).get? (s.heap.objs.size+1)=some (seqObj "list" vs.toArray 0):=by rw[← zs];exact get?_push_size _ rfl
 show wpAny _ _ _ _ _ { s with heap:=((s.heap.push (seqObj "list" #[] 0)).update s.heap.objs.size (Obj.mapSeq (· ++ vs.toArray))).push (seqObj "list" vs.toArray 0) }
 rw[zs]
 refine wpAny_bind (wpAny_holding (wpAny_call_entry PyProof.Rows.slot_list_sort ⟨_,oL,rfl⟩ PyProof.Rows.entry_list_sort (Q6 oL (λv hv' => ?_) z64 λst' a1 a2=>⟨_,rfl,wpAny_pure ⟨_,rfl,k st' a1 a2⟩⟩) (args_list_sort _)))
 obtain ⟨x,y,pa,r⟩:=hv v hv'
 exact ⟨x,y,pa.keep λb o e=>get?_push_of_some _ ((get?_update_other _ _ (ne_of_gt (lt_size e))).trans (get?_push_of_some _ e)),r⟩
end
theorem zau {α β:Type}{f:α->β}{a b:List β}(h:a.Perm b):∀ {Z:List α},Z.map f=b->∃ Z' : List α,Z'.Perm Z/\Z'.map f=a:=by
 induction h with
 | nil=>intro Z e;exact ⟨Z,.refl _,e⟩
 | cons x h ih=>
  intro Z e
  cases Z with
  | nil=>cases e
  | cons z Z=>
   injection e with e1 e2
   obtain ⟨Z',p,e3⟩:=ih e2
   exact ⟨z::Z',p.cons z,by rw[map_cons,e1,e3]⟩
 | swap x y l=>
  intro Z e
  match Z,e with
  | z::z2::Z,e=>
   injection e with e1 e2
   injection e2 with e2 e3
   exact ⟨z2::z::Z,.swap _ _ _,by rw[map_cons,map_cons,e1,e2,e3]⟩
 | trans h1 h2 i1 i2=>
  intro Z e
  obtain ⟨Z2,p2,e2⟩:=i2 e
  obtain ⟨Z1,p1,e1⟩:=i1 e2
  exact ⟨Z1,p1.trans p2,e1⟩
abbrev dPr (p:Int×Int):PyData:=.tuple [.int p.1,.int p.2]
def zeS (K:PySem.W.Frag):List V->Hp->VK->Prop:=λxs H Q=>∃ (G:Hp) (p:Addr) (vs:List V) (ps:List (Int×Int)),xs=[.ref p]/\ZS G H/\SqL K H p vs/\Yr K G vs (ps.map dPr)/\ps.length<64/\(∀ q∈ps,0<=q.2/\q.2<1000)/\
 ∀ (l:Addr) (us:List V) (qs:List (Int×Int)),H l=none->qs.Perm ps->Yr K G us (qs.map dPr)->qs.Pairwise (λa b=>a.1*1000+a.2<=b.1*1000+b.2)->Q (.ref l) (upd H l (.lst us))
section
variable {X:Cx}{pins:List (Addr×Obj)}{σ:St}{H G:Hp}{s:Shared}
theorem zg6 (I:Inv X pins σ H s)(sg:ZS G H){v:V}{u:Value}{q:Int×Int}(r:RelV v u)(h:Dat X.K G v (dPr q)):YG s.heap u q.1 q.2:=by
 obtain ⟨p,xs,rfl,hp,hxs⟩:=h.tup
 obtain ⟨y,ys,rfl,hy,hxs⟩:=hxs.cons
 obtain ⟨z,zs,rfl,hz,hxs⟩:=hxs.cons
 cases hxs.nil
 cases hy.int
 cases hz.int
 obtain rfl:u=Value.ref p:=r
 obtain ⟨its,rv,⟨o,e1,c1,n,d1⟩,_⟩:=I.tuple (sg.tup hp)
 cases rv with
 | cons r1 rv=>
  cases rv with
  | cons r2 rv=>
   cases rv
   obtain ⟨t,rfl⟩:=r1
   obtain ⟨t2,rfl⟩:=r2
   exact ⟨p,o,t,t2,n,rfl,e1,c1,d1⟩
theorem triples (I:Inv X pins σ H s)(sg:ZS G H):∀ {vs:List V}{its:List Value}{ps:List (Int×Int)},Vals vs its->Yr X.K G vs (ps.map dPr)->∃ Z:List (Value×V×(Int×Int)),Z.map (·.1)=its/\Z.map (·.2.2)=ps/\∀ z∈Z,RelV z.2.1 z.1/\Dat X.K G z.2.1 (dPr z.2.2)/\YG s.heap z.1 z.2.2.1 z.2.2.2
 | _,_,[],.nil,_=>⟨[],rfl,rfl,λz hz=>by cases hz⟩
 | _,_,_::_,.nil,h=>by obtain ⟨_,_,e,_⟩:=h.cons;cases e
 | _,_,[],.cons _ _,h=>by cases h.nil
 | v0::vs0,u0::us0,q::ps,.cons r rv,h=>by
  obtain ⟨y,ys,e,hy,h'⟩:=h.cons
  cases e
  obtain ⟨Z,e1,e2,e3⟩:=triples I sg rv h'
  refine ⟨(u0,v0,q)::Z,by rw[map_cons,e1],by rw[map_cons,e2],λz hz=>?_⟩
  rcases mem_cons.mp hz with rfl | hz
  ·exact ⟨r,hy,zg6 I sg r hy⟩
  ·exact e3 z hz
theorem zaG {K:PySem.W.Frag}(e:X.K=K):Qa X (.builtin "sorted") (zeS K):=by
 subst e
 intro pins s σ H xs us Q I r h
 obtain ⟨G,p,vs,ps,rfl,sg,hq,hd,h64,hps,k⟩:=h
 obtain ⟨u,rfl,rx⟩:=vals1 r
 cases rx
 obtain ⟨its,r',pl,hz⟩:=I.list hq
 have hlen:=r'.length
 have hl2:=hd.length
 rw[length_map] at hl2
 obtain ⟨Z,z1,z2,z3⟩:=triples I sg r' hd
 have hv:∀ v∈its,∃ x y,YG s.heap v x y/\0<=y/\y<1000/\∀ q:Value,(λp:Keyed=>pN s.heap p.1) (v,q)=x*1000+y:=λv hv=>by
  rw[← z1] at hv
  obtain ⟨z,hz,rfl⟩:=mem_map.mp hv
  obtain ⟨_,_,pa⟩:=z3 z hz
  have hq2:=hps z.2.2 (by rw[← z2];exact mem_map_of_mem hz)
  exact ⟨_,_,pa,hq2.1,hq2.2,λ_=>zew pa⟩
 refine UW (ρ:=λp=>pN s.heap p.1) pl.isList hv (by omega) λst' a1 a2=>?_
 obtain ⟨c,hc⟩:=sortedAll_at s.heap its ((arrOf st').map (·.2))
 have zp:(arrOf st').size=its.length:=by rw[a1.size_eq,Vy]
 have mem:∀ q∈(arrOf st').toList,q.1∈its/\q.2=q.1:=λq hq=>zdd ((perm_iff_toList_perm.mp a1).mem_iff.mp hq)
 have hperm:((arrOf st').toList.map (·.2)).Perm its:=by
  have:=(perm_iff_toList_perm.mp a1).map (·.2)
  have e:(pz its).toList.map (·.2)=its:=by
   have:(pz its).toList=its.zip its:=by simp[pz]
   rw[this,← List.unzip_snd,List.unzip_zip (by rfl)]
  rw[e] at this;exact this
 obtain ⟨Z',p1,e1⟩:=zau hperm z1
 have zl:Z'.length=(arrOf st').size:=by have:=congrArg List.length e1;simpa using this
 have hZ:∀ z∈Z',RelV z.2.1 z.1/\Dat X.K G z.2.1 (dPr z.2.2)/\YG s.heap z.1 z.2.2.1 z.2.2.2:=λz hz=>z3 z (p1.mem_iff.mp hz)
 have hvals:∀ L:List (Value×V×(Int×Int)),(∀ z∈L,RelV z.2.1 z.1/\Dat X.K G z.2.1 (dPr z.2.2)/\YG s.heap z.1 z.2.2.1 z.2.2.2)->Vals (L.map (·.2.1)) (L.map (·.1))/\Yr X.K G (L.map (·.2.1)) ((L.map (·.2.2)).map dPr):=by
  intro L
  induction L with
  | nil=>intro _;exact ⟨.nil,Yq⟩
  | cons z L ih=>
   intro h
   obtain ⟨i1,i2⟩:=ih λy hy=>h y (mem_cons_of_mem _ hy)
   obtain ⟨h1,h2,_⟩:=h z mem_cons_self
   exact ⟨.cons h1 i1,Ye h2 i2⟩
 obtain ⟨hV,hD⟩:=hvals Z' hZ
 rw[e1] at hV
 have eo:((arrOf st').map (·.2)).toList=(arrOf st').toList.map (·.2):=by simp
 refine ⟨.ref (s.heap.objs.size+1),_,I.laid (t' := s.toks) (λ_ _=>sortedAll_old) (le_succ _) (show Xp X.prog X.w _ (sortedAll s.heap its ((arrOf st').map (·.2))) _ (.lst (Z'.map (·.2.1))) from ⟨by rw[length_map];have:(64:Nat)<=sizeLine:=(by decide);omega,((arrOf st').map (·.2)).toList,c,by rw[eo];exact hV,hc⟩),rfl,k _ _ (Z'.map (·.2.2)) (I.hok.fresh (le_succ _)) (by rw[← z2];exact p1.map _) hD ?_⟩
 rw[List.pairwise_iff_getElem]
 intro i j hi hj hij
 have hj' : j<Z'.length:=by simpa using hj
 have at_:∀ m (hm:m<Z'.length),R (λp=>pN s.heap p.1) (arrOf st') m=Z'[m].2.2.1*1000+Z'[m].2.2.2:=λm hm=>by
  have hm' : m<(arrOf st').size:=by omega
  have ea:(arrOf st')[m]?=some (arrOf st')[m]:=Array.getElem?_eq_getElem hm'
  have q1:Z'[m].1=(arrOf st')[m].2:=by
   have h1:(Z'.map (·.1))[m]?=some Z'[m].1:=by rw[getElem?_map,List.getElem?_eq_getElem hm];rfl
   rw[e1,getElem?_map] at h1
   have h2:(arrOf st').toList[m]?=some (arrOf st')[m]:=by simp[hm']
   rw[h2] at h1
   exact (Option.some.inj h1).symm
  have q2:=(mem (arrOf st')[m] (by simp)).2
  unfold R
  rw[ea]
  show pN s.heap (arrOf st')[m].1=_
  rw[← q2,← q1]
  exact zew (hZ _ (getElem_mem hm)).2.2
 have:=a2 i j hij (by rw[← a1.size_eq];omega)
 rw[at_ i (by omega),at_ j hj'] at this
 simp only[List.getElem_map]
 omega
theorem zfO {K:PySem.W.Frag}{σ:St}{G:Hp}{t:TA}{ps qs:List (Int×Int)}(h:EvA K t σ G [.list (ps.map dPr)])(h64:ps.length<64)(hps:∀ q∈ps,0<=q.2/\q.2<1000)(hq:∀ rs:List (Int×Int),rs.Perm ps->rs.Pairwise (λa b=>a.1*1000+a.2<=b.1*1000+b.2)->rs=qs):Ev K (tCB (zeS K) t) σ G (.list (qs.map dPr)):=
 Uz h λG1 H xs Q s1 s2 hx k=>by
  obtain ⟨v,r,rfl,hv,hx⟩:=hx.cons
  rw[hx.nil]
  obtain ⟨p,ys,rfl,hp,hys⟩:=hv.lst
  refine ⟨G1,p,ys,ps,rfl,s2,SqL.of (s2 _ _ hp),hys,h64,hps,λl us rs hl hperm hd hs=>?_⟩
  have e:=hq rs hperm hs
  subst e
  have g:=Yl (o:=.lst us) s2 hl
  exact k _ _ _ g (YZ Zz (hd.same g.gg))
end
end L2
namespace V8
open PySem PySem.SetTable
def Ris (xs:List Nat):Prop:=xs.Pairwise (· < ·)
theorem Uh {xs:Array Nat}(h:Ris xs.toList)(j:Nat):∀ (fuel lo hi:Nat),hi<=lo+fuel->lo<=hi->hi<=xs.size->(∀ i,i<lo->xs.getD i j<j)->(∀ i,hi<=i->i<xs.size->j<=xs.getD i j)->
  lo<=below.go xs j fuel lo hi/\below.go xs j fuel lo hi<=xs.size/\(∀ i,i<below.go xs j fuel lo hi->xs.getD i j<j)/\∀ i,below.go xs j fuel lo hi<=i->i<xs.size->j<=xs.getD i j
 | 0,lo,hi,h1,h2,h3,h4,h5=>by
  have e:lo=hi:=by omega
  subst e
  exact ⟨Nat.le_refl _,h3,h4,h5⟩
 | fuel+1,lo,hi,h1,h2,h3,h4,h5=>by
  unfold below.go
  by_cases hl:lo<hi
  ·rw[if_pos hl]
   have mono:∀ a b,a<b->b<xs.size->xs.getD a j<xs.getD b j:=λa b hab hb=>by
    have:=List.pairwise_iff_getElem.mp h a b (by simpa using (by omega:a<xs.size)) (by simpa using hb) hab
    rw[getD_eq_getD_getElem?,getD_eq_getD_getElem?,Array.getElem?_eq_getElem (by omega),Array.getElem?_eq_getElem hb]
    simpa using this
   dsimp only
   by_cases hm:xs.getD ((lo+hi) / 2) j<j
   ·rw[if_pos hm]
    obtain ⟨a,b,c,d⟩:=Uh h j fuel ((lo+hi) / 2+1) hi (by omega) (by omega) h3 (λi hi' => by
     by_cases e:i=(lo+hi) / 2
     ·rw[e];exact hm
     ·have:=mono i ((lo+hi) / 2) (by omega) (by omega);omega) h5
    exact ⟨by omega,b,c,d⟩
   ·rw[if_neg hm]
    obtain ⟨a,b,c,d⟩:=Uh h j fuel lo ((lo+hi) / 2) (by omega) (by omega) (by omega) h4 (λi hi' hs=>by
     by_cases e:i=(lo+hi) / 2
     ·rw[e];omega
     ·have:=mono ((lo+hi) / 2) i (by omega) hs;omega)
    exact ⟨a,b,c,d⟩
  ·rw[if_neg hl]
   have e:lo=hi:=by omega
   subst e
   exact ⟨Nat.le_refl _,h3,h4,h5⟩
theorem Ul {xs:Array Nat}(h:Ris xs.toList)(j:Nat):below xs j<=xs.size/\(∀ i,i<below xs j->xs.getD i j<j)/\∀ i,below xs j<=i->i<xs.size->j<=xs.getD i j:=by
 unfold below
 exact (Uh h j xs.size 0 xs.size (by omega) (zero_le _) (Nat.le_refl _) (λi hi=>absurd hi (not_lt_zero _)) (λi h1 h2=>by omega)).2
theorem zdO {t:SetTable}(h:Ris t.place.toList){j i:Nat}(hi:t.place[i]?=some j):t.slot j = .live i:=by
 obtain ⟨b1,b2,b3⟩:=Ul h j
 have hlt:i<t.place.size:=(Array.getElem?_eq_some_iff.mp hi).1
 have gi:t.place.getD i j=j:=by rw[getD_eq_getD_getElem?,hi];rfl
 have e:below t.place j=i:=by
  rcases lt_trichotomy (below t.place j) i with l | l | l
  ·have hb:below t.place j<t.place.size:=by omega
   have h1:=b3 _ (Nat.le_refl _) hb
   have:=List.pairwise_iff_getElem.mp h (below t.place j) i (by simpa using hb) (by simpa using hlt) l
   rw[getD_eq_getD_getElem?,Array.getElem?_eq_getElem hb] at h1
   rw[getD_eq_getD_getElem?,Array.getElem?_eq_getElem hlt] at gi
   simp at h1 gi this
   omega
  ·exact l
  ·have:=b2 i l;omega
 unfold slot
 dsimp only
 rw[e,hi]
 simp
theorem zcm {t:SetTable}(hd:t.dummies = #[]){j:Nat}(hj:∀ i:Nat,t.place[i]?≠some j):t.slot j = .empty:=by
 unfold slot has
 dsimp only
 rw[hd]
 have:(t.place[below t.place j]?==some j)=false:=by
  rw[eq_false_iff]
  intro h
  exact hj _ (by simpa using h)
 rw[this]
 simp[below,below.go]
noncomputable def adv (mask:Nat) (p:Probe):Probe:=if p.more>0 then { p with j:=p.j+1,more:=p.more-1 } else
 { p with j:=(leap mask p.i p.perturb).1,more:=runEnd mask (leap mask p.i p.perturb).1-(leap mask p.i p.perturb).1,i:=(leap mask p.i p.perturb).1,perturb:=(leap mask p.i p.perturb).2 }
noncomputable def sta (mask:Nat) (h:Int):Probe:={ j:=bits h % (mask+1),more:=runEnd mask (bits h % (mask+1))-bits h % (mask+1),i:=bits h % (mask+1),perturb:=bits h,dummy:=none }
noncomputable def way (mask:Nat):Nat->Probe->Probe
 | 0,p=>p
 | k+1,p=>way mask k (adv mask p)
theorem J5 (mask:Nat):∀ (k:Nat) (p:Probe),way mask (k+1) p=adv mask (way mask k p)
 | 0,p=>rfl
 | k+1,p=>J5 mask k (adv mask p)
theorem Wx (mask a:Nat):∀ (b:Nat) (p:Probe),way mask (a+b) p=way mask a (way mask b p)
 | 0,p=>rfl
 | b+1,p=>by show way mask (a+b) (adv mask p)=_;exact Wx mask a b (adv mask p)
structure Std (mask:Nat)(p:Probe):Prop where
 i:p.i<=mask
 ij:p.i<=p.j
 m:p.j+p.more=runEnd mask p.i
 pt:p.perturb<2 ^ 64
 d:p.dummy=none
theorem Jg {mask i:Nat}(h:i<=mask):i<=runEnd mask i/\runEnd mask i<=mask/\runEnd mask i<=i+9:=by unfold runEnd;split <;> omega
theorem Std.j {mask:Nat}{p:Probe}(s:Std mask p):p.j<=mask:=by
 have:=Jg s.i
 have:=s.m
 omega
theorem Vs (mask:Nat)(h:Int):Std mask (sta mask h):=by
 have hi:bits h % (mask+1)<=mask:=Nat.le_of_lt_succ (mod_lt _ (Nat.succ_pos mask))
 have:=Jg hi
 refine ⟨hi,Nat.le_refl _,?_,?_,rfl⟩
 ·show bits h % (mask+1)+(runEnd mask (bits h % (mask+1))-bits h % (mask+1))=runEnd mask (bits h % (mask+1));omega
 ·show bits h<2 ^ 64
  unfold bits
  have h1:=emod_lt_of_pos h (show (0:Int)<2 ^ 64 by decide)
  have h2:=emod_nonneg h (show (2 ^ 64:Int)≠0 by decide)
  omega
theorem zg1 {mask:Nat}{p:Probe}(s:Std mask p):Std mask (adv mask p):=by
 unfold adv
 split
 ·exact ⟨s.i,Nat.le_succ_of_le s.ij,by have:=s.m;show p.j+1+(p.more-1)=runEnd mask p.i;omega,s.pt,s.d⟩
 ·have hi:(leap mask p.i p.perturb).1<=mask:=by
   show (p.i*5+1+p.perturb / 32) % (mask+1)<=mask
   exact Nat.le_of_lt_succ (mod_lt _ (Nat.succ_pos mask))
  have:=Jg hi
  refine ⟨hi,Nat.le_refl _,?_,?_,s.d⟩
  ·show (leap mask p.i p.perturb).1+(runEnd mask (leap mask p.i p.perturb).1-(leap mask p.i p.perturb).1)=runEnd mask (leap mask p.i p.perturb).1;omega
  ·show p.perturb / 32<2 ^ 64
   have:=s.pt
   omega
theorem Ww {mask:Nat}:∀ (k:Nat) {p:Probe},Std mask p->Std mask (way mask k p)
 | 0,_,s=>s
 | k+1,_,s=>Ww k (zg1 s)
noncomputable def lps (mask:Nat):Nat->Nat×Nat->Nat×Nat
 | 0,q=>q
 | m+1,q=>leap mask (lps mask m q).1 (lps mask m q).2
theorem zcQ {mask:Nat}:∀ (m:Nat) {p:Probe},p.more=m->way mask m p={ p with j:=p.j+m,more:=0 }
 | 0,p,h=>by cases p;simp only at h;subst h;rfl
 | m+1,p,h=>by
  have e:adv mask p={ p with j:=p.j+1,more:=m }:=by unfold adv;rw[if_pos (by omega),h];rfl
  show way mask m (adv mask p)=_
  rw[e,zcQ m rfl]
  show ({ p with j:=p.j+1+m,more:=0 }:Probe)=_
  rw[show p.j+1+m=p.j+(m+1) by omega]
theorem Vw {mask:Nat}:∀ (m:Nat) {p:Probe},Std mask p->∃ k,k<=10*(m+1)/\(way mask k p).j=(lps mask (m+1) (p.i,p.perturb)).1/\(way mask k p).i=(lps mask (m+1) (p.i,p.perturb)).1/\(way mask k p).perturb=(lps mask (m+1) (p.i,p.perturb)).2
 | 0,p,s=>by
  have r:=Jg s.i
  have:=s.m
  have hij:=s.ij
  refine ⟨p.more+1,by omega,?_⟩
  rw[J5,zcQ p.more rfl]
  unfold adv
  rw[if_neg (by simp)]
  exact ⟨rfl,rfl,rfl⟩
 | m+1,p,s=>by
  obtain ⟨k,hk,e1,e2,e3⟩:=Vw m s
  have s' := Ww k s
  obtain ⟨k2,hk2,f1,f2,f3⟩:=Vw 0 s'
  refine ⟨k2+k,by omega,?_⟩
  rw[Wx]
  rw[e2,e3] at f1 f2 f3
  exact ⟨f1,f2,f3⟩
theorem zcE (mask:Nat):∀ (m:Nat) (q:Nat×Nat),(lps mask m q).2=q.2 / 32 ^ m
 | 0,q=>by show q.2=q.2 / 1;rw[Nat.div_one]
 | m+1,q=>by
  show (lps mask m q).2 / 32=_
  rw[zcE mask m q,Nat.div_div_eq_div_mul,pow_succ]
noncomputable def fv (mask i:Nat):Nat:=(i*5+1) % (mask+1)
noncomputable def itr (mask:Nat):Nat->Nat->Nat
 | 0,i=>i
 | k+1,i=>fv mask (itr mask k i)
theorem Q4 (mask a:Nat):∀ (b i:Nat),itr mask (b+a) i=itr mask b (itr mask a i)
 | 0,i=>by rw[Nat.zero_add];rfl
 | b+1,i=>by rw[show b+1+a=(b+a)+1 by omega];show fv mask _=fv mask _;rw[Q4 mask a b i]
theorem Uy (mask:Nat):∀ (k m:Nat) (q:Nat×Nat),(lps mask m q).2=0->(lps mask (m+k) q).1=itr mask k (lps mask m q).1/\(lps mask (m+k) q).2=0
 | 0,m,q,h=>⟨rfl,h⟩
 | k+1,m,q,h=>by
  obtain ⟨a,b⟩:=Uy mask k m q h
  refine ⟨?_,?_⟩
  ·show ((lps mask (m+k) q).1*5+1+(lps mask (m+k) q).2 / 32) % (mask+1)=fv mask _
   rw[a,b];rfl
  ·show (lps mask (m+k) q).2 / 32=0
   rw[b]
def WF (mask:Nat):Prop:=mask=7\/mask=31\/mask=127
noncomputable def Ux (mask:Nat):Nat->Nat->List Nat
 | 0,_=>[]
 | k+1,i=>i::Ux mask k (fv mask i)
theorem U7 (mask:Nat):∀ (k i m:Nat),m<k->(Ux mask k i)[m]?=some (itr mask m i)
 | k+1,i,0,_=>rfl
 | k+1,i,m+1,h=>by
  show (Ux mask k (fv mask i))[m]?=_
  rw[U7 mask k (fv mask i) m (by omega),Q4 mask 1 m i];rfl
theorem Ve (mask:Nat):∀ (k i:Nat),(Ux mask k i).length=k
 | 0,_=>rfl
 | k+1,i=>congrArg (· + 1) (Ve mask k _)
theorem zkD:((List.range 8).all λj=>(Ux 7 8 0).contains j)=true/\itr 7 8 0=0:=by decide +kernel
theorem zjC:((List.range 32).all λj=>(Ux 31 32 0).contains j)=true/\itr 31 32 0=0:=by decide +kernel
theorem zhF:((List.range 128).all λj=>(Ux 127 128 0).contains j)=true/\itr 127 128 0=0:=by decide +kernel
theorem orb {mask:Nat}(h:WF mask):(∀ j,j<=mask->∃ a,a<mask+1/\itr mask a 0=j)/\itr mask (mask+1) 0=0:=by
 have key:((List.range (mask+1)).all λj=>(Ux mask (mask+1) 0).contains j)=true/\itr mask (mask+1) 0=0:=by
  rcases h with rfl | rfl | rfl
  ·exact zkD
  ·exact zjC
  ·exact zhF
 refine ⟨λj hj=>?_,key.2⟩
 have:=all_eq_true.mp key.1 j (mem_range.mpr (by omega))
 have hm:j∈Ux mask (mask+1) 0:=by simpa using this
 obtain ⟨a,ha,e⟩:=getElem_of_mem hm
 rw[Ve] at ha
 have g:=U7 mask (mask+1) 0 a ha
 rw[List.getElem?_eq_getElem (by rw[Ve];exact ha),e] at g
 exact ⟨a,ha,(Option.some.inj g).symm⟩
theorem cyc {mask:Nat}(h:WF mask){s j:Nat}(hs:s<=mask)(hj:j<=mask):∃ q,q<=mask/\itr mask q s=j:=by
 obtain ⟨o1,o2⟩:=orb h
 obtain ⟨a,ha,rfl⟩:=o1 s hs
 obtain ⟨b,hb,rfl⟩:=o1 j hj
 by_cases hab:a<=b
 ·refine ⟨b-a,by omega,?_⟩
  rw[← Q4];congr 1;omega
 ·refine ⟨b+(mask+1)-a,by omega,?_⟩
  rw[← Q4,show b+(mask+1)-a+a=b+(mask+1) by omega,Q4,o2]
theorem cover {mask:Nat}(hm:WF mask){p:Probe}(s:Std mask p){j:Nat}(hj:j<=mask):∃ k,k<10*turns mask/\(way mask k p).j=j:=by
 have z:(lps mask 13 (p.i,p.perturb)).2=0:=by
  rw[zcE]
  exact Nat.div_eq_of_lt (Nat.lt_of_lt_of_le s.pt (by decide))
 obtain ⟨k0,hk0,e1,e2,e3⟩:=Vw 12 s
 have hi:(lps mask 13 (p.i,p.perturb)).1<=mask:=by rw[← e2];exact (Ww k0 s).i
 obtain ⟨q,hq,eq⟩:=cyc hm hi hj
 obtain ⟨a,b⟩:=Uy mask q 13 (p.i,p.perturb) z
 obtain ⟨k,hk,f1,_,_⟩:=Vw (12+q) s
 refine ⟨k,by unfold turns;omega,?_⟩
 rw[f1,show 12+q+1=13+q by omega,a,eq]
inductive Scan (t:SetTable) (ha:Nat->Int) (h:Int):Probe->Met->Nat->Prop
 | emp {p:Probe}(_:t.slot p.j = .empty):Scan t ha h p (.empty p.j p.dummy) 0
 | cand {p:Probe}{i:Nat}(_:t.slot p.j = .live i) (_:ha i=h):Scan t ha h p (.candidate p.j i (t.advance p)) 0
 | step {p:Probe}{i k:Nat}{m:Met}(_:t.slot p.j = .live i) (_:ha i≠h) (_:Scan t ha h (t.advance p) m k):Scan t ha h p m (k+1)
theorem zg8 {t:SetTable}{ha:Nat->Int}{h:Int}{p:Probe}{m:Met}{k:Nat}(s:Scan t ha h p m k):∀ fuel,k<fuel->probe.go t ha h fuel p=some m:=by
 induction s with
 | emp e=>
  intro fuel hf
  obtain ⟨f,rfl⟩:∃ f,fuel=f+1:=⟨fuel-1,by omega⟩
  unfold probe.go
  rw[e]
 | cand e hh=>
  intro fuel hf
  obtain ⟨f,rfl⟩:∃ f,fuel=f+1:=⟨fuel-1,by omega⟩
  unfold probe.go
  rw[e]
  dsimp only
  rw[if_pos (by rw[hh];exact beq_self_eq_true _)]
 | step e hh _ ih=>
  intro fuel hf
  obtain ⟨f,rfl⟩:∃ f,fuel=f+1:=⟨fuel-1,by omega⟩
  unfold probe.go
  rw[e]
  dsimp only
  rw[if_neg (by rw[beq_iff_eq];exact hh)]
  exact ih f (by omega)
structure Emp (t:SetTable)(p:Probe)(e:Nat):Prop where
 at_:t.slot (way t.mask e p).j = .empty
 bef:∀ m,m<e->∃ i,t.slot (way t.mask m p).j = .live i
theorem zcB {t:SetTable}(ha:Nat->Int)(h:Int):∀ {e:Nat}{p:Probe},p.dummy=none->Emp t p e->∃ m k,k<=e/\Scan t ha h p m k/\(∀ m',m'<k->∀ i,t.slot (way t.mask m' p).j = .live i->ha i≠h)/\((m = .empty (way t.mask e p).j none/\k=e)\/∃ i,m = .candidate (way t.mask k p).j i (way t.mask (k+1) p)/\k<e/\t.slot (way t.mask k p).j = .live i/\ha i=h)
 | 0,p,hd,E=>⟨.empty p.j p.dummy,0,Nat.le_refl _,.emp E.at_,λm' hm=>absurd hm (not_lt_zero _),.inl ⟨by rw[hd];rfl,rfl⟩⟩
 | e+1,p,hd,E=>by
  obtain ⟨i,hi⟩:=E.bef 0 (by omega)
  have hi:t.slot p.j = .live i:=hi
  by_cases hh:ha i=h
  ·exact ⟨.candidate p.j i (t.advance p),0,by omega,.cand hi hh,λm' hm=>absurd hm (not_lt_zero _),.inr ⟨i,rfl,by omega,hi,hh⟩⟩
  ·have E' : Emp t (adv t.mask p) e:=⟨E.at_,λm hm=>E.bef (m+1) (by omega)⟩
   have hd' : (adv t.mask p).dummy=none:=by unfold adv;split <;> exact hd
   obtain ⟨m,k,hk,sc,hb,hm⟩:=zcB ha h hd' E'
   refine ⟨m,k+1,by omega,.step hi hh sc,λm' hm' i' hi' => ?_,?_⟩
   ·cases m' with
    | zero=>
     have hi' : t.slot p.j = .live i' := hi'
     rw[hi] at hi'
     injection hi' with hi'
     rw[← hi'];exact hh
    | succ m' => exact hb m' (by omega) i' hi'
   ·rcases hm with ⟨e1,e2⟩ | ⟨i2,e1,e2,e3,e4⟩
    ·exact .inl ⟨e1,by omega⟩
    ·exact .inr ⟨i2,e1,by omega,e3,e4⟩
theorem zbh:∀ {a b:List Nat},a.Nodup->(∀ x∈a,x∈b)->a.length<=b.length
 | [],_,_,_=>zero_le _
 | x::a,b,nd,h=>by
  obtain ⟨n1,n2⟩:=nodup_cons.mp nd
  have hx:=h x mem_cons_self
  have:=zbh (b:=b.erase x) n2 λy hy=>by
   have hne:y≠x:=λe=>n1 (e ▸ hy)
   exact (List.mem_erase_of_ne hne).mpr (h y (mem_cons_of_mem _ hy))
  rw[List.length_erase_of_mem hx] at this
  have hp:0<b.length:=length_pos_iff.mpr λe=>by rw[e] at hx;cases hx
  rw[length_cons];omega
theorem least {p:Nat->Prop}(k:Nat)(h:p k):∃ n,n<=k/\p n/\∀ m,m<n->¬ p m:=by
 induction k using Nat.strongRecOn with
 | ind k ih=>
  by_cases q:∃ m,m<k/\p m
  ·obtain ⟨m,hm,hp⟩:=q
   obtain ⟨n,h1,h2,h3⟩:=ih m hm hp
   exact ⟨n,by omega,h2,h3⟩
  ·exact ⟨k,Nat.le_refl _,h,λm hm hp=>q ⟨m,hm,hp⟩⟩
structure TOk (t:SetTable)(ps:List (Nat×Int)):Prop where
 m:WF t.mask
 d:t.dummies = #[]
 p:t.place.toList=ps.map Prod.fst
 r:Ris (ps.map Prod.fst)
 b:∀ q∈ps,q.1<=t.mask
 f:ps.length<=t.mask
 w:∀ q∈ps,∃ k,(way t.mask k (sta t.mask q.2)).j=q.1/\∀ m,m<k->(way t.mask m (sta t.mask q.2)).j∈ps.map Prod.fst
theorem TOk.at_ {t:SetTable}{ps:List (Nat×Int)}(o:TOk t ps){j i:Nat}:t.place[i]?=some j↔(ps.map Prod.fst)[i]?=some j:=by rw[← o.p,getElem?_toList]
theorem TOk.zeA {t:SetTable}{ps:List (Nat×Int)}(o:TOk t ps){j i:Nat}(h:(ps.map Prod.fst)[i]?=some j):t.slot j = .live i:=zdO (by rw[o.p];exact o.r) (o.at_.mpr h)
theorem TOk.zgR {t:SetTable}{ps:List (Nat×Int)}(o:TOk t ps){j:Nat}(h:j∉ps.map Prod.fst):t.slot j = .empty:=zcm o.d λi hi=>h (mem_of_getElem? (o.at_.mp hi))
theorem TOk.zhU {t:SetTable}{ps:List (Nat×Int)}(o:TOk t ps){j i:Nat}(h:t.slot j = .live i):(ps.map Prod.fst)[i]?=some j:=by
 by_cases hm:j∈ps.map Prod.fst
 ·obtain ⟨k,hk,e⟩:=getElem_of_mem hm
  have:=o.zeA (i:=k) (j:=j) (by rw[List.getElem?_eq_getElem hk,e])
  rw[h] at this
  injection this with this
  rw[this,List.getElem?_eq_getElem hk,e]
 ·rw[o.zgR hm] at h;cases h
theorem TOk.zim {t:SetTable}{ps:List (Nat×Int)}(o:TOk t ps){j:Nat}(h:t.slot j = .empty):j∉ps.map Prod.fst:=λhm=>by
 obtain ⟨k,hk,e⟩:=getElem_of_mem hm
 have:=o.zeA (i:=k) (j:=j) (by rw[List.getElem?_eq_getElem hk,e])
 rw[h] at this;cases this
theorem room {l:List Nat}{mask:Nat}(h:l.length<=mask):∃ j,j<=mask/\j∉l:=by
 refine Classical.byContradiction λq=>?_
 have:=zbh (a:=List.range (mask+1)) (b:=l) nodup_range λx hx=>by
  refine Classical.byContradiction λhx' => q ⟨x,?_,hx'⟩
  have:=mem_range.mp hx;omega
 rw[length_range] at this
 omega
theorem TOk.emp {t:SetTable}{ps:List (Nat×Int)}(o:TOk t ps){p:Probe}(s:Std t.mask p):∃ e,e<10*turns t.mask/\Emp t p e:=by
 obtain ⟨j,hj,hn⟩:=room (l:=ps.map Prod.fst) (by rw[length_map];exact o.f)
 obtain ⟨k,hk,ek⟩:=cover o.m s hj
 obtain ⟨n,h1,h2,h3⟩:=least (p:=λn=>t.slot (way t.mask n p).j = .empty) k (by rw[ek];exact o.zgR hn)
 refine ⟨n,by omega,h2,λm hm=>?_⟩
 by_cases hm' : (way t.mask m p).j∈ps.map Prod.fst
 ·obtain ⟨i,hi,e⟩:=getElem_of_mem hm'
  exact ⟨i,o.zeA (by rw[List.getElem?_eq_getElem hi,e])⟩
 ·exact absurd (o.zgR hm') (h3 m hm)
theorem TOk.reach {t:SetTable}{ps:List (Nat×Int)}(o:TOk t ps){i j:Nat}{h:Int}(hi:ps[i]?=some (j,h)){e:Nat}(E:Emp t (sta t.mask h) e):∃ k,k<e/\t.slot (way t.mask k (sta t.mask h)).j = .live i:=by
 obtain ⟨k,h1,h2⟩:=o.w _ (mem_of_getElem? hi)
 have h1:(way t.mask k (sta t.mask h)).j=j:=h1
 have hs:t.slot (way t.mask k (sta t.mask h)).j = .live i:=o.zeA (by rw[h1,getElem?_map,hi];rfl)
 refine ⟨k,?_,hs⟩
 rcases lt_trichotomy k e with l | l | l
 ·exact l
 ·rw[l,E.at_] at hs;cases hs
 ·exact absurd (h2 e l) (o.zim E.at_)
theorem TOk.put {t:SetTable}{ps:List (Nat×Int)}(o:TOk t ps){h:Int}{e j k:Nat}(E:Emp t (sta t.mask h) e)(ej:(way t.mask e (sta t.mask h)).j=j)(ek:below t.place j=k)(hf:ps.length+1<=t.mask):TOk (t.put j).1 (ps.take k++(j,h)::ps.drop k):=by
 have hj:j<=t.mask:=by rw[← ej];exact (Ww e (Vs t.mask h)).j
 have hn:j∉ps.map Prod.fst:=by rw[← ej];exact o.zim E.at_
 have hbef:∀ m,m<e->(way t.mask m (sta t.mask h)).j∈ps.map Prod.fst:=λm hm=>by
  obtain ⟨i,hi⟩:=E.bef m hm
  exact mem_of_getElem? (o.zhU hi)
 have bo:=Ul (xs:=t.place) (by rw[o.p];exact o.r) j
 rw[ek] at bo
 have hsz:t.place.size=ps.length:=by rw[← length_toList,o.p,length_map]
 have hg:∀ i,t.place.getD i j=(ps.map Prod.fst).getD i j:=λi=>by
  rw[getD_eq_getD_getElem?,← getElem?_toList,o.p,getD_eq_getElem?_getD]
 have hmem:∀ q,q∈ps.take k++(j,h)::ps.drop k↔q=(j,h)\/q∈ps:=λq=>by
  rw[mem_append,mem_cons]
  constructor
  ·rintro (h | h | h)
   ·exact .inr (List.mem_of_mem_take h)
   ·exact .inl h
   ·exact .inr (mem_of_mem_drop h)
  ·rintro (h | hq)
   ·exact .inr (.inl h)
   ·rw[← List.take_append_drop k ps,mem_append] at hq
    exact hq.elim .inl λh=>.inr (.inr h)
 have hfst:∀ x,x∈ps.map Prod.fst->x∈(ps.take k++(j,h)::ps.drop k).map Prod.fst:=λx hx=>by
  obtain ⟨q,hq,rfl⟩:=mem_map.mp hx
  exact mem_map.mpr ⟨q,(hmem q).mpr (.inr hq),rfl⟩
 refine ⟨o.m,?_,?_,?_,λq hq=>?_,?_,λq hq=>?_⟩
 ·show (if has t.dummies j then _ else t.dummies) = #[]
  rw[o.d]
  simp[has,below,below.go]
 ·show (insertAt t.place (below t.place j) j).toList=_
  rw[SetTable.toList_insertAt,o.p,ek,map_append,map_cons,map_take,map_drop]
 ·unfold Ris
  rw[map_append,map_cons,map_take,map_drop]
  have r:=o.r
  unfold Ris at r
  rw[← List.take_append_drop k (ps.map Prod.fst)] at r
  obtain ⟨p1,p2,p3⟩:=pairwise_append.mp r
  refine pairwise_append.mpr ⟨p1,pairwise_cons.mpr ⟨λb hb=>?_,p2⟩,λa ha b hb=>?_⟩
  ·obtain ⟨i,hi,e1⟩:=getElem_of_mem hb
   rw[List.getElem_drop] at e1
   rw[length_drop,length_map] at hi
   have h1:=bo.2.2 (k+i) (by omega) (by omega)
   rw[hg,getD_eq_getElem?_getD,List.getElem?_eq_getElem (by rw[length_map];omega),e1] at h1
   have h1:j<=b:=h1
   have:j≠b:=λz=>hn (by rw[z];exact mem_of_mem_drop hb)
   omega
  ·have haj:a<j:=by
    obtain ⟨i,hi,e1⟩:=getElem_of_mem ha
    rw[List.getElem_take] at e1
    rw[length_take,length_map] at hi
    have h1:=bo.2.1 i (by omega)
    rw[hg,getD_eq_getElem?_getD,List.getElem?_eq_getElem (by rw[length_map];omega),e1] at h1
    exact h1
   rcases mem_cons.mp hb with rfl | hb
   ·exact haj
   ·exact p3 a ha b hb
 ·rcases (hmem q).mp hq with rfl | hq
  ·exact hj
  ·exact o.b q hq
 ·rw[length_append,length_cons,length_take,length_drop]
  show _<=t.mask
  omega
 ·show ∃ n,(way t.mask n (sta t.mask q.2)).j=q.1/\∀ m,m<n->_
  rcases (hmem q).mp hq with rfl | hq
  ·exact ⟨e,ej,λm hm=>hfst _ (hbef m hm)⟩
  ·obtain ⟨n,h1,h2⟩:=o.w q hq
   exact ⟨n,h1,λm hm=>hfst _ (h2 m hm)⟩
abbrev Own:Type:=Array (Option Nat)
def tk (ow:Own)(j:Nat):Prop:=(ow.getD j (some 0)).isNone=false
theorem Vt {mask:Nat}{p:Probe}{k:Nat}(hk:k<=p.more):way mask k p={ p with j:=p.j+k,more:=p.more-k }:=by
 induction k with
 | zero=>rfl
 | succ k ih=>
  rw[J5,ih (by omega)]
  unfold adv
  rw[if_pos (show p.more-k>0 by omega)]
  show ({ p with j:=p.j+k+1,more:=p.more-k-1 }:Probe)=_
  rw[show p.j+k+1=p.j+(k+1) by omega,show p.more-k-1=p.more-(k+1) by omega]
structure Sta (mask:Nat)(p:Probe):Prop extends Std mask p where
 s:p.j=p.i
theorem zdz {mask:Nat}{ow:Own}:∀ {fuel:Nat}{p:Probe},Sta mask p->(∃ r,r<fuel/\¬ tk ow (lps mask r (p.i,p.perturb)).1)->∃ n,layClean.free mask ow fuel p.i p.perturb=some (way mask n p).j/\¬ tk ow (way mask n p).j/\∀ m,m<n->tk ow (way mask m p).j
 | 0,p,_,h=>by obtain ⟨r,hr,_⟩:=h;omega
 | fuel+1,p,s,h=>by
  have r:=Jg s.i
  have hm:=s.m
  have hs:=s.s
  have hlen:runEnd mask p.i+1-p.i=p.more+1:=by omega
  unfold layClean.free
  rw[hlen]
  cases hf:(List.range (p.more+1)).find? λk=>(ow.getD (p.i+k) (some 0)).isNone with
  | some k=>
   dsimp only
   obtain ⟨hp,hl⟩:=List.find?_eq_some_iff_getElem.mp hf
   obtain ⟨i,hi,e,hb⟩:=hl
   rw[length_range] at hi
   rw[List.getElem_range] at e
   subst e
   refine ⟨i,?_,?_,λm hm' => ?_⟩
   ·rw[Vt (by omega)]
    show some (p.i+i)=some (p.j+i)
    rw[hs]
   ·rw[Vt (by omega)]
    show ¬ tk ow (p.j+i)
    unfold tk
    rw[hs,hp]
    exact noConfusion
   ·rw[Vt (by omega)]
    show tk ow (p.j+m)
    have:=hb m hm'
    rw[List.getElem_range] at this
    unfold tk
    rw[hs]
    simpa using this
  | none=>
   dsimp only
   have hall:=List.find?_eq_none.mp hf
   have hrun:∀ m,m<=p.more->tk ow (p.j+m):=λm hm' => by
    have:=hall m (mem_range.mpr (by omega))
    unfold tk
    rw[hs]
    exact eq_false_iff.mpr this
   have hnext:way mask (p.more+1) p={ p with j:=(leap mask p.i p.perturb).1,more:=runEnd mask (leap mask p.i p.perturb).1-(leap mask p.i p.perturb).1,i:=(leap mask p.i p.perturb).1,perturb:=(leap mask p.i p.perturb).2 }:=by
    rw[J5,Vt (Nat.le_refl _)]
    unfold adv
    rw[if_neg (show ¬ p.more-p.more>0 by omega)]
   have s' : Sta mask (way mask (p.more+1) p):=⟨Ww _ s.toStd,by rw[hnext]⟩
   obtain ⟨r,hr,hn⟩:=h
   have hr0:r≠0:=λz=>by
    subst z
    have:=hrun 0 (zero_le _)
    rw[hs] at this
    exact hn this
   have lp:∀ k,lps mask (k+1) (p.i,p.perturb)=lps mask k (leap mask p.i p.perturb):=by
    intro k
    induction k with
    | zero=>rfl
    | succ k ih=>show leap mask _ _=leap mask _ _;rw[ih]
   obtain ⟨n,e1,e2,e3⟩:=zdz (ow:=ow) (fuel:=fuel) s' ⟨r-1,by omega,by
    rw[hnext]
    show ¬ tk ow (lps mask (r-1) (leap mask p.i p.perturb)).1
    rw[← lp,show r-1+1=r by omega];exact hn⟩
   refine ⟨n+(p.more+1),?_,?_,λm hm' => ?_⟩
   ·rw[Wx,← e1,hnext]
   ·rw[Wx];exact e2
   ·by_cases hle:m<=p.more
    ·rw[Vt hle];exact hrun m hle
    ·have:=e3 (m-(p.more+1)) (by omega)
     rw[← Wx,show m-(p.more+1)+(p.more+1)=m by omega] at this
     exact this
theorem zar {ow:Own}{mask:Nat}(sz:ow.size=mask+1){j:Nat}(hj:j<=mask):tk ow j↔∃ i,ow[j]?=some (some i):=by
 unfold tk
 rw[getD_eq_getD_getElem?,Array.getElem?_eq_getElem (by omega)]
 show ow[j].isNone=false↔_
 cases h:ow[j] with
 | none=>exact ⟨λz=>(by cases z),λ⟨i,z⟩=>(by cases z)⟩
 | some i=>exact ⟨λ_=>⟨i,rfl⟩,λ_=>rfl⟩
structure Lay (mask:Nat)(hs:List Int)(ow:Own):Prop where
 sz:ow.size=mask+1
 lt:∀ (j i:Nat),ow[j]?=some (some i)->i<hs.length
 ex:∀ i,i<hs.length->∃ j:Nat,ow[j]?=some (some i)
 un:∀ (j j' i:Nat),ow[j]?=some (some i)->ow[j']?=some (some i)->j=j'
 w:∀ (j i:Nat) (h:Int),ow[j]?=some (some i)->hs[i]?=some h->∃ n,(way mask n (sta mask h)).j=j/\∀ m,m<n->tk ow (way mask m (sta mask h)).j
theorem zgO (mask:Nat):Lay mask [] (Array.replicate (mask+1) none):=by
 have e:∀ j:Nat,∀ i,(Array.replicate (mask+1) (none:Option Nat))[j]?≠some (some i):=λj i h=>by
  rw[Array.getElem?_replicate] at h
  split at h
  ·injection h with h;cases h
  ·cases h
 exact ⟨by rw[Array.size_replicate],λj i h=>absurd h (e j i),λi h=>absurd h (not_lt_zero _),λj _ i h=>absurd h (e j i),λj i h q=>absurd q (e j i)⟩
theorem Lay.free {mask:Nat}{hs:List Int}{ow:Own}(l:Lay mask hs ow)(hm:hs.length<=mask):∃ j,j<=mask/\¬ tk ow j:=by
 refine Classical.byContradiction λq=>?_
 have all:∀ j,j<=mask->∃ i,ow[j]?=some (some i):=λj hj=>by
  refine (zar l.sz hj).mp (Classical.byContradiction λz=>q ⟨j,hj,z⟩)
 have key:∀ n,n<=mask+1->∃ is:List Nat,is.length=n/\is.Nodup/\∀ i∈is,∃ j,j<n/\ow[j]?=some (some i):=by
  intro n
  induction n with
  | zero=>intro _;exact ⟨[],rfl,nodup_nil,λi h=>(by cases h)⟩
  | succ n ih=>
   intro hn
   obtain ⟨is,h1,h2,h3⟩:=ih (by omega)
   obtain ⟨i,hi⟩:=all n (by omega)
   refine ⟨i::is,by rw[length_cons,h1],nodup_cons.mpr ⟨λhm' => ?_,h2⟩,λx hx=>?_⟩
   ·obtain ⟨j,hj,e⟩:=h3 i hm'
    have:=l.un _ _ _ e hi
    omega
   ·rcases mem_cons.mp hx with rfl | hx
    ·exact ⟨n,by omega,hi⟩
    ·obtain ⟨j,hj,e⟩:=h3 x hx
     exact ⟨j,by omega,e⟩
 obtain ⟨is,h1,h2,h3⟩:=key (mask+1) (Nat.le_refl _)
 have:=zbh (b:=List.range hs.length) h2 λi hi=>by
  obtain ⟨j,_,e⟩:=h3 i hi
  exact mem_range.mpr (l.lt j i e)
 rw[h1,length_range] at this
 omega
theorem Lay.step {mask:Nat}{hs:List Int}{ow:Own}(l:Lay mask hs ow)(hm:hs.length<=mask)(hk:WF mask)(h:Int):∃ j,layClean.free mask ow (turns mask) (bits h % (mask+1)) (bits h)=some j/\Lay mask (hs++[h]) (ow.setIfInBounds j (some hs.length)):=by
 obtain ⟨je,hje,hne⟩:=l.free hm
 have s:Sta mask (sta mask h):=⟨Vs mask h,rfl⟩
 have z:(lps mask 13 ((sta mask h).i,(sta mask h).perturb)).2=0:=by
  rw[zcE]
  exact Nat.div_eq_of_lt (Nat.lt_of_lt_of_le s.pt (by decide))
 obtain ⟨k0,hk0,e1,e2,e3⟩:=Vw 12 s.toStd
 have hi:(lps mask 13 ((sta mask h).i,(sta mask h).perturb)).1<=mask:=by rw[← e2];exact (Ww k0 s.toStd).i
 obtain ⟨q,hq,eq⟩:=cyc hk hi hje
 obtain ⟨a,b⟩:=Uy mask q 13 ((sta mask h).i,(sta mask h).perturb) z
 obtain ⟨n,f1,f2,f3⟩:=zdz (ow:=ow) (fuel:=turns mask) s ⟨13+q,by unfold turns;omega,by rw[a,eq];exact hne⟩
 have hjm:(way mask n (sta mask h)).j<=mask:=(Ww n s.toStd).j
 refine ⟨_,f1,?_⟩
 generalize ej:(way mask n (sta mask h)).j=j at f2 hjm
 have hj:j<ow.size:=by rw[l.sz];omega
 have get:∀ x:Nat,(ow.setIfInBounds j (some hs.length))[x]?=if x=j then some (some hs.length) else ow[x]?:=λx=>by
  rw[Array.getElem?_setIfInBounds]
  by_cases e:j=x
  ·subst e;rw[if_pos rfl,if_pos hj,if_pos rfl]
  ·rw[if_neg e,if_neg (λz=>e z.symm)]
 have nj:∀ i,ow[j]?≠some (some i):=λi z=>f2 ((zar l.sz hjm).mpr ⟨i,z⟩)
 have sz' : (ow.setIfInBounds j (some hs.length)).size=mask+1:=by rw[Array.size_setIfInBounds,l.sz]
 have up:∀ x,tk ow x->x<=mask->tk (ow.setIfInBounds j (some hs.length)) x:=λx hx hxm=>by
  rw[zar sz' hxm]
  obtain ⟨i,hi'⟩:=(zar l.sz hxm).mp hx
  rw[get x]
  by_cases e:x=j
  ·exact ⟨_,by rw[if_pos e]⟩
  ·exact ⟨i,by rw[if_neg e];exact hi'⟩
 refine ⟨sz',λx i hx=>?_,λi hi' => ?_,λx x' i h1 h2=>?_,λx i g h1 h2=>?_⟩
 ·rw[get x] at hx
  rw[length_append]
  show i<hs.length+1
  split at hx
  ·injection hx with hx;injection hx with hx;omega
  ·have:=l.lt x i hx;omega
 ·rw[length_append] at hi'
  have hi' : i<hs.length+1:=hi'
  by_cases e:i=hs.length
  ·exact ⟨j,by rw[get j,if_pos rfl,e]⟩
  ·obtain ⟨x,hx⟩:=l.ex i (by omega)
   exact ⟨x,by rw[get x,if_neg (λe:x=j=>nj i (by rw[← e];exact hx))];exact hx⟩
 ·rw[get x] at h1
  rw[get x'] at h2
  split at h1
  ·rename_i e
   injection h1 with h1
   injection h1 with h1
   split at h2
   ·rename_i e';rw[e,e']
   ·have:=l.lt x' i h2;omega
  ·split at h2
   ·injection h2 with h2
    injection h2 with h2
    have:=l.lt x i h1;omega
   ·exact l.un x x' i h1 h2
 ·rw[get x] at h1
  split at h1
  ·rename_i e
   injection h1 with h1
   injection h1 with h1
   rw[← h1,getElem?_append_right (Nat.le_refl _),sub_self] at h2
   have h2:some h=some g:=h2
   injection h2 with h2
   subst h2
   exact ⟨n,by rw[ej,e],λm hm' => up _ (f3 m hm') (Ww m s.toStd).j⟩
  ·have hlt:=l.lt x i h1
   rw[getElem?_append_left hlt] at h2
   obtain ⟨n',w1,w2⟩:=l.w x i g h1 h2
   exact ⟨n',w1,λm hm' => up _ (w2 m hm') (Ww m (Vs mask g)).j⟩
theorem zbk {mask:Nat}(hk:WF mask):∀ (rest done:List Int) (ow:Own),Lay mask done ow->(done++rest).length<=mask->∃ ow',rest.foldl (λ(acc:Option (Own×Nat)) (h:Int)=>(do
  let (owner,k) ← acc
  let j ← layClean.free mask owner (turns mask) (bits h % (mask+1)) (bits h)
  pure (owner.setIfInBounds j (some k),k+1):Option (Own×Nat))) (some (ow,done.length))=some (ow',(done++rest).length)/\Lay mask (done++rest) ow'
 | [],done,ow,l,_=>⟨ow,by rw[append_nil];rfl,by rw[append_nil];exact l⟩
 | h::rest,done,ow,l,hm=>by
  rw[length_append,length_cons] at hm
  obtain ⟨j,e,l'⟩:=l.step (by omega) hk h
  obtain ⟨ow',e',l''⟩:=zbk hk rest (done++[h]) _ l' (by rw[length_append,length_append];show done.length+1+rest.length<=mask;omega)
  rw[append_assoc] at e' l''
  refine ⟨ow',?_,l''⟩
  rw[foldl_cons]
  show List.foldl _ ((layClean.free mask ow (turns mask) (bits h % (mask+1)) (bits h)).bind _) rest=_
  rw[e]
  show List.foldl _ (some (ow.setIfInBounds j (some done.length),done.length+1)) rest=_
  rw[length_append] at e'
  exact e'
theorem zi1 {mask:Nat}(hk:WF mask){hs:List Int}(hm:hs.length<=mask):∃ ow,layClean mask hs.toArray=some ow/\Lay mask hs ow:=by
 obtain ⟨ow,e,l⟩:=zbk hk hs [] _ (zgO mask) hm
 refine ⟨ow,?_,l⟩
 unfold layClean
 rw[List.foldl_toArray']
 ·exact congrArg (Option.map (·.1)) e
 ·rfl
noncomputable def live (mask:Nat) (ow:Own):List (Nat×Nat):=(List.range (mask+1)).filterMap λj=>(ow.getD j none).map (j,·)
theorem Jq {mask:Nat}{ow:Own}(sz:ow.size=mask+1){j i:Nat}:(j,i)∈live mask ow↔ow[j]?=some (some i):=by
 unfold live
 rw[List.mem_filterMap]
 constructor
 ·rintro ⟨a,ha,h⟩
  have ha:=mem_range.mp ha
  rw[getD_eq_getD_getElem?,Array.getElem?_eq_getElem (by omega)] at h
  have h:ow[a].map (a,·)=some (j,i):=h
  cases hx:ow[a] with
  | none=>rw[hx] at h;cases h
  | some x=>
   rw[hx] at h
   injection h with h
   injection h with h1 h2
   subst h1 h2
   rw[Array.getElem?_eq_getElem (by omega),hx]
 ·intro h
  have hj:j<ow.size:=(Array.getElem?_eq_some_iff.mp h).1
  refine ⟨j,mem_range.mpr (by omega),?_⟩
  rw[getD_eq_getD_getElem?,h]
  rfl
theorem zbz {mask:Nat}{ow:Own}:((live mask ow).map Prod.fst).Sublist (List.range (mask+1)):=by
 unfold live
 generalize List.range (mask+1)=l
 induction l with
 | nil=>exact List.Sublist.refl _
 | cons a l ih=>
  rw[filterMap_cons]
  cases h:(ow.getD a none) with
  | none=>exact ih.cons _
  | some x=>exact ih.cons₂ _
theorem zcS:∀ n,Ris (List.range n):=λn=>by
 unfold Ris
 exact List.pairwise_lt_range
theorem zbw {mask:Nat}{ow:Own}:Ris ((live mask ow).map Prod.fst):=(zcS _).sublist zbz
theorem zgX {mask:Nat}(hk:WF mask){hs:List Int}(hm:hs.length<=mask)(finger moves:Nat)(led plain:Bool):∃ (pl order:List Nat),laid mask finger moves led plain hs.toArray=some ({ mask,place:=pl.toArray,dummies:=#[],finger,led,moves,plain },order.toArray)/\order.Nodup/\(∀ i,i∈order↔i<hs.length)/\TOk { mask,place:=pl.toArray,dummies:=#[],finger,led,moves,plain } (pl.zip (order.map (hs.getD · 0)))/\pl.length=order.length:=by
 obtain ⟨ow,e,l⟩:=zi1 hk hm
 have zip:∀ (f:Nat->Int),((live mask ow).map Prod.fst).zip (((live mask ow).map Prod.snd).map f)=(live mask ow).map λq=>(q.1,f q.2):=λf=>by
  generalize live mask ow=L
  induction L with
  | nil=>rfl
  | cons a L ih=>exact congrArg ((a.1,f a.2) :: ·) ih
 have fst:((live mask ow).map λq=>(q.1,hs.getD q.2 0)).map Prod.fst=(live mask ow).map Prod.fst:=by rw[map_map];rfl
 have hmem:∀ i,i∈(live mask ow).map Prod.snd↔i<hs.length:=λi=>by
  rw[mem_map]
  constructor
  ·rintro ⟨⟨j,i'⟩,h,rfl⟩
   exact l.lt j _ ((Jq l.sz).mp h)
  ·intro h
   obtain ⟨j,hj⟩:=l.ex i h
   exact ⟨(j,i),(Jq l.sz).mpr hj,rfl⟩
 have nd:((live mask ow).map Prod.snd).Nodup:=by
  unfold List.Nodup
  rw[pairwise_map]
  have r:=zbw (mask:=mask) (ow:=ow)
  unfold Ris at r
  rw[pairwise_map] at r
  refine List.Pairwise.imp_of_mem (λ{a b} ha hb h q=>?_) r
  have:=l.un a.1 b.1 a.2 ((Jq l.sz).mp ha) (by rw[q];exact (Jq l.sz).mp hb)
  omega
 refine ⟨(live mask ow).map Prod.fst,(live mask ow).map Prod.snd,?_,nd,hmem,?_,by rw[length_map,length_map]⟩
 ·unfold laid
  rw[e]
  rfl
 ·rw[zip]
  refine ⟨hk,rfl,?_,?_,?_,?_,?_⟩
  ·rw[fst]
  ·rw[fst];exact zbw
  ·intro q hq
   obtain ⟨a,ha,rfl⟩:=mem_map.mp hq
   have:=zbz.subset (mem_map.mpr ⟨a,ha,rfl⟩)
   have:=mem_range.mp this
   show a.1<=mask
   omega
  ·rw[length_map]
   show (live mask ow).length<=mask
   have:=zbh (b:=List.range hs.length) nd λi hi=>mem_range.mpr ((hmem i).mp hi)
   rw[length_map,length_range] at this
   omega
  ·intro q hq
   obtain ⟨⟨j,i⟩,ha,rfl⟩:=mem_map.mp hq
   have hji:=(Jq l.sz).mp ha
   have hi:=l.lt j i hji
   obtain ⟨n,w1,w2⟩:=l.w j i (hs.getD i 0) hji (by rw[getD_eq_getElem?_getD,List.getElem?_eq_getElem hi];rfl)
   refine ⟨n,w1,λm hm' => ?_⟩
   rw[fst]
   obtain ⟨x,hx⟩:=(zar l.sz (Ww m (Vs mask _)).j).mp (w2 m hm')
   exact mem_map.mpr ⟨(_,x),(Jq l.sz).mpr hx,rfl⟩
def SOk (t:SetTable)(es:Array (Int×Value)):Prop:=∃ ps,TOk t ps/\ps.map Prod.snd=es.toList.map Prod.fst
theorem zbQ {α:Type}[Inhabited α](es:Array α):∀ (order:List Nat),(∀ i∈order,i<es.size)->order.filterMap (es[·]?)=order.map (es.toList.getD · default)
 | [],_=>rfl
 | i::order,h=>by
  have hi:=h i (mem_cons_self ..)
  rw[filterMap_cons,Array.getElem?_eq_getElem hi]
  show es[i]::_=es.toList.getD i default::_
  rw[zbQ es order λk hk=>h k (mem_cons_of_mem _ hk),getD_eq_getElem?_getD,getElem?_toList,Array.getElem?_eq_getElem hi]
  rfl
theorem map_range {α:Type}[Inhabited α](l:List α):(List.range l.length).map (l.getD · default)=l:=by
 refine ext_getElem? λi=>?_
 rw[getElem?_map]
 by_cases h:i<l.length
 ·rw[getElem?_range h]
  show some (l.getD i default)=_
  rw[getD_eq_getElem?_getD,List.getElem?_eq_getElem h]
  rfl
 ·rw[List.getElem?_eq_none (by rw[length_range];omega),List.getElem?_eq_none (by omega)]
  rfl
theorem zf4 {a b:List Nat}(ha:a.Nodup)(hb:b.Nodup)(h:∀ i,i∈a↔i∈b):a.Perm b:=(List.perm_ext_iff_of_nodup ha hb).mpr h
instance:Inhabited (Int×Value):=⟨(0,.none)⟩
theorem zjt (t:SetTable)(es:Array (Int×Value)){wanted mask:Nat}(hw:sizeAbove wanted=mask+1)(hk:WF mask)(hn:es.size<=mask):∃ (t' : SetTable) (order:Array Nat),t.relaid (es.map (·.1)) wanted=some (t',order)/\SOk t' (order.filterMap (es[·]?))/\(order.filterMap (es[·]?)).toList.Perm es.toList/\t'.mask=mask/\t'.led=t.led/\t'.plain=t.plain:=by
 have el:(es.map (·.1))=(es.toList.map (·.1)).toArray:=by rw[← Array.toList_map]
 obtain ⟨pl,order,e,nd,hm,tok,hl⟩:=zgX (mask:=mask) hk (hs:=es.toList.map (·.1)) (by rw[length_map,length_toList];exact hn) t.finger (t.movedTo mask) t.led t.plain
 have hm' : ∀ i∈order,i<es.size:=λi hi=>by have:=(hm i).mp hi;rw[length_map,length_toList] at this;exact this
 have pk:(order.toArray.filterMap (es[·]?)).toList=order.map (es.toList.getD · default):=by
  rw[Array.toList_filterMap]
  exact zbQ es order hm'
 refine ⟨_,order.toArray,?_,⟨_,tok,?_⟩,?_,rfl,rfl,rfl⟩
 ·unfold relaid
  rw[hw,el]
  exact e
 ·rw[pk,List.map_snd_zip (by rw[length_map];omega),map_map]
  refine map_congr_left λi hi=>?_
  have h:=hm' i hi
  show (es.toList.map (·.1)).getD i 0=(es.toList.getD i default).1
  rw[getD_eq_getElem?_getD,getD_eq_getElem?_getD,getElem?_map,getElem?_toList,Array.getElem?_eq_getElem h]
  rfl
 ·rw[pk]
  have:=(zf4 nd nodup_range (λi=>by rw[hm i,mem_range]):order.Perm (List.range (es.toList.map (·.1)).length)).map (es.toList.getD · default)
  rw[length_map,map_range] at this
  exact this
section
variable {prog:Program}{w:World}{A:Around}{E:Value->Shared->Prop}{s:Shared}
abbrev Jx (prog:Program)(w:World)(h:Heap)(ks:List Int)(a:Addr):Prop:=IsTupleKey (intKind prog w) h ks a
abbrev hsh (prog:Program)(w:World)(ks:List Int):Int:=tupleKeyHash (intKind prog w) ks
theorem Ub {ks:List Int}{a:Addr}{Q:Bool->Shared->Prop}(hk:Jx prog w s.heap ks a)(h:Q false s):wpAny (model prog w) A (ofAClassStatement 8 (.ref a)) Q E s:=by
 have hT:=hk.typeIs
 obtain ⟨o,items,n,ho,_,hd,hi⟩:=hk
 unfold ofAClassStatement
 refine wpAny_bind (wpAny_typeOf hT ?_)
 dsimp only
 refine wpAny_bind ?_
 refine wpAny_pure ?_
 simp only[Bool.not_true,false_eq_true,if_false]
 refine wpAny_bind (wpAny_seqItems ho hd ?_)
 dsimp only
 refine wpAny_bind ?_
 show wpAny _ _ (forIn items _ _) _ _ s
 rw[← Array.forIn_toList]
 refine wpAny_forIn_list _ (λrest r s' => r.1=none/\s'=s/\∀ v∈rest,carriedByValue v=true) _ ?_ ?_ _ _ ⟨rfl,rfl,hi.byValue⟩
 ·rintro v rest r s' ⟨hr,rfl,hall⟩
  have e:ofAClassStatement 7 v=pure false:=by
   have:=hall v mem_cons_self
   cases v <;> first | rfl | (simp[carriedByValue] at this)
  rw[e]
  refine wpAny_bind (wpAny_pure ?_)
  simp only[false_eq_true,if_false]
  exact wpAny_pure ⟨rfl,rfl,λu hu' => hall u (mem_cons_of_mem _ hu')⟩
 ·rintro ⟨r1,r2⟩ s' ⟨hr,rfl,_⟩
  simp only at hr
  subst hr
  exact wpAny_pure h
theorem zbV {ks:List Int}{a:Addr}{Q:Bool->Shared->Prop}(hk:Jx prog w s.heap ks a)(h:Q true s):wpAny (model prog w) A (hashByValue 8 (.ref a)) Q E s:=by
 have hT:=hk.typeIs
 obtain ⟨o,items,n,ho,_,hd,hi⟩:=hk
 have hin:∀ v∈items.toList,∃ m t,v = .int m t:=by
  generalize items.toList=vs at hi
  induction hi with
  | nil=>intro v hv;cases hv
  | @cons k v' ks vs h1 _ ih=>
   intro v hv
   rcases mem_cons.mp hv with rfl | hv
   ·obtain ⟨t,rfl⟩:=Value.isInt_shape h1
    exact ⟨_,_,rfl⟩
   ·exact ih v hv
 unfold hashByValue
 refine wpAny_bind (wpAny_specialOf hT F.slot_tuple_hash.lookup ?_)
 show wpAny _ _ (seqItems? (.ref a) >>= _) _ _ s
 refine wpAny_bind (wpAny_seqItems ho hd ?_)
 dsimp only
 refine wpAny_bind ?_
 show wpAny _ _ (forIn items _ _) _ _ s
 rw[← Array.forIn_toList]
 refine wpAny_forIn_list _ (λrest r s' => r.1=none/\s'=s/\∀ v∈rest,∃ m t,v = .int m t) _ ?_ ?_ _ _ ⟨rfl,rfl,hin⟩
 ·rintro v rest r s' ⟨hr,rfl,hall⟩
  obtain ⟨m,t,rfl⟩:=hall v mem_cons_self
  have e:hashByValue 7 (.int m t)=pure true:=rfl
  rw[e]
  refine wpAny_bind (wpAny_pure ?_)
  simp only[Bool.not_true,false_eq_true,if_false]
  exact wpAny_pure ⟨rfl,rfl,λu hu' => hall u (mem_cons_of_mem _ hu')⟩
 ·rintro ⟨r1,r2⟩ s' ⟨hr,rfl,_⟩
  simp only at hr
  subst hr
  exact wpAny_pure h
theorem zgJ {kx:List Int}{c:Addr}{ys:List Value}{Q:Bool->Shared->Prop}(hx:Jx prog w s.heap kx c)(hy:∀ y∈ys,∃ b ks,y = .ref b/\Jx prog w s.heap ks b)(h:Q false s):wpAny (model prog w) A (searchCouldBeSeen (.ref c) ys) Q E s:=by
 unfold searchCouldBeSeen
 refine wpAny_bind ?_
 refine wpAny_forIn_list _ (λrest r s' => r.1=none/\s'=s/\∀ y∈rest,∃ b ks,y = .ref b/\Jx prog w s.heap ks b) _ ?_ ?_ _ _ ⟨rfl,rfl,hy⟩
 ·rintro v rest r s' ⟨hr,rfl,hall⟩
  obtain ⟨b,ks,rfl,hb⟩:=hall v mem_cons_self
  dsimp only
  have go:∀ u∈rest,∃ b ks,u=Value.ref b/\Jx prog w s'.heap ks b:=λu hu' => hall u (mem_cons_of_mem _ hu')
  split
  ·exact wpAny_pure ⟨rfl,rfl,go⟩
  ·refine wpAny_bind (wpAny_eqIsQuiet_tuple hx ?_)
   simp only[Bool.not_true,false_eq_true,if_false]
   refine wpAny_bind (wpAny_eqIsQuiet_tuple hb ?_)
   simp only[Bool.not_true,false_eq_true,if_false]
   refine wpAny_bind (Ub hx ?_)
   simp only[false_eq_true,if_false]
   refine wpAny_bind (Ub hb ?_)
   simp only[false_eq_true,if_false]
   exact wpAny_pure ⟨rfl,rfl,go⟩
 ·rintro ⟨r1,r2⟩ s' ⟨hr,rfl,_⟩
  simp only at hr
  subst hr
  exact wpAny_pure h
abbrev zjj (prog:Program)(w:World)(q:Addr×List Int):Int×Value:=(hsh prog w q.2,.ref q.1)
theorem TOk.fits {t:SetTable}{ps:List (Nat×Int)}(o:TOk t ps):t.fits ps.length=true:=by
 have h1:t.place.size=ps.length:=by rw[← length_toList,o.p,length_map]
 unfold SetTable.fits SetTable.fill
 rw[h1,o.d]
 have:=o.f
 simp[this]
theorem WF.odd {m:Nat}(h:WF m):(m % 2==0)=false:=by rcases h with rfl | rfl | rfl <;> rfl
theorem SOk.len {es:Array (Int×Value)}{ps:List (Nat×Int)}(e:ps.map Prod.snd=es.toList.map Prod.fst):ps.length=es.size:=by
 have:=congrArg List.length e
 rwa [length_map,length_map,length_toList] at this
theorem Emp.shift {t:SetTable}{p:Probe}{e k:Nat}(E:Emp t p e)(hk:k<=e):Emp t (way t.mask k p) (e-k):=
 ⟨by rw[← Wx,Nat.sub_add_cancel hk];exact E.at_,λm hm=>by rw[← Wx];exact E.bef _ (by omega)⟩
theorem zd0 {mask:Nat}{p:Probe}(h:p.dummy=none):∀ k,(way mask k p).dummy=none:=λk=>by
 induction k with
 | zero=>exact h
 | succ k ih=>rw[J5];unfold adv;split <;> exact ih
theorem zcR {a:Addr}{o:Obj}{es:Array (Int×Value)}{ep:Nat}{t:SetTable}{ps:List (Nat×Int)}{M:List (Addr×List Int)}{kx:List Int}{c:Addr}{Q:SetFound->Shared->Prop}
  (hu:A.units<cLine) (ho:s.heap.get? a=some o) (hd:o.data = .set es ep t) (tok:TOk t ps) (hps:ps.map Prod.snd=es.toList.map Prod.fst) (hM:es.toList=M.map (zjj prog w)) (hK:∀ q∈M,Jx prog w s.heap q.2 q.1) (hx:Jx prog w s.heap kx c):
  ∀ (fuel e:Nat) (p:Probe) (stand:Option Probe),stand.getD (t.probeStart (hsh prog w kx))=p->p.dummy=none->Emp t p e->e<fuel->e<10*turns t.mask->
   (∀ (i:Nat) (q:Addr×List Int),M[i]?=some q->q.2=kx->(∃ m,m<e/\t.slot (way t.mask m p).j = .live i)->Q (.there none) s)->
   ((∀ (m i:Nat),m<e->t.slot (way t.mask m p).j = .live i->∀ q,M[i]?=some q->q.2≠kx)->Q (.free (way t.mask e p).j false) s)->
   wpAny (model prog w) A (setSearchFrom a (.ref c) (hsh prog w kx) true fuel stand) Q E s:=by
 have hf:t.fits es.size=true:=by rw[← SOk.len hps];exact tok.fits
 have get:∀ (i:Nat) (q:Addr×List Int),M[i]?=some q->es[i]?=some (zjj prog w q):=λi q h=>by
  rw[← getElem?_toList,hM,getElem?_map,h];rfl
 intro fuel
 induction fuel with
 | zero=>intro e p stand _ _ _ h;omega
 | succ fuel ih=>
  intro e p stand hst hdm em he het hY hN
  unfold setSearchFrom
  refine wpAny_bind (wpAny_setState_of ho hd hf ?_)
  dsimp only
  have hg:t.gaveWay=false:=tok.m.odd
  rw[hg]
  simp only[false_eq_true,if_false]
  rw[hst]
  unfold SetTable.probe
  obtain ⟨m,k,hk,sc,hb,hm⟩:=zcB (t:=t) (λi=>((es[i]?.map (·.1)).getD 0)) (hsh prog w kx) hdm em
  have hgo:probe.go t (λi=>((es[i]?.map (·.1)).getD 0)) (hsh prog w kx) (10*turns t.mask) p=some m:=zg8 sc _ (by omega)
  have lives:∀ {j i:Nat},t.slot j = .live i->∃ q,M[i]?=some q:=λ{j i} h=>by
   have:=tok.zhU h
   have hi:i<ps.length:=by
    have:=(List.getElem?_eq_some_iff.mp this).1
    rwa [length_map] at this
   have hl:ps.length=M.length:=by
    rw[SOk.len hps,← length_toList,hM,length_map]
   exact ⟨_,List.getElem?_eq_getElem (by omega)⟩
  have hne:∀ (m' i:Nat),m'<k->t.slot (way t.mask m' p).j = .live i->∀ q,M[i]?=some q->q.2≠kx:=λm' i hm' hs q hq e=>by
   have:=hb m' hm' i hs
   rw[get i q hq] at this
   exact this (by rw[← e];rfl)
  show wpAny _ _ (match probe.go t (λi=>((es[i]?.map (·.1)).getD 0)) (hsh prog w kx) (10*turns t.mask) p with
   | some met=>_
   | _=>_) _ _ _
  rw[hgo]
  rcases hm with ⟨rfl,rfl⟩ | ⟨i,rfl,hke,hsl,hh⟩
  ·dsimp only
   exact wpAny_pure (hN hne)
  ·dsimp only
   obtain ⟨q,hq⟩:=lives hsl
   have hqm:q∈M:=mem_of_getElem? hq
   have hei:=get i q hq
   have rest:wpAny (model prog w) A (do
     let some (_,y):=es[i]? | unsupported "internal:set-entry"
     let equal ← holding [y] (eqBool y (.ref c))
     let (es',_,t') ← setState a
     if true&&equal then return .there none
     let some same:=t'.sameMemory t.moves t.mask | unsupported "set.changed-during-lookup:is-the-new-block-at-the-old-address"
     let still ← match (if same then t'.slot (way t.mask k p).j else .empty) with
      | .live i' => match es'[i']? with
       | some (_,y')=>do pure (if ← isSame y' y then some i' else none)
       | none=>pure none
      | _=>pure none
     match still with
     | none=>rule "set.search.anew";setSearchFrom a (.ref c) (hsh prog w kx) true fuel none
     | some i' => if equal then return .there (some i') else setSearchFrom a (.ref c) (hsh prog w kx) true fuel (some (way t.mask (k+1) p))) Q E s:=by
    rw[hei]
    dsimp only
    refine wpAny_bind (wpAny_holding (wpAny_eqBool_tuple hu (hK q hqm) hx ?_))
    refine wpAny_bind (wpAny_setState_of ho hd hf ?_)
    dsimp only
    by_cases e1:q.2=kx
    ·rw[decide_eq_true e1]
     exact wpAny_pure (hY i q hq e1 ⟨k,hke,hsl⟩)
    ·rw[decide_eq_false e1]
     simp only[Bool.and_false,false_eq_true,if_false]
     have hsm:t.sameMemory t.moves t.mask=some true:=by unfold SetTable.sameMemory;rw[if_pos (beq_self_eq_true _)]
     rw[hsm]
     simp only[if_true]
     rw[hsl]
     dsimp only
     rw[hei]
     dsimp only
     refine wpAny_bind (wpAny_isSame_ref_self ?_)
     refine wpAny_bind (wpAny_pure ?_)
     simp only[if_true]
     refine ih (e-(k+1)) (way t.mask (k+1) p) (some (way t.mask (k+1) p)) rfl (zd0 hdm _) (em.shift (by omega)) (by omega) (by omega) ?_ ?_
     ·intro i2 q2 h1 h2 h3
      obtain ⟨m2,h4,h5⟩:=h3
      rw[← Wx] at h5
      exact hY i2 q2 h1 h2 ⟨_,by omega,h5⟩
     ·intro h1
      rw[← Wx,Nat.sub_add_cancel (by omega)]
      refine hN λm' i' hm' hs q' hq' => ?_
      rcases lt_trichotomy m' k with l | l | l
      ·exact hne m' i' l hs q' hq'
      ·rw[l,hsl] at hs
       injection hs with hs
       rw[← hs,hq] at hq'
       injection hq' with hq'
       rw[← hq'];exact e1
      ·refine h1 (m'-(k+1)) i' (by omega) ?_ q' hq'
       rw[← Wx,Nat.sub_add_cancel (by omega)]
       exact hs
   by_cases hl:t.led=true
   ·rw[hl]
    simp only[Bool.not_true,false_eq_true,if_false]
    exact rest
   ·rw[eq_false_iff.mpr hl]
    simp only[Bool.not_false,if_true]
    refine wpAny_bind (zgJ hx (λy hy=>?_) ?_)
    ·obtain ⟨e2,h2,rfl⟩:=mem_map.mp hy
     have h2:e2∈es/\e2.1=hsh prog w kx:=by simpa using h2
     have h3:e2∈es.toList:=Array.mem_toList_iff.mpr h2.1
     rw[hM] at h3
     obtain ⟨q3,h4,rfl⟩:=mem_map.mp h3
     exact ⟨_,_,rfl,hK q3 h4⟩
    ·simp only[false_eq_true,if_false]
     exact rest
theorem zeD {a:Addr}{o:Obj}{es:Array (Int×Value)}{ep:Nat}{t:SetTable}{wanted mask:Nat}{Q:Unit->Shared->Prop}(ho:s.heap.get? a=some o)(hd:o.data = .set es ep t)(hf:t.fits es.size=true)(hw:sizeAbove wanted=mask+1)(hk:WF mask)(hn:es.size<=mask)
  (h:∀ (t' : SetTable) (es' : Array (Int×Value)),SOk t' es' -> es'.toList.Perm es.toList->t'.mask=mask->t'.led=t.led->t'.plain=t.plain->Q () { s with heap:=s.heap.update a (Obj.putSet es' t') }):
  wpAny (model prog w) A (setRelay a wanted) Q E s:=by
 obtain ⟨t',order,e1,e2,e3,e4,e5,e6⟩:=zjt t es hw hk hn
 have hmk:mask<=127:=by rcases hk with rfl | rfl | rfl <;> omega
 have hs:¬ sizeAbove wanted>sizeLine:=by rw[hw,sizeLine_eq];omega
 have sz:(order.filterMap (es[·]?)).size=es.size:=by rw[← length_toList,e3.length_eq,length_toList]
 unfold setRelay
 refine wpAny_bind (wpAny_setState_of ho hd hf ?_)
 dsimp only
 rw[if_neg hs]
 refine wpAny_bind ?_
 rw[e1]
 show wpAny _ _ (if (order.filterMap (es[·]?)).size != es.size then (do let _ ← unsupported "internal:set-table-lost-an-element";pure (order.filterMap (es[·]?),t')) else pure (order.filterMap (es[·]?),t')) _ _ _
 rw[sz]
 simp only[bne_self_eq_false,false_eq_true,if_false]
 refine wpAny_pure ?_
 dsimp only
 exact wpAny_storeSet_of ho hd (h t' _ e2 e3 e4 e5 e6) (by rw[sz,sizeLine_eq];omega)
theorem Vg {α β:Type}{f:α->β}{l' l:List β}(p:l'.Perm l):∀ (M:List α),l=M.map f->∃ M' : List α,M'.Perm M/\l'=M'.map f:=by
 induction p with
 | nil=>intro M h;exact ⟨M,List.Perm.refl _,h⟩
 | cons x p ih=>
  intro M h
  cases M with
  | nil=>cases h
  | cons m M=>
   injection h with h1 h2
   obtain ⟨M',p',e⟩:=ih M h2
   exact ⟨m::M',p'.cons m,by rw[e,h1];rfl⟩
 | swap x y l=>
  intro M h
  match M,h with
  | m1::m2::M,h=>
   injection h with h1 h2
   injection h2 with h2 h3
   exact ⟨m2::m1::M,List.Perm.swap ..,by rw[h1,h2,h3];rfl⟩
 | trans p1 p2 ih1 ih2=>
  intro M h
  obtain ⟨M2,q2,e2⟩:=ih2 M h
  obtain ⟨M1,q1,e1⟩:=ih1 M2 e2
  exact ⟨M1,q1.trans q2,e1⟩
def TSt (prog:Program)(w:World)(h:Heap)(a:Addr)(led:Bool)(M:List (Addr×List Int)):Prop:=
 ∃ o es ep t ps,h.get? a=some o/\o.ExactSet/\o.data = .set es ep t/\TOk t ps/\ps.map Prod.snd=es.toList.map Prod.fst/\es.toList=M.map (zjj prog w)/\(∀ q∈M,Jx prog w h q.2 q.1)/\(M.map Prod.snd).Nodup/\es.size*5<t.mask*3/\t.led=led/\t.plain=true
theorem Jx.keeps {h h' : Heap}{ks:List Int}{a d:Addr}{o:Obj}{es ep t}(x:Jx prog w h ks a)(ho:h.get? d=some o)(hd:o.data = .set es ep t)(hs:SameBut d h h'):Jx prog w h' ks a:=by
 obtain ⟨o',items,n,ho',hc,hd',hi⟩:=x
 have hne:a≠d:=by
  rintro rfl
  obtain rfl:o'=o:=Option.some.inj (ho'.symm.trans ho)
  rw[hd] at hd';exact nomatch hd'
 exact ⟨o',items,n,(hs.2 a hne).trans ho',hc,hd',hi⟩
theorem zdo {h:Heap}{a:Addr}{o:Obj}{es:Array (Int×Value)}{ep:Nat}{t:SetTable}(es' : Array (Int×Value))(t' : SetTable)(ho:h.get? a=some o)(hd:o.data = .set es ep t):(h.update a (Obj.putSet es' t')).get? a=some { o with data:=.set es' (ep+1) t' }:=by
 have:=get?_update_self (Obj.putSet es' t') ho (by rw[putSet_of es' t' hd];rfl)
 rw[putSet_of es' t' hd] at this;exact this
theorem zhD {a c:Addr}{kx:List Int}{led:Bool}{M:List (Addr×List Int)}{Q:Bool->Shared->Prop}(hu:A.units<cLine)(S:TSt prog w s.heap a led M)(hx:Jx prog w s.heap kx c)(hn:kx∉M.map Prod.snd->M.length<64)
  (h:∀ (h' : Heap) (M' : List (Addr×List Int)) (b:Bool),SameBut a s.heap h' -> TSt prog w h' a led M' -> (kx∈M.map Prod.snd/\M'=M\/kx∉M.map Prod.snd/\M'.Perm ((c,kx)::M))->Q b { s with heap:=h' }):
  wpAny (model prog w) A (setAddHashed a (.ref c) (hsh prog w kx)) Q E s:=by
 have S0:=S
 obtain ⟨o,es,ep,t,ps,ho,hex,hd,tok,hps,hM,hK,nd,hfull,hled,hpl⟩:=S
 have hf:t.fits es.size=true:=by rw[← SOk.len hps];exact tok.fits
 have hml:M.length=es.size:=by rw[← length_toList,hM,length_map]
 have hpe:ps.length=es.size:=SOk.len hps
 have hmk:t.mask<=127:=by rcases tok.m with e | e | e <;> omega
 obtain ⟨e,he,em⟩:=tok.emp (Vs t.mask (hsh prog w kx))
 unfold setAddHashed setAddHashedIn
 refine wpAny_holding (wpAny_bind (wpAny_setState_of ho hd hf ?_))
 dsimp only
 rw[show byScan (.ref c) es=false from rfl]
 simp only[false_eq_true,if_false]
 unfold setSearch
 refine wpAny_bind (zcR hu ho hd tok hps hM hK hx 100000 e (sta t.mask (hsh prog w kx)) none rfl rfl em (by unfold turns at he;omega) he ?_ ?_)
 ·intro i q h1 h2 _
  refine wpAny_pure ?_
  have e:s={ s with heap:=s.heap }:=by cases s;rfl
  rw[e]
  exact h s.heap M false (SameBut.refl a s.heap) S0 (.inl ⟨mem_map.mpr ⟨q,mem_of_getElem? h1,h2⟩,rfl⟩)
 ·intro hno
  have hnot:kx∉M.map Prod.snd:=λhm=>by
   obtain ⟨q,hq,e2⟩:=mem_map.mp hm
   obtain ⟨i,hi,e3⟩:=getElem_of_mem hq
   have hip:i<ps.length:=by omega
   have hsn:(ps[i]).2=hsh prog w kx:=by
    have h1:=congrArg (·[i]?) hps
    simp only[hM,getElem?_map] at h1
    rw[List.getElem?_eq_getElem hip,List.getElem?_eq_getElem hi,e3] at h1
    have h1:some (ps[i]).2=some (hsh prog w q.2):=h1
    injection h1 with h1
    rw[h1,e2]
   obtain ⟨k,hk,hsl⟩:=tok.reach (i:=i) (j:=(ps[i]).1) (h:=hsh prog w kx) (by rw[List.getElem?_eq_getElem hip,← hsn]) em
   exact hno k i hk hsl q (by rw[List.getElem?_eq_getElem hi,e3]) e2
  have hn:=hn hnot
  dsimp only
  refine wpAny_bind (wpAny_setState_of ho hd hf ?_)
  dsimp only
  generalize hj:(way t.mask e (sta t.mask (hsh prog w kx))).j=j
  generalize hp:below t.place j=p
  have hroom:ps.length+1<=t.mask:=by omega
  have tok' := tok.put em hj hp hroom
  have hput:t.put j=((t.put j).1,p):=by unfold SetTable.put;rw[hp]
  have hpl' : (t.put j).1.plain=true:=hpl
  have hled' : (t.put j).1.led=led:=hled
  have hmask' : (t.put j).1.mask=t.mask:=rfl
  rw[hput]
  generalize (t.put j).1=t1 at tok' hpl' hled' hmask'
  dsimp only
  rw[hpl']
  simp only[if_true]
  refine wpAny_bind (zbV hx ?_)
  simp only[if_true]
  have hl1:(insertAt es p (hsh prog w kx,.ref c)).toList=(M.take p++(c,kx)::M.drop p).map (zjj prog w):=by
   rw[SetTable.toList_insertAt,hM,map_append,map_cons,map_take,map_drop]
  have hps1:(ps.take p++(j,hsh prog w kx)::ps.drop p).map Prod.snd=(insertAt es p (hsh prog w kx,.ref c)).toList.map Prod.fst:=by
   rw[SetTable.toList_insertAt,map_append,map_cons,map_append,map_cons,map_take,map_drop,map_take,map_drop,hps]
  generalize hes1:insertAt es p (hsh prog w kx,.ref c)=es1 at hl1 hps1
  have pm:(M.take p++(c,kx)::M.drop p).Perm ((c,kx)::M):=by
   have:=List.perm_middle (a:=(c,kx)) (l₁:=M.take p) (l₂:=M.drop p)
   rwa [List.take_append_drop] at this
  generalize hM1:M.take p++(c,kx)::M.drop p=M1 at hl1 pm
  have hsz1:es1.size=es.size+1:=by rw[← length_toList,hl1,length_map,pm.length_eq,length_cons,hml]
  have sb:=SameBut.update s.heap a (Obj.putSet es1 t1)
  have g1:=zdo (h:=s.heap) es1 t1 ho hd
  have nd1:(M1.map Prod.snd).Nodup:=by
   refine ((pm.map Prod.snd).nodup_iff).mpr ?_
   exact nodup_cons.mpr ⟨hnot,nd⟩
  have hK1:∀ {h' : Heap},SameBut a s.heap h' -> ∀ q∈M1,Jx prog w h' q.2 q.1:=λ{h'} sb q hq=>by
   rcases mem_cons.mp (pm.mem_iff.mp hq) with rfl | hq
   ·exact Jx.keeps hx ho hd sb
   ·exact Jx.keeps (hK q hq) ho hd sb
  refine wpAny_bind (wpAny_storeSet_of ho hd ?_ (by rw[hsz1,sizeLine_eq];omega))
  have hfill:t1.fill=es1.size:=by
   unfold SetTable.fill
   rw[tok'.d,← length_toList,tok'.p,length_map]
   rw[SOk.len hps1];rfl
  by_cases hfl:t1.tooFull=true
  ·rw[hfl]
   simp only[Bool.not_false,Bool.and_self,if_true]
   have hfl' : t1.mask*3<=es1.size*5:=by
    unfold SetTable.tooFull at hfl
    rw[hfill] at hfl
    simpa using hfl
   have hnew:∃ mask,sizeAbove (grown (es.size+1))=mask+1/\WF mask/\es1.size<=mask/\es1.size*5<mask*3:=by
    rw[hmask'] at hfl'
    rcases tok.m with e5 | e5 | e5
    ·have:es.size=4:=by omega
     rw[this,hsz1,this]
     exact ⟨31,by decide,.inr (.inl rfl),by decide,by decide⟩
    ·have:es.size=18:=by omega
     rw[this,hsz1,this]
     exact ⟨127,by decide,.inr (.inr rfl),by decide,by decide⟩
    ·omega
   obtain ⟨mask,m1,m2,m3,m4⟩:=hnew
   have hf1:t1.fits es1.size=true:=by rw[← SOk.len hps1];exact tok'.fits
   refine wpAny_bind (zeD (s:={ s with heap:=s.heap.update a (Obj.putSet es1 t1) }) g1 rfl hf1 m1 m2 m3 λt2 es2 so2 pm2 k1 k2 k3=>?_)
   refine wpAny_pure ?_
   obtain ⟨ps2,tok2,hps2⟩:=so2
   obtain ⟨M2,pmM,hM2⟩:=Vg pm2 M1 hl1
   have sb2:SameBut a s.heap ((s.heap.update a (Obj.putSet es1 t1)).update a (Obj.putSet es2 t2)):=sb.trans (SameBut.update _ a _)
   refine h _ M2 true sb2 ⟨_,es2,_,t2,ps2,zdo es2 t2 g1 rfl,hex,rfl,tok2,hps2,hM2,λq hq=>hK1 sb2 q (pmM.mem_iff.mp hq),((pmM.map Prod.snd).nodup_iff).mpr nd1,?_,by rw[k2];exact hled',by rw[k3];exact hpl'⟩ (.inr ⟨hnot,pmM.trans pm⟩)
   rw[k1,← length_toList,pm2.length_eq,length_toList]
   exact m4
  ·rw[eq_false_iff.mpr hfl]
   simp only[Bool.not_false,Bool.and_false,false_eq_true,if_false]
   refine wpAny_pure ?_
   refine h _ M1 true sb ⟨_,es1,_,t1,_,g1,hex,rfl,tok',hps1,hl1,hK1 sb,nd1,?_,hled',hpl'⟩ (.inr ⟨hnot,pm⟩)
   have:¬ (t1.mask*3<=es1.size*5):=λz=>hfl (by unfold SetTable.tooFull;rw[hfill];simpa using z)
   omega
def Met (its:Nat->Addr×List Int)(i:Nat)(M:List (Addr×List Int)):Prop:=(∀ k,k∈M.map Prod.snd↔∃ m,m<i/\(its m).2=k)/\∀ q∈M,∃ m,m<i/\q=its m
theorem Met.zero (its:Nat->Addr×List Int):Met its 0 []:=⟨λk=>⟨λh=>(by cases h),λ⟨m,h,_⟩=>absurd h (not_lt_zero _)⟩,λq h=>(by cases h)⟩
theorem Met.succ {its:Nat->Addr×List Int}{i:Nat}{M M' : List (Addr×List Int)}(h:Met its i M)(e:(its i).2∈M.map Prod.snd/\M'=M\/(its i).2∉M.map Prod.snd/\M'.Perm (((its i).1,(its i).2)::M)):Met its (i+1) M' := by
 obtain ⟨h1,h2⟩:=h
 have lt:∀ m,m<i+1↔m<i\/m=i:=λm=>by omega
 rcases e with ⟨hin,rfl⟩ | ⟨_,pm⟩
 ·refine ⟨λk=>⟨λhk=>?_,?_⟩,λq hq=>?_⟩
  ·obtain ⟨m,hm,e⟩:=(h1 k).mp hk
   exact ⟨m,by omega,e⟩
  ·rintro ⟨m,hm,rfl⟩
   rcases (lt m).mp hm with hm | rfl
   ·exact (h1 _).mpr ⟨m,hm,rfl⟩
   ·exact hin
  ·obtain ⟨m,hm,e⟩:=h2 q hq
   exact ⟨m,by omega,e⟩
 ·have pm2:=pm.map Prod.snd
  refine ⟨λk=>?_,λq hq=>?_⟩
  ·rw[pm2.mem_iff,map_cons,mem_cons,h1 k]
   constructor
   ·rintro (rfl | ⟨m,hm,e⟩)
    ·exact ⟨i,by omega,rfl⟩
    ·exact ⟨m,by omega,e⟩
   ·rintro ⟨m,hm,e⟩
    rcases (lt m).mp hm with hm | rfl
    ·exact .inr ⟨m,hm,e⟩
    ·exact .inl e.symm
  ·rcases mem_cons.mp (pm.mem_iff.mp hq) with rfl | hq
   ·exact ⟨i,by omega,rfl⟩
   ·obtain ⟨m,hm,e⟩:=h2 q hq
    exact ⟨m,by omega,e⟩
def Few (n:Nat)(its:Nat->Addr×List Int):Prop:=∀ L:List (List Int),L.Nodup->(∀ k∈L,∃ m,m<n/\(its m).2=k)->L.length<=64
theorem TSt.at {h h' : Heap}{a:Addr}{led:Bool}{M:List (Addr×List Int)}(S:TSt prog w h a led M)(g:∀ o,h.get? a=some o->h'.get? a=some o)(k:∀ q∈M,Jx prog w h q.2 q.1->Jx prog w h' q.2 q.1):TSt prog w h' a led M:=by
 obtain ⟨o,es,ep,t,ps,ho,hex,hd,tok,hps,hM,hK,r⟩:=S
 exact ⟨o,es,ep,t,ps,g o ho,hex,hd,tok,hps,hM,λq hq=>k q hq (hK q hq),r⟩
theorem Jx.at {h h' : Heap}{a:Addr}{ks:List Int}(x:Jx prog w h ks a)(g:∀ o,h.get? a=some o->h'.get? a=some o):Jx prog w h' ks a:=by
 obtain ⟨o,items,n,ho,r⟩:=x
 exact ⟨o,items,n,g o ho,r⟩
end
section
variable {prog:Program}{w:World}{A:Around}{R:Result->Shared->Prop}{I:Addr}{fp wr:List Addr}{G:Array GenState->Array GenState->Prop}{n:Nat}{P:Nat->Value->Prop}{St:Nat->Shared->Prop}
theorem zhi (W:WalksS prog w A.in1 I fp wr G n P St)(hu:A.in1.units<cLine)(S:Addr)(led:Bool)(hSf:S∉fp)(its:Nat->Addr×List Int)(hval:∀ i v,P i v->v = .ref (its i).1)(hout:∀ i,i<n->(its i).1∉S::wr)(few:Few n its):
  ∀ (k i:Nat) (s:Shared) (M:List (Addr×List Int)),n-i=k->i<=n->St i s->(∀ m,m<n->Jx prog w s.heap (its m).2 (its m).1)->TSt prog w s.heap S led M->Met its i M->
   (∀ s' M',Moved (S::wr) G s s' -> TSt prog w s'.heap S led M' -> Met its n M' -> R (.ok (.ret .none)) s')->
   codeAny (model prog w) A (.builtin "set.update.loop" ⟨[.ref S,.ref I],[]⟩) R s:=by
 have hSw:S∉wr:=λh=>hSf (W.sub _ h)
 have hsub:∀ b∈wr,b∈S::wr:=λb hb=>mem_cons_of_mem _ hb
 have keep:∀ {s s' : Shared} {M:List (Addr×List Int)}{i:Nat},i<=n->Met its i M->Moved wr G s s' -> TSt prog w s.heap S led M->TSt prog w s'.heap S led M:=λ{s s' M i} hi mt hm T=>
  T.at (λo e=>hm.heap S o hSw e) λq hq x=>Jx.at x λo e=>by
   obtain ⟨m,hm',rfl⟩:=mt.2 q hq
   exact hm.heap _ o (λhw=>hout m (by omega) (hsub _ hw)) e
 intro k
 induction k with
 | zero=>
  intro i s M hk hi hst hT hS mt hR
  have hin:i=n:=by omega
  subst hin
  refine codeAny_builtin PyProof.Rows.F.entry_set_update_loop ?_
  rw[under_plainId PyProof.Rows.F.plain_set_update_loop _]
  show wpAny _ A.in1 (pyNext (.ref I) >>= _) _ _ s
  refine wpAny_bind (W.done s _ _ hst λs' hm=>?_)
  show wpAny _ A.in1 (ret Value.none) _ _ s'
  exact wpAny_pure (hR s' M (hm.mono hsub) (keep (Nat.le_refl _) mt hm hS) mt)
 | succ k ih=>
  intro i s M hk hi hst hT hS mt hR
  have hlt:i<n:=by omega
  refine codeAny_builtin PyProof.Rows.F.entry_set_update_loop ?_
  rw[under_plainId PyProof.Rows.F.plain_set_update_loop _]
  show wpAny _ A.in1 (pyNext (.ref I) >>= _) _ _ s
  refine wpAny_bind (W.item i s _ _ hlt hst λv s' hP hst' hm=>?_)
  have ev:=hval i v hP
  subst ev
  have hS' := keep (by omega) mt hm hS
  have hT' : ∀ m,m<n->Jx prog w s'.heap (its m).2 (its m).1:=λm h=>Jx.at (hT m h) λo e=>hm.heap _ o (λhw=>hout m h (hsub _ hw)) e
  show wpAny _ A.in1 (holding [Value.ref (its i).1] (setAdd S (.ref (its i).1)) >>= _) _ _ s'
  refine wpAny_bind (wpAny_holding ?_)
  unfold setAdd
  refine wpAny_holding ?_
  refine wpAny_bind (wpAny_pyHash_tuple (knd:=intKind prog w) hu (hT' i hlt) ?_)
  refine zhD (s:={ s' with toks:=s'.toks+((its i).2.length+1) }) hu hS' (hT' i hlt) (λhno=>?_) λh' M' b sb T' e=>?_
  ·have nd:(M.map Prod.snd).Nodup:=by
    obtain ⟨o,es,ep,t,ps,_,_,_,_,_,_,_,nd,_⟩:=hS
    exact nd
   have:=few ((its i).2::M.map Prod.snd) (nodup_cons.mpr ⟨hno,nd⟩) λk hk=>by
    rcases mem_cons.mp hk with rfl | hk
    ·exact ⟨i,hlt,rfl⟩
    ·obtain ⟨m,hm',e⟩:=(mt.1 k).mp hk
     exact ⟨m,by omega,e⟩
   rw[length_cons,length_map] at this
   omega
  ·have mt' := mt.succ e
   refine wpAny_pure ⟨plainId_quiet PyProof.Rows.F.plain_set_update_loop _,ih (i+1) _ M' (by omega) hlt (W.frame _ s' _ _ hst' (le_add_right _ _) λb hb o e=>?_) (λm hm' => Jx.at (hT' m hm') λo e=>?_) T' mt' λs'' M'' hm'' T'' mt'' => ?_⟩
   ·rw[sb.2 b (λh:b=S=>hSf (by rw[← h];exact hb))];exact e
   ·show h'.get? _=_
    rw[sb.2 _ (λh=>hout m hm' (by rw[h];exact mem_cons_self))];exact e
   ·refine hR s'' M'' (Moved.trans W.gtrans ((hm.mono hsub).then_heap (le_add_right _ _) λb o hb e=>?_) hm'') T'' mt''
    rw[sb.2 b (λh:b=S=>hb (by rw[h];exact mem_cons_self))];exact e
end
section
variable {prog:Program}{w:World}{A:Around}{E:Value->Shared->Prop}{s:Shared}
noncomputable def ldd (w:World):Bool:=!(w.params.followText "set-order")
noncomputable def Uc (w:World):Obj:={ cls:=.type "set",dict:=none,data:=.set #[] 0 (.fresh 0 0 (ldd w)) }
theorem TSt.new (h:Heap):TSt prog w (h.push (Uc w)) h.objs.size (ldd w) []:=
 ⟨Uc w,#[],0,.fresh 0 0 (ldd w),[],get?_push_size _ rfl,⟨rfl,rfl,rfl⟩,rfl,⟨.inl rfl,rfl,rfl,List.Pairwise.nil,λq h=>(by cases h),zero_le _,λq h=>(by cases h)⟩,rfl,rfl,λq h=>(by cases h),nodup_nil,by show 0*5<7*3;omega,rfl,rfl⟩
theorem zcT (a:Value){Q:Value->Shared->Prop}(h:Q (.ref s.heap.objs.size) { s with heap:=s.heap.push (Uc w) }):codeAny (model prog w) A (.call (.builtin "set.__new__") ⟨[.type "set",a],[]⟩) (wants Q E) s:=by
 refine codeAny_of_tree ?_
 show wpAny _ A.in1 (checkBuiltinCall "set.__new__" ⟨[.type "set",a],[]⟩ >>= λ_=>again (.builtin "set.__new__" ⟨[.type "set",a],[]⟩)) _ _ s
 refine wpAny_bind (wpAny_of_eq (F.newCall_set_1 a) (wpAny_pure ⟨plainId_quiet F.plain_set_new _,codeAny_builtin F.entry_set_new ?_⟩))
 rw[under_plainId F.plain_set_new _]
 have hsub:=sub_set_self
 unfold Builtin.«set.__new__» Builtin.Frozenset.newClass
 obtain ⟨hp,g,d,tk,os⟩:=s
 dsimp only
 wp_walk
 refine wpAny_askSetting (wpAny_pure ?_)
 dsimp only
 simp only[newObj]
 exact wpAny_bind (wpAny_alloc (wpAny_pure (wpAny_pure h)))
end
theorem Y7:Slot "set_iterator" "__next__" "set_iterator.__next__" :=
 .of (owner:= "set_iterator") (n:= "__next__") (by rw[typeLookup_type,builtinLookup_eq_fast];kernel_rfl) (by decide +kernel) (by decide +kernel) (by decide +kernel)
  (by first | exact .inl (by decide +kernel) | exact .inr (by decide +kernel)) (by rw[isSubtype_type];kernel_rfl)
theorem Jy:entryFor table "set_iterator.__next__" = some Builtin.«set_iterator.__next__» := entryFor_of_fast (by kernel_rfl)
theorem JW (a:Value):argsOk "set_iterator.__next__" ⟨[a],[]⟩:=by unfold argsOk;kernel_rfl
theorem VV:entryFor table "set.__iter__" = some Builtin.«frozenset.__iter__» :=
 entryFor_alias (id' := "frozenset.__iter__") (by kernel_rfl) rfl (by decide +kernel) (by kernel_rfl)
theorem V2 {α:Type}:∀ (l:List α) (i:Nat) (h:i<l.length),(l[i]::l.eraseIdx i).Perm l
 | a::l,0,h=>List.Perm.refl _
 | a::l,i+1,h=>(List.Perm.swap ..).trans ((V2 l i (Nat.lt_of_succ_lt_succ h)).cons a)
theorem zcX {α:Type}(next:Nat->Nat):∀ (fuel k:Nat) (left:List α) (out:Array α),left.length=fuel->(pickOrder.go next fuel k left out).toList.Perm (out.toList++left)
 | 0,k,left,out,h=>by
  have:left=[]:=List.eq_nil_of_length_eq_zero h
  subst this
  unfold pickOrder.go
  rw[append_nil]
 | fuel+1,k,left,out,h=>by
  have hlt:next k % left.length<left.length:=mod_lt _ (by omega)
  unfold pickOrder.go
  rw[List.getElem?_eq_getElem hlt]
  dsimp only
  refine (zcX next fuel (k+1) _ _ (by rw[List.length_eraseIdx_of_lt hlt];omega)).trans ?_
  rw[Array.toList_push,append_assoc]
  exact List.Perm.append_left _ (V2 left _ hlt)
theorem zc2 {α:Type}(next:Nat->Nat)(xs:Array α):(pickOrder next xs).toList.Perm xs.toList:=by
 unfold pickOrder
 exact zcX next xs.size 0 xs.toList #[] (length_toList ..)
noncomputable def slotAt (t:SetTable):Nat->Nat
 | 0=>0
 | i+1=>t.place.getD i 0+1
theorem below_at {t:SetTable}{ps:List (Nat×Int)}(o:TOk t ps){i:Nat}(hi:i<=t.place.size):below t.place (slotAt t i)=i:=by
 have hr:Ris t.place.toList:=by rw[o.p];exact o.r
 obtain ⟨b1,b2,b3⟩:=Ul hr (slotAt t i)
 have get:∀ k,k<t.place.size->∀ d,t.place.getD k d=t.place.getD k 0:=λk hk d=>by
  rw[getD_eq_getD_getElem?,getD_eq_getD_getElem?,Array.getElem?_eq_getElem hk];rfl
 have mono:∀ a b,a<b->b<t.place.size->t.place.getD a 0<t.place.getD b 0:=λa b hab hb=>by
  have:=List.pairwise_iff_getElem.mp hr a b (by simpa using (by omega:a<t.place.size)) (by simpa using hb) hab
  rw[getD_eq_getD_getElem?,getD_eq_getD_getElem?,Array.getElem?_eq_getElem (by omega),Array.getElem?_eq_getElem hb]
  simpa using this
 rcases lt_trichotomy (below t.place (slotAt t i)) i with l | l | l
 ·have h1:=b3 _ (Nat.le_refl _) (by omega)
  rw[get _ (by omega)] at h1
  cases i with
  | zero=>omega
  | succ i=>
   have h1:t.place.getD i 0+1<=t.place.getD (below t.place (slotAt t (i+1))) 0:=h1
   by_cases e:below t.place (slotAt t (i+1))=i
   ·rw[e] at h1;omega
   ·have:=mono (below t.place (slotAt t (i+1))) i (by omega) (by omega)
    omega
 ·exact l
 ·have h1:=b2 i l
  rw[get _ (by omega)] at h1
  cases i with
  | zero=>exact absurd h1 (not_lt_zero _)
  | succ i=>
   have h1:t.place.getD (i+1) 0<t.place.getD i 0+1:=h1
   have:=mono i (i+1) (by omega) (by omega)
   omega
section
variable {prog:Program}{w:World}{A:Around}{E:Value->Shared->Prop}{s:Shared}
noncomputable def VL (w:World) (S:Addr) (ep:Nat) (es:Array (Int×Value)):List (Int×Value):=if w.params.followText "set-order" then (pickOrder (w.params.setOrder S ep) es).toList else es.toList
theorem WD (w:World)(S:Addr)(ep:Nat)(es:Array (Int×Value)):(VL w S ep es).Perm es.toList:=by
 unfold VL
 split
 ·exact zc2 _ _
 ·exact List.Perm.refl _
noncomputable def slW (w:World) (t:SetTable) (i:Nat):Nat:=if w.params.followText "set-order" then 0 else slotAt t i
noncomputable def sit (S:Addr) (sl i n ep:Nat):Data:=.fields #[.int sl 0,.int i 0,.ref S,.int n 0,.int ep 0]
theorem Vc {Q:Bool->Shared->Prop}(h:Q (w.params.followText "set-order") s):wpAny (model prog w) A setsByText Q E s:=by
 unfold setsByText
 exact wpAny_bind (wpAny_askSetting (wpAny_pure h))
theorem zcN {S:Addr}{o:Obj}{es:Array (Int×Value)}{ep i:Nat}{t:SetTable}{ps:List (Nat×Int)}{Q:Option (Value×Nat)->Shared->Prop}(ho:s.heap.get? S=some o)(hd:o.data = .set es ep t)(tok:TOk t ps)(hps:ps.map Prod.snd=es.toList.map Prod.fst)(hl:t.led=ldd w)(hp:t.plain=true)(hi:i<=es.size)
  (h:Q ((VL w S ep es)[i]?.map λe=>(e.2,slW w t (i+1))) s):wpAny (model prog w) A (setNext S (slW w t i) i ep) Q E s:=by
 have hf:t.fits es.size=true:=by rw[← SOk.len hps];exact tok.fits
 unfold setNext
 refine wpAny_bind (wpAny_setState_of ho hd hf ?_)
 dsimp only
 refine wpAny_bind (Vc ?_)
 by_cases bt:w.params.followText "set-order" = true
 ·rw[bt]
  simp only[if_true,bne_self_eq_false,false_eq_true,if_false]
  unfold setWalk
  refine wpAny_bind (wpAny_bind (wpAny_setState_of ho hd hf ?_))
  dsimp only
  refine wpAny_bind (Vc ?_)
  rw[bt]
  simp only[if_true]
  refine wpAny_bind (wpAny_askSetting ?_)
  refine wpAny_pure (wpAny_pure ?_)
  unfold VL slW at h
  rw[bt] at h
  simp only[if_true,getElem?_toList] at h
  unfold slW
  rw[bt]
  exact h
 ·have bt:=eq_false_iff.mpr bt
  have hled:t.led=true:=by rw[hl];unfold ldd;rw[bt];rfl
  rw[bt]
  simp only[false_eq_true,if_false]
  unfold VL slW at h
  unfold slW
  rw[bt] at h ⊢
  simp only[false_eq_true,if_false,getElem?_toList] at h ⊢
  show wpAny _ _ (if (!t.plain&&decide (es.size>1))=true then _ else _) _ _ _
  rw[hp]
  simp only[Bool.not_true,Bool.false_and,false_eq_true,if_false]
  refine wpAny_bind ?_
  show wpAny _ _ (if (!t.led && !es.isEmpty)=true then _ else _) _ _ _
  rw[hled]
  simp only[Bool.not_true,Bool.false_and,false_eq_true,if_false]
  refine wpAny_pure ?_
  have hsz:t.place.size=es.size:=by rw[← SOk.len hps,← length_toList,tok.p,length_map]
  rw[below_at tok (by omega)]
  refine wpAny_pure ?_
  by_cases e:i<es.size
  ·rw[Array.getElem?_eq_getElem e] at h ⊢
   rw[Array.getElem?_eq_getElem (xs:=t.place) (by omega)]
   have:slotAt t (i+1)=t.place[i]+1:=by
    show t.place.getD i 0+1=_
    rw[getD_eq_getD_getElem?,Array.getElem?_eq_getElem (by omega)];rfl
   rw[this] at h
   exact h
  ·rw[Array.getElem?_eq_none (by omega)] at h ⊢
   exact h
def zbW (h:Heap)(I S:Addr)(sl i n ep:Nat):Prop:=∃ o,h.get? I=some o/\o.cls = .type "set_iterator" /\ o.data=sit S sl i n ep
theorem zbW.typeIs {s:Shared}{I S:Addr}{sl i n ep:Nat}(x:zbW s.heap I S sl i n ep):s.TypeIs (.ref I) "set_iterator" := let ⟨o,ho,hc,_⟩:=x;⟨o,ho,hc⟩
theorem zeb {S:Addr}{o:Obj}{es:Array (Int×Value)}{ep:Nat}{t:SetTable}{Q:Value->Shared->Prop}(ho:s.heap.get? S=some o)(hex:o.ExactSet)(hd:o.data = .set es ep t)(hf:t.fits es.size=true)(hp:t.plain=true)
  (h:Q (.ref s.heap.objs.size) { s with heap:=s.heap.push { cls:=.type "set_iterator",data:=sit S 0 0 es.size ep } }):
  wpAny (model prog w) A (pyIter (.ref S)) Q E s:=by
 have hT:s.TypeIs (.ref S) "set" := ⟨o,ho,hex.1⟩
 refine wpAny_pyIter_slot hT F.slot_set_iter (wpAny_call_entry F.slot_set_iter hT VV ?_ (F.args_set_iter_1 _))
 unfold Builtin.«frozenset.__iter__»
 refine wpAny_bind (m:=Builtin.Frozenset.slot0 "__iter__" _) (wpAny_pure ?_)
 unfold Builtin.Frozenset.sizeOf
 refine wpAny_bind (wpAny_bind (wpAny_setEntries_of ho hd hf (wpAny_pure ?_)))
 unfold setDrawn
 refine wpAny_bind (wpAny_bind (wpAny_setState_of ho hd hf ?_))
 dsimp only
 refine wpAny_bind (Vc ?_)
 refine wpAny_pure ?_
 show wpAny _ _ (if (!(w.params.followText "set-order")&&(!t.plain&&decide (es.size>1)))=true then _ else _) _ _ _
 rw[hp]
 simp only[Bool.not_true,Bool.false_and,Bool.and_false,false_eq_true,if_false]
 refine wpAny_bind (wpAny_pure ?_)
 refine wpAny_bind (wpAny_setEpoch_of ho hd hf ?_)
 exact wpAny_bind (wpAny_newObj_type (wpAny_pure ⟨_,rfl, "set_iterator",_,⟨_,get?_push_size _ rfl,rfl⟩,Y7.lookup,h⟩))
theorem next_item {I S:Addr}{o:Obj}{es:Array (Int×Value)}{ep i:Nat}{t:SetTable}{ps:List (Nat×Int)}{e:Int×Value}{Q:Option Value->Shared->Prop}(hit:zbW s.heap I S (slW w t i) i es.size ep)(ho:s.heap.get? S=some o)(hd:o.data = .set es ep t)(tok:TOk t ps)(hps:ps.map Prod.snd=es.toList.map Prod.fst)(hl:t.led=ldd w)(hp:t.plain=true)(hx:(VL w S ep es)[i]?=some e)
  (hQ:∀ h',zbW h' I S (slW w t (i+1)) (i+1) es.size ep->SameBut I s.heap h' -> Q (some e.2) { s with heap:=h' }):
  wpAny (model prog w) A (pyNext (.ref I)) Q E s:=by
 have hf:t.fits es.size=true:=by rw[← SOk.len hps];exact tok.fits
 have hi:i<es.size:=by
  have:=(List.getElem?_eq_some_iff.mp hx).1
  rwa [(WD w S ep es).length_eq,length_toList] at this
 obtain ⟨oi,hoi,hc,hdi⟩:=id hit
 unfold pyNext
 refine wpAny_bind (wpAny_attempt (wpAny_callSpecial?_slot (name:=Str.ofString "__next__") hit.typeIs Y7
  (wpAny_call_entry Y7 hit.typeIs Jy ?_ (JW _))))
 unfold Builtin.«set_iterator.__next__»
 refine wpAny_bind (m:=slotArgs "__next__" 0 _) (wpAny_pure ?_)
 refine wpAny_bind (wpAny_fieldsOf hoi hdi ?_)
 show wpAny _ _ (setEntries S >>= _) _ _ _
 refine wpAny_bind (wpAny_setEntries_of ho hd hf ?_)
 simp only[bne_self_eq_false,false_eq_true,if_false,toNat_natCast]
 refine wpAny_bind (zcN ho hd tok hps hl hp (by omega) ?_)
 rw[hx]
 show wpAny _ _ (setField (.ref I) 0 (rawInt _) >>= _) _ _ _
 refine wpAny_bind (wpAny_setField hoi hdi (by simp) ?_)
 have g1:=get?_update_self (Obj.mapFields (·.setIfInBounds 0 (rawInt (slW w t (i+1):Nat)))) hoi (Obj.isFreed_of_fields (Obj.data_mapFields hdi _))
 refine wpAny_bind (wpAny_setField (s:={ s with heap:=_ }) g1 (Obj.data_mapFields hdi _) (by simp) ?_)
 refine wpAny_pure ⟨e.2,rfl,wpAny_pure (hQ _ ?_ ((SameBut.update ..).trans (SameBut.update ..)))⟩
 refine ⟨_,get?_update_self _ g1 (Obj.isFreed_of_fields (Obj.data_mapFields (Obj.data_mapFields hdi _) _)),(Obj.cls_mapFields ..).trans ((Obj.cls_mapFields ..).trans hc),?_⟩
 rw[Obj.data_mapFields (Obj.data_mapFields hdi _)]
 rfl
theorem next_end {I S:Addr}{o:Obj}{es:Array (Int×Value)}{ep:Nat}{t:SetTable}{ps:List (Nat×Int)}{Q:Option Value->Shared->Prop}(hh:A.handled=none)(hit:zbW s.heap I S (slW w t es.size) es.size es.size ep)(ho:s.heap.get? S=some o)(hd:o.data = .set es ep t)(tok:TOk t ps)(hps:ps.map Prod.snd=es.toList.map Prod.fst)(hl:t.led=ldd w)(hp:t.plain=true)
  (hQ:∀ h',Heap.ExtBut I s.heap h' -> Q none { s with heap:=h' }):
  wpAny (model prog w) A (pyNext (.ref I)) Q E s:=by
 have hf:t.fits es.size=true:=by rw[← SOk.len hps];exact tok.fits
 have hx:(VL w S ep es)[es.size]?=none:=List.getElem?_eq_none (by rw[(WD w S ep es).length_eq,length_toList];exact Nat.le_refl _)
 obtain ⟨oi,hoi,hc,hdi⟩:=id hit
 unfold pyNext
 refine wpAny_bind (wpAny_attempt (wpAny_callSpecial?_slot (name:=Str.ofString "__next__") hit.typeIs Y7
  (wpAny_call_entry Y7 hit.typeIs Jy ?_ (JW _))))
 unfold Builtin.«set_iterator.__next__»
 refine wpAny_bind (m:=slotArgs "__next__" 0 _) (wpAny_pure ?_)
 refine wpAny_bind (wpAny_fieldsOf hoi hdi ?_)
 show wpAny _ _ (setEntries S >>= _) _ _ _
 refine wpAny_bind (wpAny_setEntries_of ho hd hf ?_)
 simp only[bne_self_eq_false,false_eq_true,if_false,toNat_natCast]
 refine wpAny_bind (zcN ho hd tok hps hl hp (Nat.le_refl _) ?_)
 rw[hx]
 show wpAny _ _ (setField (.ref I) 2 Value.none >>= _) _ _ _
 refine wpAny_bind (wpAny_setField hoi hdi (by simp) ?_)
 refine wpAny_bind ?_
 simp only[newExc,newTuple]
 refine wpAny_bind (wpAny_newObj_type ?_ (by size_fits))
 refine wpAny_bind (m:=firstArgMember _ _) (wpAny_of_eq (a:=Value.none) (by first | rfl | (simp only[firstArgMember];rfl)) ?_)
 refine wpAny_newObj_type ?_ (by size_fits)
 simp only[raiseNew]
 refine wpAny_bind (wpAny_handled ?_)
 rw[show A.in1.handled=none from hh]
 refine wpAny_bind (wpAny_pure (wpAny_throw ?_))
 refine wpAny_bind (wpAny_isInstance (T:= "StopIteration") (b:=true) ⟨_,get?_push_size _ rfl,rfl⟩ isSubtype_stop ?_)
 exact wpAny_pure (hQ _ (((SameBut.update ..).extBut.push _).push _))
end
theorem Qe:Slot "set_iterator" "__iter__" "set_iterator.__iter__" :=
 .of (owner:= "set_iterator") (n:= "__iter__") (by rw[typeLookup_type,builtinLookup_eq_fast];kernel_rfl) (by decide +kernel) (by decide +kernel) (by decide +kernel)
  (by first | exact .inl (by decide +kernel) | exact .inr (by decide +kernel)) (by rw[isSubtype_type];kernel_rfl)
theorem VR:entryFor table "set_iterator.__iter__" = some Builtin.«dict_keyiterator.__iter__» :=
 entryFor_alias (id' := "dict_keyiterator.__iter__") (by kernel_rfl) rfl (by decide +kernel) (by kernel_rfl)
theorem Um (a:Value):argsOk "set_iterator.__iter__" ⟨[a],[]⟩:=by unfold argsOk;kernel_rfl
section
variable {prog:Program}{w:World}{A:Around}{E:Value->Shared->Prop}{s:Shared}
theorem zkB (hh:A.handled=none){I S:Addr}(hne:S≠I){o:Obj}{es:Array (Int×Value)}{ep:Nat}{t:SetTable}{ps:List (Nat×Int)}(hd:o.data = .set es ep t)(tok:TOk t ps)(hps:ps.map Prod.snd=es.toList.map Prod.fst)(hl:t.led=ldd w)(hp:t.plain=true):
  Walks prog w A I [I,S] [I] es.size (λi v=>∃ e,(VL w S ep es)[i]?=some e/\v=e.2) (λi h=>zbW h I S (slW w t i) i es.size ep/\h.get? S=some o) where
 sub:=λb hb=>by rw[mem_singleton] at hb;rw[hb];exact mem_cons_self
 frame:=λi h h' st hk=>by
  obtain ⟨⟨oi,g,c,d⟩,g2⟩:=st
  exact ⟨⟨oi,hk I mem_cons_self oi g,c,d⟩,hk S (mem_cons_of_mem _ mem_cons_self) o g2⟩
 item:=λi s Q E hi st hQ=>by
  have hlt:i<(VL w S ep es).length:=by rw[(WD w S ep es).length_eq,length_toList];exact hi
  refine next_item st.1 st.2 hd tok hps hl hp (List.getElem?_eq_getElem hlt) λh' it sb=>?_
  exact hQ _ h' s.toks ⟨_,List.getElem?_eq_getElem hlt,rfl⟩ ⟨it,(sb.2 S hne).trans st.2⟩ λb o hb e=>(sb.2 b λz=>hb (by rw[z];exact mem_cons_self)).trans e
 done:=λs Q E st hQ=>next_end hh st.1 st.2 hd tok hps hl hp λh' eb=>hQ h' s.toks λb o hb e=>eb b o (λz=>hb (by rw[z];exact mem_cons_self)) e
 self:=λi s Q E st hQ=>by
  refine wpAny_pyIter_slot st.1.typeIs Qe (wpAny_call_entry Qe st.1.typeIs VR ?_ (Um _))
  show wpAny _ _ (ret (.ref I)) _ _ s
  exact wpAny_pure ⟨_,rfl, "set_iterator",_,st.1.typeIs,Y7.lookup,hQ⟩
theorem zfV {S:Addr}{Q:Bool->Shared->Prop}(hT:s.TypeIs (.ref S) "set")(h:Q false s):wpAny (model prog w) A (Builtin.List.listLengthHint (.ref S)) Q E s:=by
 unfold Builtin.List.listLengthHint
 refine wpAny_bind (wpAny_specialOf hT F.slot_set_len.lookup ?_)
 generalize hid:("set.__len__" : String)=id0
 wp_delta
 rw[show splitId id0=some ("set", "__len__") from by subst hid;decide +kernel]
 subst hid
 refine wpAny_bind (wpAny_isInstance (b:=true) hT sub_set_self ?_)
 show wpAny _ _ (typeOf (.ref S) >>= _) _ _ _
 refine wpAny_bind (wpAny_typeOf hT ?_)
 exact wpAny_pure h
theorem zbU {L:List (Int×Value)}{acc:Array Value}{n:Nat}(hn:L.length=n)(h:ItemsOf (λi v=>∃ e,L[i]?=some e/\v=e.2) acc n):acc.toList=L.map Prod.snd:=by
 refine ext_getElem? λi=>?_
 rw[getElem?_toList,getElem?_map]
 by_cases hi:i<n
 ·have ha:i<acc.size:=by rw[h.1];exact hi
  obtain ⟨e,e1,e2⟩:=h.2 i acc[i] (Array.getElem?_eq_getElem ha)
  rw[Array.getElem?_eq_getElem ha,e1,e2];rfl
 ·rw[Array.getElem?_eq_none (by rw[h.1];omega),List.getElem?_eq_none (by omega)];rfl
theorem zaX {S:Addr}{M:List (Addr×List Int)}{Q:List Value->Shared->Prop}(hh:A.handled=none)(T:TSt prog w s.heap S (ldd w) M)
  (hQ:∀ (s' : Shared) (M' : List (Addr×List Int)),M'.Perm M->(∀ b o,s.heap.get? b=some o->s'.heap.get? b=some o)->s'.gens=s.gens->s'.drawn=s.drawn->s'.os=s.os->s.toks<=s'.toks->Q (M'.map λq=>.ref q.1) s'):
  wpAny (model prog w) A (collect (.ref S)) Q E s:=by
 obtain ⟨o,es,ep,t,ps,ho,hex,hd,tok,hps,hM,hK,nd,hfull,hled,hpl⟩:=T
 have hf:t.fits es.size=true:=by rw[← SOk.len hps];exact tok.fits
 have hmk:t.mask<=127:=by rcases tok.m with e | e | e <;> omega
 have hSl:S<s.heap.objs.size:=lt_size ho
 have hSI:s.heap.objs.size≠S:=λe=>lt_irrefl _ (e ▸ hSl)
 unfold collect
 refine wpAny_bind (wpAny_runValue (codeAny_builtin F.entry_proto_collect ?_))
 rw[under_plainId F.plain_proto_collect _]
 show wpAny _ A.in1 (newList [] >>= λl=>again (.builtin "list.__iadd__" ⟨[l,.ref S],[]⟩)) _ _ s
 refine wpAny_bind (wpAny_newObj_type ?_)
 refine wpAny_pure ⟨plainId_quiet F.plain_list_iadd _,codeAny_builtin F.entry_list_iadd ?_⟩
 rw[under_plainId F.plain_list_iadd _]
 have g1:=get?_push_of_some { cls:=.type "list",data:=.seq ([]:List Value).toArray } ho
 have gL:(s.heap.push { cls:=.type "list",data:=.seq ([]:List Value).toArray }).get? s.heap.objs.size=some { cls:=.type "list",data:=.seq ([]:List Value).toArray }:=get?_push_size _ rfl
 show wpAny _ A.in1 (Builtin.List.listExtendWith (.ref s.heap.objs.size) (.ref S) (.ref s.heap.objs.size)) _ _ _
 unfold Builtin.List.listExtendWith
 refine wpAny_bind (wpAny_typeOf (T:= "set") ⟨o,g1,hex.1⟩ ?_)
 have h1:Builtin.List.listSameRef (.ref s.heap.objs.size) (.ref S)=false:=by simp[Builtin.List.listSameRef,hSI]
 rw[if_neg (by rw[h1];decide)]
 refine wpAny_bind (zeb g1 hex hd hf hpl ?_)
 generalize hH:s.heap.push { cls:=.type "list",data:=.seq ([]:List Value).toArray }=H at g1 gL
 have hHs:H.objs.size=s.heap.objs.size+1:=by rw[← hH,size_push]
 have hH0:∀ b o,s.heap.get? b=some o->H.get? b=some o:=λb o e=>by rw[← hH];exact get?_push_of_some _ e
 have g2:=get?_push_of_some { cls:=.type "set_iterator",data:=sit S 0 0 es.size ep } g1
 have gL2:=get?_push_of_some { cls:=.type "set_iterator",data:=sit S 0 0 es.size ep } gL
 have gI:(H.push { cls:=.type "set_iterator",data:=sit S 0 0 es.size ep }).get? H.objs.size=some { cls:=.type "set_iterator",data:=sit S 0 0 es.size ep }:=get?_push_size _ rfl
 refine wpAny_bind (wpAny_holding (zfV ⟨o,g2,hex.1⟩ ?_))
 show wpAny _ A.in1 (rule "list.extend.makes-room" >>= λ_=>Builtin.List.listTouch (.ref s.heap.objs.size) >>= λ_=>
  again (.builtin "list.extend.loop" ⟨[.ref s.heap.objs.size,.ref H.objs.size,.ref s.heap.objs.size],[]⟩)) _ _ _
 refine wpAny_bind (wpAny_rule (wpAny_bind ?_))
 show wpAny _ A.in1 (updateSeq s.heap.objs.size (·.push .none) >>= λ_=>updateSeq s.heap.objs.size (·.pop)) _ _ _
 refine wpAny_bind (wpAny_updateSeq gL2 rfl ?_)
 have gL3:=get?_update_self (Obj.mapSeq (·.push Value.none)) gL2 rfl
 refine wpAny_updateSeq gL3 rfl ?_
 have gL4:=get?_update_self (Obj.mapSeq (·.pop)) gL3 rfl
 have oth:∀ b o,b≠s.heap.objs.size->(H.push { cls:=.type "set_iterator",data:=sit S 0 0 es.size ep }).get? b=some o->(((H.push { cls:=.type "set_iterator",data:=sit S 0 0 es.size ep }).update s.heap.objs.size (Obj.mapSeq (·.push Value.none))).update s.heap.objs.size (Obj.mapSeq (·.pop))).get? b=some o:=
  λb o hb e=>(get?_update_other _ _ (Ne.symm hb)).trans ((get?_update_other _ _ (Ne.symm hb)).trans e)
 have nI:H.objs.size≠s.heap.objs.size:=by rw[hHs];exact Nat.succ_ne_self _
 have nS:S≠H.objs.size:=by rw[hHs];exact ne_of_lt (lt_succ_of_lt hSl)
 have nf:s.heap.objs.size∉[H.objs.size,S]:=λz=>by
  rcases mem_cons.mp z with z | z
  ·exact nI z.symm
  ·rw[mem_singleton] at z;exact hSI z
 have hsl0:slW w t 0=0:=by unfold slW;split <;> rfl
 have hsz:es.size<=sizeLine:=by rw[sizeLine_eq];omega
 have W:=(zkB (prog:=prog) (w:=w) (A:=A.in1) (I:=H.objs.size) (S:=S) hh nS hd tok hps hled hpl).toS
 refine wpAny_pure ⟨plainId_quiet F.plain_extend_loop _,codeAny_extend_loopS W hsz _ nf _ es.size 0 _ _ _ rfl (zero_le _) ⟨⟨_,oth _ _ nI gI,rfl,by rw[hsl0]⟩,oth _ _ (Ne.symm hSI) g2⟩ gL4 (ItemsOf.nil _) λs' acc' c' hm hS' hacc=>?_⟩
 show wpAny _ A (load s.heap.objs.size >>= _) _ _ s'
 refine wpAny_bind (wpAny_load hS' ?_)
 have hit:=zbU (L:=VL w S ep es) (by rw[(WD w S ep es).length_eq,length_toList]) hacc
 obtain ⟨M',pm,e⟩:=Vg (WD w S ep es) M hM
 refine wpAny_pure ?_
 rw[hit,e,map_map]
 refine hQ s' M' pm (λb o hb=>?_) hm.gens hm.drawn hm.os hm.toks
 have hbl:b<s.heap.objs.size:=lt_size hb
 refine hm.heap b o (λz=>?_) (oth b o (ne_of_lt hbl) (get?_push_of_some _ (hH0 b o hb)))
 rcases mem_cons.mp z with z | z
 ·exact absurd z (ne_of_lt hbl)
 ·rw[mem_singleton,hHs] at z;exact absurd z (ne_of_lt (lt_succ_of_lt hbl))
theorem U0 {l:Addr}{items:Array Value}{its:Nat->Addr×List Int}{Q:Value->Shared->Prop}(hh:A.handled=none)(hu:∀ A' : Around,A'.units<=A.units+8->A'.units<cLine)
  (hl:s.heap.IsList l items) (hits:∀ (i:Nat) (v:Value),items[i]?=some v->v = .ref (its i).1) (hT:∀ i,i<items.size->Jx prog w s.heap (its i).2 (its i).1) (few:Few items.size its)
  (h:∀ (h' : Heap) (tk:Nat) (M:List (Addr×List Int)),TSt prog w h' s.heap.objs.size (ldd w) M->Met its items.size M->(∀ b o,b<s.heap.objs.size->s.heap.get? b=some o->h'.get? b=some o)->s.toks<=tk->Q (.ref s.heap.objs.size) { s with heap:=h',toks:=tk }):
  wpAny (model prog w) A (call (.type "set") [.ref l]) Q E s:=by
 have ct:=F.called_set
 obtain ⟨c,tl,hmro⟩:=ct.mro
 have c1:=ct.made
 have c2:=ct.sub
 have c3:=ct.notType
 have c4:=ct.canCreate
 have c5:=F.typeCall_set_1 (.ref l)
 refine wpAny_call (codeAny_of_tree ?_)
 show wpAny _ _ (callAny (.type "set") _) _ _ _
 refine wpAny_pure ⟨Code.quiet_builtin _ (by decide +kernel),codeAny_builtin F.entry_type_call ?_⟩
 rw[Around.under_plain (weight_type_call_type "set" [.ref l] []) rfl]
 repeat (any_goals (first | assumption | wp_step))
 refine codeAny_mono (zcT (.ref l) (E:=E) (Q:=λv s1=>v = .ref s.heap.objs.size/\s1={ s with heap:=s.heap.push (Uc w) }) ⟨rfl,rfl⟩) λr s1 hr=>?_
 match r,hr with
 | .ok (.ret v),hr=>
  obtain ⟨rfl,rfl⟩:=hr
  have gS:(s.heap.push (Uc w)).get? s.heap.objs.size=some (Uc w):=get?_push_size _ rfl
  have tS:TypeIs { s with heap:=s.heap.push (Uc w) } (.ref s.heap.objs.size) "set" := ⟨_,gS,rfl⟩
  have i1:=ct.init.lookup
  have i2:=ct.init.bind (.ref s.heap.objs.size)
  repeat (any_goals (first | assumption | wp_step))
  refine codeAny_mono (codeAny_call_builtin (R:=wants (λv s2=>v = .none/\∃ h' tk M,s2={ s with heap:=h',toks:=tk }/\TSt prog w h' s.heap.objs.size (ldd w) M/\Met its items.size M/\(∀ b o,b<s.heap.objs.size->s.heap.get? b=some o->h'.get? b=some o)/\s.toks<=tk) E) ct.init.plain F.entry_set_init (check_set_init_1 tS ?_)) λr2 s2 hr2=>?_
  ·have hl1:=hl.push (Uc w)
   obtain ⟨⟨ocls,odict,odata,oslots⟩,hol,hcl,nl,hdl⟩:=hl
   simp only at hcl hdl
   subst hcl;subst hdl
   have hol' := get?_push_of_some (Uc w) hol
   have n1:=F.sub_list_set
   have n2:=F.sub_list_frozenset
   have n3:(Value.type "list" == Value.type "dict")=false:=by decide
   unfold Builtin.«set.__init__» noKeywords Builtin.Frozenset.updateFrom
   generalize hPI:pyIter=PI
   wp_walk
   subst hPI
   refine wpAny_pyIter_list hl1 ?_
   refine wpAny_bind (wpAny_runValue ?_)
   have hlt:l<s.heap.objs.size:=lt_size hol
   have hh3:A.in1.in1.in1.handled=none:=by simp[hh]
   have nI:l≠(s.heap.push (Uc w)).objs.size:=by rw[size_push];exact ne_of_lt (lt_succ_of_lt hlt)
   have nS:s.heap.objs.size∉[(s.heap.push (Uc w)).objs.size,l]:=by
    rw[size_push]
    intro z
    rcases mem_cons.mp z with z | z
    ·exact absurd z (ne_of_lt (lt_succ_self _))
    ·rw[mem_singleton] at z;exact absurd z (ne_of_gt hlt)
   have low:∀ i,i<items.size->(its i).1<s.heap.objs.size:=λi hi=>by
    obtain ⟨o,_,_,ho,_⟩:=hT i hi
    exact lt_size ho
   refine zhi ((Walks.list hh3 _ l nI items).toS) (hu _ (by simp <;> omega)) s.heap.objs.size (ldd w) nS its hits (λi hi z=>?_) few (items.size-0) 0 _ [] (by omega) (zero_le _) ⟨⟨_,get?_push_size _ rfl,rfl,rfl⟩,hl1.push _⟩ (λm hm=>Jx.at (hT m hm) λo e=>get?_push_of_some _ (get?_push_of_some _ e)) ((TSt.new s.heap).at (λo e=>get?_push_of_some _ e) λq hq=>(by cases hq)) (Met.zero its) λs' M mv T mt=>?_
   ·have:=low i hi
    rw[size_push] at z
    rcases mem_cons.mp z with z | z
    ·exact absurd z (ne_of_lt this)
    ·rw[mem_singleton] at z;exact absurd z (ne_of_lt (lt_succ_of_lt this))
   ·obtain ⟨h',g',d',tk',os'⟩:=s'
    have eg:g'=s.gens:=mv.gens
    have ed:d'=s.drawn:=mv.drawn
    have eo:os'=s.os:=mv.os
    subst eg;subst ed;subst eo
    show wpAny _ _ _ _ _ _
    refine wpAny_pure ?_
    show wpAny _ _ (ret Value.none) _ _ _
    refine wpAny_pure ⟨rfl,h',tk',M,rfl,T,mt,λb o hb e=>?_,mv.toks⟩
    refine mv.heap b o (λz=>?_) (get?_push_of_some _ (get?_push_of_some _ e))
    rw[size_push] at z
    rcases mem_cons.mp z with z | z
    ·exact absurd z (ne_of_lt hb)
    ·rw[mem_singleton] at z;exact absurd z (ne_of_lt (lt_succ_of_lt hb))
  ·match r2,hr2 with
   | .ok (.ret v),hr2=>
    obtain ⟨rfl,h',tk,M,rfl,T,mt,kp,ht⟩:=hr2
    repeat (any_goals (first | assumption | wp_step))
    exact h _ _ _ T mt kp ht
   | .error e,hr2=>exact hr2
 | .error e,hr=>exact hr
end
end V8
namespace L2
open PySem PySem.Spec PyProof.Rows StbG V8
section
variable {prog:Program}{w:World}{A:Around}{E:Value->Shared->Prop}{s:Shared}
theorem zeg {h:Heap}{a:Addr}{x y:Int}(k:Jx prog w h [x,y] a):YG h (.ref a) x y:=by
 obtain ⟨o,items,n,ho,hc,hd,hi⟩:=k
 obtain ⟨l⟩:=items
 cases hi with
 | cons h1 r=>
  cases r with
  | cons h2 r=>
   cases r
   obtain ⟨t,rfl⟩:=Value.isInt_shape h1
   obtain ⟨u,rfl⟩:=Value.isInt_shape h2
   exact ⟨a,o,t,u,n,rfl,ho,hc,hd⟩
theorem Q3 {S:Addr}{M:List (Addr×List Int)}{Q:Value->Shared->Prop}(hh:A.handled=none)(T:TSt prog w s.heap S (ldd w) M)(h2:∀ q∈M,∃ x y,q.2=[x,y]/\0<=y/\y<1000)(z64:M.length<64)
  (k:∀ (s1:Shared) (M' : List (Addr×List Int)) (st' : SortSt),M'.Perm M->(∀ b o,s.heap.get? b=some o->s1.heap.get? b=some o)->s1.gens=s.gens->s1.drawn=s.drawn->s1.os=s.os->s.toks<=s1.toks->
   (arrOf st').Perm (pz (M'.map λq=>.ref q.1))->Up (λp=>pN s.heap p.1) (λ_=>0) (arrOf st') (pz (M'.map λq=>.ref q.1)).size->
   Q (.ref s1.heap.objs.size) { s1 with heap:=sortedHeap (s1.heap.push (seqObj "list" (M'.map λq=>Value.ref q.1).toArray 0)) s1.heap.objs.size (M'.map λq=>.ref q.1) ((arrOf st').map (·.2)) }):
  wpAny (model prog w) A (call (.builtin "sorted") [.ref S]) Q E s:=by
 have zl:(64:Nat)<=sizeLine:=by decide
 have hK:∀ q∈M,Jx prog w s.heap q.2 q.1:=by
  obtain ⟨o,es,ep,t,ps,_,_,_,_,_,_,hK,_⟩:=T
  exact hK
 refine Calls.call_function_entry kind_sorted plain_sorted entry_sorted (args_sorted1 _) (show wpAny _ _ (Builtin.«sorted» _) _ _ _ from ?_)
 unfold Builtin.«sorted»
 refine wpAny_bind (m:=checkCount "sorted" 1 1 _) (wpAny_pure (wpAny_bind (zaX hh T λs1 M' pm kp eg ed eo tk=>?_)))
 have hl:(M'.map λq=>Value.ref q.1).length<64:=by rw[length_map,pm.length_eq];exact z64
 refine wpAny_bind (wpAny_newList ?_ (by omega))
 have oL:(s1.heap.push (seqObj "list" (M'.map λq=>Value.ref q.1).toArray 0)).get? s1.heap.objs.size=some (seqObj "list" (M'.map λq=>Value.ref q.1).toArray 0):=get?_push_size _ rfl
 refine wpAny_bind (wpAny_holding (wpAny_call_entry PyProof.Rows.slot_list_sort ⟨_,oL,rfl⟩ PyProof.Rows.entry_list_sort (Q6 (ρ:=λp=>pN s.heap p.1) (s:={ s1 with heap:=_ }) oL (λv hv=>?_) hl λst' a1 a2=>⟨_,rfl,wpAny_pure ⟨_,rfl,k s1 M' st' pm kp eg ed eo tk a1 a2⟩⟩) (args_list_sort _)))
 obtain ⟨q,hq,rfl⟩:=mem_map.mp hv
 have hq:=pm.mem_iff.mp hq
 obtain ⟨x,y,e,y0,y1⟩:=h2 q hq
 have pa:=zeg (e ▸ hK q hq)
 exact ⟨x,y,pa.keep λb o e=>get?_push_of_some _ (kp b o e),y0,y1,λ_=>zew pa⟩
end
open PySem PySem.Spec PyProof.Rows
section
variable {X:Cx}
theorem QF:∀ {ns:List Int}{its:List Value},IntsAre its ns->Vals (ns.map V.int) its
 | _,_,.nil=>.nil
 | _,_,.cons x t h=>.cons ⟨t,rfl⟩ (QF h)
theorem JR:bootBuiltins "sorted" = some (.builtin "sorted"):=by decide +kernel
noncomputable def zd1 (ns:List Int):List Int:=ns.mergeSort λa b=>decide (a<=b)
theorem zac (ns:List Int):(zd1 ns).Perm ns:=List.mergeSort_perm ns _
theorem za3 (ns:List Int):(zd1 ns).Pairwise (· <= ·):=by
 have h:=List.pairwise_mergeSort (le:=λa b:Int=>decide (a<=b)) (λa b c h1 h2=>by simp at h1 h2 ⊢;omega) (λa b=>by simp;omega) ns
 exact h.imp λ{a b} z=>by simpa using z
theorem zdQ {a b:List Int}(h:a.Perm b)(hs:a.Pairwise (· <= ·)):a=zd1 b:=
 (h.trans (zac b).symm).eq_of_pairwise (λx y _ _ h1 h2=>by omega) hs (za3 b)
end
open PySem PySem.Spec PyProof.Rows StbG
section
variable {X:Cx}{pins:List (Addr×Obj)}{σ:St}{H H' G:Hp}{s:Shared}{h' : Heap}
theorem zbq {K:PySem.W.Frag}{h:Heap}{its:List Value}{Z:List (Value×V×(Int×Int))}(z1:Z.map (·.1)=its)(z3:∀ z∈Z,RelV z.2.1 z.1/\Dat K G z.2.1 (dPr z.2.2)/\YG h z.1 z.2.2.1 z.2.2.2){st' : SortSt}(a1:(arrOf st').Perm (pz its))(a2:Up (λp=>pN h p.1) (λ_=>0) (arrOf st') (pz its).size):
  ∃ Z' : List (Value×V×(Int×Int)),Z'.Perm Z/\Vals (Z'.map (·.2.1)) ((arrOf st').map (·.2)).toList/\Yr K G (Z'.map (·.2.1)) ((Z'.map (·.2.2)).map dPr)/\(Z'.map (·.2.2)).Pairwise (λa b=>a.1*1000+a.2<=b.1*1000+b.2):=by
 have mem:∀ q∈(arrOf st').toList,q.1∈its/\q.2=q.1:=λq hq=>zdd ((perm_iff_toList_perm.mp a1).mem_iff.mp hq)
 have hperm:((arrOf st').toList.map (·.2)).Perm its:=by
  have:=(perm_iff_toList_perm.mp a1).map (·.2)
  have e:(pz its).toList.map (·.2)=its:=by
   have:(pz its).toList=its.zip its:=by simp[pz]
   rw[this,← List.unzip_snd,List.unzip_zip (by rfl)]
  rw[e] at this;exact this
 obtain ⟨Z',p1,e1⟩:=zau hperm z1
 have zl:Z'.length=(arrOf st').size:=by have:=congrArg List.length e1;simpa using this
 have hZ:∀ z∈Z',RelV z.2.1 z.1/\Dat K G z.2.1 (dPr z.2.2)/\YG h z.1 z.2.2.1 z.2.2.2:=λz hz=>z3 z (p1.mem_iff.mp hz)
 have hvals:∀ L:List (Value×V×(Int×Int)),(∀ z∈L,RelV z.2.1 z.1/\Dat K G z.2.1 (dPr z.2.2)/\YG h z.1 z.2.2.1 z.2.2.2)->Vals (L.map (·.2.1)) (L.map (·.1))/\Yr K G (L.map (·.2.1)) ((L.map (·.2.2)).map dPr):=by
  intro L
  induction L with
  | nil=>intro _;exact ⟨.nil,Yq⟩
  | cons z L ih=>
   intro h
   obtain ⟨i1,i2⟩:=ih λy hy=>h y (mem_cons_of_mem _ hy)
   obtain ⟨h1,h2,_⟩:=h z mem_cons_self
   exact ⟨.cons h1 i1,Ye h2 i2⟩
 obtain ⟨hV,hD⟩:=hvals Z' hZ
 rw[e1] at hV
 have eo:((arrOf st').map (·.2)).toList=(arrOf st').toList.map (·.2):=by simp
 refine ⟨Z',p1,by rw[eo];exact hV,hD,?_⟩
 rw[List.pairwise_iff_getElem]
 intro i j hi hj hij
 have hj' : j<Z'.length:=by simpa using hj
 have at_:∀ m (hm:m<Z'.length),R (λp=>pN h p.1) (arrOf st') m=Z'[m].2.2.1*1000+Z'[m].2.2.2:=λm hm=>by
  have hm' : m<(arrOf st').size:=by omega
  have ea:(arrOf st')[m]?=some (arrOf st')[m]:=Array.getElem?_eq_getElem hm'
  have q1:Z'[m].1=(arrOf st')[m].2:=by
   have h1:(Z'.map (·.1))[m]?=some Z'[m].1:=by rw[getElem?_map,List.getElem?_eq_getElem hm];rfl
   rw[e1,getElem?_map] at h1
   have h2:(arrOf st').toList[m]?=some (arrOf st')[m]:=by simp[hm']
   rw[h2] at h1
   exact (Option.some.inj h1).symm
  have q2:=(mem (arrOf st')[m] (by simp)).2
  unfold R
  rw[ea]
  show pN h (arrOf st')[m].1=_
  rw[← q2,← q1]
  exact zew (hZ _ (getElem_mem hm)).2.2
 have:=a2 i j hij (by rw[← a1.size_eq];omega)
 rw[at_ i (by omega),at_ j hj'] at this
 simp only[List.getElem_map]
 omega
end
noncomputable def adr:Value->Addr
 | .ref a=>a
 | _=>0
theorem Ju {prog:Program}{w:World}{h:Heap}{v:Value}{x y:Int}(p:YG h v x y):Jx prog w h [x,y] (adr v)/\v = .ref (adr v):=by
 obtain ⟨a,o,t,u,n,rfl,ho,hc,hd⟩:=p
 exact ⟨⟨o,_,n,ho,hc,hd,.cons (by simp[intKind,Value.isInt]) (.cons (by simp[intKind,Value.isInt]) .nil)⟩,rfl⟩
theorem Vm {α β:Type}{R:α->β->Prop}:∀ {M:List α},(∀ q∈M,∃ z,R q z)->∃ Z:List β,Z.length=M.length/\∀ (i:Nat) q z,M[i]?=some q->Z[i]?=some z->R q z
 | [],_=>⟨[],rfl,λi q z h=>by simp at h⟩
 | q::M,h=>by
  obtain ⟨z,hz⟩:=h q mem_cons_self
  obtain ⟨Z,e,hZ⟩:=Vm (M:=M) λq' hq' => h q' (mem_cons_of_mem _ hq')
  refine ⟨z::Z,by rw[length_cons,length_cons,e],λi q' z' h1 h2=>?_⟩
  cases i with
  | zero=>cases h1;cases h2;exact hz
  | succ i=>exact hZ i q' z' h1 h2
theorem Jr {α β γ:Type}{f:α->γ}{g:β->γ}{Z:List α}{M:List β}(hl:Z.length=M.length)(h:∀ (i:Nat) q z,M[i]?=some q->Z[i]?=some z->f z=g q):Z.map f=M.map g:=by
 refine ext_getElem? λi=>?_
 rw[getElem?_map,getElem?_map]
 by_cases hi:i<Z.length
 ·rw[List.getElem?_eq_getElem hi,List.getElem?_eq_getElem (show i<M.length by omega)]
  exact congrArg some (h i _ _ (List.getElem?_eq_getElem (by omega)) (List.getElem?_eq_getElem hi))
 ·rw[List.getElem?_eq_none (by omega),List.getElem?_eq_none (show M.length<=i by omega)];rfl
theorem zeB {α β:Type}{f:α->β}{l:List α}(h:(l.map f).Nodup):l.Nodup:=by
 unfold List.Nodup at h ⊢
 rw[pairwise_map] at h
 exact h.imp λhne e=>hne (by rw[e])
abbrev JP (q:Int×Int):List Int:=[q.1,q.2]
theorem QX {a b:Int×Int}(h:JP a=JP b):a=b:=by
 obtain ⟨a1,a2⟩:=a
 obtain ⟨b1,b2⟩:=b
 injection h with h1 h2
 injection h2 with h2 _
 rw[show a1=b1 from h1,show a2=b2 from h2]
section
variable {X:Cx}{pins:List (Addr×Obj)}{σ:St}{H G:Hp}{s:Shared}
theorem zdy {p:Addr}{vs:List V}{ps:List (Int×Int)}{Q:VK}(hc:X.calm=true)(hu:X.A.units+8<cLine)(I:Inv X pins σ H s)(sg:ZS G H)(hq:SqL X.K H p vs)(hd:Yr X.K G vs (ps.map dPr))(few:∀ L:List (Int×Int),L.Nodup->(∀ q∈L,q∈ps)->L.length<64)(hps:∀ q∈ps,0<=q.2/\q.2<1000)
  (k:∀ (l:Addr) (us:List V) (qs:List (Int×Int)),H l=none->qs.Nodup->(∀ q,q∈qs↔q∈ps)->Yr X.K G us (qs.map dPr)->qs.Pairwise (λa b=>a.1*1000+a.2<=b.1*1000+b.2)->Q (.ref l) (upd H l (.lst us))):
  wpAny (model X.prog X.w) X.A (call (.type "set") [.ref p]) (λv s1=>wpAny (model X.prog X.w) X.A (call (.builtin "sorted") [v]) (EP X pins σ Q) X.xe s1) X.xe s:=by
 obtain ⟨its,r',pl,hz⟩:=I.list hq
 obtain ⟨Z,z1,z2,z3⟩:=triples I sg r' hd
 have hZl:Z.length=its.length:=by rw[← z1,length_map]
 let f:Nat->Addr×List Int:=λi=>match Z[i]? with | some z=>(adr z.1,JP z.2.2) | none=>(0,[])
 have fz:∀ {i z},Z[i]?=some z->f i=(adr z.1,JP z.2.2):=λ{i z} e=>by show (match Z[i]? with | some z=>_ | none=>_)=_;rw[e]
 have fex:∀ i,i<its.toArray.size->∃ z,Z[i]?=some z/\z∈Z:=λi hi=>by
  have hi:i<Z.length:=by rw[hZl];simpa using hi
  exact ⟨Z[i],List.getElem?_eq_getElem hi,getElem_mem hi⟩
 have keyps:∀ {m:Nat}{kk:List Int},m<its.toArray.size->(f m).2=kk->∃ q∈ps,kk=JP q:=λ{m kk} hm e=>by
  obtain ⟨z,e1,e2⟩:=fex m hm
  refine ⟨z.2.2,by rw[← z2];exact mem_map_of_mem e2,?_⟩
  rw[← e,fz e1]
 have psm:∀ q∈ps,∃ m,m<its.toArray.size/\(f m).2=JP q:=λq hq=>by
  rw[← z2] at hq
  obtain ⟨z,hz,rfl⟩:=mem_map.mp hq
  obtain ⟨i,hi,e⟩:=getElem_of_mem hz
  exact ⟨i,by simpa [← hZl] using hi,by rw[fz (by rw[List.getElem?_eq_getElem hi,e])]⟩
 have few' : ∀ L:List (List Int),L.Nodup->(∀ kk∈L,∃ m,m<its.toArray.size/\(f m).2=kk)->L.length<64:=λL nd h=>by
  obtain ⟨P,e,hP⟩:=Vm (R:=λ(kk:List Int) (q:Int×Int)=>q∈ps/\kk=JP q) (M:=L) λkk hk=>by
   obtain ⟨m,hm,e⟩:=h kk hk
   obtain ⟨q,hq,e⟩:=keyps hm e
   exact ⟨q,hq,e⟩
  have em:P.map JP=L.map id:=Jr e λi q z h1 h2=>(hP i q z h1 h2).2.symm
  rw[map_id] at em
  rw[← e]
  refine few P (zeB (f:=JP) (by rw[em];exact nd)) λq hq=>?_
  obtain ⟨i,hi,e3⟩:=getElem_of_mem hq
  exact (hP i (L[i]'(by omega)) q (List.getElem?_eq_getElem (by omega)) (by rw[List.getElem?_eq_getElem hi,e3])).1
 refine U0 (its:=f) (I.ok.hd hc) (λA' hA=>by omega) pl.isList (λi v hv=>?_) (λi hi=>?_) (λL nd h=>le_of_lt (few' L nd h)) λh1 tk1 M T mt kp ht=>?_
 ·have hi:i<its.toArray.size:=(Array.getElem?_eq_some_iff.mp hv).1
  obtain ⟨z,e1,e2⟩:=fex i hi
  have ev:its[i]?=some v:=by simpa using hv
  rw[← z1,getElem?_map,e1] at ev
  have ev:z.1=v:=Option.some.inj ev
  rw[fz e1,← ev]
  exact (Ju (prog:=X.prog) (w:=X.w) (z3 z e2).2.2).2
 ·obtain ⟨z,e1,e2⟩:=fex i hi
  rw[fz e1]
  exact (Ju (z3 z e2).2.2).1
 have ndM:(M.map Prod.snd).Nodup:=by
  obtain ⟨_,_,_,_,_,_,_,_,_,_,_,_,nd,_⟩:=T
  exact nd
 have hMl:M.length<64:=by
  have:=few' (M.map Prod.snd) ndM λkk hk=>(mt.1 kk).mp hk
  rwa [length_map] at this
 refine Q3 (s:={ s with heap:=h1,toks:=tk1 }) (I.ok.hd hc) T (λq hq=>?_) hMl λs2 M' st' pm kp2 eg ed eo ht2 a1 a2=>?_
 ·obtain ⟨m,hm,e⟩:=mt.2 q hq
  obtain ⟨q',hq',e'⟩:=keyps hm rfl
  exact ⟨q'.1,q'.2,by rw[e,e'],hps q' hq'⟩
 have old:∀ b o,s.heap.get? b=some o->h1.get? b=some o:=λb o e=>kp b o (lt_size e) e
 obtain ⟨Z1,zl1,hZ1⟩:=Vm (R:=λ(q:Addr×List Int) (z:Value×V×(Int×Int))=>z∈Z/\z.1 = .ref q.1/\JP z.2.2=q.2) (M:=M') λq hq=>by
  obtain ⟨m,hm,e⟩:=mt.2 q (pm.mem_iff.mp hq)
  obtain ⟨z,e1,e2⟩:=fex m hm
  rw[fz e1] at e
  refine ⟨z,e2,?_,?_⟩
  ·rw[e];exact (Ju (prog:=X.prog) (w:=X.w) (z3 z e2).2.2).2
  ·rw[e]
 have zz1:Z1.map (·.1)=M'.map λq=>Value.ref q.1:=Jr zl1 λi q z h1 h2=>(hZ1 i q z h1 h2).2.1
 have zz2:Z1.map (λz=>JP z.2.2)=M'.map Prod.snd:=Jr zl1 λi q z h1 h2=>(hZ1 i q z h1 h2).2.2
 have zz3:∀ z∈Z1,RelV z.2.1 z.1/\Dat X.K G z.2.1 (dPr z.2.2)/\YG h1 z.1 z.2.2.1 z.2.2.2:=λz hz' => by
  obtain ⟨i,hi,e⟩:=getElem_of_mem hz'
  obtain ⟨b1,b2,b3⟩:=z3 z (hZ1 i (M'[i]'(by omega)) z (List.getElem?_eq_getElem (by omega)) (by rw[List.getElem?_eq_getElem hi,e])).1
  exact ⟨b1,b2,b3.keep old⟩
 obtain ⟨Z',p1,hV,hD,hpw⟩:=zbq zz1 zz3 a1 a2
 have nd1:(Z1.map (·.2.2)).Nodup:=by
  refine zeB (f:=JP) ?_
  rw[map_map]
  show (Z1.map λz=>JP z.2.2).Nodup
  rw[zz2]
  exact ((pm.map Prod.snd).nodup_iff).mpr ndM
 have hmem:∀ q,q∈Z'.map (·.2.2)↔q∈ps:=λq=>by
  rw[(p1.map (·.2.2)).mem_iff]
  constructor
  ·intro h
   obtain ⟨z,hz',rfl⟩:=mem_map.mp h
   have:JP z.2.2∈M'.map Prod.snd:=by rw[← zz2];exact mem_map.mpr ⟨z,hz',rfl⟩
   obtain ⟨m,hm,e⟩:=(mt.1 _).mp (((pm.map Prod.snd).mem_iff).mp this)
   obtain ⟨q',hq',e'⟩:=keyps hm e
   rw[QX e'];exact hq'
  ·intro h
   have:JP q∈Z1.map (λz=>JP z.2.2):=by rw[zz2,(pm.map Prod.snd).mem_iff];exact (mt.1 _).mpr (psm q h)
   obtain ⟨z,hz',e⟩:=mem_map.mp this
   exact mem_map.mpr ⟨z,hz',QX e⟩
 obtain ⟨h2,g2,d2,tk2,os2⟩:=s2
 have eg:g2=s.gens:=eg
 have ed:d2=s.drawn:=ed
 have eo:os2=s.os:=eo
 subst eg ed eo
 have big:s.heap.objs.size<=h2.objs.size:=by
  obtain ⟨oS,_,_,_,_,gS,_⟩:=T
  exact le_of_lt (lt_size (kp2 _ _ gS))
 obtain ⟨c,hcc⟩:=sortedHeap_at (h:=h2.push (seqObj "list" (M'.map λq=>Value.ref q.1).toArray 0)) (a:=h2.objs.size) (vs:=M'.map λq=>Value.ref q.1) (out:=(arrOf st').map (·.2)) (n:=0) (get?_push_size _ rfl)
 have zlen:(Z'.map (·.2.1)).length<=sizeLine:=by
  have:(64:Nat)<=sizeLine:=by decide
  rw[length_map,p1.length_eq,zl1,pm.length_eq];omega
 refine ⟨.ref h2.objs.size,_,I.laid (t' := tk2) (λb o e=>?_) big (show Xp X.prog X.w _ (sortedHeap (h2.push (seqObj "list" (M'.map λq=>Value.ref q.1).toArray 0)) h2.objs.size (M'.map λq=>Value.ref q.1) ((arrOf st').map (·.2))) _ (.lst (Z'.map (·.2.1))) from ⟨zlen,((arrOf st').map (·.2)).toList,c,hV,hcc⟩),rfl,k _ _ (Z'.map (·.2.2)) (I.hok.fresh big) (((p1.map (·.2.2)).nodup_iff).mpr nd1) hmem hD hpw⟩
 have e2:=kp2 b o (old b o e)
 have lt:=lt_size e2
 have lt:b<h2.objs.size:=lt
 rw[sortedHeap_old (ne_of_lt lt) (by rw[size_push'];exact lt_succ_of_lt lt)]
 exact get?_push_of_some _ e2
end
theorem boot_set:bootBuiltins "set" = some (.type "set"):=by decide +kernel
section
variable {X:Cx}{pins:List (Addr×Obj)}{σ:St}{H G:Hp}{s:Shared}
def zdg (K:PySem.W.Frag):List V->Hp->VK->Prop:=λxs H Q=>∃ (G:Hp) (p:Addr) (vs:List V) (ps:List (Int×Int)),xs=[.ref p]/\ZS G H/\SqL K H p vs/\Yr K G vs (ps.map dPr)/\(∀ L:List (Int×Int),L.Nodup->(∀ q∈L,q∈ps)->L.length<64)/\(∀ q∈ps,0<=q.2/\q.2<1000)/\
 ∀ (l:Addr) (us:List V) (qs:List (Int×Int)),H l=none->qs.Nodup->(∀ q,q∈qs↔q∈ps)->Yr K G us (qs.map dPr)->qs.Pairwise (λa b=>a.1*1000+a.2<=b.1*1000+b.2)->Q (.ref l) (upd H l (.lst us))
theorem zaO {K:PySem.W.Frag}(eK:X.K=K)(hc:X.calm=true)(hu:X.A.units+8<cLine)(hg:Gl X "sorted")(hm:X.mg "sorted" = none)(hg2:Gl X "set")(hm2:X.mg "set" = none){e:Expr}{t:TA}{p1 p2 q1 q2:Pos}(ha:PA X [e] t)
  (he1:starEach [.Call (.Name "set" p2) [e] [] q2] X.env=[(false,eval (.Call (.Name "set" p2) [e] [] q2) X.env)]:=by rfl) (he2:starEach [e] X.env=(false,eval e X.env)::starEach [] X.env:=by rfl):
  PE X (.Call (.Name "sorted" p1) [.Call (.Name "set" p2) [e] [] q2] [] q1) (tCB (zdg K) t):=by
 subst eK
 intro pins s σ H Q I h
 refine wpAny_Call_Name_kw (WK I hg hm JR (PyProof.Rows.callWith_builtin1 ?_ he1 rfl))
 rw[he1]
 show wpAny _ _ (spliced [(false,eval (.Call (.Name "set" p2) [e] [] q2) X.env)]) _ _ s
 refine spliced_cons (wpAny_Call_Name_kw (WK I hg2 hm2 boot_set (PyProof.Rows.callWith_type1 (thn (ha q2 pins s σ H _ I h) λus s1 ⟨vs,H1,I1,r1,z1⟩=>?_) he2 rfl)))
 obtain ⟨G,p,vs',ps,rfl,sg,hq,hd,few,hps,k⟩:=z1
 obtain ⟨u,rfl,rx⟩:=vals1 r1
 cases rx
 exact thn (zdy (Q:=Q) hc hu I1 sg hq hd few hps k) λv s2 z=>spliced_nil z
theorem zfz {K:PySem.W.Frag}{t:TA}{ps qs:List (Int×Int)}(h:EvA K t σ G [.list (ps.map dPr)])(few:∀ L:List (Int×Int),L.Nodup->(∀ q∈L,q∈ps)->L.length<64)(hps:∀ q∈ps,0<=q.2/\q.2<1000)(hq:∀ rs:List (Int×Int),rs.Nodup->(∀ q,q∈rs↔q∈ps)->rs.Pairwise (λa b=>a.1*1000+a.2<=b.1*1000+b.2)->rs=qs):Ev K (tCB (zdg K) t) σ G (.list (qs.map dPr)):=
 Uz h λG1 H xs Q s1 s2 hx k=>by
  obtain ⟨v,r,rfl,hv,hx⟩:=hx.cons
  rw[hx.nil]
  obtain ⟨p,ys,rfl,hp,hys⟩:=hv.lst
  refine ⟨G1,p,ys,ps,rfl,s2,SqL.of (s2 _ _ hp),hys,few,hps,λl us rs hl nd hmem hd hs=>?_⟩
  have e:=hq rs nd hmem hs
  subst e
  have g:=Yl (o:=.lst us) s2 hl
  exact k _ _ _ g (YZ Zz (hd.same g.gg))
end
end L2
namespace Lw
open PySem L2
theorem zkG:bootBuiltins "isinstance" = some (.builtin "isinstance"):=by decide +kernel
theorem zff:bootBuiltins "tuple" = some (.type "tuple"):=by decide +kernel
theorem zjJ:bootBuiltins "bool" = some (.type "bool"):=by decide +kernel
theorem zkr:bootBuiltins "int" = some (.type "int"):=by decide +kernel
theorem zjO:bootBuiltins "max" = some (.builtin "max"):=by decide +kernel
theorem zj6:bootBuiltins "all" = some (.builtin "all"):=by decide +kernel
theorem w0 {i:Int}(h:i.natAbs<10 ^ 100):i.natAbs<2 ^ 4000:=Nat.lt_of_lt_of_le h (by decide +kernel)
theorem mw {i j:Int}(h:i.natAbs<10 ^ 100)(h' : j.natAbs<10 ^ 100):zes i j:=⟨w0 h,w0 h'⟩
theorem Uo {H:Hp}{p:Addr}{o:HO}(hp:H p=none):ZS H (upd H p o):=λb u e=>by
 rw[ZC (Yj e hp)];exact e
def zaW (K:PySem.W.Frag):Sp:=λvs H Q _=>∃ (a:Addr) (ns:List Int),vs=[.ref a]/\SqL K H a (ns.map V.int)/\ns.length<=63/\∀ H',Q (.bl true) H'
end Lw
namespace L2
open PySem PySem.Spec PyProof.Rows Lw
structure Tg where
 ok:Addr->List Addr->Hp->Hp->Prop
 st:∀ {p:Addr}{fp:List Addr}{G H G' H' : Hp},ok p fp G H->ZS G G' -> (∀ a∈p::fp,H' a=H a)->ok p fp G' H'
 live:∀ {p:Addr}{fp:List Addr}{G H:Hp},ok p fp G H->∀ a∈p::fp,∃ o,H a=some o
inductive PV where
 | un
 | dat (d:PyData)
 | own (ds:List PyData)
 | lnt (p:Addr) (ds:List PyData)
 | scr (ns:List Int)
 | val (x:V)
 | thg (T:Tg)
noncomputable def PV.rd:PV->Option (List PyData)
 | .own ds=>some ds
 | .lnt _ ds=>some ds
 | _=>none
noncomputable def PV.mut:PV->Bool
 | .un=>false
 | .dat _=>false
 | .scr _=>false
 | .val _=>false
 | _=>true
theorem PV.zhH {v:PV}{ds:List PyData}(h:v.rd=some ds):v.mut=true:=by cases v <;> first | rfl | cases h
def Sl (K:PySem.W.Frag)(G H:Hp)(o:Option (Option V)):PV->List Addr->Prop
 | .un,F=>F=[]
 | .dat d,F=>F=[]/\∃ x,o=some (some x)/\Dat K G x d
 | .own ds,F=>∃ p xs,F=[p]/\o=some (some (.ref p))/\H p=some (.lst xs)/\Yr K G xs ds
 | .lnt p ds,F=>∃ xs,F=[p]/\o=some (some (.ref p))/\H p=some (.lst xs)/\Yr K G xs ds
 | .scr ns,F=>F=[]/\∃ a,o=some (some (.ref a))/\SqL K G a (ns.map V.int)
 | .val x,F=>F=[]/\o=some (some x)
 | .thg T,F=>∃ p fp,F=p::fp/\o=some (some (.ref p))/\T.ok p fp G H
theorem Sl.rd {K:PySem.W.Frag}{G H:Hp}{o:Option (Option V)}{v:PV}{F:List Addr}{ds:List PyData}(s:Sl K G H o v F)(h:v.rd=some ds):∃ p xs,F=[p]/\o=some (some (.ref p))/\H p=some (.lst xs)/\Yr K G xs ds:=by
 cases v with
 | own es=>cases h;exact s
 | lnt p es=>cases h;exact ⟨p,s⟩
 | _=>cases h
structure Gw (E:Addr->Prop)(G0 H0 G H:Hp):Prop where
 gg:ZS G0 G
 gh:ZS G H
 kp:∀ b o,¬ E b->H0 b=some o->H b=some o
 al:∀ b,H b=none->H0 b=none
 fr:∀ b o,G b=some o->G0 b=some o\/H0 b=none
structure Rl (K:PySem.W.Frag)(B:Hp)(E:Addr->Prop)(G0 H0 G H:Hp)(σ:St)(ρ:List PV)(F:Nat->List Addr):Prop where
 g:Gw E G0 H0 G H
 bb:ZS B G
 ls:σ.length=ρ.length
 sl:∀ i v,ρ[i]?=some v->Sl K G H σ[i]? v (F i)
 fr:∀ i a,a∈F i->G a=none/\(∃ o,H a=some o)/\(E a\/H0 a=none)
 dj:∀ i j a,a∈F i->a∈F j->i=j
 ow:∀ i ds a,ρ[i]?=some (.own ds)->a∈F i->H0 a=none
structure Nw (G H H0:Hp)(F:Nat->List Addr)(Fv:List Addr):Prop where
 fr:∀ a∈Fv,G a=none/\(∃ o,H a=some o)/\H0 a=none
 dj:∀ a∈Fv,∀ j,a∉F j
section
variable {K:PySem.W.Frag}{B:Hp}{E:Addr->Prop}{G0 H0 G H G' H' : Hp}{σ:St}{ρ:List PV}{F:Nat->List Addr}
theorem Gw.refl (s:ZS G H):Gw E G H G H:=⟨ZS.refl _,s,λ_ _ _ h=>h,λ_ h=>h,λ_ _ h=>.inl h⟩
theorem Gw.grow (g:Gw E G0 H0 G H)(k:Xq G H G' H'):Gw E G0 H0 G' H' :=
 ⟨g.gg.trans k.gg,k.gh,λb o n h=>k.hh b o (g.kp b o n h),λb h=>g.al b (k.hh.free h),λb o h=>(k.fr b o h).elim (g.fr b o) λz=>.inr (g.al b z)⟩
theorem Gw.zfj (g:Gw (λ_=>False) G0 H0 G H):Xq G0 H0 G H:=⟨g.gg,g.gh,λb o h=>g.kp b o (λz=>z) h,g.fr⟩
theorem Sl.grow {o:Option (Option V)}{v:PV}{L:List Addr}(s:Sl K G H o v L)(gg:ZS G G')(hh:∀ a∈L,H' a=H a):Sl K G' H' o v L:=by
 cases v with
 | un=>exact s
 | dat d=>obtain ⟨e,x,hx,hd⟩:=s;exact ⟨e,x,hx,hd.same gg⟩
 | own ds=>
  obtain ⟨p,xs,e,hx,hp,hd⟩:=s
  exact ⟨p,xs,e,hx,by rw[hh p (by rw[e];simp)];exact hp,hd.same gg⟩
 | lnt p ds=>
  obtain ⟨xs,e,hx,hp,hd⟩:=s
  exact ⟨xs,e,hx,by rw[hh p (by rw[e];simp)];exact hp,hd.same gg⟩
 | scr ns=>obtain ⟨e,a,hx,hq⟩:=s;exact ⟨e,a,hx,gg.seq hq⟩
 | val x=>exact s
 | thg T=>
  obtain ⟨p,fp,e,hx,ht⟩:=s
  exact ⟨p,fp,e,hx,T.st ht gg (by rw[← e];exact hh)⟩
theorem Rl.grow (r:Rl K B E G0 H0 G H σ ρ F)(k:Xq G H G' H'):Rl K B E G0 H0 G' H' σ ρ F:=by
 have hh:∀ i,∀ a∈F i,H' a=H a:=λi a ha=>by
  obtain ⟨_,⟨o,ho⟩,_⟩:=r.fr i a ha
  rw[ho];exact k.hh a o ho
 refine ⟨r.g.grow k,r.bb.trans k.gg,r.ls,λi v h=>(r.sl i v h).grow k.gg (hh i),λi a ha=>?_,r.dj,r.ow⟩
 obtain ⟨h1,⟨o,h2⟩,h3⟩:=r.fr i a ha
 exact ⟨k.out h2 h1,⟨o,k.hh a o h2⟩,h3⟩
theorem Rl.set {i:Nat}{v:V}{r:PV}{L:List Addr}(R:Rl K B E G0 H0 G H σ ρ F)(s:Sl K G H (some (some v)) r L)(n:Nw G H H0 F L):Rl K B E G0 H0 G H (σ.set i (some v)) (ρ.set i r) (λk=>if k=i then L else F k):=by
 refine ⟨R.g,R.bb,by rw[length_set,length_set,R.ls],λk u h=>?_,λk a ha=>?_,λk j a ha hb=>?_,λk ds a h ha=>?_⟩
 ·by_cases e:k=i
  ·subst e
   rw[if_pos rfl]
   have hk:k<ρ.length:=by
    have:=(List.getElem?_eq_some_iff.mp h).1
    rw[length_set] at this;exact this
   rw[getElem?_set_self hk] at h
   cases h
   rw[getElem?_set_self (by rw[R.ls];exact hk)]
   exact s
  ·rw[if_neg e]
   rw[getElem?_set_ne (Ne.symm e)] at h ⊢
   exact R.sl k u h
 ·by_cases e:k=i
  ·rw[if_pos e] at ha
   obtain ⟨h1,h2,h3⟩:=n.fr a ha
   exact ⟨h1,h2,.inr h3⟩
  ·rw[if_neg e] at ha;exact R.fr k a ha
 ·by_cases e:k=i
  ·by_cases e' : j=i
   ·rw[e,e']
   ·rw[if_pos e] at ha;rw[if_neg e'] at hb
    exact absurd hb (n.dj a ha j)
  ·by_cases e' : j=i
   ·rw[if_neg e] at ha;rw[if_pos e'] at hb
    exact absurd ha (n.dj a hb k)
   ·rw[if_neg e] at ha;rw[if_neg e'] at hb;exact R.dj k j a ha hb
 ·by_cases e:k=i
  ·rw[if_pos e] at ha;exact (n.fr a ha).2.2
  ·rw[if_neg e] at ha
   rw[getElem?_set_ne (Ne.symm e)] at h
   exact R.ow k ds a h ha
theorem JT:Nw G H H0 F []:=⟨λ_ h=>(by cases h),λ_ h=>(by cases h)⟩
theorem Rl.zd2 {i:Nat}{v:V}{d:PyData}(R:Rl K B E G0 H0 G H σ ρ F)(s:Dat K G v d):Rl K B E G0 H0 G H (σ.set i (some v)) (ρ.set i (.dat d)) (λk=>if k=i then [] else F k):=
 R.set ⟨rfl,v,rfl,s⟩ JT
def Rx (K:PySem.W.Frag)(B:Hp)(G:Hp)(σ:St)(ρ:List PV):Prop:=ZS B G/\(∀ (i:Nat) (d:PyData),ρ[i]?=some (PV.dat d)->∃ x,σ[i]?=some (some x)/\Dat K G x d)/\(∀ (i:Nat) (v:PV) (ds:List PyData),ρ[i]?=some v->v.rd=some ds->∃ x,σ[i]?=some (some x)/\Dat K G x (.list ds))/\(∀ (i:Nat) (T:Tg),ρ[i]?=some (PV.thg T)->∃ p fp,σ[i]?=some (some (.ref p))/\T.ok p fp G G)/\(∀ (i:Nat) (ns:List Int),ρ[i]?=some (PV.scr ns)->∃ a,σ[i]?=some (some (.ref a))/\SqL K G a (ns.map V.int))/\∀ (i:Nat) (x:V),ρ[i]?=some (PV.val x)->σ[i]?=some (some x)
def Er (K:PySem.W.Frag)(B:Hp)(t:TE)(ρ:List PV)(d:PyData):Prop:=∀ G σ,Rx K B G σ ρ->Ev K t σ G d
def Et (K:PySem.W.Frag)(B:Hp)(t:TT)(ρ:List PV)(b:Bool):Prop:=∀ G σ,Rx K B G σ ρ->EvT t σ G b
def Ea (K:PySem.W.Frag)(B:Hp)(t:TA)(ρ:List PV)(ds:List PyData):Prop:=∀ G σ,Rx K B G σ ρ->EvA K t σ G ds
noncomputable def PV.msk:PV->PV
 | .dat d=>.dat d
 | .scr ns=>.scr ns
 | .val x=>.val x
 | _=>.un
abbrev msk (ρ:List PV):List PV:=ρ.map PV.msk
theorem Rl.rx (R:Rl K B E G0 H0 G H σ ρ F):Rx K B G σ (msk ρ):=by
 refine ⟨R.bb,?_,?_,?_,?_,?_⟩
 ·intro i d h
  rw[getElem?_map] at h
  cases e:ρ[i]? with
  | none=>rw[e] at h;cases h
  | some v=>
   rw[e] at h
   cases v with
   | dat d' =>
    cases h
    exact (R.sl i _ e).2
   | _=>cases h
 ·intro i u ds h hu
  rw[getElem?_map] at h
  cases e:ρ[i]? with
  | none=>rw[e] at h;cases h
  | some v=>
   rw[e] at h
   cases v <;> cases h <;> cases hu
 ·intro i T h
  rw[getElem?_map] at h
  cases e:ρ[i]? with
  | none=>rw[e] at h;cases h
  | some v=>rw[e] at h;cases v <;> cases h
 ·intro i ns h
  rw[getElem?_map] at h
  cases e:ρ[i]? with
  | none=>rw[e] at h;cases h
  | some v=>
   rw[e] at h
   cases v with
   | scr ms=>cases h;exact (R.sl i _ e).2
   | _=>cases h
 ·intro i x h
  rw[getElem?_map] at h
  cases e:ρ[i]? with
  | none=>rw[e] at h;cases h
  | some v=>
   rw[e] at h
   cases v with
   | val y=>cases h;exact (R.sl i _ e).2
   | _=>cases h
open Classical in
noncomputable def gPl (ρ:List PV) (F:Nat->List Addr) (G H:Hp):Hp:=λb=>if ∃ i v,ρ[i]?=some v/\v.mut=true/\b∈F i then H b else G b
theorem Rl.gpl (R:Rl K B E G0 H0 G H σ ρ F):ZS G (gPl ρ F G H)/\ZS (gPl ρ F G H) H/\Rx K B (gPl ρ F G H) σ ρ:=by
 have s1:ZS G (gPl ρ F G H):=λb o h=>by
  unfold gPl
  split
  ·exact R.g.gh b o h
  ·exact h
 refine ⟨s1,λb o h=>?_,R.bb.trans s1,λi d h=>?_,λi v ds h hv=>?_,λi T h=>?_,λi ns h=>?_,λi x h=>(R.sl i _ h).2⟩
 ·unfold gPl at h
  split at h
  ·exact h
  ·exact R.g.gh b o h
 ·obtain ⟨_,x,hx,hd⟩:=R.sl i _ h
  exact ⟨x,hx,hd.same s1⟩
 ·obtain ⟨p,xs,e,hx,hp,hd⟩:=(R.sl i _ h).rd hv
  refine ⟨_,hx,YZ (xs:=xs) ?_ (hd.same s1)⟩
  unfold gPl
  rw[if_pos ⟨i,v,h,PV.zhH hv,by rw[e];simp⟩]
  exact hp
 ·obtain ⟨p,fp,e,hx,ht⟩:=R.sl i _ h
  refine ⟨p,fp,hx,T.st ht s1 λa ha=>?_⟩
  unfold gPl
  rw[if_pos ⟨i,_,h,rfl,by rw[e];exact ha⟩]
 ·obtain ⟨_,a,hx,hq⟩:=R.sl i _ h
  exact ⟨a,hx,s1.seq hq⟩
noncomputable def flat:PyData->Bool
 | .none | .bool _ | .int _ | .str _=>true
 | _=>false
theorem Dat.flat {v:V}{d:PyData}(h:Dat K G v d)(f:flat d=true)(G' : Hp):Dat K G' v d:=by
 cases d with
 | none=>rw[h.non];exact Qg
 | bool b=>rw[h.bl];exact Yy b
 | int i=>rw[h.int];exact Zk i
 | str x=>rw[h.str];exact zaZ x
 | list _=>cases f
 | tuple _=>cases f
 | dict _=>cases f
def Ex (K:PySem.W.Frag)(B:Hp)(t:TE)(ρ:List PV)(d:PyData):Prop:=∀ E G0 H0 G H σ F,Rl K B E G0 H0 G H σ ρ F->∀ Q:VK,(∀ v G' H',Xq G H G' H' -> Dat K G' v d->Q v H')->t σ H Q
theorem zeq {t:TE}{d:PyData}(h:Er K B t (msk ρ) d):Ex K B t ρ d:=λ_ _ _ G H σ F R Q k=>h G σ R.rx G H (ZS.refl _) R.g.gh Q k
theorem zgo {t:TE}{d:PyData}(h:Er K B t ρ d)(f:flat d=true):Ex K B t ρ d:=λ_ _ _ G H σ F R Q k=>by
 obtain ⟨s1,s2,x⟩:=R.gpl
 exact h _ σ x _ H (ZS.refl _) s2 Q λv G' H' g hv=>k v G H' (Vi R.g.gh g.hh) (hv.flat f G)
theorem zdS {i:Nat}{ti:TE}{u:PV}{ds:List PyData}{j:Int}{n:Nat}{d:PyData}(hi:ρ[i]?=some u)(hu:u.rd=some ds)(h:Er K B ti ρ (.int j))(hn:ixN ds.length j=some n)(hd:ds[n]?=some d):Ex K B (tOp (ziL K) (WL i) ti) ρ d:=λ_ _ _ G H σ F R Q k=>by
 obtain ⟨s1,s2,x⟩:=R.gpl
 obtain ⟨p,xs,e,hx,hp,hds⟩:=(R.sl i _ hi).rd hu
 refine ⟨_,hx,h _ σ x _ H (ZS.refl _) s2 _ λv G' H' g hv=>?_⟩
 obtain ⟨y,hy,hyd⟩:=hds.get hd
 refine ⟨p,xs,j,y,rfl,hv.int,SqL.of (g.hh _ _ hp),?_,k y G H' (Vi R.g.gh g.hh) hyd⟩
 unfold atI
 rw[hds.length,hn]
 exact hy
def Eg (K:PySem.W.Frag)(B:Hp)(t:TE)(ρ:List PV)(R:PV->List PV->Prop):Prop:=∀ E G0 H0 G H σ F,Rl K B E G0 H0 G H σ ρ F->∀ Q:VK,
 (∀ v r ρ' G' H' F' L,R r ρ' -> ZS G G' -> Rl K B E G0 H0 G' H' σ ρ' F' -> Sl K G' H' (some (some v)) r L->Nw G' H' H0 F' L->Q v H')->t σ H Q
theorem zcx {t:TE}{d:PyData}{R:PV->List PV->Prop}(h:Ex K B t ρ d)(k:R (.dat d) ρ):Eg K B t ρ R:=λE G0 H0 G H σ F r Q q=>h E G0 H0 G H σ F r Q λv G' H' g hv=>q v _ ρ G' H' F [] k g.gg (r.grow g) ⟨rfl,v,rfl,hv⟩ JT
theorem Zv {t:TE}{d:PyData}{R:PV->List PV->Prop}(h:Er K B t (msk ρ) d)(k:R (.dat d) ρ):Eg K B t ρ R:=zcx (zeq h) k
theorem Ue {t:TE}{d:PyData}{R:PV->List PV->Prop}(h:Er K B t ρ d)(f:flat d=true)(k:R (.dat d) ρ):Eg K B t ρ R:=zcx (zgo h f) k
theorem Rl.zjq {p:Addr}{xs:List V}{ds:List PyData}(R:Rl K B E G0 H0 G H σ ρ F)(hp:H p=none)(hd:Yr K G xs ds):Rl K B E G0 H0 G (upd H p (.lst xs)) σ ρ F/\Sl K G (upd H p (.lst xs)) (some (some (.ref p))) (.own ds) [p]/\Nw G (upd H p (.lst xs)) H0 F [p]:=by
 have gp:G p=none:=R.g.gh.free hp
 refine ⟨R.grow (Vi R.g.gh (Uo hp)),⟨p,xs,rfl,rfl,Zz,hd⟩,λa ha=>?_,λa ha j hj=>?_⟩
 ·rw[mem_singleton.mp ha]
  exact ⟨gp,⟨_,Zz⟩,R.g.al p hp⟩
 ·rw[mem_singleton.mp ha] at hj
  obtain ⟨_,⟨o,h⟩,_⟩:=R.fr j p hj
  rw[hp] at h;cases h
theorem JC {t:TA}{ds:List PyData}{R:PV->List PV->Prop}(h:Ea K B t (msk ρ) ds)(hl:ds.length<=sizeLine)(k:R (.own ds) ρ):Eg K B (zir t) ρ R:=λE G0 H0 G H σ F r Q q=>
 h G σ r.rx G H (ZS.refl _) r.g.gh _ λvs G' H' g hv=>⟨by rw[hv.length];exact hl,λp hp=>by
  obtain ⟨a,b,c⟩:=(r.grow g).zjq hp hv
  exact q _ _ ρ G' _ F [p] k g.gg a b c⟩
structure Pn where
 nx:List PV->Prop
 rt:PV->List PV->Prop
 bk:List PV->Prop:=λ_=>False
 ct:List PV->Prop:=λ_=>False
structure Dn (K:PySem.W.Frag)(B:Hp)(E:Addr->Prop)(G0 H0 Gs:Hp)(R:Pn)(D:Ends):Prop where
 nx:∀ {G H σ ρ F},R.nx ρ->ZS Gs G->Rl K B E G0 H0 G H σ ρ F->D.nx σ H
 rt:∀ {v r G H σ ρ F L},R.rt r ρ->ZS Gs G->Rl K B E G0 H0 G H σ ρ F->Sl K G H (some (some v)) r L->Nw G H H0 F L->D.rt v H
 bk:∀ {G H σ ρ F},R.bk ρ->ZS Gs G->Rl K B E G0 H0 G H σ ρ F->D.bk σ H
 ct:∀ {G H σ ρ F},R.ct ρ->ZS Gs G->Rl K B E G0 H0 G H σ ρ F->D.ct σ H
theorem Dn.mono {Gs Gt:Hp}{R:Pn}{D:Ends}(d:Dn K B E G0 H0 Gs R D)(s:ZS Gs Gt):Dn K B E G0 H0 Gt R D:=⟨λx y=>d.nx x (s.trans y),λx y=>d.rt x (s.trans y),λx y=>d.bk x (s.trans y),λx y=>d.ct x (s.trans y)⟩
def Sv (K:PySem.W.Frag)(B:Hp)(t:TS)(ρ:List PV)(R:Pn):Prop:=∀ E G0 H0 G H σ F D,Rl K B E G0 H0 G H σ ρ F->Dn K B E G0 H0 G R D->t D σ H
theorem Zj {t u:TS}{R:Pn}(h:Sv K B t ρ { R with nx:=fun ρ' => Sv K B u ρ' R }):Sv K B (zjW t u) ρ R:=λE G0 H0 G H σ F D r d=>
 h E G0 H0 G H σ F { D with nx:=u D } r ⟨λhs s r' => hs E G0 H0 _ _ _ _ D r' (d.mono s),d.rt,d.bk,d.ct⟩
theorem ZZ {R:Pn}(h:R.nx ρ):Sv K B ziw ρ R:=λE G0 H0 G H σ F D r d=>d.nx h (ZS.refl _) r
theorem ziI {t:TS}{R R' : Pn}(h:Sv K B t ρ R)(n:∀ ρ,R.nx ρ->R'.nx ρ)(q:∀ r ρ,R.rt r ρ->R'.rt r ρ)(b:∀ ρ,R.bk ρ->R'.bk ρ)(c:∀ ρ,R.ct ρ->R'.ct ρ):Sv K B t ρ R' := λE G0 H0 G H σ F D r d=>
 h E G0 H0 G H σ F D r ⟨λx=>d.nx (n _ x),λx=>d.rt (q _ _ x),λx=>d.bk (b _ x),λx=>d.ct (c _ x)⟩
theorem Zq {te:TE}{i:Nat}{R:Pn}(h:Eg K B te ρ λr ρ' => R.nx (ρ'.set i r)):Sv K B (ziP te (Ja i)) ρ R:=λE G0 H0 G H σ F D r d=>
 h E G0 H0 G H σ F r _ λv w ρ' G' H' F' L hR s r' sl n=>d.nx hR s (r'.set sl n)
theorem Xl {c:TT}{t u:TS}{b:Bool}{R:Pn}(h:Et K B c ρ b)(k1:b=true->Sv K B t ρ R)(k2:b=false->Sv K B u ρ R):Sv K B (zji c t u) ρ R:=λE G0 H0 G H σ F D r d=>by
 obtain ⟨s1,s2,x⟩:=r.gpl
 refine h _ σ x _ H (ZS.refl _) s2 _ λG' H' g=>?_
 have r' := r.grow (Vi r.g.gh g.hh)
 cases b with
 | true=>rw[if_pos rfl];exact k1 rfl E G0 H0 _ _ σ F D r' d
 | false=>rw[if_neg Bool.false_ne_true];exact k2 rfl E G0 H0 _ _ σ F D r' d
theorem U4 {c:TT}{t u:TS}{R:Pn}(h:Et K B c ρ true)(k1:Sv K B t ρ R):Sv K B (zji c t u) ρ R:=Xl h (λ_=>k1) λz=>(by cases z)
theorem Vf {c:TT}{t u:TS}{R:Pn}(h:Et K B c ρ false)(k1:Sv K B u ρ R):Sv K B (zji c t u) ρ R:=Xl h (λz=>by cases z) λ_=>k1
theorem Z6 {te:TE}{R:Pn}(h:Eg K B te ρ R.rt):Sv K B (zj9 te) ρ R:=λE G0 H0 G H σ F D r d=>
 h E G0 H0 G H σ F r _ λv w ρ' G' H' F' L hR s r' sl n=>d.rt hR s r' sl n
noncomputable def PV.frz:PV->PV
 | .own ds=>.dat (.list ds)
 | v=>v
noncomputable def PV.mlt:PV->PV
 | .dat d=>.dat d
 | .scr ns=>.scr ns
 | .val x=>.val x
 | .own ds=>.own ds
 | _=>.un
open Classical in
noncomputable def gFz (ρ:List PV) (F:Nat->List Addr) (G H:Hp):Hp:=λb=>if ∃ i ds,ρ[i]?=some (.own ds)/\b∈F i then H b else G b
theorem Rl.frz (R:Rl K B E G0 H0 G H σ ρ F):∃ F',ZS G (gFz ρ F G H)/\Rx K B (gFz ρ F G H) σ (ρ.map PV.mlt)/\Rl K B E G0 H0 (gFz ρ F G H) H σ (ρ.map PV.frz) F' := by
 classical
 have s1:ZS G (gFz ρ F G H):=λb o h=>by
  unfold gFz
  split
  ·exact R.g.gh b o h
  ·exact h
 have s2:ZS (gFz ρ F G H) H:=λb o h=>by
  unfold gFz at h
  split at h
  ·exact h
  ·exact R.g.gh b o h
 have ow:∀ i ds,ρ[i]?=some (PV.own ds)->∃ x,σ[i]?=some (some x)/\Dat K (gFz ρ F G H) x (.list ds):=λi ds h=>by
  obtain ⟨p,xs,e,hx,hp,hd⟩:=R.sl i _ h
  refine ⟨_,hx,YZ (xs:=xs) ?_ (hd.same s1)⟩
  unfold gFz
  rw[if_pos ⟨i,ds,h,by rw[e];simp⟩]
  exact hp
 refine ⟨λk=>if ∃ ds,ρ[k]?=some (.own ds) then [] else F k,s1,⟨R.bb.trans s1,λi d h=>?_,λi u d h hu=>?_,λi T h=>?_,λi ns h=>?_,λi x h=>?_⟩,⟨R.g.gg.trans s1,s2,R.g.kp,R.g.al,λb o h=>?_⟩,R.bb.trans s1,by rw[length_map,R.ls],λi v h=>?_,λi a ha=>?_,λi j a ha hb=>?_,λi ds a h ha=>?_⟩
 ·rw[getElem?_map] at h
  cases e:ρ[i]? with
  | none=>rw[e] at h;cases h
  | some v=>
   rw[e] at h
   cases v with
   | dat d' =>
    cases h
    obtain ⟨_,x,hx,hd⟩:=R.sl i _ e
    exact ⟨x,hx,hd.same s1⟩
   | _=>cases h
 ·rw[getElem?_map] at h
  cases e:ρ[i]? with
  | none=>rw[e] at h;cases h
  | some v=>
   rw[e] at h
   cases v with
   | own d' =>
    cases h;cases hu
    exact ow i _ e
   | _=>cases h <;> cases hu
 ·rw[getElem?_map] at h
  cases e:ρ[i]? with
  | none=>rw[e] at h;cases h
  | some v=>rw[e] at h;cases v <;> cases h
 ·rw[getElem?_map] at h
  cases e:ρ[i]? with
  | none=>rw[e] at h;cases h
  | some v=>
   rw[e] at h
   cases v with
   | scr ms=>
    cases h
    obtain ⟨_,a,hx,hq⟩:=R.sl i _ e
    exact ⟨a,hx,s1.seq hq⟩
   | _=>cases h
 ·rw[getElem?_map] at h
  cases e:ρ[i]? with
  | none=>rw[e] at h;cases h
  | some v=>
   rw[e] at h
   cases v with
   | val y=>cases h;exact (R.sl i _ e).2
   | _=>cases h
 ·unfold gFz at h
  split at h
  ·rename_i z
   obtain ⟨i,ds,hi,hb⟩:=z
   exact .inr (R.ow i ds b hi hb)
  ·exact R.g.fr b o h
 ·rw[getElem?_map] at h
  cases e:ρ[i]? with
  | none=>rw[e] at h;cases h
  | some u=>
   rw[e] at h
   have keep:Sl K G H σ[i]? u (F i):=R.sl i _ e
   cases u with
   | own ds=>
    cases h
    rw[if_pos ⟨ds,rfl⟩]
    exact ⟨rfl,ow i ds e⟩
   | _=>
    cases h
    rw[if_neg (by rintro ⟨ds,z⟩;cases z)]
    exact keep.grow s1 (λ_ _=>rfl)
 ·split at ha
  ·cases ha
  ·rename_i hz
   obtain ⟨h1,h2,h3⟩:=R.fr i a ha
   refine ⟨?_,h2,h3⟩
   unfold gFz
   rw[if_neg ?_]
   ·exact h1
   ·rintro ⟨j,ds,hj,haj⟩
    have:=R.dj i j a ha haj
    subst this
    exact hz ⟨ds,hj⟩
 ·split at ha
  ·cases ha
  ·split at hb
   ·cases hb
   ·exact R.dj i j a ha hb
 ·rw[getElem?_map] at h
  cases e:ρ[i]? with
  | none=>rw[e] at h;cases h
  | some u=>rw[e] at h;cases u <;> cases h
theorem zdm {t:TS}{R:Pn}(h:Sv K B t (ρ.map PV.frz) R):Sv K B t ρ R:=λE G0 H0 G H σ F D r dn=>by
 obtain ⟨F',s1,_,r'⟩:=r.frz
 exact h E G0 H0 _ H σ F' D r' (dn.mono s1)
end
section
variable {K:PySem.W.Frag}{B:Hp}{E:Addr->Prop}{G0 H0 G H G' H' : Hp}{σ:St}{ρ:List PV}{F:Nat->List Addr}{ta tb te:TE}{a b d:PyData}{ds es:List PyData}
theorem Rx.mono (r:Rx K B G σ ρ)(s:ZS G G'):Rx K B G' σ ρ:=
 ⟨r.1.trans s,λi d h=>let ⟨x,hx,hd⟩:=r.2.1 i d h;⟨x,hx,hd.same s⟩,λi v d h hv=>let ⟨x,hx,hd⟩:=r.2.2.1 i v d h hv;⟨x,hx,hd.same s⟩,λi T h=>let ⟨p,fp,hx,ht⟩:=r.2.2.2.1 i T h;⟨p,fp,hx,T.st ht s λa ha=>by
  obtain ⟨o,ho⟩:=T.live ht a ha
  rw[ho,s a o ho]⟩,λi ns h=>let ⟨a,hx,hq⟩:=r.2.2.2.2.1 i ns h;⟨a,hx,s.seq hq⟩,r.2.2.2.2.2⟩
theorem Zb {i:Nat}(h:ρ[i]?=some (.dat d)):Er K B (WL i) ρ d:=λG σ r=>let ⟨x,hx,hd⟩:=r.2.1 i d h;ze1 hx hd
theorem JB {i:Nat}{u:PV}(h:ρ[i]?=some u)(hu:u.rd=some ds):Er K B (WL i) ρ (.list ds):=λG σ r=>let ⟨x,hx,hd⟩:=r.2.2.1 i u ds h hu;ze1 hx hd
theorem Zi {i:Int}:Er K B (tC (.int i)) ρ (.int i):=λ_ _ _=>zi7
theorem Wf {x:Str}:Er K B (tC (.str x)) ρ (.str x):=λ_ _ _=>zh4
theorem zgM {x:Bool}:Er K B (tC (.bl x)) ρ (.bool x):=λ_ _ _=>zjV
theorem QD:Er K B (tC .non) ρ .none:=λ_ _ _=>zfr
theorem Y5 {g:Int->Int->V}{i j:Int}(ha:Er K B ta ρ (.int i))(hb:Er K B tb ρ (.int j))(hg:∀ G,Dat K G (g i j) d):Er K B (tOp (rI0 g) ta tb) ρ d:=λG σ r=>ziG (ha G σ r) (hb G σ r) (hg G)
theorem YQ {C:Int->Int->Prop}{g:Int->Int->V}{i j:Int}(ha:Er K B ta ρ (.int i))(hb:Er K B tb ρ (.int j))(hc:C i j)(hg:∀ G,Dat K G (g i j) d):Er K B (tOp (rI C g) ta tb) ρ d:=λG σ r=>zgK (ha G σ r) (hb G σ r) hc (hg G)
theorem Yd {i:Int}{n:Nat}(ha:Er K B ta ρ (.tuple ds))(hb:Er K B tb ρ (.int i))(hn:ixN ds.length i=some n)(hd:ds[n]?=some d):Er K B (tOp (zhf K) ta tb) ρ d:=λG σ r=>ziN (ha G σ r) (hb G σ r) hn hd
theorem XM {i:Int}{n:Nat}(ha:Er K B ta ρ (.list ds))(hb:Er K B tb ρ (.int i))(hn:ixN ds.length i=some n)(hd:ds[n]?=some d):Er K B (tOp (ziL K) ta tb) ρ d:=λG σ r=>zeZ (ha G σ r) (hb G σ r) hn hd
theorem Jh {g:Bool->Bool}{n:Nat}(ha:Er K B ta ρ a)(hb:Er K B tb ρ b)(pa:Pl n a)(pb:Pl n b)(hn:n<=64):Er K B (tOp (zhd K g) ta tb) ρ (.bool (g (PySem.Spec.same a b))):=λG σ r=>zhr (ha G σ r) (hb G σ r) pa pb hn
theorem Xy {i j:Int}(ha:Er K B ta ρ (.int i))(hb:Er K B tb ρ (.int j)):Er K B (tOp rEq ta tb) ρ (.bool (decide (i=j))):=λG σ r=>zic (ha G σ r) (hb G σ r)
theorem Zg:Ea K B QT ρ []:=λ_ _ _=>zcU
theorem Zc {t:TA}(ha:Er K B ta ρ a)(hb:Ea K B t ρ ds):Ea K B (Xc ta t) ρ (a::ds):=λG σ r=>zbj (ha G σ r) (hb G σ r)
theorem ZM {t:TA}(h:Ea K B t ρ ds)(hl:ds.length<=sizeLine):Er K B (zfo t) ρ (.tuple ds):=λG σ r=>zik (h G σ r) hl
theorem YD {t:TA}(h:Ea K B t ρ ds)(hl:ds.length<=sizeLine):Er K B (zir t) ρ (.list ds):=λG σ r=>ziu (h G σ r) hl
theorem XC {t:TA}(h:Ea K B t ρ [.list ds]):Er K B (tCB (λxs H Q=>∃ p ys,xs=[.ref p]/\(SqL K H p ys\/SqT K H p ys)/\Q (.int ys.length) H) t) ρ (.int ds.length):=λG σ r=>zgp (h G σ r)
theorem Qm {t:TA}(h:Ea K B t ρ [.tuple ds]):Er K B (tCB (λxs H Q=>∃ p ys,xs=[.ref p]/\(SqL K H p ys\/SqT K H p ys)/\Q (.int ys.length) H) t) ρ (.int ds.length):=λG σ r=>zgs (h G σ r)
theorem We {t:TA}(h:Ea K B t ρ [.list ds]):Er K B (tCB (λxs H Q=>∃ p ys,xs=[.ref p]/\((SqL K H p ys/\∀ l,H l=none->Q (.ref l) (upd H l (.tup ys)))\/(SqT K H p ys/\Q (.ref p) H))) t) ρ (.tuple ds):=λG σ r=>zaF (h G σ r)
theorem Zu {t:TE}{c:Bool}(h:Er K B t ρ (.bool c)):Et K B (za7 t) ρ c:=λG σ r=>zeh (h G σ r)
theorem zjc {t:TE}{c:Bool}(h:Er K B t ρ (.bool c)):Et K B (tB t) ρ c:=λG σ r=>zjX (h G σ r)
theorem zaw {t:TT}{c:Bool}(h:Et K B t ρ c):Et K B (zjF t) ρ (!c):=λG σ r=>zgA (h G σ r)
theorem zaC {t u:TT}{c e:Bool}(h:Et K B t ρ c)(h' : c=false->Et K B u ρ e):Et K B (tOr t u) ρ (c||e):=λG σ r=>ziy (h G σ r) λz=>h' z G σ r
theorem zaa {t u:TT}{c e:Bool}(h:Et K B t ρ c)(h' : c=true->Et K B u ρ e):Et K B (zjK t u) ρ (c&&e):=λG σ r=>zfZ (h G σ r) λz=>h' z G σ r
theorem W9 {t:TT}{c e:Bool}(h:Et K B t ρ c)(q:c=e):Et K B t ρ e:=q ▸ h
theorem Qo:Et K B zen ρ true:=λ_ _ _=>zer
theorem Yo {t:TE}{e:PyData}(h:Er K B t ρ d)(q:d=e):Er K B t ρ e:=q ▸ h
theorem zhL {t:TT}{c:Bool}(h:Et K B t ρ c)(h1:c=true->Er K B ta ρ d)(h2:c=false->Er K B tb ρ d):Er K B (tIf t ta tb) ρ d:=λG σ r=>zhx (h G σ r) (λz=>h1 z G σ r) λz=>h2 z G σ r
theorem zcu {c e:Bool}(h:Er K B ta ρ (.bool c))(h' : c=true->Er K B tb ρ (.bool e)):Er K B (zg5 ta tb) ρ (.bool (c&&e)):=λG σ r=>zhW (h G σ r) λz=>h' z G σ r
theorem Yz {R:List PyData->PyData->Prop}{X:XK}{t:TA}(h:Ea K B t ρ ds)(hR:R ds d):Er K B (za9 (spP K R) [] X t) ρ d:=λG σ r=>zf8 (h G σ r) hR
theorem zhZ {n:String}{c:Bool}(ha:Er K B ta ρ d)(e:kitOne K (.type (tyN d)) (.type n)=some c):Er K B (tCB (zj3 K) (Xc ta (Xc (tC (.ty n)) QT))) ρ (.bool c):=λG σ r=>zi9 (ha G σ r) e
theorem zbd (ha:Er K B ta ρ d):Er K B (tOp (λx y H Q=>y = .non/\Q (.bl (decide (x = .non))) H) ta (tC .non)) ρ (.bool (match d with | .none=>true | _=>false)):=λG σ r=>Qj (ha G σ r) zfr λG1 H x y Q s1 s2 hx hy k=>by
 refine ⟨hy.non,?_⟩
 cases d with
 | none=>rw[hx.non];exact k _ G1 H (Xq.refl s2) (Yy _)
 | bool b=>rw[hx.bl];exact k _ G1 H (Xq.refl s2) (Yy _)
 | int i=>rw[hx.int];exact k _ G1 H (Xq.refl s2) (Yy _)
 | str s=>rw[hx.str];exact k _ G1 H (Xq.refl s2) (Yy _)
 | list l=>obtain ⟨p,xs,rfl,_⟩:=hx.lst;exact k _ G1 H (Xq.refl s2) (Yy _)
 | tuple l=>obtain ⟨p,xs,rfl,_⟩:=hx.tup;exact k _ G1 H (Xq.refl s2) (Yy _)
 | dict l=>exact hx.elim
theorem zbM {p q:Int->Int->Bool}{tc:TE}{i j k:Int}(ha:Er K B ta ρ (.int i))(hb:Er K B tb ρ (.int j))(hc:Er K B tc ρ (.int k)):Er K B (zcr (rI0 λi j=>.bl (p i j)) (rI0 λi j=>.bl (q i j)) ta tb tc) ρ (.bool (p i j&&q j k)):=λG σ r G1 H s1 s2 Q kk=>by
 refine ha G σ r G1 H s1 s2 _ λv G2 H2 g2 hv=>hb G σ r G2 H2 (s1.trans g2.gg) g2.gh _ λu G3 H3 g3 hu=>⟨i,j,hv.int,hu.int,p i j,rfl,?_⟩
 have g23:=g2.trans g3
 cases e:p i j with
 | false=>
  rw[if_neg Bool.false_ne_true]
  rw[e] at kk
  exact kk _ G3 H3 g23 (Yy _)
 | true=>
  rw[if_pos rfl]
  rw[e] at kk
  exact hc G σ r G3 H3 (s1.trans g23.gg) g23.gh _ λw' G4 H4 g4 hw=>⟨j,k,hu.int,hw.int,kk _ G4 H4 (g23.trans g4) (Yy _)⟩
structure Wd (K:PySem.W.Frag)(J:It)(G:Hp)(ds:List PyData):Prop where
 go:∀ i H',ZS G H' -> i<ds.length->J.go i H'
 stop:∀ i H',ZS G H' -> i=ds.length->J.stop i H'
 yld:∀ i H1 x H2 G1 d,ZS G G1->ZS G1 H1->ds[i]?=some d->J.yld i H1 x H2->∃ G2,Xq G1 H1 G2 H2/\Dat K G2 x d
def Ei (K:PySem.W.Frag)(B:Hp)(wi:TI)(ρ:List PV)(ds:List PyData):Prop:=∀ G H σ,Rx K B G σ ρ->ZS G H->∀ R:It->Hp->Prop,(∀ J G' H',Xq G H G' H' -> Wd K J G' ds->R J H')->wi σ H R
theorem zbp {lo:Int}{n:Nat}:Wd K (Itr lo n) G ((List.range n).map λ(i:Nat)=>PyData.int (lo+i)):=by
 refine ⟨λi H' _ h=>by rw[length_map,length_range] at h;exact h,λi H' _ h=>by rw[length_map,length_range] at h;exact le_of_eq h.symm,λi H1 x H2 G1 d s1 s2 hd y=>?_⟩
 obtain ⟨rfl,rfl⟩:=y
 refine ⟨G1,Xq.refl s2,?_⟩
 rw[getElem?_map] at hd
 by_cases h:i<n
 ·rw[getElem?_range h] at hd
  cases hd;exact Zk _
 ·rw[List.getElem?_eq_none (by rw[length_range];omega)] at hd;cases hd
theorem zi0 {p:Addr}{xs:List V}(h:G p=some (.lst xs))(hd:Yr K G xs ds):Wd K (Itl K p) G ds:=by
 refine ⟨λi H' s hi=>⟨xs,_,SqL.of (s _ _ h),List.getElem?_eq_getElem (by rw[hd.length];exact hi)⟩,λi H' s hi=>⟨xs,SqL.of (s _ _ h),by rw[hd.length];exact le_of_eq hi.symm⟩,λi H1 x H2 G1 d s1 s2 he y=>?_⟩
 obtain ⟨rfl,y⟩:=y
 obtain ⟨x',hx',hdx⟩:=hd.get he
 have:=y xs (SqL.of (s2 _ _ (s1 _ _ h)))
 rw[hx'] at this;cases this
 exact ⟨G1,Xq.refl s2,hdx.same s1⟩
theorem zif {p:Addr}{xs:List V}(h:SqT K G p xs)(hd:Yr K G xs ds):Wd K (Itt K p) G ds:=by
 refine ⟨λi H' s hi=>⟨xs,_,s.tup h,List.getElem?_eq_getElem (by rw[hd.length];exact hi)⟩,λi H' s hi=>⟨xs,s.tup h,by rw[hd.length];exact le_of_eq hi.symm⟩,λi H1 x H2 G1 d s1 s2 he y=>?_⟩
 obtain ⟨rfl,y⟩:=y
 obtain ⟨x',hx',hdx⟩:=hd.get he
 have:=y xs (s2.tup (s1.tup h))
 rw[hx'] at this;cases this
 exact ⟨G1,Xq.refl s2,hdx.same s1⟩
theorem Jz (h:Er K B te ρ (.list ds)):Ei K B (zi3 K te) ρ ds:=λG H σ r s R k=>h G σ r G H (ZS.refl _) s _ λv G' H' g hv=>by
 obtain ⟨p,xs,rfl,hp,hx⟩:=hv.lst
 exact ⟨p,rfl,⟨xs,SqL.of (g.gh _ _ hp)⟩,k _ G' H' g (zi0 hp hx)⟩
theorem zbx (h:Er K B te ρ (.tuple ds)):Ei K B (zja K te) ρ ds:=λG H σ r s R k=>h G σ r G H (ZS.refl _) s _ λv G' H' g hv=>by
 obtain ⟨p,xs,rfl,hp,hx⟩:=hv.tup
 exact ⟨p,rfl,⟨xs,g.gh.tup hp⟩,k _ G' H' g (zif hp hx)⟩
theorem zhS {t:TA}{j:Int}(h:Ea K B t ρ [.int j])(hj:-(2 ^ 62)<=j/\j<2 ^ 62):Ei K B (zcM t) ρ ((List.range j.toNat).map λ(i:Nat)=>PyData.int (0+i)):=λG H σ r s R k=>h G σ r G H (ZS.refl _) s _ λvs G' H' g hv=>by
 obtain ⟨y,ys,rfl,hy,r⟩:=hv.cons
 rw[r.nil,hy.int]
 exact ⟨j,rfl,hj.1,hj.2,k _ G' H' g zbp⟩
noncomputable def za4 (ds:List PyData):List PyData:=(List.range ds.length).map λ(i:Nat)=>PyData.tuple [.int i,ds.getD i .none]
theorem zdh {i:Nat}{d:PyData}(h:(za4 ds)[i]?=some d):∃ e,ds[i]?=some e/\d = .tuple [.int i,e]:=by
 unfold za4 at h
 rw[getElem?_map] at h
 by_cases hi:i<ds.length
 ·rw[getElem?_range hi] at h
  cases h
  exact ⟨ds[i],List.getElem?_eq_getElem hi,by show PyData.tuple [.int i,ds.getD i .none]=_;rw[getD_eq_getElem?_getD,List.getElem?_eq_getElem hi];rfl⟩
 ·rw[List.getElem?_eq_none (by rw[length_range];omega)] at h;cases h
theorem zao:(za4 ds).length=ds.length:=by unfold za4;rw[length_map,length_range]
theorem zhl {t:TA}(h:Ea K B t ρ [.tuple ds]):Ei K B (zke K t) ρ (za4 ds):=λG H σ r s R k=>h G σ r G H (ZS.refl _) s _ λvs G' H' g hv=>by
 obtain ⟨y,ys,rfl,hy,r⟩:=hv.cons
 cases r.nil
 obtain ⟨p,xs,rfl,hp,hx⟩:=hy.tup
 refine ⟨p,rfl,⟨xs,g.gh.tup hp⟩,k _ G' H' g ⟨λi H' s hi=>?_,λi H' s hi=>?_,λi H1 x H2 G1 d s1 s2 he y=>?_⟩⟩
 ·rw[zao,← hx.length] at hi
  exact ⟨xs,_,s.tup hp,List.getElem?_eq_getElem hi⟩
 ·rw[zao,← hx.length] at hi
  exact ⟨xs,s.tup hp,le_of_eq hi.symm⟩
 ·obtain ⟨e,he',rfl⟩:=zdh he
  obtain ⟨q,z,hq,rfl,rfl,hz⟩:=y
  obtain ⟨x',hx',hdx⟩:=hx.get he'
  have:=hz xs (s2.tup (s1.tup hp))
  rw[hx'] at this;cases this
  have g:=Yl (o:=.tup [.int (i:Nat),z]) s2 hq
  exact ⟨_,g,Xv (SqT.of Zz) (Ye (Zk _) (Ye ((hdx.same s1).same g.gg) Yq))⟩
noncomputable def zbO (ρ:List PV) (js:List Nat):List PV:=js.map λj=>(ρ[j]?).getD .un
theorem zfm {x:V}{js:List Nat}(r:Rx K B G σ ρ)(hd:Dat K G x d):Rx K B G (some x::Jw σ js) (.dat d::zbO ρ js):=by
 refine ⟨r.1,λi e h=>?_,λi u e h hu=>?_,λi T h=>?_,λi ns h=>?_,λi y h=>?_⟩
 ·cases i with
  | zero=>cases h;exact ⟨x,rfl,hd⟩
  | succ i=>
   rw[getElem?_cons_succ] at h ⊢
   unfold zbO at h
   unfold Jw
   rw[getElem?_map] at h ⊢
   cases q:js[i]? with
   | none=>rw[q] at h;cases h
   | some j=>
    rw[q] at h
    have h:(ρ[j]?).getD .un = .dat e:=Option.some.inj h
    cases z:ρ[j]? with
    | none=>rw[z] at h;cases h
    | some u=>
     rw[z] at h
     have h:u = .dat e:=h
     subst h
     obtain ⟨y,hy,hyd⟩:=r.2.1 j e z
     exact ⟨y,by show some (σ[j]?).join=_;rw[hy];rfl,hyd⟩
 ·cases i with
  | zero=>cases h;cases hu
  | succ i=>
   rw[getElem?_cons_succ] at h ⊢
   unfold zbO at h
   unfold Jw
   rw[getElem?_map] at h ⊢
   cases q:js[i]? with
   | none=>rw[q] at h;cases h
   | some j=>
    rw[q] at h
    have h:(ρ[j]?).getD .un=u:=Option.some.inj h
    cases z:ρ[j]? with
    | none=>rw[z] at h;subst h;cases hu
    | some u' =>
     rw[z] at h
     have h:u'=u:=h
     subst h
     obtain ⟨y,hy,hyd⟩:=r.2.2.1 j u' e z hu
     exact ⟨y,by show some (σ[j]?).join=_;rw[hy];rfl,hyd⟩
 ·cases i with
  | zero=>cases h
  | succ i=>
   rw[getElem?_cons_succ] at h ⊢
   unfold zbO at h
   unfold Jw
   rw[getElem?_map] at h ⊢
   cases q:js[i]? with
   | none=>rw[q] at h;cases h
   | some j=>
    rw[q] at h
    have h:(ρ[j]?).getD .un = .thg T:=Option.some.inj h
    cases z:ρ[j]? with
    | none=>rw[z] at h;cases h
    | some u' =>
     rw[z] at h
     have h:u' = .thg T:=h
     subst h
     obtain ⟨p,fp,hy,hyd⟩:=r.2.2.2.1 j T z
     exact ⟨p,fp,by show some (σ[j]?).join=_;rw[hy];rfl,hyd⟩
 ·cases i with
  | zero=>cases h
  | succ i=>
   rw[getElem?_cons_succ] at h ⊢
   unfold zbO at h
   unfold Jw
   rw[getElem?_map] at h ⊢
   cases q:js[i]? with
   | none=>rw[q] at h;cases h
   | some j=>
    rw[q] at h
    have h:(ρ[j]?).getD .un = .scr ns:=Option.some.inj h
    cases z:ρ[j]? with
    | none=>rw[z] at h;cases h
    | some u' =>
     rw[z] at h
     have h:u' = .scr ns:=h
     subst h
     obtain ⟨p,hy,hyd⟩:=r.2.2.2.2.1 j ns z
     exact ⟨p,by show some (σ[j]?).join=_;rw[hy];rfl,hyd⟩
 ·cases i with
  | zero=>cases h
  | succ i=>
   rw[getElem?_cons_succ] at h ⊢
   unfold zbO at h
   unfold Jw
   rw[getElem?_map] at h ⊢
   cases q:js[i]? with
   | none=>rw[q] at h;cases h
   | some j=>
    rw[q] at h
    have h:(ρ[j]?).getD .un = .val y:=Option.some.inj h
    cases z:ρ[j]? with
    | none=>rw[z] at h;cases h
    | some u' =>
     rw[z] at h
     have h:u' = .val y:=h
     subst h
     have hy:=r.2.2.2.2.2 j y z
     show some (σ[j]?).join=_
     rw[hy];rfl
def Lcx (K:PySem.W.Frag)(B:Hp)(tt:TT)(te:TE)(ρ:List PV)(o:Option PyData):Prop:=(∃ d,o=some d/\Et K B tt ρ true/\Er K B te ρ d)\/(o=none/\Et K B tt ρ false)
theorem lx1 {tt:TT}(ht:Et K B tt ρ true)(he:Er K B te ρ d):Lcx K B tt te ρ (some d):=.inl ⟨d,rfl,ht,he⟩
theorem lxB {tt:TT}{c:Bool}(ht:Et K B tt ρ c)(he:c=true->Er K B te ρ d):Lcx K B tt te ρ (if c then some d else none):=by
 cases c with
 | true=>exact .inl ⟨d,rfl,ht,he rfl⟩
 | false=>exact .inr ⟨rfl,ht⟩
theorem ziJ {α:Type}{wi:TI}{js:List Nat}{tt:TT}(as:List α)(enc:α->PyData)(f:α->Option PyData)(h:Ei K B wi ρ (as.map enc))(hn:as.length<sizeLine)(hc:∀ a∈as,Lcx K B tt te (.dat (enc a)::zbO ρ js) (f a))
  (r:Rx K B G σ ρ) (s:ZS G H) {Q:VK}(k:∀ p xs G' H',Xq G H G' H' -> H' p=none->Yr K G' xs (as.filterMap f)->Q (.ref p) (upd H' p (.lst xs))):tLC wi js tt te σ H Q:=by
 refine h G H σ r s _ λJ G2 H2 g2 W=>?_
 have fl:∀ i (hi:i<as.length),((as.take (i+1)).filterMap f)=(as.take i).filterMap f++(f as[i]).toList:=λi hi=>by
  rw[List.take_succ,List.filterMap_append,List.getElem?_eq_getElem hi]
  show _++List.filterMap f [as[i]]=_
  rw[filterMap_cons]
  cases f as[i] <;> rfl
 refine ⟨λi m ys H' => m=as.length-i/\i<=as.length/\ys.length<=i/\∃ G',Xq G2 H2 G' H' /\ Yr K G' ys ((as.take i).filterMap f),⟨as.length,by omega,by omega,by simp,G2,Xq.refl g2.gh,by simpa using Yq⟩,?_⟩
 rintro i m ys H' ⟨rfl,hi,hl,G',g',hys⟩
 refine ⟨by omega,?_⟩
 have sgh:ZS G2 H' := g'.gg.trans g'.gh
 by_cases hin:i=as.length
 ·subst hin
  refine .inl ⟨W.stop _ H' sgh (by rw[length_map]),λp hp=>?_⟩
  rw[take_length] at hys
  exact k p ys G' H' (g2.trans g') hp hys
 ·have hi' : i<as.length:=by omega
  refine .inr ⟨W.go i H' sgh (by rw[length_map];exact hi'),λx H'' hy=>?_⟩
  obtain ⟨G3,g3,hx⟩:=W.yld i H' x H'' G' (enc as[i]) g'.gg g'.gh (by rw[getElem?_map,List.getElem?_eq_getElem hi'];rfl) hy
  have rx:=zfm (js:=js) ((r.mono (g2.gg.trans g'.gg)).mono g3.gg) hx
  rcases hc as[i] (getElem_mem hi') with ⟨d,hf,ht,he⟩ | ⟨hf,ht⟩
  ·refine ht _ _ rx G3 H'' (ZS.refl _) g3.gh _ λG4 H4 g4=>?_
   rw[if_pos rfl]
   refine he _ _ (rx.mono g4.gg) G4 H4 (ZS.refl _) g4.gh _ λv G5 H5 g5 hv=>⟨as.length-(i+1),by omega,rfl,by omega,by rw[length_append];show ys.length+1<=i+1;omega,G5,((g'.trans g3).trans g4).trans g5,?_⟩
   rw[fl i hi',hf]
   exact Qc (hys.same ((g3.gg.trans g4.gg).trans g5.gg)) hv
  ·refine ht _ _ rx G3 H'' (ZS.refl _) g3.gh _ λG4 H4 g4=>?_
   rw[if_neg Bool.false_ne_true]
   refine ⟨as.length-(i+1),by omega,rfl,by omega,by omega,G4,(g'.trans g3).trans g4,?_⟩
   rw[fl i hi',hf]
   show Yr K G4 ys (_++[])
   rw[append_nil]
   exact hys.same (g3.gg.trans g4.gg)
theorem zg4 {α:Type}{wi:TI}{js:List Nat}{tt:TT}(as:List α)(enc:α->PyData)(f:α->Option PyData)(h:Ei K B wi ρ (as.map enc))(hn:as.length<sizeLine)(hc:∀ a∈as,Lcx K B tt te (.dat (enc a)::zbO ρ js) (f a)):Er K B (tLC wi js tt te) ρ (.list (as.filterMap f)):=
 λG σ r G1 H s1 s2 Q k=>ziJ as enc f h hn hc (r.mono s1) s2 λp xs G' H' g hp hd=>by
  have g3:=Yl (o:=.lst xs) g.gh hp
  exact k _ _ _ (g.trans g3) (YZ Zz (hd.same g3.gg))
def Gt (K:PySem.W.Frag)(B:Hp)(g:TG)(d:PyData)(ρ:List PV)(P:List PV->Prop):Prop:=∀ E G0 H0 G H σ F x (Q:St->Hp->Prop),Rl K B E G0 H0 G H σ ρ F->Dat K G x d->(∀ σ' ρ' G' H' F',P ρ' -> ZS G G' -> Rl K B E G0 H0 G' H' σ' ρ' F' -> Q σ' H')->g x σ H Q
theorem Wj {i:Nat}{P:List PV->Prop}(h:P (ρ.set i (.dat d))):Gt K B (Ja i) d ρ P:=λE G0 H0 G H σ F x Q r hd k=>k _ _ G H _ h (ZS.refl _) (r.zd2 hd)
theorem V1 {i j:Nat}{P:List PV->Prop}(h:P ((ρ.set i (.dat a)).set j (.dat b))):Gt K B (zh3 K 2 (QR (Ja i) (QR (Ja j) zhk))) (.tuple [a,b]) ρ P:=λE G0 H0 G H σ F x Q r hd k=>by
 obtain ⟨p,xs,rfl,hp,hx⟩:=hd.tup
 obtain ⟨y,ys,rfl,hy,hx⟩:=hx.cons
 obtain ⟨z,zs,rfl,hz,hx⟩:=hx.cons
 cases hx.nil
 exact ⟨p,_,rfl,r.g.gh.tup hp,rfl,y,_,rfl,z,_,rfl,rfl,k _ _ G H _ h (ZS.refl _) ((r.zd2 hy).zd2 hz)⟩
theorem zaL {g:TG}{R:Pn}(h:Ex K B te ρ d)(k:Gt K B g d ρ R.nx):Sv K B (ziP te g) ρ R:=λE G0 H0 G H σ F D r dn=>
 h E G0 H0 G H σ F r _ λv G' H' gr hv=>k E G0 H0 G' H' σ F v _ (r.grow gr) hv fun σ' ρ' G2 H2 F' hP s r' => dn.nx hP (gr.gg.trans s) r'
theorem Wr {α:Type}{wi:TI}{g:TG}{tb:TS}{R:Pn}(as:List α)(enc:α->PyData)(h:Ei K B wi (msk ρ) (as.map enc))(Iv:Nat->List PV->Prop)(h0:Iv 0 ρ)
  (hs:∀ (i:Nat) (hi:i<as.length) ρ',Iv i ρ' -> Gt K B g (enc as[i]) ρ' fun ρ2=>Sv K B tb ρ2 { nx:=Iv (i+1),ct:=Iv (i+1),bk:=R.nx,rt:=R.rt }) (hd:∀ ρ',Iv as.length ρ' -> R.nx ρ'):Sv K B (zj1 wi g tb) ρ R:=λE G0 H0 G H σ F D r dn=>by
 refine h G H σ r.rx r.g.gh _ λJ G1 H1 g1 W=>?_
 refine ⟨λi m σ' H' => m=as.length-i/\i<=as.length/\∃ ρ' G' F',Iv i ρ' /\ Rl K B E G0 H0 G' H' σ' ρ' F' /\ ZS G1 G',⟨as.length,by omega,by omega,ρ,G1,F,h0,r.grow g1,ZS.refl _⟩,?_⟩
 rintro i m σ' H' ⟨rfl,hi,ρ',G',F',hI,r',s'⟩
 by_cases hin:i=as.length
 ·subst hin
  exact .inl ⟨W.stop _ H' (s'.trans r'.g.gh) (by rw[length_map]),dn.nx (hd ρ' hI) (g1.gg.trans s') r'⟩
 ·have hi' : i<as.length:=by omega
  refine .inr ⟨W.go i H' (s'.trans r'.g.gh) (by rw[length_map];exact hi'),fun σ2 H2=>∃ ρ2 G2 F2,Iv (i+1) ρ2/\Rl K B E G0 H0 G2 H2 σ2 ρ2 F2/\ZS G1 G2,fun σ2 H2 ⟨ρ2,G2,F2,q⟩=>⟨as.length-(i+1),by omega,rfl,by omega,ρ2,G2,F2,q⟩,λx H'' hy=>?_⟩
  obtain ⟨G3,g3,hx⟩:=W.yld i H' x H'' G' (enc as[i]) s' r'.g.gh (by rw[getElem?_map,List.getElem?_eq_getElem hi'];rfl) hy
  have r3:=r'.grow g3
  have s3:ZS G1 G3:=s'.trans g3.gg
  refine hs i hi' ρ' hI E G0 H0 G3 H'' σ' F' x _ r3 hx fun σ4 ρ4 G4 H4 F4 hP s4 r4=>?_
  have s14:=s3.trans s4
  refine hP E G0 H0 G4 H4 σ4 F4 _ r4 ⟨λhI2 s5 r5=>⟨_,_,_,hI2,r5,s14.trans s5⟩,λhR s5 r5 sl n=>dn.rt hR (g1.gg.trans (s14.trans s5)) r5 sl n,λhR s5 r5=>dn.nx hR (g1.gg.trans (s14.trans s5)) r5,λhI2 s5 r5=>⟨_,_,_,hI2,r5,s14.trans s5⟩⟩
theorem JZ {c:TT}{tb:TS}{R:Pn}(Iv:Nat->List PV->Prop)(m0:Nat)(h0:Iv m0 ρ)
  (hs:∀ m ρ',Iv m ρ' -> ∃ b,Et K B c ρ' b/\(b=true->Sv K B tb ρ' { nx:=fun ρ2=>∃ m',m'<m/\Iv m' ρ2,ct:=fun ρ2=>∃ m',m'<m/\Iv m' ρ2,bk:=R.nx,rt:=R.rt })/\(b=false->R.nx ρ')):Sv K B (zfp c tb) ρ R:=λE G0 H0 G H σ F D r dn=>by
 refine ⟨λm σ' H' => ∃ ρ' G' F',Iv m ρ' /\ Rl K B E G0 H0 G' H' σ' ρ' F' /\ ZS G G',⟨m0,ρ,G,F,h0,r,ZS.refl _⟩,?_⟩
 rintro m σ' H' ⟨ρ',G',F',hI,r',s'⟩
 obtain ⟨b,hb,ht,hf⟩:=hs m ρ' hI
 obtain ⟨s1,s2,x⟩:=r'.gpl
 refine hb _ σ' x _ H' (ZS.refl _) s2 _ λG2 H2 g=>?_
 have r2:=r'.grow (Vi r'.g.gh g.hh)
 cases b with
 | false=>
  rw[if_neg Bool.false_ne_true]
  exact dn.nx (hf rfl) s' r2
 | true=>
  rw[if_pos rfl]
  refine ⟨fun σ3 H3=>∃ m',m'<m/\∃ ρ3 G3 F3,Iv m' ρ3/\Rl K B E G0 H0 G3 H3 σ3 ρ3 F3/\ZS G G3,fun σ3 H3 q=>q,?_⟩
  refine ht rfl E G0 H0 G' H2 σ' F' _ r2 ⟨λ⟨m',hm,hI2⟩ s5 r5=>⟨m',hm,_,_,_,hI2,r5,s'.trans s5⟩,λhR s5 r5 sl n=>dn.rt hR (s'.trans s5) r5 sl n,λhR s5 r5=>dn.nx hR (s'.trans s5) r5,λ⟨m',hm,hI2⟩ s5 r5=>⟨m',hm,_,_,_,hI2,r5,s'.trans s5⟩⟩
noncomputable def PV.put:PV->List PyData->PV
 | .own _,ds=>.own ds
 | .lnt p _,ds=>.lnt p ds
 | v,_=>v
theorem Rl.put {i:Nat}{u:PV}{p:Addr}{xs:List V}(R:Rl K B E G0 H0 G H σ ρ F)(hi:ρ[i]?=some u)(hu:u.rd=some ds)(hx:σ[i]?=some (some (.ref p)))(hd:Yr K G xs es):Rl K B E G0 H0 G (upd H p (.lst xs)) σ (ρ.set i (u.put es)) F:=by
 obtain ⟨p',xs',e,hx',hp,_⟩:=(R.sl i _ hi).rd hu
 rw[hx] at hx'
 cases hx'
 have hpi:p∈F i:=by rw[e];simp
 obtain ⟨gp,_,hE⟩:=R.fr i p hpi
 have hlt:i<ρ.length:=(List.getElem?_eq_some_iff.mp hi).1
 refine ⟨⟨R.g.gg,zd9 R.g.gh gp,λb o n h=>?_,λb h=>?_,R.g.fr⟩,R.bb,by rw[length_set];exact R.ls,λj v h=>?_,λj a ha=>?_,R.dj,λj ds' a h ha=>?_⟩
 ·have:b≠p:=λz=>by
   subst z
   rcases hE with hE | hE
   ·exact n hE
   ·rw[hE] at h;cases h
  rw[ZC this];exact R.g.kp b o n h
 ·by_cases z:b=p
  ·subst z;rw[Zz] at h;cases h
  ·rw[ZC z] at h;exact R.g.al b h
 ·by_cases z:j=i
  ·subst z
   rw[getElem?_set_self hlt] at h
   cases h
   cases u with
   | own es' => exact ⟨p,xs,e,hx,Zz,hd⟩
   | lnt q es' =>
    obtain ⟨_,e2,hx2,_⟩:=R.sl j _ hi
    rw[hx] at hx2;cases hx2
    exact ⟨xs,e,hx,Zz,hd⟩
   | _=>cases hu
  ·rw[getElem?_set_ne (Ne.symm z)] at h
   refine (R.sl j v h).grow (ZS.refl _) λa ha=>ZC λq=>?_
   subst q
   exact z (R.dj j i a ha hpi)
 ·obtain ⟨h1,⟨o,h2⟩,h3⟩:=R.fr j a ha
  refine ⟨h1,?_,h3⟩
  by_cases z:a=p
  ·subst z;exact ⟨_,Zz⟩
  ·exact ⟨o,by rw[ZC z];exact h2⟩
 ·by_cases z:j=i
  ·subst z
   rw[getElem?_set_self hlt] at h
   cases u with
   | own es' => exact R.ow j es' a hi ha
   | lnt q es' => cases h
   | _=>cases hu
  ·rw[getElem?_set_ne (Ne.symm z)] at h
   exact R.ow j ds' a h ha
theorem J8 {i:Nat}{R:Pn}(h:Eg K B te ρ λr ρ' => ∃ (d:PyData)(u:PV)(ds:List PyData),r = .dat d/\ρ'[i]?=some u/\u.rd=some ds/\ds.length<sizeLine/\R.nx (ρ'.set i (u.put (ds++[d])))){u0:PV}{ds0:List PyData}(hi:ρ[i]?=some u0)(hu:u0.rd=some ds0):Sv K B (zgV (tBM K "list" zds (WL i) (Xc te QT))) ρ R:=λE G0 H0 G H σ F D r dn=>by
 obtain ⟨p,xs,e,hx,hp,hd⟩:=(r.sl i _ hi).rd hu
 refine ⟨_,hx,.inl ⟨rfl,xs,SqL.of hp⟩,?_⟩
 refine h E G0 H0 G H σ F r _ λv w ρ' G' H' F' L hR s r' sl n=>?_
 obtain ⟨d,u,ds,rfl,hi',hu',hl,hR⟩:=hR
 obtain ⟨p',xs',e',hx',hp',hd'⟩:=(r'.sl i _ hi').rd hu'
 rw[hx] at hx';cases hx'
 obtain ⟨_,x,hxv,hxd⟩:=sl
 cases hxv
 refine ⟨p,xs',v,rfl,rfl,hp',by rw[hd'.length];exact hl,?_⟩
 exact dn.nx hR s (r'.put hi' hu' hx (Qc hd' hxd))
theorem ziz {i:Nat}{R:Pn}(h:Eg K B te ρ λr ρ' => ∃ (zs:List PyData)(u:PV)(ds:List PyData),r = .own zs/\ρ'[i]?=some u/\u.rd=some ds/\ds.length+zs.length<=sizeLine/\R.nx (ρ'.set i (u.put (ds++zs)))){u0:PV}{ds0:List PyData}(hi:ρ[i]?=some u0)(hu:u0.rd=some ds0):Sv K B (zgV (tBM K "list" zcy (WL i) (Xc te QT))) ρ R:=λE G0 H0 G H σ F D r dn=>by
 obtain ⟨p,xs,e,hx,hp,hd⟩:=(r.sl i _ hi).rd hu
 refine ⟨_,hx,.inl ⟨rfl,xs,SqL.of hp⟩,?_⟩
 refine h E G0 H0 G H σ F r _ λv w ρ' G' H' F' L hR s r' sl n=>?_
 obtain ⟨zs,u,ds,rfl,hi',hu',hl,hR⟩:=hR
 obtain ⟨p',xs',e',hx',hp',hd'⟩:=(r'.sl i _ hi').rd hu'
 rw[hx] at hx';cases hx'
 obtain ⟨q,ys,eq,hv,hq,hyd⟩:=sl
 cases hv
 refine ⟨p,q,xs',ys,rfl,rfl,hp',hq,by rw[hd'.length,hyd.length];exact hl,?_⟩
 exact dn.nx hR s (r'.put hi' hu' hx (Xz hd' hyd))
theorem zgu {i:Nat}{ti:TE}{R:Pn}(h:Eg K B te ρ λr ρ' => ∃ (d:PyData)(u:PV)(ds:List PyData)(j:Int)(n:Nat),r = .dat d/\ρ'[i]?=some u/\u.rd=some ds/\Er K B ti ρ' (.int j)/\ixN ds.length j=some n/\R.nx (ρ'.set i (u.put (ds.set n d)))):Sv K B (ziP te (zkq (WL i) ti zin)) ρ R:=λE G0 H0 G H σ F D r dn=>by
 refine h E G0 H0 G H σ F r _ λv w ρ' G' H' F' L hR s r' sl n=>?_
 obtain ⟨d,u,ds,j,n,rfl,hi',hu',he,hn,hR⟩:=hR
 obtain ⟨p',xs',e',hx',hp',hd'⟩:=(r'.sl i _ hi').rd hu'
 obtain ⟨_,x,hxv,hxd⟩:=sl
 cases hxv
 obtain ⟨s1,s2,x⟩:=r'.gpl
 refine ⟨_,hx',he _ σ x _ H' (ZS.refl _) s2 _ λiv G2 H2 g2 hiv=>?_⟩
 have r2:=r'.grow (Vi r'.g.gh g2.hh)
 refine ⟨p',xs',j,n,rfl,hiv.int,g2.hh _ _ hp',by rw[hd'.length];exact hn,?_⟩
 exact dn.nx hR s (r2.put hi' hu' hx' (zbJ n hd' hxd))
noncomputable def Wc (N:List Str) (vs:List PV):List PV:=vs++List.replicate (N.length-vs.length) .un
theorem zgv {vs:List V}{N:List Str}(sb:ZS B G)(s:ZS G H)(hv:Yr K G vs ds):Rl K B (λ_=>False) G H G H (start N vs) (Wc N (ds.map .dat)) (λ_=>[]):=by
 refine ⟨Gw.refl s,sb,?_,λi v h=>?_,λ_ _ h=>(by cases h),λ_ _ _ h _=>(by cases h),λ_ _ _ _ h=>(by cases h)⟩
 ·unfold start Wc
  rw[length_append,length_append,length_map,length_map,length_replicate,length_replicate,hv.length]
 ·unfold Wc at h
  unfold start
  by_cases hi:i<ds.length
  ·rw[getElem?_append_left (by rw[length_map];exact hi),getElem?_map,List.getElem?_eq_getElem hi] at h
   cases h
   obtain ⟨x,hx,hxd⟩:=hv.get (List.getElem?_eq_getElem hi)
   exact ⟨rfl,x,by rw[getElem?_append_left (by rw[length_map,hv.length];exact hi),getElem?_map,hx];rfl,hxd⟩
  ·rw[getElem?_append_right (by rw[length_map];omega)] at h
   have:=mem_of_getElem? h
   rw[(mem_replicate.mp this).2]
   rfl
variable {P:Program}{w:World}{mg:Str->Option Value}{base:Heap}
def zkA (K:PySem.W.Frag)(B:Hp)(R:List PyData->PyData->Prop):Sp:=λvs H Q _=>∃ (G:Hp) (ds:List PyData) (d:PyData),ZS B G/\ZS G H/\Yr K G vs ds/\R ds d/\∀ v G' H',Xq G H G' H' -> Dat K G' v d->Q v H'
theorem Fun.zkI {x qual:Str}{st:Stmt}{f:Addr}{fd:FuncData}{N ps:List Str}{k:Nat}{R:List PyData->PyData->Prop}(Fn:Fun K x qual st f fd)(S:Ys N ps (Zn st))(len:∀ ds d,R ds d->ds.length=ps.length)
  (hb:∀ (cdv:Value) (A:Around) (outer:List Env) (s:Shared) (H:Hp) (E:XK),Vu k (A.deeper (envOfC qual (Zn st) s.heap.objs.size f cdv))->∀ ds d,R ds d->
   ∃ t,PSs (zdX CX0 P w K mg base N qual (Zn st) f cdv A outer s H E).nox (YT st) t/\Sv K B t (Wc N (ds.map .dat)) { nx:=λ_=>d = .none,rt:=λr _=>r = .dat d }):Ql P w K mg base CX0 (k+1) f fd ps (zkA K B R):=by
 refine Fn.ok S (λvs H Q E h=>?_) λcdv A outer s H vs Q E hr h=>?_
 ·obtain ⟨G,ds,d,_,_,hv,hR,_⟩:=h
  rw[hv.length];exact len ds d hR
 ·obtain ⟨G,ds,d,sb,sg,hv,hR,kk⟩:=h
  obtain ⟨t,ht,hs⟩:=hb cdv A outer s H E hr ds d hR
  refine ⟨t,ht,hs _ _ _ _ _ _ _ _ (zgv sb sg hv) ⟨λe _ r=>?_,λe _ r sl n=>?_,λe=>e.elim,λe=>e.elim⟩⟩
  ·have e:d = .none:=e
   subst e
   exact kk _ _ _ r.g.zfj Qg
  ·subst e
   obtain ⟨_,y,hy,hd⟩:=sl
   cases hy
   exact kk _ _ _ r.g.zfj hd
abbrev B0:Hp:=λ_=>none
theorem b0:ZS B0 G:=λ_ _ h=>by cases h
theorem Fun.okP {x qual:Str}{st:Stmt}{f:Addr}{fd:FuncData}{N ps:List Str}{k:Nat}{R:List PyData->PyData->Prop}(Fn:Fun K x qual st f fd)(S:Ys N ps (Zn st))(len:∀ ds d,R ds d->ds.length=ps.length)
  (hb:∀ (cdv:Value) (A:Around) (outer:List Env) (s:Shared) (H:Hp) (E:XK),Vu k (A.deeper (envOfC qual (Zn st) s.heap.objs.size f cdv))->∀ ds d,R ds d->
   ∃ t,PSs (zdX CX0 P w K mg base N qual (Zn st) f cdv A outer s H E).nox (YT st) t/\Sv K B0 t (Wc N (ds.map .dat)) { nx:=λ_=>d = .none,rt:=λr _=>r = .dat d }):Ql P w K mg base CX0 (k+1) f fd ps (spP K R):=
 (Fn.zkI S len hb).imp λvs H Q E ⟨G,ds,d,sg,hv,hR,kk⟩=>⟨G,ds,d,b0,sg,hv,hR,kk⟩
def spL (K:PySem.W.Frag)(Pre:List PyData->List PyData->Prop)(R:List PyData->List PyData->PyData->List PyData->Prop):Sp:=λvs H Q _=>∃ (p:Addr) (us:List V) (G:Hp) (xs:List V) (es ds:List PyData),vs = .ref p::us/\ZS G H/\G p=none/\H p=some (.lst xs)/\Yr K G xs es/\Yr K G us ds/\Pre es ds/\
 ∀ v x es' xs' G' H',R es ds x es' -> Gw (· = p) G H G' H' -> G' p=none->H' p=some (.lst xs')->Yr K G' xs' es' -> Dat K G' v x->Q v H'
theorem zg9 {p:Addr}{us xs:List V}{N:List Str}(sb:ZS B G)(s:ZS G H)(gp:G p=none)(hp:H p=some (.lst xs))(hx:Yr K G xs es)(hv:Yr K G us ds):Rl K B (· = p) G H G H (start N (.ref p::us)) (Wc N (.lnt p es::ds.map .dat)) (λk=>if k=0 then [p] else []):=by
 refine ⟨Gw.refl s,sb,?_,λi v h=>?_,λi a ha=>?_,λi j a ha hb=>?_,λi ds' a h ha=>?_⟩
 ·unfold start Wc
  rw[length_append,length_append,length_map,length_cons,length_cons,length_map,length_replicate,length_replicate,hv.length]
 ·cases i with
  | zero=>
   have h:some (PV.lnt p es)=some v:=h
   cases h
   exact ⟨xs,rfl,rfl,hp,hx⟩
  | succ i=>
   rw[if_neg (by omega)]
   have h:(ds.map PV.dat++List.replicate (N.length-(ds.map PV.dat).length.succ) PV.un)[i]?=some v:=h
   show Sl K G H ((us.map some++List.replicate (N.length-us.length.succ) none)[i]?) v []
   by_cases hi:i<ds.length
   ·rw[getElem?_append_left (by rw[length_map];exact hi),getElem?_map,List.getElem?_eq_getElem hi] at h
    cases h
    obtain ⟨x,hx,hxd⟩:=hv.get (List.getElem?_eq_getElem hi)
    exact ⟨rfl,x,by rw[getElem?_append_left (by rw[length_map,hv.length];exact hi),getElem?_map,hx];rfl,hxd⟩
   ·rw[getElem?_append_right (by rw[length_map];omega)] at h
    have:=mem_of_getElem? h
    rw[(mem_replicate.mp this).2]
    rfl
 ·split at ha
  ·rw[mem_singleton.mp ha];exact ⟨gp,⟨_,hp⟩,.inl rfl⟩
  ·cases ha
 ·split at ha
  ·split at hb
   ·omega
   ·cases hb
  ·cases ha
 ·split at ha
  ·rename_i z
   subst z
   have h:some (PV.lnt p es)=some (.own ds'):=h
   cases h
  ·cases ha
theorem Fun.okL {x qual:Str}{st:Stmt}{f:Addr}{fd:FuncData}{N ps:List Str}{k:Nat}{Pre:List PyData->List PyData->Prop}{R:List PyData->List PyData->PyData->List PyData->Prop}(Fn:Fun K x qual st f fd)(S:Ys N ps (Zn st))(len:∀ es ds,Pre es ds->ds.length+1=ps.length)
  (hb:∀ (cdv:Value) (A:Around) (outer:List Env) (s:Shared) (H:Hp) (E:XK),Vu k (A.deeper (envOfC qual (Zn st) s.heap.objs.size f cdv))->∀ p es ds,Pre es ds->
   ∃ t,PSs (zdX CX0 P w K mg base N qual (Zn st) f cdv A outer s H E).nox (YT st) t/\Sv K B0 t (Wc N (.lnt p es::ds.map .dat)) { nx:=fun ρ' => ∃ es',R es ds .none es' /\ ρ'[0]?=some (.lnt p es'),rt:=λr ρ' => ∃ d es',r = .dat d/\R es ds d es' /\ ρ'[0]?=some (.lnt p es') }):Ql P w K mg base CX0 (k+1) f fd ps (spL K Pre R):=by
 refine Fn.ok S (λvs H Q E h=>?_) λcdv A outer s H vs Q E hr h=>?_
 ·obtain ⟨p,us,G,xs,es,ds,rfl,_,_,_,_,hv,hP,_⟩:=h
  rw[length_cons,hv.length];exact len es ds hP
 ·obtain ⟨p,us,G,xs,es,ds,rfl,sg,gp,hp,hx,hv,hP,kk⟩:=h
  obtain ⟨t,ht,hs⟩:=hb cdv A outer s H E hr p es ds hP
  refine ⟨t,ht,hs _ _ _ _ _ _ _ _ (zg9 b0 sg gp hp hx hv) ⟨λe _ r=>?_,λe _ r sl n=>?_,λe=>e.elim,λe=>e.elim⟩⟩
  ·obtain ⟨es',hR,h0⟩:=e
   obtain ⟨xs',e,hx',hp',hd'⟩:=r.sl 0 _ h0
   exact kk _ _ es' xs' _ _ hR r.g (r.fr 0 p (by rw[e];simp)).1 hp' hd' Qg
  ·obtain ⟨d,es',rfl,hR,h0⟩:=e
   obtain ⟨xs',e,hx',hp',hd'⟩:=r.sl 0 _ h0
   obtain ⟨_,y,hy,hd⟩:=sl
   cases hy
   exact kk _ _ es' xs' _ _ hR r.g (r.fr 0 p (by rw[e];simp)).1 hp' hd' hd
def EgA (K:PySem.W.Frag)(B:Hp)(t:TA)(ρ:List PV)(R:List PyData->List PV->Prop):Prop:=∀ E G0 H0 G H σ F,Rl K B E G0 H0 G H σ ρ F->∀ Q:List V->Hp->Prop,
 (∀ vs ds ρ' G' H' F',R ds ρ' -> ZS G G' -> Rl K B E G0 H0 G' H' σ ρ' F' -> Yr K G' vs ds->Q vs H')->t σ H Q
theorem Wh {t:TA}{R:List PyData->List PV->Prop}(h:Ea K B t (msk ρ) ds)(k:R ds ρ):EgA K B t ρ R:=λE G0 H0 G H σ F r Q q=>h G σ r.rx G H (ZS.refl _) r.g.gh Q λvs G' H' g hv=>q vs ds ρ G' H' F k g.gg (r.grow g) hv
theorem WN {t:TA}{R:List PyData->List PV->Prop}(h:Eg K B te ρ λr ρ1=>∃ d,r = .dat d/\EgA K B t ρ1 λds ρ2=>R (d::ds) ρ2):EgA K B (Xc te t) ρ R:=λE G0 H0 G H σ F r Q q=>
 h E G0 H0 G H σ F r _ λv w ρ1 G1 H1 F1 L hw s1 r1 sl n=>by
  obtain ⟨d,rfl,h2⟩:=hw
  obtain ⟨_,y,hy,hd⟩:=sl
  cases hy
  exact h2 E G0 H0 G1 H1 σ F1 r1 _ λvs ds ρ2 G2 H2 F2 hR s2 r2 hv=>q _ _ ρ2 G2 H2 F2 hR (s1.trans s2) r2 (Ye (hd.same s2) hv)
theorem zca {r:R2}{R:PV->List PV->Prop}(h:Eg K B ta ρ λx ρ1=>∃ a,x = .dat a/\Eg K B tb ρ1 λy ρ2=>∃ b c,y = .dat b/\(∀ G σ va vb,Dat K G va a->Dat K G vb b->Ev K (tOp r (tC va) (tC vb)) σ G c)/\R (.dat c) ρ2):Eg K B (tOp r ta tb) ρ R:=λE G0 H0 G H σ F r Q q=>
 h E G0 H0 G H σ F r _ λv w ρ1 G1 H1 F1 L hw s1 r1 sl n=>by
  obtain ⟨a,rfl,h2⟩:=hw
  obtain ⟨_,y,hy,hd⟩:=sl
  cases hy
  refine h2 E G0 H0 G1 H1 σ F1 r1 _ λv2 w2 ρ2 G2 H2 F2 L2 hw2 s2 r2 sl2 n2=>?_
  obtain ⟨b,c,rfl,hop,hR⟩:=hw2
  obtain ⟨_,y2,hy2,hd2⟩:=sl2
  cases hy2
  exact hop G2 σ v v2 (hd.same s2) hd2 G2 H2 (ZS.refl _) r2.g.gh Q λv3 G3 H3 g3 hv3=>q v3 _ ρ2 G3 H3 F2 [] hR ((s1.trans s2).trans g3.gg) (r2.grow g3) ⟨rfl,v3,rfl,hv3⟩ JT
end
open PySem PySem.Spec PyProof.Rows
noncomputable def VN {α:Type}(xs:List α) (lo hi st:Option Int):List α:=
 (sliceRange (sliceBounds lo hi st xs.length).1 (sliceBounds lo hi st xs.length).2.1 (sliceBounds lo hi st xs.length).2.2).filterMap (xs[·]?)
theorem Vv {xs:List V}{us:List Value}(r:Vals xs us):∀ is:List Nat,Vals (is.filterMap (xs[·]?)) (is.filterMap (us[·]?))
 | []=>.nil
 | i::is=>by
  rw[filterMap_cons,filterMap_cons]
  cases h:xs[i]? with
  | none=>rw[r.none_of h];exact Vv r is
  | some x=>
   obtain ⟨u,hu,ru⟩:=r.get h
   rw[hu];exact .cons ru (Vv r is)
section
variable {X:Cx}{e st:Expr}{lo hi:Option Expr}{te:TE}{tl th ts:TO}{p2 pos:Pos}
def zkh (K:PySem.W.Frag)(te:TE)(tl th ts:TO):TE:=fun σ H Q=>te σ H λx H1=>tl σ H1 λl H2=>th σ H2 λu H3=>ts σ H3 λc H4=>∃ a xs,x = .ref a/\SqL K H4 a xs/\c≠some 0/\(VN xs l u c).length<=sizeLine/\∀ p,H4 p=none->Q (.ref p) (upd H4 p (.lst (VN xs l u c)))
theorem zc9 (he:PE X e te)(hl:PO X lo tl)(hu:PO X hi th)(hst:PO X (some st) ts):PE X (.Subscript e (.Slice lo hi (some st) p2) pos) (zkh X.K te tl th ts):=by
 intro pins s σ H Q I h
 refine Subscript_ (thn (he pins s σ H _ I h) λv s1 ⟨x,H1,I1,r1,q1⟩=>?_)
 refine wpAny_Slice (thn (hl pins s1 σ H1 _ I1 q1) λvl s2 ⟨l,H2,I2,pl,q2⟩=>thn (hu pins s2 σ H2 _ I2 q2) λvu s3 ⟨u,H3,I3,pu,q3⟩=>thn (hst pins s3 σ H3 _ I3 q3) λvs s4 ⟨c,H4,I4,ps,q4⟩=>?_)
 obtain ⟨a,xs,rfl,hx,hc,hz',q⟩:=q4
 cases r1
 have I5:Inv X pins σ H4 { s4 with heap:=s4.heap.push { cls:=.type "slice",data:=.fields #[vl,vu,vs] } }:=I4.kept (t' := s4.toks) λb ob q=>get?_push_of_some _ q
 obtain ⟨its,r,ht,hz⟩:=I5.list hx
 have hlen:=r.length
 refine tail_any (ops:=[.ref a,.ref s4.heap.objs.size]) (T:= "list") ht.isList.typeIs slot_list_getitem.lookup ?_ (by with_unfolding_all rfl)
 refine wpAny_getItem_list_slice ht.isList (IsSliceOf.new ..) pl pu ps hc ?_ (by rw[size_toArray] <;> omega)
 have e1:slicePick its.toArray l u c=(VN its l u c).toArray:=by
  unfold slicePick VN
  simp only[size_toArray,List.getElem?_toArray]
 rw[e1]
 have rv:Vals (VN xs l u c) (VN its l u c):=by
  unfold VN;rw[hlen];exact Vv r _
 refine ⟨.ref _,_,I5.laid (t' := s4.toks) (o:=.lst (VN xs l u c)) (λb ob q=>get?_push_of_some _ q) (Nat.le_refl _) ⟨hz',_,0,rv,get?_push_size _ rfl⟩,rfl,q _ ?_⟩
 exact I5.hok.fresh (Nat.le_refl _)
end
theorem zcf (n:Nat):Builtin.Slice.sliceAdjust none none (-1) (n:Int)=((n:Int)-1,-1):=by
 unfold Builtin.Slice.sliceAdjust
 simp
theorem zcg (n:Nat):Builtin.Slice.slicePlaces ((n:Int)-1) (-1) (-1)=n:=by
 unfold Builtin.Slice.slicePlaces
 simp <;> omega
theorem zdK (xs:Array Value):((List.range xs.size).filterMap λ(m:Nat)=>xs[(((xs.size:Int)-1)+(m:Int)*(-1)).toNat]?).toArray=xs.toList.reverse.toArray:=by
 congr 1
 refine ext_getElem? λi=>?_
 have e:∀ m∈List.range xs.size,xs[(((xs.size:Int)-1)+(m:Int)*(-1)).toNat]?=some ((xs.toList.reverse)[m]?.getD .none):=λm hm=>by
  have hm' := mem_range.mp hm
  have q:(((xs.size:Int)-1)+(m:Int)*(-1)).toNat=xs.size-1-m:=by omega
  rw[q,List.getElem?_reverse (by rw[length_toList];exact hm'),length_toList,getElem?_toList,Array.getElem?_eq_getElem (by omega)]
  rfl
 have e2:((List.range xs.size).filterMap λ(m:Nat)=>xs[(((xs.size:Int)-1)+(m:Int)*(-1)).toNat]?)=(List.range xs.size).map λm=>(xs.toList.reverse)[m]?.getD .none:=by
  generalize List.range xs.size=L at e
  induction L with
  | nil=>rfl
  | cons m r ih=>rw[filterMap_cons,e m mem_cons_self,map_cons,ih λk hk=>e k (mem_cons_of_mem _ hk)]
 rw[e2,getElem?_map]
 by_cases hi:i<xs.size
 ·rw[getElem?_range hi]
  have:i<xs.toList.reverse.length:=by simpa using hi
  rw[map_some,List.getElem?_eq_getElem this];rfl
 ·rw[List.getElem?_eq_none (by simpa using hi),List.getElem?_eq_none (by simpa using hi)];rfl
section
variable {prog:Program}{w:World}{A:Around}{E:Value->Shared->Prop}{s:Shared}
theorem QS {sl:Addr}{t:Tok}{n:Nat}{Q:Int×Int×Nat->Shared->Prop}(hs:s.heap.IsSliceOf sl .none .none (.int (-1) t))
  (h:Q ((n:Int)-1,-1,n) s):wpAny (model prog w) A (Builtin.Slice.sliceApplied (.ref sl) (pure (n:Int))) Q E s:=by
 obtain ⟨os,hos,hcs,hds⟩:=id hs
 unfold Builtin.Slice.sliceApplied Builtin.Slice.sliceFields
 refine wpAny_bind (wpAny_bind (wpAny_field hos hds (x:=.none) rfl (wpAny_bind (wpAny_field hos hds (x:=.none) rfl (wpAny_bind (wpAny_field hos hds (x:=.int (-1) t) rfl (wpAny_pure ?_)))))))
 refine wpAny_bind (slicePart_int ?_)
 show wpAny _ _ (if ((-1:Int)==0)=true then _ else _) _ _ s
 rw[if_neg (by decide)]
 refine wpAny_bind (slicePart_none (wpAny_bind (slicePart_none (wpAny_bind (wpAny_pure ?_)))))
 show wpAny _ _ (match Builtin.Slice.sliceAdjust none none (-1) (n:Int) with | (lo,hi)=>pure (lo,(-1:Int),Builtin.Slice.slicePlaces lo hi (-1))) _ _ s
 rw[zcf]
 show wpAny _ _ (pure ((n:Int)-1,(-1:Int),Builtin.Slice.slicePlaces ((n:Int)-1) (-1) (-1))) _ _ s
 rw[zcg]
 exact wpAny_pure h
theorem VG {t sl:Addr}{items:Array Value}{tk:Tok}{Q:Value->Shared->Prop}(ht:IsTup s.heap t items)(hs:s.heap.IsSliceOf sl .none .none (.int (-1) tk))
  (h:Q (.ref s.heap.objs.size) { s with heap:=s.heap.push { cls:=.type "tuple",data:=.seq items.toList.reverse.toArray } })
  (hsz:items.size<=sizeLine):wpAny (model prog w) A (getItem (.ref t) (.ref sl)) Q E s:=by
 have htake:sizeOk (.seq items.toList.reverse.toArray):=by
  show items.toList.reverse.toArray.size<=sizeLine
  simpa using hsz
 obtain ⟨os,hos,hcs,hds⟩:=id hs
 have hTs:s.TypeIs (.ref sl) "slice" := ⟨os,hos,hcs⟩
 unfold getItem
 try with_reducible refine wpAny_holding ?_
 first | refine wpAny_bind (wpAny_pure ?_) | skip
 refine wpAny_bind (wpAny_sequenceKey ht.typeIs (by decide) ?_)
 refine wpAny_bind (wpAny_callSpecial?_slot (name:=Str.ofString "__getitem__") ht.typeIs PyProof.Rows.slot_tuple_getitem
  (wpAny_call_entry PyProof.Rows.slot_tuple_getitem ht.typeIs entry_tuple_getitem ?_ (args_tuple_getitem _ _)))
 show wpAny _ _ (Builtin.Tuple.tupleItemsOf (.ref t) >>= _) _ _ s
 refine wpAny_bind (tupleItemsOf_ ht ?_)
 refine wpAny_bind (wpAny_typeOf hTs ?_)
 rw[if_pos (by decide)]
 refine wpAny_bind (QS hs ?_)
 have hno:¬ ((((items.size:Int)-1)==0&&(-1:Int)==1&&items.size==items.size)=true):=by
  intro q
  rw[and_eq_true,and_eq_true] at q
  exact absurd q.1.2 (by decide)
 show wpAny _ _ (if (((items.size:Int)-1)==0&&(-1:Int)==1&&items.size==items.size)=true then _ else _) _ _ s
 rw[if_neg hno,zdK]
 first
  | exact wpAny_bind (m:=Builtin.Tuple.tupleExact _) (wpAny_newObj_type (wpAny_pure ⟨_,rfl,wpAny_pure h⟩) htake)
  | exact wpAny_bind (m:=Builtin.Tuple.tupleExact _) (wpAny_newObj_type (wpAny_bind (wpAny_pure (wpAny_pure ⟨_,rfl,wpAny_pure h⟩))) htake)
  | exact wpAny_bind (wpAny_bind (m:=Builtin.Tuple.tupleExact _) (wpAny_newObj_type (wpAny_pure (wpAny_pure ⟨_,rfl,wpAny_pure h⟩)) htake))
  | exact wpAny_bind (wpAny_bind (m:=Builtin.Tuple.tupleExact _) (wpAny_newObj_type (wpAny_pure ⟨_,rfl,wpAny_pure h⟩) htake))
end
section
variable {X:Cx}{K:PySem.W.Frag}{e st:Expr}{te:TE}{ts:TO}{p2 pos:Pos}
def zgC (K:PySem.W.Frag)(te:TE)(ts:TO):TE:=fun σ H Q=>te σ H λx H1=>ts σ H1 λc H4=>c=some (-1)/\∃ a xs,x = .ref a/\SqT K H4 a xs/\∀ p,H4 p=none->Q (.ref p) (upd H4 p (.tup xs.reverse))
theorem zdP (ek:X.K=K)(he:PE X e te)(hst:PO X (some st) ts):PE X (.Subscript e (.Slice none none (some st) p2) pos) (zgC K te ts):=by
 subst ek
 intro pins s σ H Q I h
 refine Subscript_ (thn (he pins s σ H _ I h) λv s1 ⟨x,H1,I1,r1,q1⟩=>?_)
 refine wpAny_Slice ?_
 rw[evalPart_none]
 refine wpAny_pure (wpAny_pure ?_)
 refine thn (hst pins s1 σ H1 _ I1 q1) λvs s4 ⟨c,H4,I4,ps,q4⟩=>?_
 obtain ⟨rfl,a,xs,rfl,hx,q⟩:=q4
 cases r1
 cases ps with
 | int _ t=>
  have I5:Inv X pins σ H4 { s4 with heap:=s4.heap.push { cls:=.type "slice",data:=.fields #[.none,.none,.int (-1) t] } }:=I4.kept (t' := s4.toks) λb ob q=>get?_push_of_some _ q
  obtain ⟨its,r,ht,hz⟩:=I5.tuple hx
  have hlen:=r.length
  refine tail_any (ops:=[.ref a,.ref s4.heap.objs.size]) (T:= "tuple") ht.typeIs PyProof.Rows.slot_tuple_getitem.lookup ?_ (by with_unfolding_all rfl)
  refine VG ht (IsSliceOf.new ..) ?_ (by rw[size_toArray,← hlen];exact hz)
  refine ⟨.ref _,_,I5.laid (t' := s4.toks) (o:=.tup xs.reverse) (λb ob q=>get?_push_of_some _ q) (Nat.le_refl _) ⟨by rw[length_reverse];exact hz,its.reverse,r.reverse,?_⟩,rfl,q _ (I5.hok.fresh (Nat.le_refl _))⟩
  exact ⟨IsTup.new _ _,_,get?_push_size _ rfl,rfl⟩
end
end L2
namespace HT
open PySem PySem.Spec PyProof.Rows
section
variable {prog:Program}{w:World}{A:Around}{E:Value->Shared->Prop}{s:Shared}
theorem Qi {t sl:Addr}{items:Array Value}{vl vu:Value}{lo hi:Option Int}{Q:Value->Shared->Prop}(ht:IsTup s.heap t items)(hs:s.heap.IsSliceOf sl vl vu .none)(pl:IsPart vl lo)(pu:IsPart vu hi)
  (hw:sIx items.size 0 lo=0/\sIx items.size items.size hi=items.size) (h:Q (.ref t) s):wpAny (model prog w) A (getItem (.ref t) (.ref sl)) Q E s:=by
 obtain ⟨os,hos,hcs,hds⟩:=id hs
 have hTs:s.TypeIs (.ref sl) "slice" := ⟨os,hos,hcs⟩
 unfold getItem
 try with_reducible refine wpAny_holding ?_
 first | refine wpAny_bind (wpAny_pure ?_) | skip
 refine wpAny_bind (wpAny_sequenceKey ht.typeIs (by decide) ?_)
 refine wpAny_bind (wpAny_callSpecial?_slot (name:=Str.ofString "__getitem__") ht.typeIs PyProof.Rows.slot_tuple_getitem
  (wpAny_call_entry PyProof.Rows.slot_tuple_getitem ht.typeIs entry_tuple_getitem ?_ (args_tuple_getitem _ _)))
 show wpAny _ _ (Builtin.Tuple.tupleItemsOf (.ref t) >>= _) _ _ s
 refine wpAny_bind (tupleItemsOf_ ht ?_)
 refine wpAny_bind (wpAny_typeOf hTs ?_)
 rw[if_pos (by decide)]
 refine wpAny_bind (W5 hs pl pu ?_)
 have hyes:(((sIx items.size 0 lo:Nat):Int)==0&&(1:Int)==1&&(sIx items.size items.size hi-sIx items.size 0 lo)==items.size)=true:=by
  rw[hw.1,hw.2];simp
 show wpAny _ _ (if (((sIx items.size 0 lo:Nat):Int)==0&&(1:Int)==1&&(sIx items.size items.size hi-sIx items.size 0 lo)==items.size)=true then _ else _) _ _ s
 rw[if_pos hyes]
 refine wpAny_bind (m:=Builtin.Tuple.tupleIsExact (.ref t)) ?_
 unfold Builtin.Tuple.tupleIsExact
 refine wpAny_bind (wpAny_typeOf ht.typeIs (wpAny_pure ?_))
 rw[if_pos (by decide)]
 refine wpAny_bind (wpAny_rule ?_)
 first
  | exact wpAny_pure ⟨_,rfl,wpAny_pure h⟩
  | exact wpAny_bind (wpAny_pure (wpAny_pure ⟨_,rfl,wpAny_pure h⟩))
end
end HT
namespace L2
open PySem PySem.Spec PyProof.Rows
section
variable {X:Cx}{K:PySem.W.Frag}
def zcZ (K:PySem.W.Frag):V->Option Int->Option Int->Hp->VK->Prop:=λx lo hi H Q=>∃ a xs,x = .ref a/\SqT K H a xs/\
 ((HT.sIx xs.length 0 lo=0/\HT.sIx xs.length xs.length hi=xs.length)->Q (.ref a) H)/\(¬ (HT.sIx xs.length 0 lo=0/\HT.sIx xs.length xs.length hi=xs.length)->∀ p,H p=none->Q (.ref p) (upd H p (.tup (zco xs lo hi))))
theorem Yk (e:X.K=K):SlR X (zcZ K):=by
 subst e
 intro pins s σ H x v vl vu lo hi sl Q I rx hs pl pu h
 obtain ⟨a,xs,rfl,hx,q1,q2⟩:=h
 by_cases hw:HT.sIx xs.length 0 lo=0/\HT.sIx xs.length xs.length hi=xs.length
 ·cases rx
  obtain ⟨its,r,ht,hz⟩:=I.tuple hx
  have hlen:its.toArray.size=xs.length:=by rw[size_toArray];exact r.length.symm
  exact ⟨"tuple",_,PyProof.Rows.slot_tuple_getitem.lookup,ht.typeIs,HT.Qi ht hs pl pu (by rw[hlen];exact hw) ⟨.ref a,H,I,rfl,q1 hw⟩⟩
 ·exact zih pins s σ H _ v vl vu lo hi sl Q I rx hs pl pu ⟨a,xs,rfl,hx,hw,q2 hw⟩
theorem ziW {σ:St}{G:Hp}{te:TE}{tl th:TO}{ds:List PyData}{lo hi:Option Int}(h:Ev K te σ G (.tuple ds))(hl:∀ H (Q:Option Int->Hp->Prop),Q lo H->tl σ H Q)(hh:∀ H (Q:Option Int->Hp->Prop),Q hi H->th σ H Q):
  Ev K (tSl (zcZ K) te tl th) σ G (.tuple ((ds.drop (HT.sIx ds.length 0 lo)).take (HT.sIx ds.length ds.length hi-HT.sIx ds.length 0 lo))):=
 λG1 H s1 s2 Q k=>h G1 H s1 s2 _ λv G2 H2 g2 hv=>by
  obtain ⟨p,xs,rfl,hp,hxs⟩:=hv.tup
  have hlen:=hxs.length
  refine hl _ _ (hh _ _ ⟨p,xs,rfl,g2.gh.tup hp,λhw=>?_,λhw q hq=>?_⟩)
  ·refine k _ _ _ g2 ?_
   rw[hlen] at hw
   rw[hw.1,hw.2,drop_zero,Nat.sub_zero,List.take_of_length_le (Nat.le_refl _)]
   exact Xv hp hxs
  ·have g:=Yl (o:=.tup (zco xs lo hi)) g2.gh hq
   refine k _ _ _ (g2.trans g) (Xv (SqT.of Zz) ?_)
   have q:=J0 (HT.sIx ds.length ds.length hi-HT.sIx ds.length 0 lo) (JS (HT.sIx ds.length 0 lo) (hxs.same g.gg))
   rw[← hlen] at q ⊢
   exact q
theorem ziZ {σ:St}{G:Hp}{te:TE}{tl th:TO}{ds:List PyData}{lo hi:Option Int}(h:Ev K te σ G (.list ds))(hl:∀ H (Q:Option Int->Hp->Prop),Q lo H->tl σ H Q)(hh:∀ H (Q:Option Int->Hp->Prop),Q hi H->th σ H Q):
  Ev K (tSl (zhv K) te tl th) σ G (.list ((ds.drop (HT.sIx ds.length 0 lo)).take (HT.sIx ds.length ds.length hi-HT.sIx ds.length 0 lo))):=
 λG1 H s1 s2 Q k=>h G1 H s1 s2 _ λv G2 H2 g2 hv=>by
  obtain ⟨p,xs,rfl,hp,hxs⟩:=hv.lst
  have hlen:=hxs.length
  refine hl _ _ (hh _ _ ⟨p,xs,rfl,SqL.of (g2.gh _ _ hp),λq hq=>?_⟩)
  have g:=Yl (o:=.lst (zco xs lo hi)) g2.gh hq
  refine k _ _ _ (g2.trans g) (YZ Zz ?_)
  have q:=J0 (HT.sIx ds.length ds.length hi-HT.sIx ds.length 0 lo) (JS (HT.sIx ds.length 0 lo) (hxs.same g.gg))
  rw[← hlen] at q ⊢
  exact q
end
section
variable {X:Cx}{pins:List (Addr×Obj)}{σ:St}{H G:Hp}{s:Shared}
open Classical in
noncomputable def Xb (s:Shared) (d:PyData) (u:Value):Bool:=decide (∃ as,Reads s.heap u d as)
theorem zeW {a b:PyData}(ha:Pl 60 a)(hb:Pl 60 b):PyData.eqv a b=PySem.Spec.same a b:=(SeqAt.same_eq_eqv a b (ha.mix hb)).symm
theorem Wz (I:Inv X pins σ H s)(e:ZS G H)(hu:X.A.units+64<cLine){d:PyData}{v:Value}{as:List Addr}(rd:Reads s.heap v d as)(pd:Pl 60 d):∀ {ds:List PyData}{xs:List V}{its:List Value},Yr X.K G xs ds->Vals xs its->(∀ e∈ds,Pl 60 e)->
  (∀ y∈its,SeqAt.EqAt X.A.in1 s y v (Xb s d y))/\its.any (Xb s d)=ds.any λe=>PySem.Spec.same e d
 | [],_,its,h,r,_=>by
  rw[h.nil] at r
  cases r
  exact ⟨λy hy=>(by cases hy),rfl⟩
 | a::ds,_,its,h,r,hp=>by
  obtain ⟨y,ys,rfl,hd,hr⟩:=h.cons
  cases r with
  | @cons _ u _ us r1 r2=>
   obtain ⟨h1,h2⟩:=Wz I e hu rd pd hr r2 λx hx=>hp x (mem_cons_of_mem _ hx)
   obtain ⟨bs,ra⟩:=Dat.reads I e hd r1
   have pa:=hp a mem_cons_self
   have key:Xb s d u=PySem.Spec.same a d:=by
    unfold Xb
    by_cases h:a=d
    ·subst h;rw[same_self];exact @decide_eq_true _ (Classical.propDecidable _) ⟨_,ra⟩
    ·rw[Qq h]
     exact @decide_eq_false _ (Classical.propDecidable _) λ⟨cs,rc⟩=>h (SeqAt.Reads.unique a d u _ _ pa.lay ra rc)
   refine ⟨λz hz=>?_,by rw[any_cons,any_cons,key,h2]⟩
   rcases mem_cons.mp hz with rfl | hz
   ·rw[key,← zeW pa pd]
    exact SeqAt.eqAt_reads a d X.A.in1 s z v bs as ra rd pa.lay pd.lay (by
     have:=pa.dep
     show X.A.units+1+min a.depth d.depth<cLine
     omega)
   ·exact h1 z hz
def zj7 (K:PySem.W.Frag)(neg:Bool):R2:=λx y H Q=>∃ (G:Hp) (d:PyData) (ds:List PyData) (p:Addr) (xs:List V),ZS G H/\Dat K G x d/\y = .ref p/\H p=some (.lst xs)/\Yr K G xs ds/\Pl 60 d/\(∀ e∈ds,Pl 60 e)/\
 Q (.bl (if neg=true then !ds.any (λe=>PySem.Spec.same e d) else ds.any λe=>PySem.Spec.same e d)) H
theorem Vr {K:PySem.W.Frag}(eK:X.K=K)(hu:X.A.units+64<cLine):OpR X (compareOp .NotIn) (zj7 K true):=by
 subst eK
 intro pins s σ H x y v u Q I rx ry h
 obtain ⟨G,d,ds,p,xs,e,hd,rfl,hp,hx,pd,pds,q⟩:=h
 cases ry
 obtain ⟨its,r,pl,hz⟩:=I.list (SqL.of hp)
 obtain ⟨as,rd⟩:=Dat.reads I e hd rx
 obtain ⟨h1,h2⟩:=Wz I e hu rd pd hx r pds
 refine SeqAt.notIn_listAt (Xb s d) pl.isList (λw hw=>h1 w (by simpa using hw)) ⟨.bl _,H,I,rfl,?_⟩
 rw[show its.toArray.any (Xb s d)=its.any (Xb s d) by simp,h2]
 exact q
end
section
variable {K:PySem.W.Frag}{σ:St}{G:Hp}{ta tb:TE}
theorem zfQ {t:TA}{b:Bool}(h:EvA K t σ G [.bool b]):Ev K (tCB (λxs H Q=>(∃ i,xs=[.int i]/\Q (.int i) H)\/∃ k,xs=[.bl k]/\Q (.int (if k then 1 else 0)) H) t) σ G (.int (if b then 1 else 0)):=
 Uz h λG1 H xs Q s1 s2 hx k=>by
  obtain ⟨y,r,rfl,hy,hr⟩:=hx.cons
  cases hr.nil
  cases hy.bl
  exact .inr ⟨b,rfl,k _ G1 H (Xq.refl s2) (Zk _)⟩
theorem zfF {ts:TO}{ds:List PyData}(ha:Ev K ta σ G (.tuple ds))(hs:∀ H (Q:Option Int->Hp->Prop),Q (some (-1)) H->ts σ H Q):Ev K (zgC K ta ts) σ G (.tuple ds.reverse):=
 λG1 H s1 s2 Q k=>ha G1 H s1 s2 _ λv G2 H2 g2 hv=>by
  obtain ⟨p,xs,rfl,hp,hxs⟩:=hv.tup
  refine hs _ _ ⟨rfl,p,xs,rfl,g2.gh.tup hp,λq hq=>?_⟩
  have g:=Yl (o:=.tup xs.reverse) g2.gh hq
  exact k _ _ _ (g2.trans g) (Xv (SqT.of Zz) (Ug (hxs.same g.gg)))
end
def zdx (K:PySem.W.Frag):R2:=λx y H Q=>∃ a b xs ys,x = .ref a/\y = .ref b/\SqT K H a xs/\SqT K H b ys/\xs.length+ys.length<=sizeLine/\(xs=[]->Q (.ref b) H)/\(xs≠[]->ys=[]->Q (.ref a) H)/\(xs≠[]->ys≠[]->∀ p,H p=none->Q (.ref p) (upd H p (.tup (xs++ys))))
theorem ZP {X:Cx}{K:PySem.W.Frag}(e:X.K=K):OpR X (binaryOp .Add) (zdx K):=by
 subst e
 intro pins s σ H x y v u Q I rx ry h
 obtain ⟨a,b,xs,ys,ex,ey,ha,hb,hz,q0,q1,q2⟩:=h
 by_cases hx:xs=[]
 ·subst ex ey
  cases rx
  cases ry
  obtain ⟨its,r1,p1,_⟩:=I.tuple ha
  obtain ⟨its2,r2,p2,_⟩:=I.tuple hb
  have e0:its=[]:=r1.Vq.mpr hx
  obtain ⟨⟨cls,dd,data,sl⟩,ho,hc,n,hd⟩:=id p1
  obtain ⟨⟨cls2,dd2,data2,sl2⟩,ho2,hc2,n2,hd2⟩:=id p2
  simp only at hc hd hc2 hd2
  subst hc hd hc2 hd2
  exact concat_meets ⟨_,ho,rfl⟩ ⟨_,ho2,rfl⟩ noFill_tuple_add seq_tuple_add F.slot_tuple_add F.entry_tuple_add (F.args_tuple_add_2 _ _) (tuple_addW0 a b its.toArray its2.toArray n n2 dd dd2 sl sl2 (by simp[e0])) ⟨ho,ho2,.ref b,H,I,rfl,q0 hx⟩
 ·exact zfE pins s σ H x y v u Q I rx ry ⟨a,b,xs,ys,ex,ey,ha,hb,hx,hz,q1 hx,q2 hx⟩
theorem zaV {K:PySem.W.Frag}{σ:St}{G:Hp}{ta tb:TE}{ds es:List PyData}(ha:Ev K ta σ G (.tuple ds))(hb:Ev K tb σ G (.tuple es))(hz:ds.length+es.length<=sizeLine):Ev K (tOp (zdx K) ta tb) σ G (.tuple (ds++es)):=
 Qj ha hb λG1 H x y Q s1 s2 hx hy k=>by
  obtain ⟨p,us,rfl,hp,hus⟩:=hx.tup
  obtain ⟨q,vs,rfl,hq,hvs⟩:=hy.tup
  have l1:=hus.length
  have l2:=hvs.length
  refine ⟨p,q,us,vs,rfl,rfl,s2.tup hp,s2.tup hq,by omega,λz=>?_,λz z2=>?_,λz z2 l hl=>?_⟩
  ·subst z
   have:ds=[]:=by cases ds with | nil=>rfl | cons=>simp at l1
   subst this
   exact k _ G1 H (Xq.refl s2) (Xv hq hvs)
  ·subst z2
   have:es=[]:=by cases es with | nil=>rfl | cons=>simp at l2
   subst this
   rw[append_nil] at k
   exact k _ G1 H (Xq.refl s2) (Xv hp hus)
  ·have g:=Yl (o:=.tup (us++vs)) s2 hl
   exact k _ _ _ g (Xv (SqT.of Zz) ((Xz hus hvs).same g.gg))
structure Zap (z TI TO i1 i2:Addr)(f1 f2:List Addr):Prop where
 iz:TI≠z
 oz:TO≠z
 az:i1≠z
 bz:i2≠z
 io:TI≠TO
 ia:TI≠i1
 ib:TI≠i2
 oa:TO≠i1
 ob:TO≠i2
 ab:i1≠i2
 z1:z∉f1
 z2:z∉f2
 o1:TO∉f1
 o2:TO∉f2
 b1:i2∉f1
 a2:i1∉f2
section
variable {prog:Program}{w:World}{A:Around}{E:Value->Shared->Prop}{s:Shared}{z TI TO i1 i2:Addr}{f1 f2:List Addr}{n1 n2 k:Nat}{P1 P2:Nat->Value->Prop}{S1 S2:Nat->Heap->Prop}{a b:Value}
theorem Ws {c d:Addr}{f:List Addr}(h:d∉f)(hc:c∈f):c≠d:=λe=>h (e ▸ hc)
theorem zfI {Q:Value->Shared->Prop}(Z:Zap z TI TO i1 i2 f1 f2)(D1:Draws prog w A i1 f1 n1 P1 S1)(D2:Draws prog w A i2 f2 n2 P2 S2)(hz:IsZip s.heap z TI TO .none)(ht:IsPair s.heap TI (.ref i1) (.ref i2))(ho:IsPair s.heap TO a b)(t1:S1 k s.heap)(t2:S2 k s.heap)(k1:k<n1)(k2:k<n2)
  (q:∀ x y h' tk,P1 k x->P2 k y->IsZip h' z TI TO (rawInt s.heap.objs.size)->IsPair h' TO x y->S1 (k+1) h' -> S2 (k+1) h' -> IsPair h' s.heap.objs.size x y->
   (∀ c o,c≠z->c≠TO->c≠i1->c≠i2->s.heap.get? c=some o->h'.get? c=some o)->Q (.ref s.heap.objs.size) { s with heap:=h',toks:=tk }):
  wpAny (model prog w) A (Builtin.«zip.__next__» ⟨[.ref z],[]⟩) (λfin s' => ∃ v,fin = .done (.ret v)/\Q v s') E s:=by
 refine wpAny_bind (m:=field (.ref z) 2) (wpAny_field hz rfl (x:=.bool false) rfl (wpAny_bind (m:=field (.ref z) 3) (wpAny_field hz rfl (x:=.ref TI) rfl (wpAny_bind (wpAny_seqItems ht rfl ?_)))))
 refine wpAny_bind (m:=Builtin.SmallTypes.ownedTupleIsFree (.ref z)) ?_
 unfold Builtin.SmallTypes.ownedTupleIsFree;refine wpAny_bind (wpAny_field hz rfl (x:=.none) rfl (wpAny_pure ?_));rw[if_pos (by simp)]
 refine wpAny_bind (wpAny_rule (wpAny_bind (wpAny_field hz rfl (x:=.ref TO) rfl (wpAny_bind (wpAny_setField_rec hz (by simp) λg1 (z1:IsZip g1 z TI TO .ellipsis) e1=>wpAny_bind ?_)))))
 simp only[List.zipIdx_cons,List.forIn_cons,List.zipIdx_nil,forIn_nil]
 refine wpAny_bind (wpAny_bind (wpAny_onRaise (wpAny_bind (m:=Builtin.SmallTypes.nextOf (.ref i1)) ?_)))
 refine D1.item k _ _ _ k1 (D1.frame _ _ _ t1 λc hc o e=>e1.extBut _ _ (Ws Z.z1 hc) e) λx g2 tk2 px u1 e2=>wpAny_pure ?_
 dsimp only at e2 ⊢
 have o2:IsPair g2 TO a b:=e2.extBut _ _ Z.oa (e1.extBut _ _ Z.oz ho)
 refine wpAny_bind (wpAny_seqItems o2 rfl (wpAny_bind (wpAny_updateSeq_pair o2 λg3 (o3:IsPair g3 TO x b) e3=>wpAny_bind (wpAny_letGo (wpAny_pure ?_)))))
 refine wpAny_bind (wpAny_bind (wpAny_onRaise (wpAny_bind (m:=Builtin.SmallTypes.nextOf (.ref i2)) ?_)))
 refine D2.item k _ _ _ k2 (D2.frame _ _ _ t2 λc hc o e=>e3.extBut _ _ (Ws Z.o2 hc) (e2.extBut _ _ (Ws Z.a2 hc) (e1.extBut _ _ (Ws Z.z2 hc) e))) λy g4 tk4 py u2 e4=>wpAny_pure ?_
 dsimp only at e4 ⊢
 have o4:IsPair g4 TO x b:=e4.extBut _ _ Z.ob o3
 refine wpAny_bind (wpAny_seqItems o4 rfl (wpAny_bind (wpAny_updateSeq_pair o4 λg5 (o5:IsPair g5 TO x y) e5=>wpAny_bind (wpAny_letGo (wpAny_pure (wpAny_pure (wpAny_bind (wpAny_seqItems o5 rfl (wpAny_bind (wpAny_newTuple ?_))))))))))
 have z5:IsZip g5 z TI TO .ellipsis:=e5.extBut _ _ Z.oz.symm (e4.extBut _ _ Z.bz.symm (e3.extBut _ _ Z.oz.symm (e2.extBut _ _ Z.az.symm z1)))
 have sz:g5.objs.size=s.heap.objs.size:=by rw[e5.1,e4.1,e3.1,e2.1,e1.1]
 have kp:∀ c o,c≠z->c≠TO->c≠i1->c≠i2->s.heap.get? c=some o->g5.get? c=some o:=λc o c1 c2 c3 c4 e=>e5.extBut _ _ c2 (e4.extBut _ _ c4 (e3.extBut _ _ c2 (e2.extBut _ _ c3 (e1.extBut _ _ c1 e))))
 have u15:S1 (k+1) g5:=D1.frame _ _ _ u1 λc hc o e=>e5.extBut _ _ (Ws Z.o1 hc) (e4.extBut _ _ (Ws Z.b1 hc) (e3.extBut _ _ (Ws Z.o1 hc) e))
 have u25:S2 (k+1) g5:=D2.frame _ _ _ u2 λc hc o e=>e5.extBut _ _ (Ws Z.o2 hc) e
 have lz:=lt_size z5
 refine wpAny_bind (m:=Builtin.SmallTypes.ownedTupleHandOut (.ref z) (.ref g5.objs.size)) ?_
 unfold Builtin.SmallTypes.ownedTupleHandOut
 have z6:IsZip (g5.push { cls:=.type "tuple",data:=.seq #[x,y] }) z TI TO .ellipsis:=get?_push_of_some _ z5
 refine wpAny_bind (wpAny_setField_rec z6 (by simp) λg7 (z7:IsZip g7 z TI TO (rawInt g5.objs.size)) e7=>wpAny_setField_rec z7 (by simp) λg8 (z8:IsZip g8 z TI TO (rawInt g5.objs.size)) e8=>?_)
 have up:∀ c o,c≠z->g5.get? c=some o->g8.get? c=some o:=λc o c1 e=>e8.extBut _ _ c1 (e7.extBut _ _ c1 (get?_push_of_some _ e))
 have t8:IsPair g8 g5.objs.size x y:=e8.extBut _ _ (ne_of_gt lz) (e7.extBut _ _ (ne_of_gt lz) (get?_push_size _ rfl))
 refine wpAny_pure ⟨.ref g5.objs.size,rfl,?_⟩
 rw[sz] at z8 t8 ⊢
 exact q x y g8 _ px py z8 (up _ _ Z.oz o5) (D1.frame _ _ _ u15 λc hc o e=>up c o (Ws Z.z1 hc) e) (D2.frame _ _ _ u25 λc hc o e=>up c o (Ws Z.z2 hc) e) t8 λc o c1 c2 c3 c4 e=>up c o c1 (kp c o c1 c2 c3 c4 e)
theorem zhV {Q:Fin->Shared->Prop}(Z:Zap z TI TO i1 i2 f1 f2)(D1:Draws prog w A i1 f1 n1 P1 S1)(D2:Draws prog w A i2 f2 n2 P2 S2)(hz:IsZip s.heap z TI TO .none)(ht:IsPair s.heap TI (.ref i1) (.ref i2))(ho:IsPair s.heap TO a b)(t1:S1 k s.heap)(t2:S2 k s.heap)(hk:k=n1\/(k<n1/\k=n2))
  (q:∀ h' e tk,(∀ c o,c≠z->c≠TO->c≠i1->c≠i2->s.heap.get? c=some o->h'.get? c=some o)->(∃ o,h'.get? e=some o/\o.cls = .type "StopIteration")->E (.ref e) { s with heap:=h',toks:=tk }):
  wpAny (model prog w) A (Builtin.«zip.__next__» ⟨[.ref z],[]⟩) Q E s:=by
 refine wpAny_bind (m:=field (.ref z) 2) (wpAny_field hz rfl (x:=.bool false) rfl (wpAny_bind (m:=field (.ref z) 3) (wpAny_field hz rfl (x:=.ref TI) rfl (wpAny_bind (wpAny_seqItems ht rfl ?_)))))
 refine wpAny_bind (m:=Builtin.SmallTypes.ownedTupleIsFree (.ref z)) ?_
 unfold Builtin.SmallTypes.ownedTupleIsFree;refine wpAny_bind (wpAny_field hz rfl (x:=.none) rfl (wpAny_pure ?_));rw[if_pos (by simp)]
 refine wpAny_bind (wpAny_rule (wpAny_bind (wpAny_field hz rfl (x:=.ref TO) rfl (wpAny_bind (wpAny_setField_rec hz (by simp) λg1 (z1:IsZip g1 z TI TO .ellipsis) e1=>wpAny_bind ?_)))))
 simp only[List.zipIdx_cons,List.forIn_cons,List.zipIdx_nil,forIn_nil]
 refine wpAny_bind (wpAny_bind (wpAny_onRaise (wpAny_bind (m:=Builtin.SmallTypes.nextOf (.ref i1)) ?_)))
 have fr1:S1 k g1:=D1.frame _ _ _ t1 λc hc o e=>e1.extBut _ _ (Ws Z.z1 hc) e
 rcases hk with rfl | ⟨k1,rfl⟩
 ·refine D1.done _ _ _ fr1 λg2 e e2 he=>?_
  obtain ⟨oe,hoe,hce⟩:=he
  have z2:IsZip g2 z TI TO .ellipsis:=e2 _ _ Z.az.symm z1
  have ez:e≠z:=λx=>by subst x;rw[z2] at hoe;cases hoe;simp at hce
  exact wpAny_setField_rec z2 (by simp) λg3 _ e3=>q g3 e _ (λc o c1 _ c3 _ x=>e3.extBut _ _ c1 (e2 _ _ c3 (e1.extBut _ _ c1 x))) ⟨oe,e3.extBut _ _ ez hoe,hce⟩
 ·refine D1.item k _ _ _ k1 fr1 λx g2 tk2 px u1 e2=>wpAny_pure ?_
  dsimp only at e2 ⊢
  have o2:IsPair g2 TO a b:=e2.extBut _ _ Z.oa (e1.extBut _ _ Z.oz ho)
  refine wpAny_bind (wpAny_seqItems o2 rfl (wpAny_bind (wpAny_updateSeq_pair o2 λg3 (o3:IsPair g3 TO x b) e3=>wpAny_bind (wpAny_letGo (wpAny_pure ?_)))))
  refine wpAny_bind (wpAny_bind (wpAny_onRaise (wpAny_bind (m:=Builtin.SmallTypes.nextOf (.ref i2)) ?_)))
  refine D2.done _ _ _ (D2.frame _ _ _ t2 λc hc o e=>e3.extBut _ _ (Ws Z.o2 hc) (e2.extBut _ _ (Ws Z.a2 hc) (e1.extBut _ _ (Ws Z.z2 hc) e))) λg4 e e4 he=>?_
  dsimp only at e4 ⊢
  obtain ⟨oe,hoe,hce⟩:=he
  have z4:IsZip g4 z TI TO .ellipsis:=e4 _ _ Z.bz.symm (e3.extBut _ _ Z.oz.symm (e2.extBut _ _ Z.az.symm z1))
  have ez:e≠z:=λx=>by subst x;rw[z4] at hoe;cases hoe;simp at hce
  exact wpAny_setField_rec z4 (by simp) λg5 _ e5=>q g5 e _ (λc o c1 c2 c3 c4 x=>e5.extBut _ _ c1 (e4 _ _ c4 (e3.extBut _ _ c2 (e2.extBut _ _ c3 (e1.extBut _ _ c1 x))))) ⟨oe,e5.extBut _ _ ez hoe,hce⟩
end
section
variable {prog:Program}{w:World}{A:Around}{E:Value->Shared->Prop}{s:Shared}
theorem zfH {z TI TO i1 i2:Addr}{f1 f2:List Addr}{n1 n2 k:Nat}{P1 P2:Nat->Value->Prop}{S1 S2:Nat->Heap->Prop}{a b:Value}{Q:Option Value->Shared->Prop}(Z:Zap z TI TO i1 i2 f1 f2)(D1:Draws prog w A.in1 i1 f1 n1 P1 S1)(D2:Draws prog w A.in1 i2 f2 n2 P2 S2)(hz:IsZip s.heap z TI TO .none)(ht:IsPair s.heap TI (.ref i1) (.ref i2))(ho:IsPair s.heap TO a b)
  (t1:S1 k s.heap) (t2:S2 k s.heap) (k1:k<n1) (k2:k<n2)
  (q:∀ x y h' tk,P1 k x->P2 k y->IsZip h' z TI TO (rawInt s.heap.objs.size)->IsPair h' TO x y->S1 (k+1) h' -> S2 (k+1) h' -> IsPair h' s.heap.objs.size x y->
   (∀ c o,c≠z->c≠TO->c≠i1->c≠i2->s.heap.get? c=some o->h'.get? c=some o)->Q (some (.ref s.heap.objs.size)) { s with heap:=h',toks:=tk }):wpAny (model prog w) A (pyNext (.ref z)) Q E s:=by
 have hT:s.TypeIs (.ref z) "zip" := ⟨_,hz,rfl⟩
 unfold pyNext
 exact wpAny_bind (wpAny_attempt (wpAny_callSpecial?_slot (name:=Str.ofString "__next__") hT F.slot_zip_next (wpAny_call_entry F.slot_zip_next hT F.entry_zip_next (zfI Z D1 D2 hz ht ho t1 t2 k1 k2 λx y h' tk p1 p2 b1 b2 b3 b4 b5 b6=>wpAny_pure (q x y h' tk p1 p2 b1 b2 b3 b4 b5 b6)) (F.args_zip_next_1 _))))
theorem zg7 {z TI TO i1 i2:Addr}{f1 f2:List Addr}{n1 n2 k:Nat}{P1 P2:Nat->Value->Prop}{S1 S2:Nat->Heap->Prop}{a b:Value}{Q:Option Value->Shared->Prop}(Z:Zap z TI TO i1 i2 f1 f2)(D1:Draws prog w A.in1 i1 f1 n1 P1 S1)(D2:Draws prog w A.in1 i2 f2 n2 P2 S2)(hz:IsZip s.heap z TI TO .none)(ht:IsPair s.heap TI (.ref i1) (.ref i2))(ho:IsPair s.heap TO a b)
  (t1:S1 k s.heap) (t2:S2 k s.heap) (hk:k=n1\/(k<n1/\k=n2))
  (q:∀ h' tk,(∀ c o,c≠z->c≠TO->c≠i1->c≠i2->s.heap.get? c=some o->h'.get? c=some o)->Q none { s with heap:=h',toks:=tk }):wpAny (model prog w) A (pyNext (.ref z)) Q E s:=by
 have hT:s.TypeIs (.ref z) "zip" := ⟨_,hz,rfl⟩
 unfold pyNext
 refine wpAny_bind (wpAny_attempt (wpAny_callSpecial?_slot (name:=Str.ofString "__next__") hT F.slot_zip_next (wpAny_call_entry F.slot_zip_next hT F.entry_zip_next (zhV Z D1 D2 hz ht ho t1 t2 hk λh' e tk hk' he=>?_) (F.args_zip_next_1 _))))
 obtain ⟨o,ho',hc⟩:=he
 exact wpAny_bind (wpAny_isInstance (T:= "StopIteration") (b:=true) ⟨o,ho',hc⟩ isSubtype_stop (wpAny_pure (q _ _ hk')))
end
theorem zi5 {n l1 l2:Nat}(b1:l1<n)(b2:l2<n):Zap (n+4) (n+2) (n+3) n (n+1) [n,l1] [n+1,l2]:=by
 have h:∀ {a b c:Nat},a≠b->a≠c->a∉[b,c]:=λh1 h2 hm=>by
  rcases mem_cons.mp hm with e | e
  ·exact h1 e
  ·exact h2 (mem_singleton.mp e)
 constructor
 all_goals first
  | exact h (by omega) (by omega)
  | (show (_:Nat)≠_;omega)
section
variable {X:Cx}
theorem boot_zip:bootBuiltins "zip" = some (.type "zip"):=by decide +kernel
end
abbrev tIt (l:Addr):Obj:={ cls:=.type "tuple_iterator",data:=.fields #[.ref l,.int 0 0] }
abbrev zq2 (h:Heap)(l1 l2:Addr):Heap:=(h.push (tIt l1)).push (tIt l2)
abbrev zq4 (h:Heap)(l1 l2:Addr):Heap:=((zq2 h l1 l2).push { cls:=.type "tuple",data:=.seq #[.ref h.objs.size,.ref (h.push (tIt l1)).objs.size] }).push { cls:=.type "tuple",data:=.seq #[.none,.none] }
abbrev zq5 (h:Heap)(l1 l2:Addr):Heap:=(zq4 h l1 l2).push { cls:=.type "zip",data:=.fields #[.none,.bool false,.bool false,.ref (zq2 h l1 l2).objs.size,.ref ((zq2 h l1 l2).push { cls:=.type "tuple",data:=.seq #[.ref h.objs.size,.ref (h.push (tIt l1)).objs.size] }).objs.size] }
theorem IsTuple.zjH {h:Heap}{l:Addr}{xs:Array Value}(hl:h.IsTuple l xs)(o:Obj):(h.push o).IsTuple l xs:=by
 obtain ⟨ob,e,r⟩:=hl
 exact ⟨ob,get?_push_of_some _ e,r⟩
theorem zeX (l1 l2:Addr)(xs ys:Array Value):
  Meets (Builtin.«zip.__new__» ⟨[.type "zip",.ref l1,.ref l2],[]⟩) (λ_ R s=>s.heap.IsTuple l1 xs/\s.heap.IsTuple l2 ys/\R (.ok (.ret (.ref (zq4 s.heap l1 l2).objs.size))) { s with heap:=zq5 s.heap l1 l2 }):=
 .of_wp λprog w A R s h=>by
  obtain ⟨hp,g,d,tk,os⟩:=s;obtain ⟨t1,t2,h⟩:=h
  have q0:=sub_zip
  have q1:Heap.IsTuple (Shared.heap ⟨hp,g,d,tk,os⟩) l1 xs:=t1
  have q2:Heap.IsTuple (Shared.heap ⟨hp.push (tIt l1),g,d,tk,os⟩) l2 ys:=IsTuple.zjH t2 _
  wp_walk using wpAny_pyIter_tuple q1,wpAny_pyIter_tuple q2
  exact ⟨_,rfl,h⟩
section
variable {prog:Program}{w:World}{A:Around}{E:Value->Shared->Prop}{s:Shared}
theorem zdR {l1 l2:Addr}{xs ys:Array Value}{Q:Value->Shared->Prop}(q1:s.heap.IsTuple l1 xs)(q2:s.heap.IsTuple l2 ys)
  (h:∀ h',IsZip h' (s.heap.objs.size+4) (s.heap.objs.size+2) (s.heap.objs.size+3) .none->IsPair h' (s.heap.objs.size+2) (.ref s.heap.objs.size) (.ref (s.heap.objs.size+1))->IsPair h' (s.heap.objs.size+3) .none .none->
   h'.IsTupleIter s.heap.objs.size l1 0->h'.IsTupleIter (s.heap.objs.size+1) l2 0->(∀ c o,s.heap.get? c=some o->h'.get? c=some o)->Q (.ref (s.heap.objs.size+4)) { s with heap:=h' }):
  wpAny (model prog w) A (call (.type "zip") [.ref l1,.ref l2]) Q E s:=by
 refine callType_new F.called_zip (by decide) (F.typeCall_zip_2 _ _) (F.newCall_zip_2 _ _) (λobj=>F.args_object_init_3 obj _ _) F.entry_zip_new (zeX l1 l2 xs ys) ⟨q1,q2,?_⟩
 have a1:(s.heap.push (tIt l1)).objs.size=s.heap.objs.size+1:=size_push ..
 have a2:(zq2 s.heap l1 l2).objs.size=s.heap.objs.size+2:=by rw[size_push,a1]
 have a3:((zq2 s.heap l1 l2).push { cls:=.type "tuple",data:=.seq #[.ref s.heap.objs.size,.ref (s.heap.push (tIt l1)).objs.size] }).objs.size=s.heap.objs.size+3:=by rw[size_push,a2]
 have a4:(zq4 s.heap l1 l2).objs.size=s.heap.objs.size+4:=by rw[size_push,a3]
 have u:∀ {hh:Heap}{o:Obj}{c:Addr}{ob:Obj},hh.get? c=some ob->(hh.push o).get? c=some ob:=λe=>get?_push_of_some _ e
 have g5:(zq5 s.heap l1 l2).get? (zq4 s.heap l1 l2).objs.size=some _:=get?_push_size _ rfl
 have g4:(zq5 s.heap l1 l2).get? ((zq2 s.heap l1 l2).push { cls:=.type "tuple",data:=.seq #[.ref s.heap.objs.size,.ref (s.heap.push (tIt l1)).objs.size] }).objs.size=some _:=u (get?_push_size _ rfl)
 have g3:(zq5 s.heap l1 l2).get? (zq2 s.heap l1 l2).objs.size=some _:=u (u (get?_push_size _ rfl))
 have g2:(zq5 s.heap l1 l2).get? (s.heap.push (tIt l1)).objs.size=some (tIt l2):=u (u (u (get?_push_size _ rfl)))
 have g1:(zq5 s.heap l1 l2).get? s.heap.objs.size=some (tIt l1):=u (u (u (u (get?_push_size _ rfl))))
 rw[a2,a3,a4] at g5
 rw[a1,a2] at g3
 rw[a3] at g4
 rw[a1] at g2
 show _/\_
 rw[a4]
 exact ⟨⟨_,g5,rfl⟩,h _ g5 g3 g4 ⟨_,g1,rfl,rfl⟩ ⟨_,g2,rfl,rfl⟩ λc o x=>u (u (u (u (u x))))⟩
end
noncomputable def zkl (K:PySem.W.Frag) (a1 a2:Addr):It:=
 ⟨λi H=>∃ xs x ys y,SqT K H a1 xs/\xs[i]?=some x/\SqT K H a2 ys/\ys[i]?=some y,λi H v H' => ∃ p x y,H p=none/\v = .ref p/\H'=upd H p (.tup [x,y])/\(∀ xs,SqT K H a1 xs->xs[i]?=some x)/\∀ ys,SqT K H a2 ys->ys[i]?=some y,
  λi H=>∃ xs ys,SqT K H a1 xs/\SqT K H a2 ys/\(i=xs.length\/(i<xs.length/\i=ys.length))⟩
theorem zc5 {P:Program}{w:World}{K:PySem.W.Frag}{elts:List Expr}{tk:Nat}{tpos:Pos}{a1 a2 z TI TO i1 i2:Addr}(Z:Zap z TI TO i1 i2 [i1,a1] [i2,a2])(n1:a1≠i1)(n2:a2≠i2):Turn P w K (.Tuple elts tk tpos) (zkl K a1 a2) [z,TI,TO,i1,i2] z (λi h=>IsZip h z TI TO .none/\IsPair h TI (.ref i1) (.ref i2)/\(∃ a b,IsPair h TO a b)/\h.IsTupleIter i1 a1 i/\h.IsTupleIter i2 a2 i) where
 mem:=by simp
 obj:=λi h st c hc=>by
  obtain ⟨hz,ht,⟨a,b,ho⟩,⟨o1,e1,_,d1⟩,⟨o2,e2,_,d2⟩⟩:=st
  simp only[mem_cons,not_mem_nil,or_false] at hc
  rcases hc with rfl | rfl | rfl | rfl | rfl
  ·exact ⟨_,hz,λv q=>by cases q⟩
  ·exact ⟨_,ht,λv q=>by cases q⟩
  ·exact ⟨_,ho,λv q=>by cases q⟩
  ·exact ⟨o1,e1,λv q=>by rw[d1] at q;cases q⟩
  ·exact ⟨o2,e2,λv q=>by rw[d2] at q;cases q⟩
 keep:=λi h h' st k=>by
  obtain ⟨hz,ht,⟨a,b,ho⟩,⟨o1,e1,r1⟩,⟨o2,e2,r2⟩⟩:=st
  exact ⟨k z (by simp) _ hz,k TI (by simp) _ ht,⟨a,b,k TO (by simp) _ ho⟩,⟨o1,k i1 (by simp) _ e1,r1⟩,⟨o2,k i2 (by simp) _ e2,r2⟩⟩
 item:=by
  intro X hP hw hK hc i pins s σ H E I hf st hg
  subst hP hw hK
  obtain ⟨xs,x,ys,y,hq1,hx,hq2,hy⟩:=hg
  obtain ⟨its1,rv1,p1,_⟩:=I.tuple hq1
  obtain ⟨its2,rv2,p2,_⟩:=I.tuple hq2
  obtain ⟨u1,hu1,ru1⟩:=rv1.get hx
  obtain ⟨u2,hu2,ru2⟩:=rv2.get hy
  obtain ⟨hz,ht,⟨a,b,ho⟩,t1,t2⟩:=st
  have l1:i<its1.toArray.size:=by have:=(List.getElem?_eq_some_iff.mp hu1).1;simpa using this
  have l2:i<its2.toArray.size:=by have:=(List.getElem?_eq_some_iff.mp hu2).1;simpa using this
  have hh:X.A.in1.handled=none:=I.ok.hd hc
  refine zfH Z (Jk hh i1 a1 n1 its1.toArray) (Jk hh i2 a2 n2 its2.toArray) hz ht ho ⟨t1,p1⟩ ⟨t2,p2⟩ l1 l2 λx' y' h' tk' hP1 hP2 b1 b2 b3 b4 b5 b6=>?_
  have ex:x'=u1:=by
   have:its1[i]?=some x' := by simpa using hP1
   rw[hu1] at this;exact (Option.some.inj this).symm
  have ey:y'=u2:=by
   have:its2[i]?=some y' := by simpa using hP2
   rw[hu2] at this;exact (Option.some.inj this).symm
  subst ex ey
  refine ⟨_,rfl,wpAny_letOwnedTupleGo_zip b1 λh2 hz2 hs2=>?_⟩
  have zt:z≠s.heap.objs.size:=ne_of_lt (lt_size hz)
  have new:Xp X.prog X.w (upd H s.heap.objs.size (.tup [x,y])) h2 s.heap.objs.size (.tup [x,y]):=
   ⟨by show 2<=sizeLine;decide,[x',y'],.cons ru1 (.cons ru2 .nil),⟨_,(hs2.2 _ (Ne.symm zt)).trans b5,rfl,_,rfl⟩,_,(hs2.2 _ (Ne.symm zt)).trans b5,rfl⟩
  have kk:∀ b o,b∉[z,TI,TO,i1,i2]->s.heap.get? b=some o->h2.get? b=some o:=λb o hb q=>by
   simp only[mem_cons,not_mem_nil,or_false,not_or] at hb
   exact (hs2.2 b hb.1).trans (b6 b o hb.1 hb.2.2.1 hb.2.2.2.1 hb.2.2.2.2 q)
  have fresh:=I.hok.fresh (Nat.le_refl s.heap.objs.size)
  refine ⟨.ref s.heap.objs.size,_,I.zbs (t' := tk') kk hf (Nat.le_refl _) new,rfl,⟨_,x,y,fresh,rfl,rfl,λzs hy' => by rw[I.J6 hy' hq1];exact hx,λzs hy' => by rw[I.J6 hy' hq2];exact hy⟩,⟨hz2,?_,⟨_,_,(hs2.2 TO Z.oz).trans b2⟩,?_,?_⟩,λc hc=>?_⟩
  ·exact (hs2.2 TI Z.iz).trans (b6 TI _ Z.iz Z.io Z.ia Z.ib ht)
  ·obtain ⟨o3,g1,g2⟩:=b3.1
   exact ⟨o3,(hs2.2 i1 Z.az).trans g1,g2⟩
  ·obtain ⟨o3,g1,g2⟩:=b4.1
   exact ⟨o3,(hs2.2 i2 Z.bz).trans g1,g2⟩
  ·have lt:∃ o,s.heap.get? c=some o:=by
    simp only[mem_cons,not_mem_nil,or_false] at hc
    rcases hc with rfl | rfl | rfl | rfl | rfl
    ·exact ⟨_,hz⟩
    ·exact ⟨_,ht⟩
    ·exact ⟨_,ho⟩
    ·obtain ⟨o,e,_⟩:=t1;exact ⟨o,e⟩
    ·obtain ⟨o,e,_⟩:=t2;exact ⟨o,e⟩
   obtain ⟨o,e⟩:=lt
   rw[ZC (ne_of_lt (lt_size e))];exact (hf c hc).1
 done:=by
  intro X hP hw hK hc i pins s σ H E I hf st hg
  subst hP hw hK
  obtain ⟨xs,ys,hq1,hq2,hi⟩:=hg
  obtain ⟨its1,rv1,p1,_⟩:=I.tuple hq1
  obtain ⟨its2,rv2,p2,_⟩:=I.tuple hq2
  have e1:=rv1.length
  have e2:=rv2.length
  obtain ⟨hz,ht,⟨a,b,ho⟩,t1,t2⟩:=st
  have hh:X.A.in1.handled=none:=I.ok.hd hc
  refine zg7 Z (Jk hh i1 a1 n1 its1.toArray) (Jk hh i2 a2 n2 its2.toArray) hz ht ho ⟨t1,p1⟩ ⟨t2,p2⟩ (by simp only[size_toArray];omega) λh' tk' b6=>?_
  exact ⟨rfl,I.turns (t' := tk') (λc u hc' q=>by
   simp only[mem_cons,not_mem_nil,or_false,not_or] at hc'
   exact b6 c u hc'.1 hc'.2.2.1 hc'.2.2.2.1 hc'.2.2.2.2 q) hf⟩
 self:=λ_ _ _ _ _ st h=>wpAny_pyIter_zip st.1 h
section
variable {X:Cx}
def zkn (K:PySem.W.Frag)(ta:TA):TI:=fun σ H R=>ta σ H λvs H1=>∃ a1 a2,vs=[.ref a1,.ref a2]/\(∃ xs,SqT K H1 a1 xs)/\(∃ ys,SqT K H1 a2 ys)/\R (zkl K a1 a2) H1
theorem zfU {K:PySem.W.Frag}(eK:X.K=K){a b:Expr}{ta:TA}{p pos:Pos}{elts:List Expr}{tk:Nat}{tpos:Pos}(hg:Gl X "zip")(hm:X.mg "zip" = none)(ha:PA X [a,b] ta)(hs:starEach [a,b] X.env=[(false,eval a X.env),(false,eval b X.env)]:=by rfl)(hs2:starEach [b] X.env=[(false,eval b X.env)]:=by rfl):
  PI X (.Tuple elts tk tpos) (.Call (.Name "zip" p) [a,b] [] pos) (zkn K ta):=by
 subst eK
 intro pins s σ H R I h
 refine Call_ (WK I hg hm boot_zip (PyProof.Rows.callWith_type1 (thn (ha pos pins s σ H _ I h) λus s1 ⟨vs,H1,I1,r1,q1⟩=>?_) (by rw[hs,hs2]) (by rw[hs2];rfl)))
 obtain ⟨l1,l2,e,⟨xs,hq1⟩,⟨ys,hq2⟩,q⟩:=q1
 subst e
 cases r1 with
 | cons r rr=>
  cases rr with
  | cons r' rr=>
   cases rr
   cases (show _=Value.ref l1 from r)
   cases (show _=Value.ref l2 from r')
   obtain ⟨its1,rv1,p1,_⟩:=I1.tuple hq1
   obtain ⟨its2,rv2,p2,_⟩:=I1.tuple hq2
   have b1:l1<s1.heap.objs.size:=by obtain ⟨o,e,_⟩:=id p1;exact lt_size e
   have b2:l2<s1.heap.objs.size:=by obtain ⟨o,e,_⟩:=id p2;exact lt_size e
   refine zdR (show s1.heap.IsTuple l1 its1.toArray from p1) (show s1.heap.IsTuple l2 its2.toArray from p2) λh' hz ht ho i1 i2 hk=>?_
   have Z:=zi5 b1 b2
   refine wpAny_pyIter_zip hz ⟨s1.heap.objs.size+4,_,_,_,H1,rfl,I1.kept (t' := s1.toks) hk,zc5 Z (ne_of_lt b1) (ne_of_lt (lt_succ_of_lt b2)),⟨hz,ht,⟨_,_,ho⟩,i1,i2⟩,λc hc=>?_,q⟩
   have hc' : s1.heap.objs.size<=c:=by
    simp only[mem_cons,not_mem_nil,or_false] at hc
    rcases hc with rfl | rfl | rfl | rfl | rfl
    ·exact le_add_right _ _
    ·exact le_add_right _ _
    ·exact le_add_right _ _
    ·exact Nat.le_refl _
    ·exact le_add_right _ _
   exact I1.zhj hc' (I1.hok.fresh hc')
end
structure X8 (fr sc:Scope)(x x2:Str)(cap:List Str):Prop where
 kind:sc.kind = .function
 cell:∀ p∈sc.names,p.2≠.cell
 names:∀ p∈sc.names,p.2 = .local->sc.names.lookup p.1=some .local
 tgt:sc.names.lookup x=some .local
 tgt2:sc.names.lookup x2=some .local
 free:∀ p∈sc.names,p.2 = .free->fr.names.lookup p.1=some .cell
 caps:∀ y∈cap,(y,NameKind.free)∈sc.names
 nd:(x::x2::cap).Nodup
 noboth:∀ y∈cap,sc.names.lookup y≠some .local
section
variable {X:Cx}{pins:List (Addr×Obj)}{σ:St}{H:Hp}{s:Shared}{sc:Scope}{x x2:Str}{cap:List Str}
def zkf (K:PySem.W.Frag)(J:It)(js:List Nat)(σ:St)(tt:TT)(te:TE)(Q:VK)(W:Nat->Nat->List V->Hp->Prop):Prop:=
 ∀ i m ys H,W i m ys H->ys.length<sizeLine/\
  ((J.stop i H/\∀ p,H p=none->Q (.ref p) (upd H p (.lst ys)))\/
   (J.go i H/\∀ x H',J.yld i H x H' -> ∃ p u1 u2,x = .ref p/\SqT K H' p [u1,u2]/\tt (some u1::some u2::Jw σ js) H' λb H2=>if b=true then te (some u1::some u2::Jw σ js) H2 λv H3=>∃ m',m'<m/\W (i+1) m' (ys++[v]) H3 else ∃ m',m'<m/\W (i+1) m' ys H2))
def zhp (K:PySem.W.Frag)(wi:TI)(js:List Nat)(tt:TT)(te:TE):TE:=fun σ H Q=>wi σ H λJ H1=>∃ W:Nat->Nat->List V->Hp->Prop,(∃ m,W 0 m [] H1)/\zkf K J js σ tt te Q W
theorem zft {K:PySem.W.Frag}{J:It}{js:List Nat}{tt:TT}{te:TE}{Q:VK}{W:Nat->Nat->List V->Hp->Prop}(h:zkf K J js σ tt te Q W):zj2 2 J js σ (zh3 K 2 (QR (Ja 0) (QR (Ja 1) zhk))) tt te Q W:=λi m ys H w=>by
 obtain ⟨a,b⟩:=h i m ys H w
 refine ⟨a,b.imp id λ⟨go,st⟩=>⟨go,λx H' y ws hw=>?_⟩⟩
 obtain ⟨pv',u1,u2,rfl,hsq,st'⟩:=st x H' y
 match ws,hw with
 | [v,v'],_=>exact ⟨pv',[u1,u2],rfl,hsq,rfl,u1,[u2],rfl,u2,[],rfl,rfl,[some u1,some u2],rfl,rfl,st'⟩
theorem X8.n {fr:Scope}(S:X8 fr sc x x2 cap):Y9 fr sc [x,x2] cap:=⟨S.kind,S.cell,S.names,S.free,S.caps,S.noboth⟩
theorem X8.pg (S:X8 X.env.scope sc x x2 cap)(hc:X.calm=true){px py tpos:Pos}{tk:Nat}(C:Addr)(s0:Shared)(H0:Hp)(ex:List Addr):PG (Y0 X sc ([x,x2]++cap) C s0 H0 ex) (.Tuple [.Name x px,.Name x2 py] tk tpos) (zh3 X.K 2 (QR (Ja 0) (QR (Ja 1) zhk))):=
 QC hc (Yv (Z8 S.nd rfl (.inl (lookup_relabel_local S.tgt)) (.inr (lookup_relabel_local S.tgt))) (Yv (Z8 S.nd rfl (.inl (lookup_relabel_local S.tgt2)) (.inr (lookup_relabel_local S.tgt2))) Jd))
theorem VF (S:X8 X.env.scope sc x x2 cap){js:List Nat}(hjs:js.map (λj=>X.N[j]?)=cap.map some)(hc:X.calm=true)(hxe:∀ e s,¬ X.xe e s){elt iter:Expr}{ifs:List Expr}{pos px py tpos:Pos}{tk:Nat}{wi:TI}{tt:TT}{te:TE}
  (hi:PI X (.Tuple [.Name x px,.Name x2 py] tk tpos) iter wi) (hb:∀ C s0 H0 ex,PIf (Y0 X sc (x::x2::cap) C s0 H0 ex) ifs tt/\PE (Y0 X sc (x::x2::cap) C s0 H0 ex) elt te)
  (hs:∀ x,foldedSetIterable iter X.env x=pure x:=by intro _;rfl):PE X (.ListComp elt [⟨(.Tuple [.Name x px,.Name x2 py] tk tpos),iter,ifs,0⟩] sc pos) (zhp X.K wi js tt te):=by
 intro pins s σ H Q I h
 rw[eval_ListComp]
 refine wpAny_comprehension_free (use:=none) rfl hs (X5 (S.n.cells I.ok)) S.kind S.names (thn (hi pins s σ H _ I h) λxv s₁ h₁=>thn h₁ λitv s₂ h₂=>?_)
 obtain ⟨it,fp,tn,J,H2,e,I2,T,st2,f2,W,w0,turn⟩:=h₂
 subst e
 refine Q0 (xs:=[x,x2]) (Q:=Q) (RR:=λacc C=>compPost (model X.prog X.w) X.A X.xe none (EP X pins σ Q) acc C) S.n hjs (λ_ _ _ _=>hc) (S.pg hc) (λC=>hb C _ _ _) I2 T st2 f2 w0 (zft turn) ?_
 intro D C s' σ' H' ys its k hD hC J' rv hz q
 obtain ⟨m,hn,_⟩:=J'.loc
 have pinD:=J'.pin (D,{ cls:=.type "list",data:=.seq its.toArray k }) (mem_append_right _ (mem_singleton.mpr rfl))
 exact ⟨m,hn,λh' hs' => ⟨.ref D,_,Vn (xs:=[x,x2]) S.n I2 f2 hD hC J' pinD.2.1 pinD.1 rv hz hs',rfl,q D pinD.2.1⟩⟩
end
open PySem PySem.Spec PyProof.Rows Lw
section
variable {K:PySem.W.Frag}{B:Hp}{E:Addr->Prop}{G0 H0 G H G' H' : Hp}{σ:St}{ρ:List PV}{F:Nat->List Addr}{ta tb te:TE}{a b d:PyData}{ds es:List PyData}
theorem zgI {r:List V->Hp->VK->Prop}{t:TA}(h:Ea K B t ρ ds)(hr:∀ G1 H xs (Q:VK),ZS G1 H->Yr K G1 xs ds->(∀ v G' H',Xq G1 H G' H' -> Dat K G' v d->Q v H')->r xs H Q):Er K B (tCB r t) ρ d:=λG σ r' => Uz (h G σ r') λG1 H xs Q _ s2 hx k=>hr G1 H xs Q s2 hx k
theorem zhT {i:Int}(h:Er K B te ρ (.int i)):Er K B (tUn (rU λi=>.int (-i)) te) ρ (.int (-i)):=λG σ r G1 H s1 s2 Q k=>h G σ r G1 H s1 s2 _ λv G2 H2 g hv=>⟨i,hv.int,k _ G2 H2 g (Zk _)⟩
def Eo (K:PySem.W.Frag)(B:Hp)(t:TO)(ρ:List PV)(o:Option Int):Prop:=∀ G σ,Rx K B G σ ρ->∀ H (Q:Option Int->Hp->Prop),Q o H->t σ H Q
theorem Yw:Eo K B Jm ρ none:=λ_ _ _ _ _ q=>q
theorem QL {i:Int}:Eo K B (Vj (tC (.int i))) ρ (some i):=λ_ _ _ _ _ q=>⟨i,rfl,q⟩
theorem Vo {i:Nat}{j:Int}(h:ρ[i]?=some (.dat (.int j))):Eo K B (Vj (WL i)) ρ (some j):=λG σ r H Q q=>by
 obtain ⟨x,hx,hd⟩:=r.2.1 i _ h
 exact ⟨x,hx,j,hd.int,q⟩
theorem zaT {g:Int->Int->Int}{i:Nat}{j c:Int}(h:ρ[i]?=some (.dat (.int j))):Eo K B (Vj (tOp (rI0 λa b=>.int (g a b)) (WL i) (tC (.int c)))) ρ (some (g j c)):=λG σ r H Q q=>by
 obtain ⟨x,hx,hd⟩:=r.2.1 i _ h
 exact ⟨x,hx,j,c,hd.int,rfl,g j c,rfl,q⟩
abbrev slD (ds:List PyData)(lo hi:Option Int):List PyData:=(ds.drop (HT.sIx ds.length 0 lo)).take (HT.sIx ds.length ds.length hi-HT.sIx ds.length 0 lo)
theorem Xa {tl th:TO}{lo hi:Option Int}(h:Er K B te ρ (.tuple ds))(hl:Eo K B tl ρ lo)(hh:Eo K B th ρ hi):Er K B (tSl (zcZ K) te tl th) ρ (.tuple (slD ds lo hi)):=λG σ r=>ziW (h G σ r) (hl G σ r) (hh G σ r)
theorem YC (ha:Er K B ta ρ (.tuple ds))(hb:Er K B tb ρ (.tuple es))(hz:ds.length+es.length<=sizeLine):Er K B (tOp (zdx K) ta tb) ρ (.tuple (ds++es)):=λG σ r=>zaV (ha G σ r) (hb G σ r) hz
theorem zf3 {ta tb:TE}(ha:Ev K ta σ G (.list ds))(hb:Ev K tb σ G (.list es))(hz:ds.length+es.length<=sizeLine):Ev K (tOp zjz ta tb) σ G (.list (ds++es)):=Qj ha hb λG1 H x y Q s1 s2 hx hy k=>by
 obtain ⟨p,xs,rfl,hp,hxs⟩:=hx.lst
 obtain ⟨q,ys,rfl,hq,hys⟩:=hy.lst
 refine ⟨p,q,xs,ys,rfl,rfl,s2 _ _ hp,s2 _ _ hq,by rw[hxs.length,hys.length];exact hz,λl hl=>?_⟩
 have g:=Yl (o:=.lst (xs++ys)) s2 hl
 exact k _ _ _ g (YZ Zz ((Xz hxs hys).same g.gg))
theorem JG (ha:Er K B ta ρ (.list ds))(hb:Er K B tb ρ (.list es))(hz:ds.length+es.length<=sizeLine):Er K B (tOp zjz ta tb) ρ (.list (ds++es)):=λG σ r=>zf3 (ha G σ r) (hb G σ r) hz
theorem zgN {t:TA}{j:Int}(h:Ea K B t ρ [.int j])(h0:0<=j)(h1:j.toNat<=2 ^ 24):Er K B (zeN t) ρ (.list ((List.range j.toNat).map λ(i:Nat)=>PyData.int i)):=λG σ r=>zfP (h G σ r) h0 h1
theorem zfi {t:TA}{bs:List Bool}(h:Ea K B t ρ [.list (bs.map .bool)]):Er K B (tCB (λxs H Q=>∃ (p:Addr) (bs:List Bool),xs=[.ref p]/\SqL K H p (bs.map V.bl)/\Q (.bl (bs.all id)) H) t) ρ (.bool (bs.all id)):=zgI h λG1 H xs Q s2 hx k=>by
 obtain ⟨y,ys,rfl,hy,hn⟩:=hx.cons
 cases hn.nil
 obtain ⟨p,zs,rfl,hp,hz⟩:=hy.lst
 have e:zs=bs.map V.bl:=by
  clear h hy hp k hx hn
  induction bs generalizing zs with
  | nil=>exact hz.nil
  | cons q l ih=>
   obtain ⟨u,us,rfl,hu,hus⟩:=hz.cons
   rw[hu.bl,ih us hus];rfl
 subst e
 exact ⟨p,bs,rfl,SqL.of (s2 _ _ hp),k _ G1 H (Xq.refl s2) (Yy _)⟩
theorem Us {t:TS}{R:Pn}(i:Nat)(hi:ρ[i]?=some (.own ds))(h:Sv K B t (ρ.set i (.dat (.list ds))) R):Sv K B t ρ R:=λE G0 H0 G H σ F D r dn=>by
 obtain ⟨p,xs,e,hx,hp,hd⟩:=r.sl i _ hi
 have hpi:p∈F i:=by rw[e];simp
 obtain ⟨gp,_,_⟩:=r.fr i p hpi
 have h0:=r.ow i ds p hi hpi
 have hlt:i<ρ.length:=(List.getElem?_eq_some_iff.mp hi).1
 have s1:ZS G (upd G p (.lst xs)):=Uo gp
 refine h E G0 H0 (upd G p (.lst xs)) H σ (λk=>if k=i then [] else F k) D ⟨⟨r.g.gg.trans s1,λb o eb=>?_,r.g.kp,r.g.al,λb o eb=>?_⟩,r.bb.trans s1,by rw[length_set];exact r.ls,λj v hj=>?_,λj a ha=>?_,λj k a ha hb=>?_,λj ds' a hj ha=>?_⟩ (dn.mono s1)
 ·by_cases z:b=p
  ·subst z;rw[Zz] at eb;rw[hp,eb]
  ·rw[ZC z] at eb;exact r.g.gh b o eb
 ·by_cases z:b=p
  ·subst z;exact .inr h0
  ·rw[ZC z] at eb;exact r.g.fr b o eb
 ·by_cases z:j=i
  ·subst z
   rw[getElem?_set_self hlt] at hj
   cases hj
   rw[if_pos rfl]
   exact ⟨rfl,_,hx,YZ Zz (hd.same s1)⟩
  ·rw[getElem?_set_ne (Ne.symm z)] at hj
   rw[if_neg z]
   exact (r.sl j v hj).grow s1 λ_ _=>rfl
 ·by_cases z:j=i
  ·rw[if_pos z] at ha;cases ha
  ·rw[if_neg z] at ha
   obtain ⟨h1,h2,h3⟩:=r.fr j a ha
   refine ⟨?_,h2,h3⟩
   rw[ZC λq=>by subst q;exact z (r.dj j i a ha hpi)];exact h1
 ·by_cases z:j=i
  ·rw[if_pos z] at ha;cases ha
  ·by_cases z' : k=i
   ·rw[if_pos z'] at hb;cases hb
   ·rw[if_neg z] at ha;rw[if_neg z'] at hb;exact r.dj j k a ha hb
 ·by_cases z:j=i
  ·rw[if_pos z] at ha;cases ha
  ·rw[if_neg z] at ha
   rw[getElem?_set_ne (Ne.symm z)] at hj
   exact r.ow j ds' a hj ha
variable {P:Program}{w:World}
theorem zeO {xs:List V}{lo hi:Option Int}(h:Yr K G xs ds):Yr K G (zco xs lo hi) (slD ds lo hi):=by
 unfold zco slD
 rw[h.length]
 exact J0 _ (JS _ h)
theorem zeU {i:Nat}{ns:List Int}{tl th:TO}{lo hi:Option Int}(h:ρ[i]?=some (.scr ns))(hl:Eo K B tl ρ lo)(hh:Eo K B th ρ hi):Er K B (tSl (zhv K) (WL i) tl th) ρ (.list (slD (ns.map .int) lo hi)):=λG σ r G1 H s1 s2 Q k=>by
 obtain ⟨a,hx,hq⟩:=r.2.2.2.2.1 i ns h
 refine ⟨_,hx,hl G σ r _ _ (hh G σ r _ _ ⟨a,_,rfl,(s1.trans s2).seq hq,λp hp=>?_⟩)⟩
 have g:=Yl (o:=.lst (zco (ns.map V.int) lo hi)) s2 hp
 exact k _ _ _ g (YZ Zz (zeO (J7 ns)))
theorem zgk {α:Type}(f:α->PyData)(l:List α)(lo hi:Option Int):∃ m:List α,slD (l.map f) lo hi=m.map f/\m.length<=l.length/\∀ x∈m,x∈l:=
 ⟨(l.drop (HT.sIx (l.map f).length 0 lo)).take (HT.sIx (l.map f).length (l.map f).length hi-HT.sIx (l.map f).length 0 lo),by unfold slD;rw[map_take,map_drop],by rw[length_take,length_drop];omega,λx hx=>mem_of_mem_drop (List.mem_of_mem_take hx)⟩
theorem Jp (k:Nat)(ds:List PyData):slD ds (some (k:Int)) none=ds.drop k:=by
 unfold slD
 rw[HT.zdT,HT.zbe]
 by_cases h:k<=ds.length
 ·rw[Nat.min_eq_left h,List.take_of_length_le (by rw[length_drop];omega)]
 ·rw[Nat.min_eq_right (by omega),List.drop_eq_nil_of_le (Nat.le_refl _),List.drop_eq_nil_of_le (by omega),List.take_nil]
theorem QZ (k:Nat)(ds:List PyData):slD ds none (some (k:Int))=ds.take k:=by
 unfold slD
 rw[HT.zdT,HT.zbe,drop_zero,Nat.sub_zero]
 by_cases h:k<=ds.length
 ·rw[Nat.min_eq_left h]
 ·rw[Nat.min_eq_right (by omega),List.take_of_length_le (Nat.le_refl _),List.take_of_length_le (by omega)]
variable {P:Program}{w:World}{mg:Str->Option Value}{base:Heap}
theorem ziO {p:Addr}{N:List Str}{ns:List Int}(sb:ZS B H)(hq:SqL K H p (ns.map V.int)):Rl K B (λ_=>False) H H H H (start N [.ref p]) (Wc N [.scr ns]) (λ_=>[]):=by
 refine ⟨Gw.refl (ZS.refl _),sb,?_,λi v h=>?_,λ_ _ h=>(by cases h),λ_ _ _ h _=>(by cases h),λ_ _ _ _ h=>(by cases h)⟩
 ·unfold start Wc
  rw[length_append,length_append,length_map,length_replicate,length_replicate];rfl
 ·unfold Wc at h
  unfold start
  cases i with
  | zero=>
   have h:some (PV.scr ns)=some v:=h
   cases h
   exact ⟨rfl,p,rfl,hq⟩
  | succ i=>
   rw[getElem?_append_right (by show 1<=i+1;omega)] at h
   have:=mem_of_getElem? h
   rw[(mem_replicate.mp this).2]
   rfl
theorem Fun.zjo {x qual:Str}{st:Stmt}{f:Addr}{fd:FuncData}{N:List Str}{k:Nat}(Fn:Fun K x qual st f fd)(S:Ys N ["script"] (Zn st))
  (hb:∀ (cdv:Value) (A:Around) (outer:List Env) (s:Shared) (H:Hp) (E:XK),Vu k (A.deeper (envOfC qual (Zn st) s.heap.objs.size f cdv))->∀ ns:List Int,ns.length<=63->
   ∃ t,PSs (zdX CX0 P w K mg base N qual (Zn st) f cdv A outer s H E).nox (YT st) t/\Sv K B0 t (Wc N [.scr ns]) { nx:=λ_=>False,rt:=λr _=>r = .dat (.bool true) }):Ql P w K mg base CX0 (k+1) f fd ["script"] (zaW K):=by
 refine Fn.ok S (λvs H Q E h=>?_) λcdv A outer s H vs Q E hr h=>?_
 ·obtain ⟨a,ns,rfl,_⟩:=h
  rfl
 ·obtain ⟨a,ns,rfl,hq,hl,kk⟩:=h
  obtain ⟨t,ht,hs⟩:=hb cdv A outer s H E hr ns hl
  refine ⟨t,ht,hs _ _ _ _ _ _ _ _ (ziO b0 hq) ⟨λe _ r=>e.elim,λe _ r sl n=>?_,λe=>e.elim,λe=>e.elim⟩⟩
  subst e
  obtain ⟨_,y,hy,hd⟩:=sl
  cases hy
  rw[hd.bl]
  exact kk _
theorem zaH {X:Cx}(e:X.K=K)(hc:X.calm=true):Qa X (.builtin "all") (λxs H Q=>∃ (p:Addr) (bs:List Bool),xs=[.ref p]/\SqL K H p (bs.map V.bl)/\Q (.bl (bs.all id)) H):=by subst e;exact zeu hc
end
section
variable {prog:Program}{w:World}{A:Around}{E:Value->Shared->Prop}{s:Shared}
theorem zaA {l:Addr}{vs:List Value}{Q:List Value->Shared->Prop}(hl:IsTup s.heap l vs.toArray)
  (h:Q vs { s with heap:=(s.heap.push (seqObj "list" #[] 0)).update s.heap.objs.size (Obj.mapSeq (· ++ vs.toArray)) }) (hsz:vs.length<=sizeLine):
  wpAny (model prog w) A (collect (.ref l)) Q E s:=by
 obtain ⟨o,ho,hc,n,hd⟩:=id hl
 unfold collect
 refine wpAny_bind (wpAny_runValue (codeAny_builtin entry_proto_collect' ?_))
 show wpAny _ _ (do again (.builtin "list.__iadd__" ⟨[← newList [],.ref l],[]⟩)) _ _ s
 refine wpAny_bind (wpAny_newList (wpAny_pure ⟨Code.quiet_builtin _ (by decide +kernel),codeAny_builtin entry_list_iadd' ?_⟩))
 show wpAny _ _ (Builtin.List.listExtendWith (.ref s.heap.objs.size) (.ref l) (.ref s.heap.objs.size)) _ _ { s with heap:=s.heap.push (seqObj "list" #[] 0) }
 unfold Builtin.List.listExtendWith
 have ho' : (s.heap.push (seqObj "list" #[] 0)).get? l=some o:=get?_push_of_some _ ho
 refine wpAny_bind (wpAny_typeOf (T:= "tuple") ⟨o,ho',hc⟩ ?_)
 have ht:(Value.type "tuple" == Value.type "tuple")=true:=by rfl
 rw[if_pos (by rw[ht];simp)]
 refine wpAny_bind (listItems_at ho' hd ?_)
 refine wpAny_bind (listItems_at (xs:=#[]) (n:=0) (get?_push_size _ rfl) rfl ?_)
 rw[if_neg (by simp)]
 refine wpAny_bind (listUpdate_at (xs:=#[]) (n:=0) (get?_push_size _ rfl) rfl ?_ (zero_le _) (by show (#[]++vs.toArray).size<=sizeLine+1;simp only[Array.size_append,size_toArray,List.length_nil];omega))
 refine wpAny_pure ?_
 show wpAny (model prog w) A (do
   let o ← load s.heap.objs.size
   match o.data with
   | .seq xs _=>pure xs.toList
   | _=>unsupported "internal:collect") Q E { s with heap:=(s.heap.push (seqObj "list" #[] 0)).update s.heap.objs.size (Obj.mapSeq (· ++ vs.toArray)) }
 refine wpAny_bind (wpAny_load (get?_update_seq (get?_push_size _ rfl) _) ?_)
 show wpAny _ _ (pure ((#[]:Array Value)++vs.toArray).toList) Q E _
 rw[show ((#[]:Array Value)++vs.toArray).toList=vs by simp]
 exact wpAny_pure h
theorem zan {l:Addr}{vs:List Value}{ns:List Int}{Q:Value->Shared->Prop}(hl:IsTup s.heap l vs.toArray)(hI:IntsAre vs ns)(h64:vs.length<64)
  (h:∀ (out:Array Value) (ns' : List Int),IntsAre out.toList ns' -> ns'.Perm ns->ns'.Pairwise (· <= ·)->Q (.ref (s.heap.objs.size+1)) { s with heap:=sortedAll s.heap vs out }):
  wpAny (model prog w) A (call (.builtin "sorted") [.ref l]) Q E s:=by
 have zl:(64:Nat)<=sizeLine:=by decide
 refine Calls.call_function_entry kind_sorted plain_sorted entry_sorted (args_sorted1 _) ?_
 unfold Builtin.«sorted»
 refine wpAny_bind (m:=checkCount "sorted" 1 1 _) (wpAny_pure ?_)
 refine wpAny_bind (zaA hl ?_ (by omega))
 refine wpAny_bind (wpAny_newList ?_ (by omega))
 have hsz:((s.heap.push (seqObj "list" #[] 0)).update s.heap.objs.size (Obj.mapSeq (· ++ vs.toArray))).objs.size=s.heap.objs.size+1:=by
  rw[Heap.size_update,size_push']
 have hoL:(((s.heap.push (seqObj "list" #[] 0)).update s.heap.objs.size (Obj.mapSeq (· ++ vs.toArray))).push (seqObj "list" vs.toArray 0)).get? (s.heap.objs.size+1)=some (seqObj "list" vs.toArray 0):=by
  rw[← hsz];exact get?_push_size _ rfl
 show wpAny _ _ _ _ _ { s with heap:=((s.heap.push (seqObj "list" #[] 0)).update s.heap.objs.size (Obj.mapSeq (· ++ vs.toArray))).push (seqObj "list" vs.toArray 0) }
 rw[hsz]
 refine wpAny_bind (wpAny_holding (wpAny_call_entry slot_list_sort ⟨_,hoL,rfl⟩ entry_list_sort (list_sort_tree hoL hI h64 λout ns' a1 a2 a3=>⟨_,rfl,?_⟩) (args_list_sort _)))
 exact wpAny_pure ⟨_,rfl,h out ns' a1 a2 a3⟩
end
section
variable {X:Cx}
def zf0 (K:PySem.W.Frag):List V->Hp->VK->Prop:=λxs H Q=>∃ (p:Addr) (ns:List Int),xs=[.ref p]/\SqT K H p (ns.map V.int)/\ns.length<64/\∀ l:Addr,H l=none->Q (.ref l) (upd H l (.lst ((zd1 ns).map V.int)))
theorem zaB {K:PySem.W.Frag}(e:X.K=K):Qa X (.builtin "sorted") (zf0 K):=by
 subst e
 intro pins s σ H xs us Q I r h
 obtain ⟨p,ns,rfl,hq,h64,q⟩:=h
 obtain ⟨u,rfl,rx⟩:=vals1 r
 cases rx
 obtain ⟨its,r',pl,hz⟩:=I.tuple hq
 have hS:=intsAre_of r'
 have hlen:=r'.length
 rw[length_map] at hlen hz
 refine zan pl hS (by omega) λout ns' a1 a2 a3=>?_
 obtain ⟨e,he⟩:=sortedAll_at s.heap its out
 have hl2:=a2.length_eq
 have e3:=zdQ a2 a3
 subst e3
 refine ⟨.ref (s.heap.objs.size+1),_,I.laid (t' := s.toks) (λ_ _=>sortedAll_old) (le_succ _) (show Xp X.prog X.w _ (sortedAll s.heap its out) _ (.lst ((zd1 ns).map V.int)) from ⟨by rw[length_map];omega,out.toList,e,QF a1,?_⟩),rfl,q _ (I.hok.fresh (le_succ _))⟩
 exact he
theorem zfM {K:PySem.W.Frag}{σ:St}{G:Hp}{t:TA}{ns:List Int}(h:EvA K t σ G [.tuple (ns.map .int)])(h64:ns.length<64):Ev K (tCB (zf0 K) t) σ G (.list ((zd1 ns).map .int)):=Uz h λG1 H xs Q s1 s2 hx k=>by
 obtain ⟨y,ys,rfl,hy,hn⟩:=hx.cons
 cases hn.nil
 obtain ⟨p,zs,rfl,hp,hz⟩:=hy.tup
 have e:=hz.ints
 subst e
 refine ⟨p,ns,rfl,s2.tup hp,h64,λl hl=>?_⟩
 have g:=Yl (o:=.lst ((zd1 ns).map V.int)) s2 hl
 exact k _ _ _ g (YZ Zz (J7 _))
variable {K:PySem.W.Frag}{B:Hp}{ρ:List PV}{ta te:TE}{ds:List PyData}
theorem zfL {t:TA}{ns:List Int}(h:Ea K B t ρ [.tuple (ns.map .int)])(h64:ns.length<64):Er K B (tCB (zf0 K) t) ρ (.list ((zd1 ns).map .int)):=λG σ r=>zfM (h G σ r) h64
theorem zdG (h:Er K B te ρ (.tuple ds)):Er K B (zgC K te (Vj (tUn (rU λi=>.int (-i)) (tC (.int 1))))) ρ (.tuple ds.reverse):=λG σ r=>zfF (h G σ r) λH Q q=>⟨1,rfl,_,rfl,q⟩
theorem zfv {t:TA}{R:PV->List PV->Prop}(h:EgA K B t ρ λds ρ' => ds.length<=sizeLine/\R (.dat (.tuple ds)) ρ'):Eg K B (zfo t) ρ R:=λE G0 H0 G H σ F r Q q=>
 h E G0 H0 G H σ F r _ λvs ds ρ1 G1 H1 F1 hR s1 r1 hv=>⟨by rw[hv.length];exact hR.1,λp hp=>by
  have g:=Yl (o:=.tup vs) r1.g.gh hp
  exact q _ _ ρ1 _ _ F1 [] hR.2 (s1.trans g.gg) (r1.grow g) ⟨rfl,_,rfl,Xv (SqT.of Zz) (hv.same g.gg)⟩ JT⟩
theorem WQ {t:TA}{n:Nat}(h:Ea K B t ρ [.int (n:Nat)])(hj:n<2 ^ 60):Ei K B (zcM t) ρ ((List.range n).map λ(i:Nat)=>PyData.int (i:Nat)):=by
 have:=zhS h ⟨by omega,by omega⟩
 rw[toNat_natCast] at this
 have e:(List.range n).map (λ(i:Nat)=>PyData.int (0+i))=(List.range n).map λ(i:Nat)=>PyData.int (i:Nat):=map_congr_left λi _=>by congr 1;omega
 rwa [e] at this
end
structure TF (K:PySem.W.Frag)(S:Type) where
 pv:S->Addr->List Addr->PV
 I:S->Addr->List Addr->Hp->Hp->Prop
 sl:∀ {s:S}{p:Addr}{fp:List Addr}{G H:Hp}{o:Option (Option V)}{F:List Addr},Sl K G H o (pv s p fp) F↔(F=p::fp/\o=some (some (.ref p))/\I s p fp G H)
 no:∀ s p fp ds,pv s p fp≠.own ds
noncomputable def zkF {K:PySem.W.Frag}{S:Type}(I:S->Addr->List Addr->Hp->Hp->Prop) (st:∀ {s:S}{p:Addr}{fp:List Addr}{G H G' H' : Hp},I s p fp G H->ZS G G' -> (∀ a∈p::fp,H' a=H a)->I s p fp G' H') (lv:∀ {s:S}{p:Addr}{fp:List Addr}{G H:Hp},I s p fp G H->∀ a∈p::fp,∃ o,H a=some o):TF K S where
 pv:=λs p fp=>.thg { ok:=λp' fp' G H=>p'=p/\fp'=fp/\I s p fp G H,st:=λ{p' fp' G H G' H'} ⟨h1,h2,h3⟩ sg k=>⟨h1,h2,st h3 sg λa ha=>k a (by rw[h1,h2];exact ha)⟩,live:=λ{p' fp' G H} ⟨h1,h2,h3⟩ a ha=>lv h3 a (by rw[h1,h2] at ha;exact ha) }
 I:=I
 sl:=λ{s p fp G H o F}=>by
  constructor
  ·rintro ⟨p',fp',h1,h2,rfl,rfl,h3⟩;exact ⟨h1,h2,h3⟩
  ·rintro ⟨h1,h2,h3⟩;exact ⟨p,fp,h1,h2,rfl,rfl,h3⟩
 no:=λ_ _ _ _=>nofun
section
variable {K:PySem.W.Frag}{B:Hp}{E:Addr->Prop}{G0 H0 G H G1 H1 G2 H2:Hp}{σ:St}{ρ:List PV}{F:Nat->List Addr}{ta tb te:TE}{a b d:PyData}{ds es:List PyData}{S:Type}{D:TF K S}{s s' : S}{p:Addr}{fp:List Addr}
theorem zjp {i0:Nat}(sb:ZS B G)(gh:ZS G H)(hl:σ.length=ρ.length)(h0:ρ[i0]?=some (D.pv s p fp))(hσ:σ[i0]?=some (some (.ref p)))(hI:D.I s p fp G H)(gn:∀ a∈p::fp,G a=none)(lv:∀ a∈p::fp,∃ o,H a=some o)
  (hx:∀ i v,i≠i0->ρ[i]?=some v->Sl K G H σ[i]? v []/\∀ ds,v≠.own ds):Rl K B (· ∈ p::fp) G H G H σ ρ (λk=>if k=i0 then p::fp else []):=by
 refine ⟨Gw.refl gh,sb,hl,λi v h=>?_,λi a ha=>?_,λi j a ha hb=>?_,λi ds' a h ha=>?_⟩
 ·by_cases z:i=i0
  ·subst z
   rw[h0] at h
   cases h
   rw[if_pos rfl]
   exact D.sl.mpr ⟨rfl,hσ,hI⟩
  ·rw[if_neg z];exact (hx i v z h).1
 ·split at ha
  ·exact ⟨gn a ha,lv a ha,.inl ha⟩
  ·cases ha
 ·split at ha
  ·split at hb
   ·omega
   ·cases hb
  ·cases ha
 ·split at ha
  ·rename_i z
   subst z
   rw[h0] at h
   exact absurd (Option.some.inj h) (D.no _ _ _ _)
  ·cases ha
theorem Rl.zjy {i:Nat}(r1:Rl K B E G0 H0 G1 H1 σ ρ F)(hi:ρ[i]?=some (D.pv s p fp))(gw:Gw (· ∈ p::fp) G1 H1 G2 H2)(gn:∀ a∈p::fp,G2 a=none)(lv:∀ a∈p::fp,∃ o,H2 a=some o)(hI:D.I s' p fp G2 H2):Rl K B E G0 H0 G2 H2 σ (ρ.set i (D.pv s' p fp)) F:=by
 obtain ⟨e1,hx,_⟩:=D.sl.mp (r1.sl i _ hi)
 have hlt:i<ρ.length:=(List.getElem?_eq_some_iff.mp hi).1
 refine ⟨⟨r1.g.gg.trans gw.gg,gw.gh,λb o n h=>?_,λb h=>r1.g.al b (gw.al b h),λb o h=>?_⟩,r1.bb.trans gw.gg,by rw[length_set];exact r1.ls,λj v h=>?_,λj a ha=>?_,r1.dj,λj ds' a h ha=>?_⟩
 ·refine gw.kp b o (λz=>?_) (r1.g.kp b o n h)
  rcases (r1.fr i b (by rw[e1];exact z)).2.2 with hE | hE
  ·exact n hE
  ·rw[hE] at h;cases h
 ·rcases gw.fr b o h with h | h
  ·exact r1.g.fr b o h
  ·exact .inr (r1.g.al b h)
 ·by_cases z:j=i
  ·subst z
   rw[getElem?_set_self hlt] at h
   cases h
   exact D.sl.mpr ⟨e1,hx,hI⟩
  ·rw[getElem?_set_ne (Ne.symm z)] at h
   refine (r1.sl j v h).grow gw.gg λa ha=>?_
   obtain ⟨_,⟨o,ho⟩,_⟩:=r1.fr j a ha
   rw[ho]
   exact gw.kp a o (λq=>z (r1.dj j i a ha (by rw[e1];exact q))) ho
 ·obtain ⟨h1,⟨o,h2⟩,h3⟩:=r1.fr j a ha
  by_cases z:a∈p::fp
  ·exact ⟨gn a z,lv a z,h3⟩
  ·refine ⟨?_,⟨o,gw.kp a o z h2⟩,h3⟩
   cases hg:G2 a with
   | none=>rfl
   | some o' =>
    rcases gw.fr a o' hg with h | h
    ·rw[h1] at h;cases h
    ·rw[h2] at h;cases h
 ·by_cases z:j=i
  ·subst z
   rw[getElem?_set_self hlt] at h
   exact absurd (Option.some.inj h) (D.no _ _ _ _)
  ·rw[getElem?_set_ne (Ne.symm z)] at h
   exact r1.ow j ds' a h ha
def spT (D:TF K S)(Pre:S->List PyData->Prop)(R:S->List PyData->PyData->S->Prop):Sp:=λvs H Q _=>∃ (p:Addr) (fp:List Addr) (us:List V) (G:Hp) (s:S) (ds:List PyData),vs = .ref p::us/\ZS G H/\(∀ a∈p::fp,G a=none)/\(∀ a∈p::fp,∃ o,H a=some o)/\D.I s p fp G H/\Yr K G us ds/\Pre s ds/\
 ∀ v x s' G' H',R s ds x s' -> Gw (· ∈ p::fp) G H G' H' -> (∀ a∈p::fp,G' a=none)->(∀ a∈p::fp,∃ o,H' a=some o)->D.I s' p fp G' H' -> Dat K G' v x->Q v H'
theorem zeL {us:List V}{N:List Str}(sb:ZS B G)(gh:ZS G H)(hI:D.I s p fp G H)(gn:∀ a∈p::fp,G a=none)(lv:∀ a∈p::fp,∃ o,H a=some o)(hv:Yr K G us ds):Rl K B (· ∈ p::fp) G H G H (start N (.ref p::us)) (Wc N (D.pv s p fp::ds.map .dat)) (λk=>if k=0 then p::fp else []):=by
 refine zjp sb gh ?_ rfl rfl hI gn lv λi v hi0 h=>?_
 ·unfold start Wc
  rw[length_append,length_append,length_map,length_cons,length_cons,length_map,length_replicate,length_replicate,hv.length]
 ·cases i with
  | zero=>exact absurd rfl hi0
  | succ i=>
   have h:(ds.map PV.dat++List.replicate (N.length-(ds.map PV.dat).length.succ) PV.un)[i]?=some v:=h
   show Sl K G H ((us.map some++List.replicate (N.length-us.length.succ) none)[i]?) v []/\_
   by_cases hi:i<ds.length
   ·rw[getElem?_append_left (by rw[length_map];exact hi),getElem?_map,List.getElem?_eq_getElem hi] at h
    cases h
    obtain ⟨x,hx,hxd⟩:=hv.get (List.getElem?_eq_getElem hi)
    exact ⟨⟨rfl,x,by rw[getElem?_append_left (by rw[length_map,hv.length];exact hi),getElem?_map,hx];rfl,hxd⟩,λ_=>nofun⟩
   ·rw[getElem?_append_right (by rw[length_map];omega)] at h
    have:=mem_of_getElem? h
    rw[(mem_replicate.mp this).2]
    exact ⟨rfl,λ_=>nofun⟩
variable {P:Program}{w:World}{mg:Str->Option Value}{base:Heap}
theorem Fun.okT {x qual:Str}{st:Stmt}{f:Addr}{fd:FuncData}{N ps:List Str}{k:Nat}{Pre:S->List PyData->Prop}{R:S->List PyData->PyData->S->Prop}(Fn:Fun K x qual st f fd)(S' : Ys N ps (Zn st))(len:∀ s ds,Pre s ds->ds.length+1=ps.length)
  (hb:∀ (cdv:Value) (A:Around) (outer:List Env) (s:Shared) (H:Hp) (E:XK),Vu k (A.deeper (envOfC qual (Zn st) s.heap.objs.size f cdv))->∀ p fp t0 ds,Pre t0 ds->
   ∃ t,PSs (zdX CX0 P w K mg base N qual (Zn st) f cdv A outer s H E).nox (YT st) t/\Sv K B0 t (Wc N (D.pv t0 p fp::ds.map .dat)) { nx:=fun ρ' => ∃ t1,R t0 ds .none t1/\ρ'[0]?=some (D.pv t1 p fp),rt:=λr ρ' => ∃ d t1,r = .dat d/\R t0 ds d t1/\ρ'[0]?=some (D.pv t1 p fp) }):Ql P w K mg base CX0 (k+1) f fd ps (spT D Pre R):=by
 refine Fn.ok S' (λvs H Q E h=>?_) λcdv A outer s H vs Q E hr h=>?_
 ·obtain ⟨p,fp,us,G,t0,ds,rfl,_,_,_,_,hv,hP,_⟩:=h
  rw[length_cons,hv.length];exact len t0 ds hP
 ·obtain ⟨p,fp,us,G,t0,ds,rfl,sg,gn,lv,hI,hv,hP,kk⟩:=h
  obtain ⟨t,ht,hs⟩:=hb cdv A outer s H E hr p fp t0 ds hP
  refine ⟨t,ht,hs _ _ _ _ _ _ _ _ (zeL b0 sg hI gn lv hv) ⟨λe _ r=>?_,λe _ r sl n=>?_,λe=>e.elim,λe=>e.elim⟩⟩
  ·obtain ⟨t1,hR,h0⟩:=e
   obtain ⟨e1,_,hI'⟩:=D.sl.mp (r.sl 0 _ h0)
   exact kk _ _ t1 _ _ hR r.g (λa ha=>(r.fr 0 a (by rw[e1];exact ha)).1) (λa ha=>(r.fr 0 a (by rw[e1];exact ha)).2.1) hI' Qg
  ·obtain ⟨d,t1,rfl,hR,h0⟩:=e
   obtain ⟨e1,_,hI'⟩:=D.sl.mp (r.sl 0 _ h0)
   obtain ⟨_,y,hy,hd⟩:=sl
   cases hy
   exact kk _ _ t1 _ _ hR r.g (λa ha=>(r.fr 0 a (by rw[e1];exact ha)).1) (λa ha=>(r.fr 0 a (by rw[e1];exact ha)).2.1) hI' hd
theorem XH {Pre:S->List PyData->Prop}{Rf:S->List PyData->PyData->S->Prop}{X:XK}{i:Nat}{t:TA}{R:PV->List PV->Prop}(hi:ρ[i]?=some (D.pv s p fp))
  (h:EgA K B t ρ λds ρ1=>∃ s1,ρ1[i]?=some (D.pv s1 p fp)/\Pre s1 ds/\∀ x s2,Rf s1 ds x s2->R (.dat x) (ρ1.set i (D.pv s2 p fp))):Eg K B (za9 (spT D Pre Rf) [] X (Xc (WL i) t)) ρ R:=λE G0 H0 G H σ F r Q q=>by
 obtain ⟨_,hx,_⟩:=D.sl.mp (r.sl i _ hi)
 refine ⟨_,hx,h E G0 H0 G H σ F r _ λvs ds ρ1 G1 H1 F1 hh s1 r1 hv=>?_⟩
 obtain ⟨t1,hi1,hP,hk⟩:=hh
 obtain ⟨e1,_,hI⟩:=D.sl.mp (r1.sl i _ hi1)
 rw[append_nil]
 refine ⟨p,fp,vs,G1,t1,ds,rfl,r1.g.gh,λa ha=>(r1.fr i a (by rw[e1];exact ha)).1,λa ha=>(r1.fr i a (by rw[e1];exact ha)).2.1,hI,hv,hP,λv x t2 G2 H2 hR gw gn lv hI2 hd=>?_⟩
 exact q v _ _ G2 H2 F1 [] (hk x t2 hR) (s1.trans gw.gg) (r1.zjy hi1 gw gn lv hI2) ⟨rfl,v,rfl,hd⟩ JT
theorem zgc {t:TA}{R:PV->List PV->Prop}(h:EgA K B t ρ λds ρ' => ds.length<=sizeLine/\R (.dat (.list ds)) ρ'):Eg K B (zir t) ρ R:=λE G0 H0 G H σ F r Q q=>
 h E G0 H0 G H σ F r _ λvs ds ρ1 G1 H1 F1 hR s1 r1 hv=>⟨by rw[hv.length];exact hR.1,λp hp=>by
  have g:=Yl (o:=.lst vs) r1.g.gh hp
  exact q _ _ ρ1 _ _ F1 [] hR.2 (s1.trans g.gg) (r1.grow g) ⟨rfl,_,rfl,YZ Zz (hv.same g.gg)⟩ JT⟩
theorem zii {r:List V->Hp->VK->Prop}{R:PV->List PV->Prop}(h:Eg K B te ρ λx ρ1=>∃ a c,x = .dat a/\(∀ G σ va,Dat K G va a->Ev K (tCB r (Xc (tC va) QT)) σ G c)/\R (.dat c) ρ1):Eg K B (tCB r (Xc te QT)) ρ R:=λE G0 H0 G H σ F r Q q=>
 h E G0 H0 G H σ F r _ λv w ρ1 G1 H1 F1 L hw s1 r1 sl n=>by
  obtain ⟨a,c,rfl,hop,hR⟩:=hw
  obtain ⟨_,y,hy,hd⟩:=sl
  cases hy
  exact hop G1 σ v hd G1 H1 (ZS.refl _) r1.g.gh Q λv3 G3 H3 g3 hv3=>q v3 _ ρ1 G3 H3 F1 [] hR (s1.trans g3.gg) (r1.grow g3) ⟨rfl,v3,rfl,hv3⟩ JT
def EgI (K:PySem.W.Frag)(B:Hp)(wi:TI)(ρ:List PV)(R:List PyData->List PV->Prop):Prop:=∀ E G0 H0 G H σ F,Rl K B E G0 H0 G H σ ρ F->∀ Q:It->Hp->Prop,
 (∀ J ds ρ' G' H' F',R ds ρ' -> ZS G G' -> Rl K B E G0 H0 G' H' σ ρ' F' -> Wd K J G' ds->Q J H')->wi σ H Q
theorem zha {t:TA}{R:List PyData->List PV->Prop}(h:EgA K B t ρ λds ρ' => ∃ n:Nat,ds=[.int (n:Nat)]/\n<2 ^ 60/\R ((List.range n).map λ(i:Nat)=>PyData.int (i:Nat)) ρ'):EgI K B (zcM t) ρ R:=λE G0 H0 G H σ F r Q q=>
 h E G0 H0 G H σ F r _ λvs ds ρ1 G1 H1 F1 hR s1 r1 hv=>by
  obtain ⟨n,rfl,hn,hR⟩:=hR
  obtain ⟨y,ys,rfl,hy,hr⟩:=hv.cons
  rw[hr.nil,hy.int]
  have e:(List.range n).map (λ(i:Nat)=>PyData.int (0+i))=(List.range n).map λ(i:Nat)=>PyData.int (i:Nat):=map_congr_left λi _=>by congr 1;omega
  refine ⟨n,rfl,by omega,by omega,q _ _ ρ1 G1 H1 F1 hR s1 r1 ?_⟩
  rw[toNat_natCast,← e]
  exact zbp
theorem zgg {wi:TI}{g:TG}{tb:TS}{R:Pn}(h:EgI K B wi ρ λds ρ1=>∃ Iv:Nat->List PV->Prop,Iv 0 ρ1/\
   (∀ (i:Nat) (hi:i<ds.length) ρ',Iv i ρ' -> Gt K B g ds[i] ρ' fun ρ2=>Sv K B tb ρ2 { nx:=Iv (i+1),ct:=Iv (i+1),bk:=R.nx,rt:=R.rt })/\∀ ρ',Iv ds.length ρ' -> R.nx ρ'):Sv K B (zj1 wi g tb) ρ R:=λE G0 H0 G H σ F D r dn=>by
 refine h E G0 H0 G H σ F r _ λJ ds ρ1 G1 H1 F1 hI s1 r1 W=>?_
 obtain ⟨Iv,h0,hs,hd⟩:=hI
 refine ⟨λi m σ' H' => m=ds.length-i/\i<=ds.length/\∃ ρ' G' F',Iv i ρ' /\ Rl K B E G0 H0 G' H' σ' ρ' F' /\ ZS G1 G',⟨ds.length,by omega,by omega,ρ1,G1,F1,h0,r1,ZS.refl _⟩,?_⟩
 rintro i m σ' H' ⟨rfl,hi,ρ',G',F',hI,r',s'⟩
 by_cases hin:i=ds.length
 ·subst hin
  exact .inl ⟨W.stop _ H' (s'.trans r'.g.gh) rfl,dn.nx (hd ρ' hI) (s1.trans s') r'⟩
 ·have hi' : i<ds.length:=by omega
  refine .inr ⟨W.go i H' (s'.trans r'.g.gh) hi',fun σ2 H2=>∃ ρ2 G2 F2,Iv (i+1) ρ2/\Rl K B E G0 H0 G2 H2 σ2 ρ2 F2/\ZS G1 G2,fun σ2 H2 ⟨ρ2,G2,F2,q⟩=>⟨ds.length-(i+1),by omega,rfl,by omega,ρ2,G2,F2,q⟩,λx H'' hy=>?_⟩
  obtain ⟨G3,g3,hx⟩:=W.yld i H' x H'' G' ds[i] s' r'.g.gh (List.getElem?_eq_getElem hi') hy
  have r3:=r'.grow g3
  have s3:ZS G1 G3:=s'.trans g3.gg
  refine hs i hi' ρ' hI E G0 H0 G3 H'' σ' F' x _ r3 hx fun σ4 ρ4 G4 H4 F4 hP s4 r4=>?_
  have s14:=s3.trans s4
  refine hP E G0 H0 G4 H4 σ4 F4 _ r4 ⟨λhI2 s5 r5=>⟨_,_,_,hI2,r5,s14.trans s5⟩,λhR s5 r5 sl n=>dn.rt hR (s1.trans (s14.trans s5)) r5 sl n,λhR s5 r5=>dn.nx hR (s1.trans (s14.trans s5)) r5,λhI2 s5 r5=>⟨_,_,_,hI2,r5,s14.trans s5⟩⟩
end
theorem zhC {K:PySem.W.Frag}{B:Hp}{ρ:List PV}{i j:Nat}{t:TA}{a b:PyData}{R:Pn}(h:Ea K B t (msk ρ) [a,b])(k:R.nx ((ρ.set i (.dat a)).set j (.dat b))):Sv K B (zkk i j t) ρ R:=λE G0 H0 G H σ F D r dn=>h G σ r.rx G H (ZS.refl _) r.g.gh _ λvs G1 H1 g hv=>by
 obtain ⟨x,xs,rfl,hx,hv⟩:=hv.cons
 obtain ⟨y,ys,rfl,hy,hv⟩:=hv.cons
 cases hv.nil
 have r1:=r.grow g
 exact ⟨x,y,rfl,dn.nx k g.gg ((r1.zd2 hx).zd2 hy)⟩
theorem zh6 {K:PySem.W.Frag}{B:Hp}{ρ:List PV}{i j r:Int}(h:zhe i j)(e:i ^ j.toNat=r):Er K B (tOp (rI zhe λi j=>.int (i ^ j.toNat)) (tC (.int i)) (tC (.int j))) ρ (.int r):=YQ Zi Zi h λ_=>e ▸ Zk _
theorem zcv {K:PySem.W.Frag}{B:Hp}{ρ:List PV}{t:TA}{b:Bool}(h:Ea K B t ρ [.bool b]):Er K B (tCB (λxs H Q=>(∃ i,xs=[.int i]/\Q (.int i) H)\/∃ k,xs=[.bl k]/\Q (.int (if k then 1 else 0)) H) t) ρ (.int (if b then 1 else 0)):=λG σ r=>zfQ (h G σ r)
theorem JF {K:PySem.W.Frag}{B:Hp}{ρ:List PV}{t u:TS}{R:Pn}(N:List PV->Prop)(h:Sv K B t ρ { R with nx:=N })(k:∀ ρ',N ρ' -> Sv K B u ρ' R):Sv K B (zjW t u) ρ R:=Zj (ziI h (fun ρ hn=>k ρ hn) (λ_ _ h=>h) (λ_ h=>h) (λ_ h=>h))
theorem zfK {X:Cx}{K:PySem.W.Frag}(eK:X.K=K){tg l:Expr}{tl:TE}(hl:PE X l tl):PI X tg l (zja K tl):=by
 subst eK
 exact zbF hl
section
variable {K:PySem.W.Frag}{B:Hp}{ρ:List PV}{σ:St}{G H:Hp}{te:TE}{a b:PyData}
theorem zge {x y:V}{js:List Nat}(r:Rx K B G σ ρ)(hx:Dat K G x a)(hy:Dat K G y b):Rx K B G (some x::some y::Jw σ js) (.dat a :: .dat b::zbO ρ js):=by
 have r1:=zfm (js:=js) r hy
 refine ⟨r1.1,λk e h=>?_,λk u e h hu=>?_,λk T h=>?_,λk ns h=>?_,λk z h=>?_⟩
 ·cases k with
  | zero=>cases h;exact ⟨x,rfl,hx⟩
  | succ k=>exact r1.2.1 k e h
 ·cases k with
  | zero=>cases h;cases hu
  | succ k=>exact r1.2.2.1 k u e h hu
 ·cases k with
  | zero=>cases h
  | succ k=>exact r1.2.2.2.1 k T h
 ·cases k with
  | zero=>cases h
  | succ k=>exact r1.2.2.2.2.1 k ns h
 ·cases k with
  | zero=>cases h
  | succ k=>exact r1.2.2.2.2.2 k z h
theorem zdU {α:Type}{wi:TI}{js:List Nat}{tt:TT}(as:List α)(ea eb:α->PyData)(f:α->Option PyData)(h:Ei K B wi ρ (as.map λa=>.tuple [ea a,eb a]))(hn:as.length<sizeLine)(hc:∀ a∈as,Lcx K B tt te (.dat (ea a) :: .dat (eb a)::zbO ρ js) (f a))
  (r:Rx K B G σ ρ) (s:ZS G H) {Q:VK}(k:∀ p xs G' H',Xq G H G' H' -> H' p=none->Yr K G' xs (as.filterMap f)->Q (.ref p) (upd H' p (.lst xs))):zhp K wi js tt te σ H Q:=by
 refine h G H σ r s _ λJ G2 H2 g2 W=>?_
 have fl:∀ i (hi:i<as.length),((as.take (i+1)).filterMap f)=(as.take i).filterMap f++(f as[i]).toList:=λi hi=>by
  rw[List.take_succ,List.filterMap_append,List.getElem?_eq_getElem hi]
  show _++List.filterMap f [as[i]]=_
  rw[filterMap_cons]
  cases f as[i] <;> rfl
 refine ⟨λi m ys H' => m=as.length-i/\i<=as.length/\ys.length<=i/\∃ G',Xq G2 H2 G' H' /\ Yr K G' ys ((as.take i).filterMap f),⟨as.length,by omega,by omega,by simp,G2,Xq.refl g2.gh,by simpa using Yq⟩,?_⟩
 rintro i m ys H' ⟨rfl,hi,hl,G',g',hys⟩
 refine ⟨by omega,?_⟩
 have sgh:ZS G2 H' := g'.gg.trans g'.gh
 by_cases hin:i=as.length
 ·subst hin
  refine .inl ⟨W.stop _ H' sgh (by rw[length_map]),λp hp=>?_⟩
  rw[take_length] at hys
  exact k p ys G' H' (g2.trans g') hp hys
 ·have hi' : i<as.length:=by omega
  refine .inr ⟨W.go i H' sgh (by rw[length_map];exact hi'),λx H'' hy=>?_⟩
  obtain ⟨G3,g3,hx⟩:=W.yld i H' x H'' G' (.tuple [ea as[i],eb as[i]]) g'.gg g'.gh (by rw[getElem?_map,List.getElem?_eq_getElem hi'];rfl) hy
  obtain ⟨p,xs,rfl,hp,hx⟩:=hx.tup
  obtain ⟨y,r1,rfl,hy1,hx⟩:=hx.cons
  obtain ⟨z,r2,rfl,hz1,hx⟩:=hx.cons
  cases hx.nil
  have rx:=zge (js:=js) ((r.mono (g2.gg.trans g'.gg)).mono g3.gg) hy1 hz1
  refine ⟨p,y,z,rfl,g3.gh.tup hp,?_⟩
  rcases hc as[i] (getElem_mem hi') with ⟨d,hf,ht,he⟩ | ⟨hf,ht⟩
  ·refine ht _ _ rx G3 H'' (ZS.refl _) g3.gh _ λG4 H4 g4=>?_
   rw[if_pos rfl]
   refine he _ _ (rx.mono g4.gg) G4 H4 (ZS.refl _) g4.gh _ λv G5 H5 g5 hv=>⟨as.length-(i+1),by omega,rfl,by omega,by rw[length_append];show ys.length+1<=i+1;omega,G5,((g'.trans g3).trans g4).trans g5,?_⟩
   rw[fl i hi',hf]
   exact Qc (hys.same ((g3.gg.trans g4.gg).trans g5.gg)) hv
  ·refine ht _ _ rx G3 H'' (ZS.refl _) g3.gh _ λG4 H4 g4=>?_
   rw[if_neg Bool.false_ne_true]
   refine ⟨as.length-(i+1),by omega,rfl,by omega,by omega,G4,(g'.trans g3).trans g4,?_⟩
   rw[fl i hi',hf]
   show Yr K G4 ys (_++[])
   rw[append_nil]
   exact hys.same (g3.gg.trans g4.gg)
theorem Q9 {α:Type}{wi:TI}{js:List Nat}{tt:TT}(as:List α)(ea eb:α->PyData)(f:α->Option PyData)(h:Ei K B wi ρ (as.map λa=>.tuple [ea a,eb a]))(hn:as.length<sizeLine)(hc:∀ a∈as,Lcx K B tt te (.dat (ea a) :: .dat (eb a)::zbO ρ js) (f a)):Er K B (zhp K wi js tt te) ρ (.list (as.filterMap f)):=λG σ r G1 H s1 s2 Q k=>
 zdU as ea eb f h hn hc (r.mono s1) s2 λp xs G' H' g hp hd=>by
  have g3:=Yl (o:=.lst xs) g.gh hp
  exact k _ _ _ (g.trans g3) (YZ Zz (hd.same g3.gg))
end
structure Xo (fr sc:Scope)(x:Str)(cap:List Str):Prop where
 kind:sc.kind = .function
 one:∀ a cl,cellsFrom a sc.names cl=(x,a)::cl
 push:∀ h,pushCells h sc.names=h.push { cls:=.type "cell",data:=.cell none }
 cell:∀ p∈sc.names,p.2 = .cell->p.1=x
 names:∀ p∈sc.names,p.2 = .local->sc.names.lookup p.1=some .local
 tgt:sc.names.lookup x=some .cell
 free:∀ p∈sc.names,p.2 = .free->fr.names.lookup p.1=some .cell
 caps:∀ y∈cap,(y,NameKind.free)∈sc.names
 nd:(x::cap).Nodup
 noboth:∀ y∈cap,sc.names.lookup y≠some .local
noncomputable def clx (X:Cx) (sc:Scope) (x:Str) (Ce:Addr):List (Str×Addr):=(x,Ce)::UJ X.env sc.names []
theorem WY {X:Cx}{sc:Scope}{x y:Str}{Ce c:Addr}(h:(clx X sc x Ce).lookup y=some c):(y=x/\c=Ce)\/(y≠x/\(UJ X.env sc.names []).lookup y=some c):=by
 unfold clx at h
 rw[lookup_cons] at h
 cases e:y==x with
 | true=>
  rw[e] at h
  have e' : y=x:=by simpa using e
  exact .inl ⟨e',(Option.some.inj h).symm⟩
 | false=>
  rw[e] at h
  have e' : y≠x:=by simpa using e
  exact .inr ⟨e',h⟩
theorem ze7 {X:Cx}{sc:Scope}{x y:Str}{Ce:Addr}(h:y≠x):(clx X sc x Ce).lookup y=(UJ X.env sc.names []).lookup y:=by
 unfold clx
 rw[lookup_cons]
 have e:(y==x)=false:=by simpa using h
 rw[e]
theorem zeI {X:Cx}{sc:Scope}{x:Str}{Ce:Addr}:(clx X sc x Ce).lookup x=some Ce:=by unfold clx;rw[lookup_cons];simp
theorem UV {sc:Scope}{env:Env}{x:Str}(h:sc.names.lookup x=some .cell):(relabel sc env).names.lookup x=some .cell:=by
 unfold relabel
 show (sc.names.map λ(n,k)=>if (k==NameKind.free&&env.scope.kind == .function&&env.kindOf n==some .cell) then (n,NameKind.cell) else (n,k)).lookup x=some .cell
 generalize sc.names=l at h
 induction l with
 | nil=>cases h
 | cons p r ih=>
  obtain ⟨n,k⟩:=p
  rw[lookup_cons] at h
  rw[map_cons]
  cases e:x==n with
  | true=>
   rw[e] at h
   have hk:k = .cell:=Option.some.inj h
   subst hk
   have z:(NameKind.cell==NameKind.free&&env.scope.kind == .function&&env.kindOf n==some .cell)=false:=by
    have:(NameKind.cell==NameKind.free)=false:=by decide
    rw[this];rfl
   simp only[z,false_eq_true,if_false,lookup_cons,e]
  | false=>
   rw[e] at h
   by_cases hc:(k==NameKind.free&&env.scope.kind == .function&&env.kindOf n==some .cell)=true
   ·simp only[hc,if_true,lookup_cons,e];exact ih h
   ·simp only[hc,false_eq_true,if_false,lookup_cons,e];exact ih h
abbrev YS (X:Cx)(scope:Scope)(x:Str)(Nc:List Str)(C Ce:Addr)(s0:Shared)(H0:Hp)(ex:List Addr):Cx:=
 { X with N:=Nc,s₀:=s0,H₀:=H0,env:=compEnvC scope (clx X scope x Ce) C X.env,outer:=X.stack,ex:=ex,fn:=λy=>y==x,pn:=[],xe:=λ_ _=>False }
section
variable {M:Model}{A:Around}{E:Value->Shared->Prop}{s:Shared}
theorem zf1 {scope:Scope}{globals:Addr}{closure:List (Str×Addr)}{qual:Str}{env:Env}{x:Str}{Q:Env->Shared->Prop}(h1:∀ a cl,cellsFrom a scope.names cl=(x,a)::cl)(h2:∀ h,pushCells h scope.names=h.push { cls:=.type "cell",data:=.cell none })
  (q:Q { scope,locals:=s.heap.objs.size,globals,cells:=(x,s.heap.objs.size+1)::closure,qual,func:=none,code:=env.code,frame:=env.frame,builtins:=env.builtins } { s with heap:=(s.heap.push { cls:=.type "dict",data:=.dict #[] }).push { cls:=.type "cell",data:=.cell none } }):
  wpAny M A (newFunctionEnv scope globals closure [] qual none .none (some env)) Q E s:=by
 simp only[newFunctionEnv,Option.isSome_some,if_true]
 refine wpAny_bind (wpAny_alloc ?_)
 refine wpAny_bind (wpAny_layCells _ (λname kind cells=>by cases hkc:kind==NameKind.cell <;> simp[hkc]) _ _ _ _ ?_)
 rw[h1,h2]
 have z:(s.heap.push { cls:=.type "dict",data:=.dict #[] }).objs.size=s.heap.objs.size+1:=size_push ..
 show wpAny _ _ _ _ _ _
 simp only[forIn_nil]
 refine wpAny_bind (wpAny_pure (wpAny_pure ?_))
 rw[z]
 exact q
end
section
variable {X:Cx}{pins:List (Addr×Obj)}{σ:St}{H:Hp}{s:Shared}{sc:Scope}{x:Str}{cap:List Str}
theorem Xo.cells (S:Xo X.env.scope sc x cap)(ok:X.Ok):∀ p∈sc.names,p.2 = .free->∃ c,X.env.cells.lookup p.1=some c:=
 λp hp e=>ok.has p.1 (.inl (S.free p hp e))
theorem Xo.sub (S:Xo X.env.scope sc x cap)(ok:X.Ok){y:Str}{c:Addr}(h:(UJ X.env sc.names []).lookup y=some c):X.env.cells.lookup y=some c:=
 Ui (S.cells ok) (λ_ _ z=>by simp at z) h
theorem zcJ (S:Xo X.env.scope sc x cap){js:List Nat}(hjs:js.map (λj=>X.N[j]?)=cap.map some)(I:Inv X pins σ H s){fp:List Addr}(hf:∀ b∈fp,zaJ X pins H b)(hlt:∀ b∈fp,b<s.heap.objs.size)
  {h1:Heap}{tk:Nat}{D C Ce:Addr}{oD:Obj}{m:Str->Option Value}(hD:D=s.heap.objs.size) (hC:C=s.heap.objs.size+1) (hCe:Ce=s.heap.objs.size+2) (keep:∀ b o,s.heap.get? b=some o->h1.get? b=some o) (hoD:h1.get? D=some oD) (hnc:∀ v,oD.data≠.cell v) (hns:h1.Ns C m) (hcl:h1.IsCell Ce none):
  Inv (YS X sc x (x::cap) C Ce s H fp) [(D,oD)] (none::Jw σ js) H { s with heap:=h1,toks:=tk }:=by
 subst hD hC hCe
 have ltc:∀ {y:Str}{c:Addr},(UJ X.env sc.names []).lookup y=some c->c<s.heap.objs.size:=λe=>by
  obtain ⟨v,o,ho,_⟩:=I.cell _ _ (S.sub I.ok e)
  exact lt_size ho
 have lenJ:js.length=cap.length:=by have:=congrArg List.length hjs;simpa using this
 have ok:=I.ok
 refine ⟨⟨ok.mod,S.kind,ok.glob,ok.blt,?_,λy z c h1 h2=>?inj,λy hy=>?_,(λy c h e=>?cab),ok.hd,ok.frames,.inl rfl,λb hb=>⟨?_,λy c e=>?exf⟩,I.bs,Nat.le_trans ok.bsz I.sz,λb o e hb=>?_,λb hb hb' => ?_,I.stack,I.zaP⟩,
  rfl,I.bare,Un.kept keep,⟨m,hns,λi y v e1 e2 e3=>?_⟩,λy c e=>?_,I.hok.fresh (le_succ _),λy c e=>?frc,λp hp=>?_,I.hok.kept keep,?_⟩
 case inj=>
  rcases WY h1 with ⟨rfl,rfl⟩ | ⟨n1,h1'⟩ <;> rcases WY h2 with ⟨rfl,e⟩ | ⟨n2,h2'⟩
  ·rfl
  ·have:=ltc h2'
   exact absurd this (by show ¬ (s.heap.objs.size+2<s.heap.objs.size);omega)
  ·subst e
   have:=ltc h1'
   exact absurd this (by show ¬ (s.heap.objs.size+2<s.heap.objs.size);omega)
  ·exact ok.inj y z c (S.sub ok h1') (S.sub ok h2')
 case cab=>
  have hy:y=x:=by simpa using h
  subst hy
  rcases WY e with ⟨_,rfl⟩ | ⟨n,_⟩
  ·exact le_add_right _ _
  ·exact absurd rfl n
 case exf=>
  rcases WY e with ⟨_,rfl⟩ | ⟨_,e'⟩
  ·exact zjv (Nat.lt_of_lt_of_le (hlt b hb) (le_add_right _ _))
  ·exact (hf b hb).2.2.2.2.1 y c (S.sub ok e')
 case frc=>
  rcases WY e with ⟨_,rfl⟩ | ⟨_,e'⟩
  ·exact I.hok.fresh (le_add_right _ _)
  ·exact I.freeC y c (S.sub ok e')
 ·exact le_succ _
 ·have hy' : ∃ k,(y,k)∈(relabel sc X.env).names/\(k = .cell\/k = .free):=by
   rcases hy with hy | hy
   ·exact ⟨_,PySem.mem_of_lookup hy,.inl rfl⟩
   ·exact ⟨_,PySem.mem_of_lookup hy,.inr rfl⟩
  obtain ⟨k,hm,hk⟩:=hy'
  obtain ⟨k',hm',hk'⟩:=WX hm
  by_cases hyx:y=x
  ·subst hyx;exact ⟨_,zeI⟩
  ·have hfree:k' = .free:=by
    rcases hk' with e | ⟨e,_⟩
    ·subst e
     rcases hk with e | e
     ·exact absurd (S.cell _ hm' e) hyx
     ·exact e
    ·exact e
   subst hfree
   show ∃ c,(clx X sc x _).lookup y=some c
   rw[ze7 hyx]
   exact isSome_iff_exists.mp (Qd hm')
 ·exact zaD (lt_succ_of_lt (hlt b hb))
 ·obtain ⟨_,_,_,z,_⟩:=hf b hb
  rcases z with z | z
  ·exact ok.noex b o e z
  ·have:=lt_size (ok.bs b o e).1
   exact absurd (Nat.lt_of_lt_of_le this z) (lt_irrefl _)
 ·obtain ⟨_,z1,z2,_⟩:=hf b hb
  rcases mem_cons.mp (I.zbg b hb') with z | z
  ·exact z1 z
  ·exact z2 z
 ·cases i with
  | zero=>
   have e2' : (none:Option V)=some v:=by simpa using e2
   cases e2'
  | succ i=>
   have e1' : cap[i]?=some y:=by simpa using e1
   have e2' : (Jw σ js)[i]?=some (some v):=by simpa using e2
   have hy:y∈cap:=mem_of_getElem? e1'
   unfold Jw at e2'
   rw[getElem?_map] at e2'
   cases ej:js[i]? with
   | none=>rw[ej] at e2';cases e2'
   | some j=>
    rw[ej] at e2'
    have e2'' : (σ[j]?).join=some v:=Option.some.inj e2'
    have eN:X.N[j]?=some y:=by
     have:=congrArg (λl=>l[i]?) hjs
     simp only[getElem?_map,ej,e1',map_some] at this
     exact Option.some.inj this
    have eσ:σ[j]?=some (some v):=by
     cases q:σ[j]? with
     | none=>rw[q] at e2'';cases e2''
     | some w' =>
      rw[q] at e2''
      have:w'=some v:=by simpa using e2''
      rw[this]
    have kc:X.env.scope.names.lookup y=some .cell:=S.free (y,.free) (S.caps y hy) rfl
    obtain ⟨m0,hn0,hl0⟩:=I.loc
    obtain ⟨u,ru,lk⟩:=hl0 j y v eN eσ (.inr (.inl kc))
    refine ⟨u,ru,?_⟩
    rcases lk with ⟨k,_⟩ | ⟨_,c,ec,hc⟩
    ·have k' : X.env.scope.names.lookup y=some .local:=k
     rw[kc] at k';cases k'
    ·obtain ⟨c',hc'⟩:=isSome_iff_exists.mp (Qd (env:=X.env) (acc:=[]) (S.caps y hy))
     have hcc:c'=c:=Option.some.inj ((S.sub ok hc').symm.trans ec)
     subst hcc
     have hyx:y≠x:=λz=>by subst z;exact (nodup_cons.mp S.nd).1 hy
     refine .inr ⟨?_,c',(ze7 hyx).trans hc',?_⟩
     ·rcases e3 with e3 | e3 | e3
      ·exfalso
       have hm:=PySem.mem_of_lookup e3
       obtain ⟨k',hm',hk'⟩:=WX hm
       rcases hk' with e | ⟨_,e⟩
       ·subst e
        exact S.noboth y hy (S.names _ hm' rfl)
       ·cases e
      ·exact .inl e3
      ·exact .inr e3
     ·obtain ⟨o,ho,hd⟩:=hc
      exact ⟨o,keep _ o ho,hd⟩
 ·rcases WY e with ⟨_,rfl⟩ | ⟨_,e'⟩
  ·exact ⟨_,hcl⟩
  ·obtain ⟨v,o,ho,hd⟩:=I.cell y c (S.sub ok e')
   exact ⟨v,o,keep _ o ho,hd⟩
 ·have hp' : p=(s.heap.objs.size,oD):=by simpa using hp
  subst hp'
  refine ⟨hoD,I.hok.fresh (Nat.le_refl _),zaD (lt_succ_self _),λhb=>?_,hnc⟩
  obtain ⟨_,o,ho,_⟩:=I.stack.mem hb
  exact lt_irrefl _ (lt_size ho)
 ·show (none::Jw σ js).length=(x::cap).length
  unfold Jw
  simp[lenJ]
theorem zdr (S:Xo X.env.scope sc x cap)(I:Inv X pins σ H s){fp:List Addr}(hf:∀ b∈fp,zaJ X pins H b){D C Ce:Addr}{pn' : List (Addr×Obj)}{σ' : St}{H' : Hp}{s' : Shared}{ys:List V}{its:List Value}{k:Nat}{h' : Heap}
  (hD:D=s.heap.objs.size) (hC:C=s.heap.objs.size+1) (J:Inv (YS X sc x (x::cap) C Ce s H fp) pn' σ' H' s') (hnD:H' D=none) (hoD:s'.heap.get? D=some { cls:=.type "list",data:=.seq its.toArray k }) (rv:Vals ys its) (hz:ys.length<=sizeLine)
  (hs:SameBut C s'.heap h'):Inv X pins σ (upd H' D (.lst ys)) { s' with heap:=h' }:=by
 subst hD hC
 have base:Un (frs X.stack) fp H H' s.heap s'.heap:=J.base
 have hnC:H' (s.heap.objs.size+1)=none:=J.free
 have neC:∀ {b:Addr}{o:Obj},s.heap.get? b=some o->b≠s.heap.objs.size+1:=λe=>zaD (lt_succ_of_lt (lt_size e))
 have neD:∀ {b:Addr}{o:Obj},s.heap.get? b=some o->b≠s.heap.objs.size:=λe=>zaD (lt_size e)
 have neDH:∀ {b:Addr}{o:HO},H b=some o->b≠s.heap.objs.size:=λe=>zaD (I.hok.lt e)
 refine I.call' (s' := { s' with heap:=h' }) (ch:=fp) J.os ⟨λb o e n hb hx=>?_,λb o e n hb hx=>?_,λb o e n hx=>?_,λb o e hx=>?_,λb xs e=>?_,λb o u e=>?_,λb ps e=>?_⟩ (λb u e=>?_) J.bare λb hb=>?_
 ·exact (hs.2 b (neC e)).trans (base.keep b o e n hb hx)
 ·obtain ⟨sl,q⟩:=base.slot b o e n hb hx
  exact ⟨sl,(hs.2 b (neC e)).trans q⟩
 ·rw[ZC (neD e)];exact base.free b o e n hx
 ·obtain ⟨o',q⟩:=base.there b o e hx
  exact ⟨o',(hs.2 b (neC e)).trans q⟩
 ·rw[ZC (neDH e)];exact base.tups b xs e
 ·rw[ZC (neDH e)];exact base.frzs b o u e
 ·rw[ZC (neDH e)];exact base.tbls b ps e
 ·by_cases hb:b=s.heap.objs.size
  ·subst hb
   rw[Zz] at e
   cases e
   exact ⟨hz,its,k,rv,(hs.2 _ (zaD (lt_succ_self _))).trans hoD⟩
  ·rw[ZC hb] at e
   have J' : Xp X.prog X.w H' s'.heap b u:=J.hok b u e
   refine J'.stay (λc v hc q=>(hs.2 c ?_).trans q) (λc q=>?_) (λc xs q=>?_) λc o u q=>?_
   ·rintro rfl
    rcases hc with rfl | hc
    ·rw[hnC] at e;cases e
    ·rw[hnC] at hc;cases hc
   ·rw[ZC (Yj q hnD)];exact q
   ·rw[ZC (Yj q hnD)];exact q
   ·rw[ZC (Yj q hnD)];exact q
 ·obtain ⟨_,z1,_,z3,z4,z5⟩:=hf b hb
  exact ⟨z3,z1,z4,z5⟩
theorem zdv (S:Xo X.env.scope sc x cap){js:List Nat}(hjs:js.map (λj=>X.N[j]?)=cap.map some)(hc:X.calm=true){elt iter:Expr}{ifs:List Expr}{pos px:Pos}{tt:TT}{te:TE}
  (hb:∀ C Ce s0 H0 ex,PIf (YS X sc x (x::cap) C Ce s0 H0 ex) ifs tt/\PE (YS X sc x (x::cap) C Ce s0 H0 ex) elt te)
  (I:Inv X pins σ H s) {J:It}{fp:List Addr}{it:Addr}{tn:Nat->Heap->Prop}(T:Turn X.prog X.w X.K (.Name x px) J fp it tn) (st:tn 0 s.heap) (hf:∀ b∈fp,zaJ X pins H b)
  {Q:VK}{W:Nat->Nat->List V->Hp->Prop}(w0:∃ m,W 0 m [] H) (turn:LCw J js σ tt te Q W) {RR:Value->Addr->Result->Shared->Prop}{E:Value->Shared->Prop}
  (hR:∀ D C Ce s' σ' H' ys its k,D=s.heap.objs.size->C=s.heap.objs.size+1->Inv (YS X sc x (x::cap) C Ce s H fp) [(D,{ cls:=.type "list",data:=.seq its.toArray k })] σ' H' s' -> Vals ys its->ys.length<=sizeLine->(∀ p,H' p=none->Q (.ref p) (upd H' p (.lst ys)))->RR (.ref D) C (.ok .next) s'):
  wpAny (model X.prog X.w) X.A (newList []) (λacc s₃=>wpAny (model X.prog X.w) X.A (newFunctionEnv sc X.env.globals (UJ X.env sc.names []) [] X.env.qual none .none (some X.env)) (λcenv s₄=>
   codeAny (model X.prog X.w) X.A (.compStart (.ListComp elt [⟨.Name x px,iter,ifs,0⟩] sc pos) 0 (.ref it) acc { cenv with scope:=relabel sc X.env }) (RR acc cenv.locals) s₄) E s₃) E s:=by
 refine wpAny_newObj_type (zf1 S.one S.push ?_)
 dsimp only
 have hlt:∀ b∈fp,b<s.heap.objs.size:=λb hb' => by
  obtain ⟨o,e,_⟩:=T.obj 0 _ st b hb'
  exact lt_size e
 have hC0:(s.heap.push { cls:=.type "list",dict:=none,data:=.seq ([]:List Value).toArray }).objs.size=s.heap.objs.size+1:=size_push ..
 rw[hC0]
 have u:∀ {hh:Heap}{o:Obj}{c:Addr}{ob:Obj},hh.get? c=some ob->(hh.push o).get? c=some ob:=λe=>get?_push_of_some _ e
 have hns₁:(((s.heap.push { cls:=.type "list",dict:=none,data:=.seq ([]:List Value).toArray }).push { cls:=.type "dict",data:=.dict #[] }).push { cls:=.type "cell",data:=.cell none }).Ns (s.heap.objs.size+1) (λ_=>none):=by
  have:=Heap.Ns.new (s.heap.push { cls:=.type "list",dict:=none,data:=.seq ([]:List Value).toArray }) (.type "dict")
  rw[hC0] at this
  obtain ⟨o,es,ep,e,r⟩:=this
  exact ⟨o,es,ep,u e,r⟩
 have old:∀ b o,s.heap.get? b=some o->(((s.heap.push { cls:=.type "list",dict:=none,data:=.seq ([]:List Value).toArray }).push { cls:=.type "dict",data:=.dict #[] }).push { cls:=.type "cell",data:=.cell none }).get? b=some o:=λb o e=>u (u (u e))
 have hacc:(((s.heap.push { cls:=.type "list",dict:=none,data:=.seq ([]:List Value).toArray }).push { cls:=.type "dict",data:=.dict #[] }).push { cls:=.type "cell",data:=.cell none }).get? s.heap.objs.size=some { cls:=.type "list",data:=.seq ([]:List Value).toArray }:=u (u (get?_push_size _ rfl))
 have hcl:(((s.heap.push { cls:=.type "list",dict:=none,data:=.seq ([]:List Value).toArray }).push { cls:=.type "dict",data:=.dict #[] }).push { cls:=.type "cell",data:=.cell none }).IsCell (s.heap.objs.size+2) none:=by
  have z:((s.heap.push { cls:=.type "list",dict:=none,data:=.seq ([]:List Value).toArray }).push { cls:=.type "dict",data:=.dict #[] }).objs.size=s.heap.objs.size+2:=by rw[size_push,hC0]
  have:=get?_push_size ((s.heap.push { cls:=.type "list",dict:=none,data:=.seq ([]:List Value).toArray }).push { cls:=.type "dict",data:=.dict #[] }) (o:={ cls:=.type "cell",data:=.cell none }) rfl
  rw[z] at this
  exact ⟨_,this,rfl⟩
 generalize ((s.heap.push { cls:=.type "list",dict:=none,data:=.seq ([]:List Value).toArray }).push { cls:=.type "dict",data:=.dict #[] }).push { cls:=.type "cell",data:=.cell none }=h₁ at hns₁ old hacc hcl ⊢
 have st₁:tn 0 h₁:=T.keep _ _ _ st λb _ o e=>old b o e
 obtain ⟨m0,w0⟩:=w0
 generalize hCe2:s.heap.objs.size+2=Ce at hcl ⊢
 generalize hCe:s.heap.objs.size+1=C at hns₁ ⊢
 generalize hDe:s.heap.objs.size=D at hacc ⊢
 have hDe' := hDe.symm
 have hC' : C=s.heap.objs.size+1:=hCe.symm
 have hCe' : Ce=s.heap.objs.size+2:=hCe2.symm
 have ltD:∀ {b:Addr},b<s.heap.objs.size->b≠D:=λh=>by rw[← hDe];exact zaD h
 have loop:∀ s₃:Shared,s₃={ s with heap:=h₁,toks:=s.toks }->
   codeAny (model X.prog X.w) X.A (.compLoop (.ListComp elt [⟨.Name x px,iter,ifs,0⟩] sc pos) 0 (.ref it) (.ref D) (compEnvC sc (clx X sc x Ce) C X.env)) (RR (.ref D) C) s₃:=by
  rintro s₃ rfl
  have I0:Inv (YS X sc x (x::cap) C Ce s H fp) [(D,{ cls:=.type "list",data:=.seq ([]:List Value).toArray })] (none::Jw σ js) H { s with heap:=h₁,toks:=s.toks }:=
   zcJ S hjs I hf hlt hDe' hC' hCe' old hacc (λv z=>by cases z) hns₁ hcl
  have ndN:(YS X sc x (x::cap) C Ce s H fp).N.Nodup:=S.nd
  have hxl:(YS X sc x (x::cap) C Ce s H fp).env.scope.names.lookup x=some .cell:=UV S.tgt
  have fpD:∀ b∈fp,b≠D:=λb hb' => ltD (hlt b hb')
  refine V4 (λn s' => ∃ i v0 H' ys its k,Inv (YS X sc x (x::cap) C Ce s H fp) [(D,{ cls:=.type "list",data:=.seq its.toArray k })] (v0::Jw σ js) H' s' /\ tn i s'.heap/\(∀ b∈fp,H' b=none)/\Vals ys its/\W i n ys H')
   ?_ m0 ⟨0,none,H,[],[],0,I0,st₁,λb hb' => (hf b hb').1,.nil,w0⟩
  rintro n s3 ⟨i,v0,H3,ys,its,k,I3,st3,fr3,rv,w3⟩
  obtain ⟨hlen,hor⟩:=turn i n ys H3 w3
  have stat:∀ {H' : Hp} {o:Obj},(∀ b∈fp,H' b=none)->∀ b∈fp,zaJ (YS X sc x (x::cap) C Ce s H fp) [(D,o)] H' b:=λ{H' o} hn b hb' =>
   ⟨hn b hb',(I3.ok.exf b hb').1,I3.ok.exfs b hb',.inl hb',(I3.ok.exf b hb').2,λp hp=>by
    have hp' : p=(D,o):=by simpa using hp
    rw[hp']
    exact Ne.symm (fpD b hb')⟩
  rcases hor with ⟨stop,qn⟩ | ⟨go,step⟩
  ·refine thn (T.done (YS X sc x (x::cap) C Ce s H fp) rfl rfl rfl hc i _ s3 _ H3 _ I3 (stat fr3) st3 stop) λr s4 ⟨hr,I4⟩=>?_
   subst hr
   exact hR D C Ce s4 _ H3 ys its k hDe' hC' I4 rv (le_of_lt hlen) qn
  ·refine thn (T.item (YS X sc x (x::cap) C Ce s H fp) rfl rfl rfl hc i _ s3 _ H3 _ I3 (stat fr3) st3 go) λr s4 ⟨u,hr,h4⟩=>?_
   subst hr
   refine thn h4 λ_ s5 ⟨xv,H5,I5,r5,y5,st5,fr5⟩=>?_
   have I5' := I5.pinned (stat fr5) (T.obj _ _ st5)
   have hg:PG (YS X sc x (x::cap) C Ce s H fp) (.Name x px) (Ja 0):=Z8 ndN rfl (.inr hxl) (.inl (by show (x==x)=true;simp))
   refine thn (hg _ s5 _ H5 xv u (fun σ2 H2=>σ2=some xv::Jw σ js/\H2=H5) I5' r5 ⟨rfl,rfl⟩) λ_ s6 ⟨σ6,H6,I6,e6,e6'⟩=>?_
   subst e6 e6'
   refine thn ((hb C Ce s H fp).1 _ s6 _ H6 _ I6 (step xv H6 y5)) λok s7 ⟨H7,I7,q7⟩=>?_
   have fin:∀ {s8:Shared}{H8:Hp}{v8:Option V},Inv (YS X sc x (x::cap) C Ce s H fp) ([(D,{ cls:=.type "list",data:=.seq its.toArray k })]++W7 fp s5.heap) (v8::Jw σ js) H8 s8->tn (i+1) s8.heap/\(∀ b∈fp,H8 b=none)/\s8.heap.get? D=some { cls:=.type "list",data:=.seq its.toArray k }/\H8 D=none/\D≠C:=λ{s8 H8 v8} I8=>by
    have pinD:=I8.pin (D,{ cls:=.type "list",data:=.seq its.toArray k }) (mem_append_right _ (mem_append_left _ (mem_singleton.mpr rfl)))
    have pinF:∀ b∈fp,∀ o,s5.heap.get? b=some o->s8.heap.get? b=some o/\H8 b=none:=λb hb' o e=>
     have z:=I8.pin (b,o) (mem_append_right _ (mem_append_right _ (Jv hb' e)))
     ⟨z.1,z.2.1⟩
    refine ⟨T.keep _ _ _ st5 λb hb' o e=>(pinF b hb' o e).1,λb hb' => ?_,pinD.1,pinD.2.1,pinD.2.2.1⟩
    obtain ⟨o,e,_⟩:=T.obj _ _ st5 b hb'
    exact (pinF b hb' o e).2
   cases ok with
   | false=>
    rw[if_neg Bool.false_ne_true] at q7 ⊢
    obtain ⟨m',hm,w7⟩:=q7
    obtain ⟨f1,f2,_⟩:=fin I7
    exact ⟨m',hm,i+1,some xv,H7,ys,its,k,I7.Js,f1,f2,rv,w7⟩
   | true=>
    rw[if_pos rfl] at q7 ⊢
    refine thn ((hb C Ce s H fp).2 _ s7 _ H7 _ I7 q7) λu8 s8 ⟨v,H8,I8,r8,q8⟩=>?_
    obtain ⟨f1,f2,f3,f4,f5⟩:=fin I8
    obtain ⟨m',hm,w8⟩:=q8
    have rv' : Vals (ys++[v]) (its++[u8]):=rv.append (.cons r8 .nil)
    refine wpAny_list_append_plain ⟨k,f3⟩ (λh9 hl9 hs9=>?_) (by rw[size_toArray,← rv.length];exact le_of_lt hlen)
    obtain ⟨k9,e9⟩:=hl9
    have e9' : h9.get? D=some { cls:=.type "list",data:=.seq (its++[u8]).toArray k9 }:=by rw[e9];simp
    have In:Inv (YS X sc x (x::cap) C Ce s H fp) (W7 fp s5.heap) (some xv::Jw σ js) H8 s8:=I8.Jf λp hp=>I8.pin p (mem_append_right _ (mem_append_right _ hp))
    have It' : Inv (YS X sc x (x::cap) C Ce s H fp) (W7 fp s5.heap) (some xv::Jw σ js) H8 { s8 with heap:=h9 }:=
     In.turned (it:=D) (h' := h9) (t' := s8.toks) (λb o hb' e=>hs9.extBut b o hb' e) f4 f5 (.inr (le_of_eq hDe)) (λy c e z=>by
      rcases WY e with ⟨_,rfl⟩ | ⟨_,e'⟩
      ·rw[← hDe] at z;exact zjv (by show s.heap.objs.size<c;rw[hCe'];exact lt_succ_of_lt (lt_succ_self _)) z
      ·obtain ⟨v',o,ho,_⟩:=I.cell y c (S.sub I.ok e')
       exact ltD (lt_size ho) z) λp hp z=>by
      have hp' : p∈W7 fp s5.heap:=by simpa using hp
      exact fpD p.1 (Q8 hp').1 z
    refine ⟨m',hm,i+1,some xv,H8,ys++[v],its++[u8],k9,It'.Jf λp hp=>?_,T.keep _ _ _ f1 λb hb' o e=>hs9.extBut b o (fpD b hb') e,f2,rv',w8⟩
    have hp' : p=(D,{ cls:=.type "list",data:=.seq (its++[u8]).toArray k9 }):=by simpa using hp
    subst hp'
    refine ⟨e9',f4,f5,λhb' => ?_,λv z=>by cases z⟩
    obtain ⟨_,o,ho,_⟩:=I.stack.mem hb'
    exact ltD (lt_size ho) rfl
 exact codeAny_compStart_list (loop _ rfl) (T.self X.A 0 _ _ _ st₁ (loop _ rfl))
theorem zhz (S:Xo X.env.scope sc x cap){js:List Nat}(hjs:js.map (λj=>X.N[j]?)=cap.map some)(hc:X.calm=true)(hxe:∀ e s,¬ X.xe e s){elt iter:Expr}{ifs:List Expr}{pos px:Pos}{wi:TI}{tt:TT}{te:TE}
  (hi:PI X (.Name x px) iter wi) (hb:∀ C Ce s0 H0 ex,PIf (YS X sc x (x::cap) C Ce s0 H0 ex) ifs tt/\PE (YS X sc x (x::cap) C Ce s0 H0 ex) elt te)
  (hs:∀ x,foldedSetIterable iter X.env x=pure x:=by intro _;rfl):PE X (.ListComp elt [⟨.Name x px,iter,ifs,0⟩] sc pos) (tLC wi js tt te):=by
 intro pins s σ H Q I h
 rw[eval_ListComp]
 refine wpAny_comprehension_free (use:=none) rfl hs (X5 (S.cells I.ok)) S.kind S.names (thn (hi pins s σ H _ I h) λxv s₁ h₁=>thn h₁ λitv s₂ h₂=>?_)
 obtain ⟨it,fp,tn,J,H2,e,I2,T,st2,f2,W,w0,turn⟩:=h₂
 subst e
 refine zdv (Q:=Q) (RR:=λacc C=>compPost (model X.prog X.w) X.A X.xe none (EP X pins σ Q) acc C) S hjs hc hb I2 T st2 f2 w0 turn ?_
 intro D C Ce s' σ' H' ys its k hD hC J' rv hz q
 obtain ⟨m,hn,_⟩:=J'.loc
 have pinD:=J'.pin (D,{ cls:=.type "list",data:=.seq its.toArray k }) (mem_append_right _ (mem_singleton.mpr rfl))
 exact ⟨m,hn,λh' hs' => ⟨.ref D,_,zdr S I2 f2 hD hC J' pinD.2.1 pinD.1 rv hz hs',rfl,q D pinD.2.1⟩⟩
end
noncomputable def zkv (sc fr:Scope):List (Str×NameKind):=sc.names.map λ(n,k)=>if (k==NameKind.free&&fr.kind == .function&&(fr.names.lookup n)==some .cell)=true then (n,NameKind.cell) else (n,k)
theorem W6 {α β:Type}{f g:α->Option β}:∀ {l:List α},(∀ x∈l,f x=g x)->l.filterMap f=l.filterMap g
 | [],_=>rfl
 | x::r,h=>by rw[filterMap_cons,filterMap_cons,h x mem_cons_self,W6 λy hy=>h y (mem_cons_of_mem _ hy)]
theorem zeC {α:Type}(xs:List α):(List.range xs.length).filterMap (λk=>xs[xs.length-1-k]?)=xs.reverse:=by
 refine ext_getElem? λi=>?_
 have e:(List.range xs.length).filterMap (λk=>xs[xs.length-1-k]?)=(List.range xs.length).pmap (λk (h:k<xs.length)=>xs[xs.length-1-k]'(by omega)) (λk hk=>mem_range.mp hk):=by
  have key:∀ (l:List Nat) (h:∀ k∈l,k<xs.length),l.filterMap (λk=>xs[xs.length-1-k]?)=l.pmap (λk (h:k<xs.length)=>xs[xs.length-1-k]'(by omega)) h:=by
   intro l
   induction l with
   | nil=>intro h;rfl
   | cons k r ih=>
    intro h
    have hk:=h k mem_cons_self
    rw[filterMap_cons,List.pmap_cons,List.getElem?_eq_getElem (by omega)]
    dsimp only
    rw[ih λj hj=>h j (mem_cons_of_mem _ hj)]
  exact key _ _
 rw[e]
 by_cases hi:i<xs.length
 ·rw[List.getElem?_reverse hi,List.getElem?_eq_getElem (by simp;exact hi),List.getElem?_eq_getElem (by omega)]
  simp
 ·rw[List.getElem?_eq_none (by simp;omega),List.getElem?_eq_none (by simp;omega)]
end L2
namespace Look
open PySem
def ltN (g:Nat->Int)(i j:Nat):Prop:=g i<g j\/(g i=g j/\i<j)
noncomputable def zax (g:Nat->Int) (n:Nat):List Nat:=(List.range n).mergeSort λi j=>decide (g i<g j\/(g i=g j/\i<=j))
theorem XS (g:Nat->Int)(n:Nat):(zax g n).Perm (List.range n):=List.mergeSort_perm _ _
theorem V9 (g:Nat->Int)(n:Nat):(zax g n).Nodup:=(XS g n).nodup_iff.mpr nodup_range
theorem zbn (g:Nat->Int)(n:Nat):(zax g n).Pairwise (ltN g):=by
 have h:(zax g n).Pairwise λi j=>(decide (g i<g j\/(g i=g j/\i<=j)))=true:=List.pairwise_mergeSort (λa b c h1 h2=>by
  have:=of_decide_eq_true h1
  have:=of_decide_eq_true h2
  exact decide_eq_true (by omega)) (λa b=>by
  rw[or_eq_true,decide_eq_true_iff,decide_eq_true_iff];omega) _
 have nd:=V9 g n
 refine (h.and nd).imp λ{i j} ⟨a,b⟩=>?_
 have:=of_decide_eq_true a
 unfold ltN
 have:i≠j:=b
 omega
end Look
namespace L2
open PySem PySem.Spec PyProof.Rows Lw
section
variable {K:PySem.W.Frag}{B:Hp}{ρ:List PV}{te ta tb tx:TE}{E:Addr->Prop}{G0 H0 G H:Hp}{σ:St}{F:Nat->List Addr}
theorem zgL {t:TA}{ps qs:List (Int×Int)}(h:Ea K B t ρ [.list (ps.map dPr)])(h64:ps.length<64)(hps:∀ q∈ps,0<=q.2/\q.2<1000)(hq:∀ rs:List (Int×Int),rs.Perm ps->rs.Pairwise (λa b=>a.1*1000+a.2<=b.1*1000+b.2)->rs=qs):Er K B (tCB (zeS K) t) ρ (.list (qs.map dPr)):=λG σ r=>zfO (h G σ r) h64 hps hq
end
open PySem PySem.Spec PyProof.Rows StbG
structure zkc {α:Type}(lt:α->α->Bool):Prop where
 irr:∀ a,lt a a=false
 tr:∀ a b c,lt a b=true->lt b c=true->lt a c=true
 tri:∀ a b,lt a b=false->lt b a=false->a=b
theorem zch {α:Type}{lt:α->α->Bool}(h:zkc lt){a b:List α}(hp:a.Perm b)(ha:a.Pairwise λx y=>lt y x=false)(hb:b.Pairwise λx y=>lt y x=false):a=b:=
 hp.eq_of_pairwise (λx y _ _ h1 h2=>h.tri _ _ h2 h1) ha hb
open PySem PySem.Spec PyProof.Rows StbG V8
noncomputable def zfa (n:Nat):List (Int×Int):=(List.range n).flatMap λ(i:Nat)=>(List.range n).map λ(j:Nat)=>(Int.ofNat i,Int.ofNat j)
noncomputable def zel (n:Nat) (ps:List (Int×Int)):List (Int×Int):=(zfa n).filter λq=>decide (q∈ps)
noncomputable def ltP (a b:Int×Int):Bool:=decide (a.1<b.1\/a.1=b.1/\a.2<b.2)
theorem zeK:zkc ltP:=⟨λa=>decide_eq_false (by omega),λa b c h1 h2=>decide_eq_true (by have:=of_decide_eq_true h1;have:=of_decide_eq_true h2;omega),λa b h1 h2=>by
 have h1:=of_decide_eq_false h1
 have h2:=of_decide_eq_false h2
 exact Prod.ext (by omega) (by omega)⟩
theorem zep {n:Nat}{q:Int×Int}:q∈zfa n↔0<=q.1/\q.1<n/\0<=q.2/\q.2<n:=by
 unfold zfa
 rw[mem_flatMap]
 constructor
 ·rintro ⟨i,hi,h⟩
  obtain ⟨j,hj,rfl⟩:=mem_map.mp h
  have hi:=mem_range.mp hi
  have hj:=mem_range.mp hj
  show 0<=(i:Int)/\(i:Int)<n/\0<=(j:Int)/\(j:Int)<n
  omega
 ·intro ⟨h1,h2,h3,h4⟩
  refine ⟨q.1.toNat,mem_range.mpr (by omega),mem_map.mpr ⟨q.2.toNat,mem_range.mpr (by omega),?_⟩⟩
  exact Prod.ext (Int.toNat_of_nonneg h1) (Int.toNat_of_nonneg h3)
theorem zgS (n:Nat):(zfa n).Pairwise λx y=>ltP x y=true:=by
 unfold zfa
 refine List.pairwise_flatMap.mpr ⟨λi hi=>?_,?_⟩
 ·rw[pairwise_map]
  exact List.pairwise_lt_range.imp λ{a b} h=>decide_eq_true (.inr ⟨rfl,Int.ofNat_lt.mpr h⟩)
 ·refine List.pairwise_lt_range.imp ?_
  intro a b h x hx y hy
  obtain ⟨_,_,rfl⟩:=mem_map.mp hx
  obtain ⟨_,_,rfl⟩:=mem_map.mp hy
  exact decide_eq_true (.inl (Int.ofNat_lt.mpr h))
theorem zd6 {n:Nat}{ps:List (Int×Int)}(hps:∀ q∈ps,0<=q.1/\q.1<n/\0<=q.2/\q.2<n){q:Int×Int}:q∈zel n ps↔q∈ps:=by
 unfold zel
 rw[mem_filter,zep,decide_eq_true_eq]
 exact ⟨λh=>h.2,λh=>⟨hps q h,h⟩⟩
theorem zdH (n:Nat)(ps:List (Int×Int)):(zel n ps).Pairwise λx y=>ltP x y=true:=(zgS n).filter _
theorem zdD (n:Nat)(ps:List (Int×Int)):(zel n ps).Nodup:=(zdH n ps).imp λh e=>by
 rw[e] at h
 have:=of_decide_eq_true h
 omega
theorem zbH {n:Nat}{ps rs:List (Int×Int)}(hn:n<=1000)(hps:∀ q∈ps,0<=q.1/\q.1<n/\0<=q.2/\q.2<n)(nd:rs.Nodup)(hm:∀ q,q∈rs↔q∈ps)(hpw:rs.Pairwise (λa b=>a.1*1000+a.2<=b.1*1000+b.2)):rs=zel n ps:=by
 refine zch zeK ((List.perm_ext_iff_of_nodup nd (zdD n ps)).mpr λq=>by rw[hm q,zd6 hps]) ?_ ?_
 ·refine List.Pairwise.imp_of_mem (λ{a b} ha hb h=>decide_eq_false ?_) hpw
  have h1:=hps a ((hm a).mp ha)
  have h2:=hps b ((hm b).mp hb)
  omega
 ·exact (zdH n ps).imp λh=>decide_eq_false (by have:=of_decide_eq_true h;omega)
open PySem
theorem zbR (a:Nat):Builtin.bitNot (a:Int) = -(a:Int)-1:=by unfold Builtin.bitNot;omega
theorem zed (a b:Nat):Builtin.bitAnd (a:Int) (b:Int)=((a &&& b:Nat):Int):=by
 unfold Builtin.bitAnd
 rw[decide_eq_true (Int.natCast_nonneg a),decide_eq_true (Int.natCast_nonneg b)]
 rfl
theorem zfB (a b:Nat):Builtin.bitOr (a:Int) (b:Int)=((a ||| b:Nat):Int):=by
 unfold Builtin.bitOr
 have ha:¬ (0:Int)<=Builtin.bitNot (a:Int):=by rw[zbR];omega
 have hb:¬ (0:Int)<=Builtin.bitNot (b:Int):=by rw[zbR];omega
 have nn:∀ c:Nat,Builtin.bitNot (Builtin.bitNot (c:Int))=(c:Int):=λc=>by unfold Builtin.bitNot;omega
 unfold Builtin.bitAnd
 rw[decide_eq_false ha,decide_eq_false hb]
 show Builtin.bitNot (Builtin.bitNot _)=_
 rw[nn,nn a,nn b]
 rfl
theorem zef (a k:Nat):(a:Int) / 2 ^ (k:Int).toNat=((a >>> k:Nat):Int):=by
 rw[Nat.shiftRight_eq_div_pow,toNat_natCast]
 simp
theorem ziF (a k:Nat):Builtin.bitAnd ((a >>> k:Nat):Int) ((1:Nat):Int)=if a.testBit k then 1 else 0:=by
 rw[zed,Nat.and_one_is_mod]
 have:a.testBit k=decide (a >>> k % 2=1):=by
  rw[Nat.testBit,Nat.one_and_eq_mod_two]
  rcases Nat.mod_two_eq_zero_or_one (a >>> k) with h | h <;> rw[h] <;> rfl
 rw[this]
 rcases Nat.mod_two_eq_zero_or_one (a >>> k) with h | h <;> rw[h] <;> rfl
open PySem PySem.Spec PyProof.Rows
mutual
noncomputable def noL:PyData->Bool
 | .list _=>false
 | .tuple ds=>zkb ds
 | .dict _=>false
 | _=>true
noncomputable def zkb:List PyData->Bool
 | []=>true
 | d::r=>noL d&&zkb r
end
theorem zap {α:Type}(xs:List α):VN xs none none (some (-1))=xs.reverse:=by
 unfold VN
 have e1:sliceBounds none none (some (-1)) xs.length=((xs.length:Int)-1,-1,-1):=by simp[sliceBounds]
 rw[e1]
 dsimp only
 unfold sliceRange
 rw[← zeC,List.filterMap_map]
 have ec:(if (-1:Int)>0 then (if (xs.length:Int)-1 < -1 then (-1-((xs.length:Int)-1) + -1-1) / -1 else 0) else (if (xs.length:Int)-1 > -1 then ((xs.length:Int)-1 - -1 - -1-1) / (- -1) else 0)).toNat=xs.length:=by
  rw[if_neg (by decide)]
  split
  ·have:((xs.length:Int)-1 - -1 - -1-1) / (- -1)=xs.length:=by
    show ((xs.length:Int)-1 - -1 - -1-1) / 1=xs.length
    rw[Int.ediv_one];omega
   rw[this];simp
  ·simp;omega
 rw[show (List.range (if (-1:Int)>0 then (if (xs.length:Int)-1 < -1 then (-1-((xs.length:Int)-1) + -1-1) / -1 else 0) else (if (xs.length:Int)-1 > -1 then ((xs.length:Int)-1 - -1 - -1-1) / (- -1) else 0)).toNat)=List.range xs.length by rw[ec]]
 skip
 refine W6 λk hk=>?_
 have hk' := mem_range.mp hk
 show xs[((xs.length:Int)-1 + -1*(k:Int)).toNat]?=xs[xs.length-1-k]?
 congr 1
 omega
section
variable {X:Cx}
def zbT (K:PySem.W.Frag)(neg:Bool):R2:=λx y H Q=>∃ (G:Hp) (d:PyData) (ds:List PyData) (p:Addr) (xs:List V),ZS G H/\Dat K G x d/\y = .ref p/\SqT K G p xs/\Yr K G xs ds/\Pl 60 d/\(∀ e∈ds,Pl 60 e)/\
 Q (.bl (if neg=true then !ds.any (λe=>PySem.Spec.same e d) else ds.any λe=>PySem.Spec.same e d)) H
theorem zcO {K:PySem.W.Frag}(eK:X.K=K)(hu:X.A.units+64<cLine):OpR X (compareOp .In) (zbT K false):=by
 subst eK
 intro pins s σ H x y v u Q I rx ry h
 obtain ⟨G,d,ds,p,xs,e,hd,rfl,hp,hx,pd,pds,q⟩:=h
 cases ry
 obtain ⟨its,r,pl,hz⟩:=I.tuple (e.tup hp)
 obtain ⟨as,rd⟩:=Dat.reads I e hd rx
 obtain ⟨h1,h2⟩:=Wz I e hu rd pd hx r pds
 refine SeqAt.in_tupleAt (Xb s d) pl (λw hw=>h1 w (by simpa using hw)) ⟨.bl _,H,I,rfl,?_⟩
 rw[show its.toArray.any (Xb s d)=its.any (Xb s d) by simp,h2];exact q
theorem J3 {K:PySem.W.Frag}(eK:X.K=K)(hu:X.A.units+64<cLine):OpR X (compareOp .NotIn) (zbT K true):=by
 subst eK
 intro pins s σ H x y v u Q I rx ry h
 obtain ⟨G,d,ds,p,xs,e,hd,rfl,hp,hx,pd,pds,q⟩:=h
 cases ry
 obtain ⟨its,r,pl,hz⟩:=I.tuple (e.tup hp)
 obtain ⟨as,rd⟩:=Dat.reads I e hd rx
 obtain ⟨h1,h2⟩:=Wz I e hu rd pd hx r pds
 refine SeqAt.notIn_tupleAt (Xb s d) pl (λw hw=>h1 w (by simpa using hw)) ⟨.bl _,H,I,rfl,?_⟩
 rw[show its.toArray.any (Xb s d)=its.any (Xb s d) by simp,h2];exact q
theorem zgy (p:Addr)(hi i:Int)(t u v tk:Tok):
  Meets (Builtin.«range.__contains__» ⟨[.ref p,.int i tk],[]⟩) (λ_ R s=>s.heap.get? p=some { cls:=.type "range",data:=.fields #[.int 0 t,.int hi u,.int 1 v] }/\R (.ok (.ret (.bool (decide (0<=i/\i<hi))))) s):=
 .of_wp λprog w A R s h=>by
  obtain ⟨ho,h⟩:=h
  unfold Builtin.«range.__contains__»
  refine wpAny_bind (wpAny_of_eq (a:=(Value.ref p,[Value.int i tk])) rfl ?_)
  try dsimp only
  show wpAny _ _ (do rule "range.contains.reckoned";let (a,b,c) ← Builtin.Range.rangeFields (.ref p);ret (.bool (Builtin.Range.rangePlace? a b c i).isSome)) _ _ s
  refine wpAny_bind (wpAny_rule ?_)
  unfold Builtin.Range.rangeFields
  refine wpAny_bind (wpAny_bind (wpAny_field ho rfl (x:=.int 0 t) rfl (wpAny_bind (wpAny_of_eq (a:=some 0) rfl ?_))))
  refine wpAny_bind (wpAny_field ho rfl (x:=.int hi u) rfl (wpAny_bind (wpAny_of_eq (a:=some hi) rfl ?_)))
  refine wpAny_bind (wpAny_field ho rfl (x:=.int 1 v) rfl (wpAny_bind (wpAny_of_eq (a:=some 1) rfl (wpAny_pure (wpAny_pure ?_)))))
  have e:(Builtin.Range.rangePlace? 0 hi 1 i).isSome=decide (0<=i/\i<hi):=by
   unfold Builtin.Range.rangePlace?
   by_cases h1:0<=i/\i<hi
   ·rw[decide_eq_true h1];simp[h1.1,h1.2,Int.emod_one]
   ·rw[decide_eq_false h1]
    have:(decide (0<=i)&&decide (i<hi))=false:=by
     rw[← Bool.decide_and];exact decide_eq_false h1
    simp[this]
  exact ⟨_,rfl,by rw[e];exact h⟩
def ziB:R2:=λx y H Q=>∃ (i hi:Int) (p:Addr),x = .int i/\y = .ref p/\H p=some (.rng 0 hi)/\Q (.bl (!decide (0<=i/\i<hi))) H
theorem zdt:OpR X (compareOp .NotIn) ziB:=by
 intro pins s σ H x y v u Q I rx ry h
 obtain ⟨i,hi,p,rfl,rfl,hp,q⟩:=h
 cases ry
 obtain ⟨tk,rfl⟩:=rx
 obtain ⟨t,u,w,ho⟩:=(show Xp X.prog X.w H s.heap p (.rng 0 hi) from I.hok p _ hp)
 exact PySem.SeqRoads2.notIn_meets ⟨_,ho,rfl⟩ F.slot_range_contains F.entry_range_contains (F.args_range_contains_2 _ _) (zgy p hi i t u w tk) ⟨ho,_,rfl,⟨.bl _,H,I,rfl,q⟩⟩
def zi6 (ta:TA):TE:=fun σ H Q=>ta σ H λvs H1=>∃ j:Int,vs=[.int j]/\∀ p,H1 p=none->Q (.ref p) (upd H1 p (.rng 0 j))
theorem zcw {a:Expr}{ta:TA}{p pos:Pos}(hg:Gl X "range")(hm:X.mg "range" = none)(ha:PA X [a] ta)(hs:starEach [a] X.env=[(false,eval a X.env)]:=by rfl):PE X (.Call (.Name "range" p) [a] [] pos) (zi6 ta):=by
 intro pins s σ H Q I h
 refine wpAny_Call_Name_kw (WK I hg hm boot_range (PyProof.Rows.callWith_type1 (thn (ha pos pins s σ H _ I h) λus s1 ⟨vs,H1,I1,r1,q1⟩=>?_) hs rfl))
 obtain ⟨j,rfl,q⟩:=q1
 obtain ⟨u,rfl,r⟩:=Vals.one r1
 obtain ⟨t,rfl⟩:=r
 refine call_range_1 ?_
 exact ⟨.ref s1.heap.objs.size,_,I1.laid (t' := s1.toks+1+1) (λb o e=>get?_push_of_some _ e) (Nat.le_refl _) (show Xp X.prog X.w _ _ _ (.rng 0 j) from ⟨_,_,_,get?_push_size _ rfl⟩),rfl,q _ (I1.hok.fresh (Nat.le_refl _))⟩
end
section
variable {K:PySem.W.Frag}{B:Hp}{ρ:List PV}{te ta tb tx:TE}
theorem Qv {neg:Bool}{d:PyData}{ds:List PyData}(ha:Er K B ta ρ d)(hb:Er K B tb ρ (.tuple ds))(pd:Pl 60 d)(pds:∀ e∈ds,Pl 60 e):Er K B (tOp (zbT K neg) ta tb) ρ (.bool (if neg=true then !ds.any (λe=>PySem.Spec.same e d) else ds.any λe=>PySem.Spec.same e d)):=λG σ r=>
 Qj (ha G σ r) (hb G σ r) λG1 H u v Q s1 s2 hu hv k=>by
  obtain ⟨p,xs,rfl,hp,hxs⟩:=hv.tup
  exact ⟨G1,d,ds,p,xs,s2,hu,rfl,hp,hxs,pd,pds,k _ G1 H (Xq.refl s2) (Yy _)⟩
theorem zdn {t:TA}{i j:Int}(ha:Er K B ta ρ (.int i))(hb:Ea K B t ρ [.int j]):Er K B (tOp ziB ta (zi6 t)) ρ (.bool (!decide (0<=i/\i<j))):=λG σ r G1 H s1 s2 Q k=>by
 refine ha G σ r G1 H s1 s2 _ λv G2 H2 g2 hv=>?_
 refine hb G σ r G2 H2 (s1.trans g2.gg) g2.gh _ λvs G3 H3 g3 hvs=>?_
 obtain ⟨y,ys,rfl,hy,hn⟩:=hvs.cons
 cases hn.nil
 refine ⟨j,by rw[hy.int],λp hp=>⟨i,j,p,hv.int,rfl,Zz,k _ G3 _ ((g2.trans g3).trans (Vi g3.gh (Uo hp))) (Yy _)⟩⟩
theorem zh7 {ds:List PyData}(h:Er K B te ρ (.list ds))(hz:ds.length<=sizeLine):Er K B (zkh K te Jm Jm (Vj (tUn (rU λi=>.int (-i)) (tC (.int 1))))) ρ (.list ds.reverse):=λG σ r G1 H s1 s2 Q k=>h G σ r G1 H s1 s2 _ λv G2 H2 g2 hv=>by
 obtain ⟨p,xs,rfl,hp,hx⟩:=hv.lst
 refine ⟨1,rfl,_,rfl,p,xs,rfl,SqL.of (g2.gh _ _ hp),by decide,?_,λl hl=>?_⟩
 ·rw[zap,length_reverse,hx.length];exact hz
 ·rw[zap]
  have g:=Yl (o:=.lst xs.reverse) g2.gh hl
  exact k _ _ _ (g2.trans g) (YZ Zz ((Ug hx).same g.gg))
end
section
variable {K:PySem.W.Frag}{B:Hp}{ρ:List PV}{ta tb:TE}{te:Addr->TE}{f:Addr}{G H:Hp}
theorem zhm {t:TA}{ds es:List PyData}(h:Ea K B t ρ [.tuple ds,.tuple es])(hl:es.length<=ds.length):Ei K B (zkn K t) ρ ((ds.zip es).map λp=>.tuple [p.1,p.2]):=λG H σ r s R k=>h G σ r G H (ZS.refl _) s _ λvs G' H' g hv=>by
 obtain ⟨y1,ys,rfl,h1,hv⟩:=hv.cons
 obtain ⟨y2,ys,rfl,h2,hv⟩:=hv.cons
 cases hv.nil
 obtain ⟨p1,xs1,rfl,q1,d1⟩:=h1.tup
 obtain ⟨p2,xs2,rfl,q2,d2⟩:=h2.tup
 have e1:=d1.length
 have e2:=d2.length
 have ez:((ds.zip es).map λp=>PyData.tuple [p.1,p.2]).length=es.length:=by rw[length_map,List.length_zip];omega
 refine ⟨p1,p2,rfl,⟨xs1,g.gh.tup q1⟩,⟨xs2,g.gh.tup q2⟩,k _ G' H' g ⟨λi H' s hi=>?_,λi H' s hi=>?_,λi H1 x H2 G1 d s1 s2 he y=>?_⟩⟩
 ·rw[ez] at hi
  exact ⟨xs1,_,xs2,_,s.tup q1,List.getElem?_eq_getElem (by omega),s.tup q2,List.getElem?_eq_getElem (by omega)⟩
 ·rw[ez] at hi
  exact ⟨xs1,xs2,s.tup q1,s.tup q2,by omega⟩
 ·obtain ⟨p,u,v,hp,rfl,rfl,y1,y2⟩:=y
  have hu:=y1 xs1 (s2.tup (s1.tup q1))
  have hv:=y2 xs2 (s2.tup (s1.tup q2))
  obtain ⟨a,ha,hda⟩:=d1.zj8 hu
  obtain ⟨b,hb,hdb⟩:=d2.zj8 hv
  have g2:=Yl (o:=.tup [u,v]) s2 hp
  refine ⟨_,g2,?_⟩
  rw[getElem?_map] at he
  have ez2:(ds.zip es)[i]?=some (a,b):=List.getElem?_zip_eq_some.mpr ⟨ha,hb⟩
  rw[ez2] at he
  cases he
  exact Xv (SqT.of Zz) (Ye ((hda.same s1).same g2.gg) (Ye ((hdb.same s1).same g2.gg) Yq))
end
theorem zkC:bootBuiltins "min" = some (.builtin "min"):=by decide +kernel
section
variable {K:PySem.W.Frag}{B:Hp}{ρ:List PV}{ta tb te:TE}
theorem ziM (ds:List PyData):slD ds none (some (-1))=ds.take (ds.length-1):=by
 have e:HT.sIx ds.length ds.length (some (-1))=ds.length-1:=by
  show (if (-1:Int)<0 then (-1+(ds.length:Int)).toNat else min (-1:Int).toNat ds.length)=_
  rw[if_pos (by decide)];omega
 unfold slD
 rw[e];rfl
theorem zgh:Eo K B (Vj (tUn (rU λi=>.int (-i)) (tC (.int 1)))) ρ (some (-1)):=λ_ _ _ _ _ q=>⟨1,rfl,-1,rfl,q⟩
theorem zf6 {t:TA}{a b:Int}(h:Ea K B t ρ [.int a,.int b]):Er K B (tCB (λxs H Q=>∃ i j,xs=[.int i,.int j]/\Q (.int (if j<i then j else i)) H) t) ρ (.int (if b<a then b else a)):=zgI h λG1 H xs Q s hx k=>by
 obtain ⟨y,ys,rfl,hy,hv⟩:=hx.cons
 obtain ⟨y2,ys,rfl,hy2,hv⟩:=hv.cons
 cases hv.nil
 rw[hy.int,hy2.int]
 exact ⟨a,b,rfl,k _ G1 H (Xq.refl s) (Zk _)⟩
end
section
variable {X:Cx}{pos:Pos}
def zcW (r r' r'' : R2)(ta tb tc td:TE):TE:=fun σ H Q=>ta σ H λx H1=>tb σ H1 λy H2=>r x y H2 λz H3=>∃ k,z = .bl k/\
 (if k=true then tc σ H3 λw' H4=>r' y w' H4 λz2 H5=>∃ k2,z2 = .bl k2/\(if k2=true then td σ H5 λw2 H6=>r'' w' w2 H6 Q else Q (.bl false) H5) else Q (.bl false) H3)
theorem zc4 {a b c d:Expr}{ta tb tc td:TE}{op op' op'' : CmpOp}{r r' r'' : R2}(ho:OpR X (compareOp op) r)(ho' : OpR X (compareOp op') r')(ho'' : OpR X (compareOp op'') r'')(ha:PE X a ta)(hb:PE X b tb)(hc:PE X c tc)(hd:PE X d td)
  (hm:lastMarks [op,op',op''] [b,c,d]=false:=by with_unfolding_all rfl):PT X (.Compare a [op,op',op''] [b,c,d] pos) (za7 (zcW r r' r'' ta tb tc td)):=by
 intro pins s σ H Q I h
 refine isTrue_chain (thn (ha pins s σ H _ I h) λv s1 ⟨x,H1,I1,r1,q1⟩=>test_link (thn (hb pins s1 σ H1 _ I1 q1) λu s2 ⟨y,H2,I2,r2,q2⟩=>
  thn (ho pins s2 σ H2 x y v u _ I2 r1 r2 q2) λd s3 ⟨z,H3,I3,r3,k,e,q3⟩=>?_)) hm
 subst e
 cases r3
 refine wpAny_truthy_bool ?_
 cases k with
 | false=>
  obtain ⟨k',e',q'⟩:=q3
  cases e'
  exact ite_ff ⟨H3,I3,q'⟩
 | true=>
  refine ite_tt (test_link (thn (hc pins s3 σ H3 _ I3 q3) λw' s4 ⟨z',H4,I4,r4,q4⟩=>thn (ho' pins s4 σ H4 y z' u w' _ I4 r2 r4 q4) λd' s5 ⟨z2,H5,I5,r5,k2,e2,q5⟩=>?_))
  subst e2
  cases r5
  refine wpAny_truthy_bool ?_
  cases k2 with
  | false=>
   obtain ⟨k',e',q'⟩:=q5
   cases e'
   exact ite_ff ⟨H5,I5,q'⟩
  | true=>
   refine ite_tt (test_last (thn (hd pins s5 σ H5 _ I5 q5) λw2 s6 ⟨z3,H6,I6,r6,q6⟩=>thn (ho'' pins s6 σ H6 z' z3 w' w2 _ I6 r4 r6 q6) λd' s7 ⟨z4,H7,I7,r7,k3,e3,q7⟩=>?_))
   subst e3
   cases r7
   exact wpAny_truthy_bool ⟨H7,I7,q7⟩
end
section
variable {K:PySem.W.Frag}{B:Hp}{ρ:List PV}{ta tb tc td te:TE}
theorem zcY {p q r:Int->Int->Bool}{i j k l:Int}(ha:Er K B ta ρ (.int i))(hb:Er K B tb ρ (.int j))(hc:Er K B tc ρ (.int k))(hd:Er K B td ρ (.int l)):Er K B (zcW (rI0 λi j=>.bl (p i j)) (rI0 λi j=>.bl (q i j)) (rI0 λi j=>.bl (r i j)) ta tb tc td) ρ (.bool (p i j&&q j k&&r k l)):=λG σ rx G1 H s1 s2 Q kk=>by
 refine ha G σ rx G1 H s1 s2 _ λv G2 H2 g2 hv=>hb G σ rx G2 H2 (s1.trans g2.gg) g2.gh _ λu G3 H3 g3 hu=>⟨i,j,hv.int,hu.int,p i j,rfl,?_⟩
 have g23:=g2.trans g3
 cases e:p i j with
 | false=>
  rw[if_neg Bool.false_ne_true]
  rw[e] at kk
  exact kk _ G3 H3 g23 (Yy _)
 | true=>
  rw[if_pos rfl]
  rw[e] at kk
  refine hc G σ rx G3 H3 (s1.trans g23.gg) g23.gh _ λw' G4 H4 g4 hw=>⟨j,k,hu.int,hw.int,q j k,rfl,?_⟩
  have g24:=g23.trans g4
  cases e2:q j k with
  | false=>
   rw[if_neg Bool.false_ne_true]
   rw[e2] at kk
   exact kk _ G4 H4 g24 (Yy _)
  | true=>
   rw[if_pos rfl]
   rw[e2] at kk
   exact hd G σ rx G4 H4 (s1.trans g24.gg) g24.gh _ λw2 G5 H5 g5 hw2=>⟨k,l,hw.int,hw2.int,kk _ G5 H5 (g24.trans g5) (Yy _)⟩
end
section
variable {K:PySem.W.Frag}{B:Hp}{ρ:List PV}{G H:Hp}{ta tb te td:TE}{a b d:PyData}{ds:List PyData}
theorem zab {xs:List V}(h:Yr K G xs ds):∀ n:Nat,Yr K G (List.replicate n xs).flatten (List.replicate n ds).flatten
 | 0=>Yq
 | n+1=>by
  rw[replicate_succ,replicate_succ,flatten_cons,flatten_cons]
  exact Xz h (zab h n)
end
def tBI (t:TE):TT:=fun σ H Q=>t σ H λx H1=>∃ i:Int,x = .int i/\Q (i != 0) H1
theorem zgE {X:Cx}{e:Expr}{t:TE}(h:PE X e t)(he:∀ whole,isTrue e X.env whole=(do let v ← whole;standAt e.pos;holding [v] (truthy v)):=by intro _;rfl):PT X e (tBI t):=by
 intro pins s σ H Q I hw
 refine isTrue_plain (thn (h pins s σ H _ I hw) λv s1 ⟨x,H1,I1,r1,q1⟩=>?_) (he _)
 obtain ⟨d,rfl,q⟩:=q1
 obtain ⟨t,rfl⟩:=r1
 exact PySem.P.truthy_int ⟨H1,I1,q⟩
section
variable {K:PySem.W.Frag}{B:Hp}{ρ:List PV}{ta tb te:TE}
theorem zjR {t:TE}{i:Int}{b:Bool}(h:Er K B t ρ (.int i))(e:(i != 0)=b):Et K B (tBI t) ρ b:=λG σ r G1 H s1 s2 Q k=>h G σ r G1 H s1 s2 _ λv G' H' g hv=>⟨i,hv.int,e ▸ k G' H' g⟩
theorem ze8 {a k:Nat}(ha:Er K B ta ρ (.int (a:Nat)))(hk:Er K B tb ρ (.int (k:Nat))):Er K B (tOp (rI0 λi j=>.int (Builtin.bitAnd i j)) (tOp (rI (λ_ j=>0<=j) λi j=>.int (i / 2 ^ j.toNat)) ta tb) (tC (.int 1))) ρ (.int (if a.testBit k then 1 else 0)):=
 Y5 (i:=((a >>> k:Nat):Int)) (j:=((1:Nat):Int)) (YQ ha hk (Int.natCast_nonneg _) λG=>by rw[zef];exact Zk _) Zi λG=>by rw[ziF];exact Zk _
theorem ziv {a k:Nat}(ha:Er K B ta ρ (.int (a:Nat)))(hk:Er K B tb ρ (.int (k:Nat))):Et K B (tBI (tOp (rI0 λi j=>.int (Builtin.bitAnd i j)) (tOp (rI (λ_ j=>0<=j) λi j=>.int (i / 2 ^ j.toNat)) ta tb) (tC (.int 1)))) ρ (a.testBit k):=
 zjR (ze8 ha hk) (by cases a.testBit k <;> rfl)
theorem zfg {a b:Nat}(ha:Er K B ta ρ (.int (a:Nat)))(hb:Er K B tb ρ (.int (b:Nat))):Er K B (tOp (rI0 λi j=>.int (Builtin.bitOr i j)) ta tb) ρ (.int ((a ||| b:Nat))):=
 Y5 ha hb λG=>by rw[zfB];exact Zk _
theorem zhN {k:Nat}(hb:Er K B tb ρ (.int (k:Nat)))(hk:k<60):Er K B (tOp (rI zhe λi j=>.int (i*2 ^ j.toNat)) (tC (.int 1)) tb) ρ (.int ((1 <<< k:Nat))):=
 YQ Zi hb (by unfold zhe;omega) λG=>by
  rw[show (1:Int)*(2:Int) ^ (k:Int).toNat=((1 <<< k:Nat):Int) by rw[toNat_natCast,Nat.one_shiftLeft];simp];exact Zk _
end
end L2
namespace M41
abbrev Kn:Type:=List Nat
noncomputable def ah (k:Kn) (i j:Nat):Bool:=(k.getD i 0).testBit j
noncomputable def wl (k:Kn) (i j:Nat):Kn:=(List.range k.length).map λt=>if t==i||ah k t i then (k.getD t 0) ||| ((k.getD j 0) ||| (1 <<< j)) else k.getD t 0
noncomputable def Z4 (ps:List (Nat×Nat)) (n:Nat):Kn:=ps.foldl (λk q=>wl k q.1 q.2) (List.replicate n 0)
noncomputable def zhc (k:Kn) (i:Nat):List (Nat×Nat):=((List.range k.length).filter λj=>ah k i j).map λj=>(i,j)
noncomputable def pairsOf (k:Kn):List (Nat×Nat):=(List.range k.length).flatMap (zhc k)
noncomputable def opq (k:Kn) (i j:Nat):Bool:=!ah k i j && !ah k j i
noncomputable def zki (k:Kn) (i m:Nat):List (Nat×Nat):=((List.range m).filter λd=>opq k i (i+1+d)).map λd=>(i,i+1+d)
noncomputable def unp (k:Kn):List (Nat×Nat):=(List.range k.length).flatMap λi=>zki k i (k.length-(i+1))
noncomputable def orow (k:Kn) (j:Nat):List (Nat×Nat):=((List.range j).filter λi=>opq k i j).map λi=>(i,j)
noncomputable def opn (k:Kn):List (Nat×Nat):=(List.range k.length).flatMap (orow k)
theorem YH {k:Kn}{i j:Nat}:(wl k i j).length=k.length:=by unfold wl;rw[length_map,length_range]
theorem zhJ {k:Kn}{i j t:Nat}(h:t<k.length):(wl k i j).getD t 0=if t==i||ah k t i then (k.getD t 0) ||| ((k.getD j 0) ||| (1 <<< j)) else k.getD t 0:=by
 unfold wl
 rw[getD_eq_getElem?_getD,getElem?_map,getElem?_range h];rfl
theorem J9 {k:Kn}{i j a b:Nat}(h:a<k.length):ah (wl k i j) a b=(ah k a b||((a==i||ah k a i)&&(b==j||ah k j b))):=by
 show ((wl k i j).getD a 0).testBit b=_
 rw[zhJ h]
 by_cases c:(a==i||ah k a i)=true
 ·rw[if_pos c,c,Nat.testBit_or,Nat.testBit_or,Bool.true_and,Nat.one_shiftLeft,Nat.testBit_two_pow]
  show (ah k a b||(ah k j b||decide (j=b)))=_
  rw[Bool.or_comm (ah k j b)]
  congr 2
  by_cases e:b=j
  ·subst e;simp
  ·have:¬ j=b:=λz=>e z.symm
   simp[e,this]
 ·rw[if_neg c]
  have c' : (a==i||ah k a i)=false:=by simpa using c
  rw[c',Bool.false_and,Bool.or_false];rfl
theorem Qh {ps:List (Nat×Nat)}{n:Nat}:(Z4 ps n).length=n:=by
 unfold Z4
 suffices h:∀ (ps:List (Nat×Nat)) (k:Kn),(ps.foldl (λk q=>wl k q.1 q.2) k).length=k.length by rw[h,length_replicate]
 intro ps
 induction ps with
 | nil=>intro k;rfl
 | cons q r ih=>intro k;rw[foldl_cons,ih,YH]
def Tr (k:Kn):Prop:=∀ a b c,a<k.length->b<k.length->ah k a b=true->ah k b c=true->ah k a c=true
theorem Tr.wl {k:Kn}{i j:Nat}(h:Tr k)(hi:i<k.length)(hj:j<k.length)(low:∀ a,a<k.length->∀ b,ah k a b=true->b<k.length):Tr (wl k i j):=by
 intro a b c ha hb h1 h2
 rw[YH] at ha hb
 rw[J9 ha] at h1 ⊢
 rw[J9 hb] at h2
 simp only[or_eq_true,and_eq_true,beq_iff_eq] at h1 h2 ⊢
 rcases h1 with h1 | ⟨h1,h1'⟩
 ·rcases h2 with h2 | ⟨h2,h2'⟩
  ·exact .inl (h a b c ha hb h1 h2)
  ·refine .inr ⟨.inr ?_,h2'⟩
   rcases h2 with rfl | h2
   ·exact h1
   ·exact h a b i ha hb h1 h2
 ·rcases h2 with h2 | ⟨h2,h2'⟩
  ·refine .inr ⟨h1,.inr ?_⟩
   rcases h1' with rfl | h1'
   ·exact h2
   ·exact h j b c hj hb h1' h2
  ·exact .inr ⟨h1,h2'⟩
def Lo (k:Kn):Prop:=∀ a,a<k.length->∀ b,ah k a b=true->b<k.length
theorem Lo.wl {k:Kn}{i j:Nat}(h:Lo k)(hj:j<k.length):Lo (wl k i j):=by
 intro a ha b hb
 rw[YH] at ha ⊢
 rw[J9 ha] at hb
 simp only[or_eq_true,and_eq_true,beq_iff_eq] at hb
 rcases hb with hb | ⟨_,rfl | hb⟩
 ·exact h a ha b hb
 ·exact hj
 ·exact h j hj b hb
theorem V3 {n a b:Nat}:ah (List.replicate n 0) a b=false:=by
 unfold ah
 have:(List.replicate n 0).getD a 0=0:=by
  rw[getD_eq_getElem?_getD,List.getElem?_replicate]
  split <;> rfl
 rw[this];exact Nat.zero_testBit b
theorem JN {n:Nat}:∀ (ps:List (Nat×Nat)),(∀ q∈ps,q.1<n/\q.2<n)->∀ k:Kn,k.length=n->Tr k->Lo k->Tr (ps.foldl (λk q=>wl k q.1 q.2) k)/\Lo (ps.foldl (λk q=>wl k q.1 q.2) k)/\(∀ a b,a<n->ah k a b=true->ah (ps.foldl (λk q=>wl k q.1 q.2) k) a b=true)/\(∀ q∈ps,ah (ps.foldl (λk q=>wl k q.1 q.2) k) q.1 q.2=true)/\
  ∀ R:Nat->Nat->Prop,(∀ a b c,R a b->R b c->R a c)->(∀ a b,a<n->ah k a b=true->R a b)->(∀ q∈ps,R q.1 q.2)->∀ a b,a<n->ah (ps.foldl (λk q=>wl k q.1 q.2) k) a b=true->R a b
 | [],_,k,_,ht,hl=>⟨ht,hl,λ_ _ _ h=>h,nofun,λR _ h _=>h⟩
 | q::r,hq,k,hk,ht,hl=>by
  obtain ⟨q1,q2⟩:=hq q mem_cons_self
  have e:∀ a b,a<n->ah (wl k q.1 q.2) a b=(ah k a b||((a==q.1||ah k a q.1)&&(b==q.2||ah k q.2 b))):=λa b ha=>J9 (by omega)
  obtain ⟨h1,h2,h3,h4,h5⟩:=JN r (λx hx=>hq x (mem_cons_of_mem _ hx)) (wl k q.1 q.2) (by rw[YH];exact hk) (ht.wl (by omega) (by omega) hl) (hl.wl (by omega))
  refine ⟨h1,h2,λa b ha h=>h3 a b ha (by rw[e a b ha,h];rfl),λx hx=>?_,λR tr h0 hR a b ha h=>h5 R tr (λa b ha h=>?_) (λx hx=>hR x (mem_cons_of_mem _ hx)) a b ha h⟩
  ·rcases mem_cons.mp hx with rfl | hx
   ·exact h3 _ _ q1 (by rw[e _ _ q1];simp)
   ·exact h4 x hx
  ·rw[e a b ha] at h
   simp only[or_eq_true,and_eq_true,beq_iff_eq] at h
   have hq' := hR q mem_cons_self
   rcases h with h | ⟨h1,h2⟩
   ·exact h0 a b ha h
   ·have z:R a q.2:=by
     rcases h1 with rfl | h1
     ·exact hq'
     ·exact tr _ _ _ (h0 _ _ ha h1) hq'
    rcases h2 with rfl | h2
    ·exact z
    ·exact tr _ _ _ z (h0 _ _ q2 h2)
theorem W8 {n:Nat}:Tr (List.replicate n 0)/\Lo (List.replicate n 0):=⟨λa b c _ _ h=>absurd h (by rw[V3];exact Bool.false_ne_true),λa _ b h=>absurd h (by rw[V3];exact Bool.false_ne_true)⟩
theorem Yh {k:Kn}{q:Nat×Nat}:q∈pairsOf k↔q.1<k.length/\q.2<k.length/\ah k q.1 q.2=true:=by
 unfold pairsOf zhc
 constructor
 ·intro h
  obtain ⟨i,hi,h⟩:=mem_flatMap.mp h
  obtain ⟨j,hj,rfl⟩:=mem_map.mp h
  obtain ⟨hj,h⟩:=mem_filter.mp hj
  exact ⟨mem_range.mp hi,mem_range.mp hj,h⟩
 ·rintro ⟨h1,h2,h3⟩
  exact mem_flatMap.mpr ⟨q.1,mem_range.mpr h1,mem_map.mpr ⟨q.2,mem_filter.mpr ⟨mem_range.mpr h2,h3⟩,rfl⟩⟩
open L2
noncomputable def zaI (n:Nat):List (Nat×Nat):=(List.range n).flatMap λi=>(List.range n).map λj=>(i,j)
noncomputable def Yx (n:Nat) (ps:List (Nat×Nat)):List (Nat×Nat):=(zaI n).filter λq=>decide (q∈ps)
noncomputable def up (q:Nat×Nat):Int×Int:=((q.1:Int),(q.2:Int))
theorem ziR {a b:Nat×Nat}(h:up a=up b):a=b:=by
 unfold up at h
 injection h with h1 h2
 exact Prod.ext (by omega) (by omega)
theorem ze3 {q:Nat×Nat}{ps:List (Nat×Nat)}:up q∈ps.map up↔q∈ps:=⟨λh=>by
 obtain ⟨a,ha,e⟩:=mem_map.mp h
 rw[← ziR e];exact ha,λh=>mem_map_of_mem h⟩
theorem JX {n:Nat}{q:Nat×Nat}:q∈zaI n↔q.1<n/\q.2<n:=by
 unfold zaI
 constructor
 ·intro h
  obtain ⟨i,hi,h⟩:=mem_flatMap.mp h
  obtain ⟨j,hj,rfl⟩:=mem_map.mp h
  exact ⟨mem_range.mp hi,mem_range.mp hj⟩
 ·rintro ⟨h1,h2⟩
  exact mem_flatMap.mpr ⟨q.1,mem_range.mpr h1,mem_map.mpr ⟨q.2,mem_range.mpr h2,rfl⟩⟩
theorem za2 (n:Nat):zfa n=(zaI n).map up:=by
 unfold zfa zaI
 rw[List.map_flatMap]
 congr 1
 funext i
 rw[map_map];rfl
theorem QW {n:Nat}{ps:List (Nat×Nat)}:zel n (ps.map up)=(Yx n ps).map up:=by
 unfold zel Yx
 rw[za2,filter_map]
 congr 1
 refine filter_congr λq _=>?_
 show decide (up q∈ps.map up)=decide (q∈ps)
 exact decide_eq_decide.mpr ze3
theorem YB {n:Nat}{ps:List (Nat×Nat)}{q:Nat×Nat}:q∈Yx n ps↔(q.1<n/\q.2<n)/\q∈ps:=by
 unfold Yx
 rw[mem_filter,JX,decide_eq_true_eq]
theorem zbm (n:Nat)(ps:List (Nat×Nat)):(Yx n ps).Nodup:=by
 have:=zdD n (ps.map up)
 rw[QW] at this
 exact List.Pairwise.of_map up (λa b h e=>h (by rw[e])) this
theorem Jt (n:Nat):(zaI n).length=n*n:=by
 unfold zaI
 suffices h:∀ m,((List.range m).flatMap λi=>(List.range n).map λj=>(i,j)).length=m*n from h n
 intro m
 induction m with
 | zero=>simp
 | succ m ih=>rw[range_succ,flatMap_append,length_append,ih,flatMap_singleton,length_map,length_range,succ_mul]
theorem zak {n:Nat}{ps:List (Nat×Nat)}:(Yx n ps).length<=n*n:=by
 unfold Yx
 exact Nat.le_trans (length_filter_le _ _) (le_of_eq (Jt n))
theorem V0 {n:Nat}{a b:List (Nat×Nat)}{q:Nat×Nat}(h:∀ x∈Yx n a,x∈b)(hq:q∈b)(hn:q.1<n/\q.2<n)(hq' : q∉Yx n a):(Yx n a).length<(Yx n b).length:=by
 have:=List.Nodup.length_le_of_subset (l₁:=q::Yx n a) (l₂:=Yx n b) (nodup_cons.mpr ⟨hq',zbm n a⟩) λx hx=>by
  rcases mem_cons.mp hx with rfl | hx
  ·exact YB.mpr ⟨hn,hq⟩
  ·exact YB.mpr ⟨(YB.mp hx).1,h x hx⟩
 exact this
theorem XR (k:Kn):pairsOf k=(zaI k.length).filter λq=>ah k q.1 q.2:=by
 unfold pairsOf zaI zhc
 rw[List.filter_flatMap]
 congr 1
 funext i
 rw[filter_map];rfl
noncomputable def zfw (F:List (Nat×Nat)) (q:Nat×Nat):List (Nat×Nat):=(F.filter λr=>decide (q.2=r.1) && !decide ((q.1,r.2)∈F)).map λr=>(q.1,r.2)
noncomputable def UT (F:List (Nat×Nat)) (m:Nat):List (Nat×Nat):=(F.take m).flatMap (zfw F)
theorem Ur {F:List (Nat×Nat)}{q:Nat×Nat}:q∈UT F F.length↔q∉F/\∃ j,(q.1,j)∈F/\(j,q.2)∈F:=by
 unfold UT zfw
 rw[take_length]
 constructor
 ·intro h
  obtain ⟨a,ha,h⟩:=mem_flatMap.mp h
  obtain ⟨r,hr,rfl⟩:=mem_map.mp h
  obtain ⟨hr,h⟩:=mem_filter.mp hr
  simp only[and_eq_true,decide_eq_true_eq,not_eq_true',decide_eq_false_iff_not] at h
  exact ⟨h.2,a.2,ha,by rw[h.1];exact hr⟩
 ·rintro ⟨h,j,h1,h2⟩
  refine mem_flatMap.mpr ⟨_,h1,mem_map.mpr ⟨_,mem_filter.mpr ⟨h2,?_⟩,rfl⟩⟩
  simp only[and_eq_true,decide_eq_true_eq,not_eq_true',decide_eq_false_iff_not]
  exact ⟨trivial,h⟩
theorem zah {n:Nat}{ps qs:List (Nat×Nat)}(hps:∀ q∈ps,q.1<n/\q.2<n)(h1:∀ q∈ps,q∈qs)(h2:∀ q∈Yx n qs,ah (Z4 ps n) q.1 q.2=true)(tr:UT (Yx n qs) (Yx n qs).length=[]):Yx n qs=pairsOf (Z4 ps n):=by
 have hl:(Z4 ps n).length=n:=Qh
 rw[XR,hl]
 unfold Yx
 refine filter_congr λq hq=>?_
 have hq:=JX.mp hq
 obtain ⟨_,lo,_,_,mn⟩:=JN ps hps (List.replicate n 0) length_replicate W8.1 W8.2
 by_cases h:q∈qs
 ·rw[decide_eq_true h,h2 q (YB.mpr ⟨hq,h⟩)]
 ·rw[decide_eq_false h]
  cases e:ah (Z4 ps n) q.1 q.2 with
  | false=>rfl
  | true=>
   refine absurd ?_ h
   have:=mn (λa b=>(a,b)∈Yx n qs) (λa b c hab hbc=>?_) (λa b _ hab=>absurd hab (by rw[V3];exact Bool.false_ne_true)) (λx hx=>YB.mpr ⟨hps x hx,h1 x hx⟩) q.1 q.2 hq.1 e
   ·exact (YB.mp this).2
   ·refine Decidable.byContradiction λz=>?_
    have:(a,c)∈UT (Yx n qs) (Yx n qs).length:=Ur.mpr ⟨z,b,hab,hbc⟩
    rw[tr] at this;cases this
structure IsO (k:Kn):Prop where
 tr:Tr k
 lo:Lo k
 ir:∀ t,t<k.length->ah k t t=false
theorem Jo {k:Kn}(h:IsO k):Z4 (pairsOf k) k.length=k:=by
 obtain ⟨_,lo,_,hold,mn⟩:=JN (pairsOf k) (λq hq=>⟨(Yh.mp hq).1,(Yh.mp hq).2.1⟩) (List.replicate k.length 0) length_replicate W8.1 W8.2
 refine ext_getElem? λt=>?_
 by_cases ht:t<k.length
 ·have hl:(Z4 (pairsOf k) k.length).length=k.length:=Qh
  rw[List.getElem?_eq_getElem ht,List.getElem?_eq_getElem (by rw[hl];exact ht)]
  congr 1
  refine Nat.eq_of_testBit_eq λb=>?_
  have e1:∀ (l:Kn) (h:t<l.length),l[t]=l.getD t 0:=λl h=>by rw[getD_eq_getElem?_getD,List.getElem?_eq_getElem h];rfl
  rw[e1,e1]
  show ah (Z4 (pairsOf k) k.length) t b=ah k t b
  rw[Bool.eq_iff_iff]
  constructor
  ·intro e
   have:=mn (λa b=>a<k.length/\ah k a b=true) (λa b c hab hbc=>⟨hab.1,h.tr a b c hab.1 hbc.1 hab.2 hbc.2⟩) (λa b _ hab=>absurd hab (by rw[V3];exact Bool.false_ne_true)) (λx hx=>⟨(Yh.mp hx).1,(Yh.mp hx).2.2⟩) t b ht e
   exact this.2
  ·intro e
   exact hold (t,b) (Yh.mpr ⟨ht,h.lo t ht b e,e⟩)
 ·have hl:(Z4 (pairsOf k) k.length).length=k.length:=Qh
  rw[List.getElem?_eq_none (by omega),List.getElem?_eq_none (by omega)]
theorem IsO.bits {ps:List (Nat×Nat)}{n:Nat}(hps:∀ q∈ps,q.1<n/\q.2<n)(R:Nat->Nat->Prop)(tr:∀ a b c,R a b->R b c->R a c)(ir:∀ a,¬ R a a)(h:∀ q∈ps,R q.1 q.2):IsO (Z4 ps n):=by
 obtain ⟨h1,h2,_,_,mn⟩:=JN ps hps (List.replicate n 0) length_replicate W8.1 W8.2
 refine ⟨h1,h2,λt ht=>?_⟩
 rw[Qh] at ht
 cases e:ah (Z4 ps n) t t with
 | false=>rfl
 | true=>exact absurd (mn R tr (λa b _ hab=>absurd hab (by rw[V3];exact Bool.false_ne_true)) h t t ht e) (ir t)
theorem IsO.wl {k:Kn}{i j:Nat}(h:IsO k)(hi:i<k.length)(hj:j<k.length)(n:i≠j)(no:ah k j i=false):IsO (M41.wl k i j):=by
 refine ⟨h.tr.wl hi hj h.lo,h.lo.wl hj,λt ht=>?_⟩
 rw[YH] at ht
 rw[J9 ht,h.ir t ht,Bool.false_or]
 cases e:(t==i||ah k t i)&&(t==j||ah k j t) with
 | false=>rfl
 | true=>
  simp only[or_eq_true,and_eq_true,beq_iff_eq] at e
  rcases e with ⟨rfl | e1,rfl | e2⟩
  ·exact absurd rfl n
  ·rw[no] at e2;cases e2
  ·rw[no] at e1;cases e1
  ·have:=h.tr j t i hj ht e2 e1
   rw[no] at this;cases this
theorem JV {k:Kn}(h:IsO k)(i j:Nat):Z4 (pairsOf k++[(i,j)]) k.length=M41.wl k i j:=by
 unfold Z4
 rw[List.foldl_append]
 show M41.wl (Z4 (pairsOf k) k.length) i j=_
 rw[Jo h]
end M41
namespace L2
open PySem PySem.Spec PyProof.Rows
section
variable {K:PySem.W.Frag}{B:Hp}{ρ:List PV}
theorem zex {i:Nat}{te:TE}{R:PV->List PV->Prop}{u0:PV}{ds0:List PyData}(hi:ρ[i]?=some u0)(hu:u0.rd=some ds0)(h:Eg K B te ρ λr ρ' => ∃ (u:PV)(ds:List PyData)(j:Nat)(d:PyData),r = .dat (.int (j:Nat))/\ρ'[i]?=some u/\u.rd=some ds/\ds[j]?=some d/\j<=10 ^ 6/\R (.dat d) (ρ'.set i (u.put (ds.eraseIdx j)))):Eg K B (tBM K "list" zfs (WL i) (Xc te QT)) ρ R:=λE G0 H0 G H σ F r Q q=>by
 obtain ⟨p,xs,e,hx,hp,hd⟩:=(r.sl i _ hi).rd hu
 refine ⟨_,hx,.inl ⟨rfl,xs,SqL.of hp⟩,?_⟩
 refine h E G0 H0 G H σ F r _ λv w ρ' G' H' F' L hR s r' sl n=>?_
 obtain ⟨u,ds,j,d,rfl,hi',hu',hj,hz,hR⟩:=hR
 obtain ⟨p',xs',e',hx',hp',hd'⟩:=(r'.sl i _ hi').rd hu'
 rw[hx] at hx';cases hx'
 obtain ⟨_,x,hxv,hxd⟩:=sl
 cases hxv
 rw[hxd.int]
 obtain ⟨y,hy,hyd⟩:=hd'.get hj
 have hjl:j<xs'.length:=(List.getElem?_eq_some_iff.mp hy).1
 refine ⟨p,xs',(j:Nat),j,y,rfl,rfl,hp',by omega,by omega,(zaR (YL hjl)).1,hy,?_⟩
 exact q y _ _ G' _ F' [] hR s (r'.put hi' hu' hx (V6 j hd')) ⟨rfl,y,rfl,hyd⟩ JT
theorem zeG {t:TA}{R:PV->List PV->Prop}(h:EgA K B t ρ λds ρ' => ∃ n:Nat,ds=[.int (n:Nat)]/\n<=10 ^ 6/\R (.own ((List.range n).map λ(i:Nat)=>PyData.int (i:Nat))) ρ'):Eg K B (zeN t) ρ R:=λE G0 H0 G H σ F r Q q=>
 h E G0 H0 G H σ F r _ λvs ds ρ1 G1 H1 F1 hh s1 r1 hv=>by
  obtain ⟨n,rfl,hn,hR⟩:=hh
  obtain ⟨y,ys,rfl,hy,hn0⟩:=hv.cons
  cases hn0.nil
  rw[hy.int]
  refine ⟨(n:Nat),rfl,by omega,by rw[toNat_natCast];exact Nat.le_trans hn (show (10:Nat) ^ 6<=2 ^ 24 by decide),λl hl=>?_⟩
  rw[toNat_natCast]
  have hd:Yr K G1 ((List.range n).map λ(i:Nat)=>V.int i) ((List.range n).map λ(i:Nat)=>PyData.int (i:Nat)):=by
   induction List.range n with
   | nil=>exact Yq
   | cons a r ih=>exact Ye (Zk _) ih
  obtain ⟨a,b,c⟩:=r1.zjq hl hd
  exact q _ _ ρ1 G1 _ F1 [l] hR s1 a b c
theorem za0 {ta tb:TE}{neg:Bool}{d:PyData}{ds:List PyData}(ha:Er K B ta ρ d)(hb:Er K B tb ρ (.list ds))(pd:Pl 60 d)(pds:∀ e∈ds,Pl 60 e):Er K B (tOp (zj7 K neg) ta tb) ρ (.bool (if neg=true then !ds.any (λe=>PySem.Spec.same e d) else ds.any λe=>PySem.Spec.same e d)):=λG σ r=>
 Qj (ha G σ r) (hb G σ r) λG1 H u v Q s1 s2 hu hv k=>by
  obtain ⟨p,xs,rfl,hp,hxs⟩:=hv.lst
  exact ⟨G1,d,ds,p,xs,s2,hu,rfl,s2 _ _ hp,hxs,pd,pds,k _ G1 H (Xq.refl s2) (Yy _)⟩
end
theorem zd4 {P:Program}{w:World}{K:PySem.W.Frag}{mg:Str->Option Value}{base:Heap}{k:Nat}{f:Addr}{fd:FuncData}{ps:List Str}:Ql P w K mg base CX0 k f fd ps (λ_ _ _ _=>False):=⟨λ_ _ _ _ h=>h.elim,λ_ _ _ _ _ _ _ _ _ _ _ _ _ h=>h.elim⟩
end L2
namespace M41
open L2 PySem
theorem zgt (n:Nat):(zaI n).Nodup:=by
 have:Yx n (zaI n)=zaI n:=by
  unfold Yx
  rw[List.filter_eq_self]
  intro a ha;exact decide_eq_true ha
 rw[← this];exact zbm n _
theorem zc3 {i n:Nat}(hi:i<n)(q:Nat->Bool):((List.range n).filter λj=>decide (i<j)&&q j)=((List.range (n-(i+1))).filter λd=>q (i+1+d)).map λd=>i+1+d:=by
 have e:n=(i+1)+(n-(i+1)):=by omega
 conv=>lhs;rw[e,List.range_add]
 rw[filter_append,filter_map]
 have z:((List.range (i+1)).filter λj=>decide (i<j)&&q j)=[]:=by
  rw[List.filter_eq_nil_iff]
  intro a ha
  have:=mem_range.mp ha
  rw[decide_eq_false (by omega)];exact Bool.false_ne_true
 rw[z,List.nil_append]
 congr 1
 refine filter_congr λd _=>?_
 show (decide (i<i+1+d)&&q (i+1+d))=_
 rw[decide_eq_true (by omega),Bool.true_and]
theorem Qs (k:Kn):unp k=(zaI k.length).filter λq=>decide (q.1<q.2)&&opq k q.1 q.2:=by
 unfold unp zaI
 rw[List.filter_flatMap]
 have go:∀ l:List Nat,(∀ i∈l,i<k.length)->(l.flatMap λi=>zki k i (k.length-(i+1)))=l.flatMap λi=>((List.range k.length).map λj=>(i,j)).filter λq=>decide (q.1<q.2)&&opq k q.1 q.2:=λl=>by
  induction l with
  | nil=>intro _;rfl
  | cons a r ih=>
   intro h
   rw[flatMap_cons,flatMap_cons,ih λi hi=>h i (mem_cons_of_mem _ hi)]
   congr 1
   rw[filter_map]
   show _=List.map (λj=>(a,j)) ((List.range k.length).filter λj=>decide (a<j)&&opq k a j)
   rw[zc3 (h a mem_cons_self),map_map];rfl
 exact go _ λi hi=>mem_range.mp hi
theorem Xk {k:Kn}{q:Nat×Nat}:q∈unp k↔q.1<q.2/\q.2<k.length/\opq k q.1 q.2=true:=by
 rw[Qs,mem_filter,JX,and_eq_true,decide_eq_true_eq]
 exact ⟨λ⟨⟨_,h1⟩,h2,h3⟩=>⟨h2,h1,h3⟩,λ⟨h1,h2,h3⟩=>⟨⟨by omega,h2⟩,h1,h3⟩⟩
theorem zdE (k:Kn):(unp k).Nodup:=by rw[Qs];exact (zgt _).filter _
noncomputable def u (k:Kn):Nat:=(unp k).length
theorem zis {k:Kn}{i j a b:Nat}(ha:a<k.length)(hb:b<k.length)(h:opq (wl k i j) a b=true):opq k a b=true:=by
 unfold opq at h ⊢
 rw[J9 ha,J9 hb] at h
 simp only[and_eq_true,not_eq_true',Bool.or_eq_false_iff] at h ⊢
 exact ⟨h.1.1,h.2.1⟩
theorem zfh {k:Kn}{i j:Nat}{q:Nat×Nat}(hq:q∈unp k)(h:opq (wl k i j) q.1 q.2=false):u (wl k i j)<u k:=by
 have:=List.Nodup.length_le_of_subset (l₁:=q::unp (wl k i j)) (l₂:=unp k) (nodup_cons.mpr ⟨λz=>absurd (Xk.mp z).2.2 (by rw[h];exact Bool.false_ne_true),zdE _⟩) λx hx=>by
  rcases mem_cons.mp hx with rfl | hx
  ·exact hq
  ·obtain ⟨h1,h2,h3⟩:=Xk.mp hx
   rw[YH] at h2
   exact Xk.mpr ⟨h1,h2,zis (by omega) h2 h3⟩
 exact this
theorem zkg {k:Kn}{i j:Nat}(h:(i,j)∈unp k):u (wl k i j)<u k/\u (wl k j i)<u k:=by
 obtain ⟨h1,h2,h3⟩:=Xk.mp h
 have h1:i<j:=h1
 have h2:j<k.length:=h2
 refine ⟨zfh h ?_,zfh h ?_⟩
 ·show opq (wl k i j) i j=false
  unfold opq
  rw[J9 (by omega)];simp
 ·show opq (wl k j i) i j=false
  unfold opq
  rw[J9 (b:=i) h2];simp
end M41
namespace L2
open PySem PySem.Spec PyProof.Rows
section
variable {K:PySem.W.Frag}{B:Hp}{ρ:List PV}{t:TA}{ds:List PyData}
theorem za1 {a b:Int}(h:Ea K B t ρ [.int a,.int b]):Er K B (tCB (λxs H Q=>∃ i j,xs=[.int i,.int j]/\Q (.int (if j>i then j else i)) H) t) ρ (.int (if b>a then b else a)):=zgI h λG1 H xs Q s hx k=>by
 obtain ⟨y,ys,rfl,hy,hv⟩:=hx.cons
 obtain ⟨y2,ys,rfl,hy2,hv⟩:=hv.cons
 cases hv.nil
 rw[hy.int,hy2.int]
 exact ⟨a,b,rfl,k _ G1 H (Xq.refl s) (Zk _)⟩
end
end L2
namespace M41
theorem J2 (k:Kn)(i j:Nat):opq k i j=opq k j i:=by unfold opq;rw[Bool.and_comm]
theorem zaS {k:Kn}{q:Nat×Nat}:q∈opn k↔q∈unp k:=by
 rw[Xk]
 unfold opn orow
 constructor
 ·intro h
  obtain ⟨j,hj,h⟩:=mem_flatMap.mp h
  obtain ⟨i,hi,rfl⟩:=mem_map.mp h
  obtain ⟨hi,h⟩:=mem_filter.mp hi
  exact ⟨mem_range.mp hi,mem_range.mp hj,h⟩
 ·rintro ⟨h1,h2,h3⟩
  exact mem_flatMap.mpr ⟨q.2,mem_range.mpr h2,mem_map.mpr ⟨q.1,mem_filter.mpr ⟨mem_range.mpr h1,h3⟩,rfl⟩⟩
end M41
namespace L2
open PySem PySem.Spec PyProof.Rows
theorem zdC (l:Addr)(items:Array Value)(n:Nat)(x:Int)(t:Tok)(dct:Option Addr)(sl:Array (Option Value))(h2:0<=x)(h3:x<=1000)(he:items.isEmpty=true):
  Meets (Builtin.«tuple.__mul__» ⟨[.ref l,.int x t],[]⟩) (λ_ R s=>s.heap.get? l=some { cls:=.type "tuple",dict:=dct,data:=.seq items n,slots:=sl }/\R (.ok (.ret (Value.ref l))) s):=
 .of_wp λprog w A R s h=>by
  obtain ⟨hp,g,d,tk,os⟩:=s;obtain ⟨q1,h⟩:=h
  have b1:(decide (x < -(2 ^ 63))||decide (x ≥ 2 ^ 63))=false:=by
   rw[decide_eq_false (by omega),decide_eq_false (by omega)];rfl
  have b2:(items.isEmpty||x==1)=true:=by rw[he];rfl
  wp_walk using AutoSeq1.wpAny_loadPart' q1
  rw[if_neg (by rw[b1];exact Bool.false_ne_true)]
  wp_walk using AutoSeq1.wpAny_loadPart' q1
  exact ⟨_,rfl,h⟩
theorem zcq (l:Addr)(items:Array Value)(n:Nat)(t:Tok)(dct:Option Addr)(sl:Array (Option Value))(he:items.isEmpty=false):
  Meets (Builtin.«tuple.__mul__» ⟨[.ref l,.int 0 t],[]⟩) (λ_ R s=>s.heap.get? l=some { cls:=.type "tuple",dict:=dct,data:=.seq items n,slots:=sl }/\
   R (.ok (.ret (Value.ref s.heap.objs.size))) { s with heap:=s.heap.push { cls:=.type "tuple",data:=.seq #[] } }):=
 .of_wp λprog w A R s h=>by
  obtain ⟨hp,g,d,tk,os⟩:=s;obtain ⟨q1,h⟩:=h
  have b2:(items.isEmpty||(0:Int)==1)=false:=by rw[he];rfl
  have b3:(decide ((0:Int)<=0)||items.isEmpty)=true:=by rw[decide_eq_true (by omega)];rfl
  wp_walk using AutoSeq1.wpAny_loadPart' q1
  exact ⟨_,rfl,h⟩
section
variable {X:Cx}{K:PySem.W.Frag}
def zh1 (K:PySem.W.Frag):R2:=λx y H Q=>∃ l k xs,x = .ref l/\y = .int k/\SqT K H l xs/\0<=k/\k<=1000/\xs.length<=1000/\(k=1\/xs=[]->Q (.ref l) H)/\(k≠1->xs≠[]->∀ p,H p=none->Q (.ref p) (upd H p (.tup (List.replicate k.toNat xs).flatten)))
theorem zg0 (eK:X.K=K):OpR X (binaryOp .Mult) (zh1 K):=by
 subst eK
 intro pins s σ H x y v u Q I rx ry h
 obtain ⟨l,k,xs,rfl,rfl,hq,k1,k2,hz,q1,q2⟩:=h
 cases rx
 obtain ⟨t,rfl⟩:=ry
 obtain ⟨its,r,p,_⟩:=I.tuple hq
 obtain ⟨⟨c,dct,dt,sl⟩,e1,e2,n,e3⟩:=p
 replace e2:c = .type "tuple" := e2
 replace e3:dt = .seq its.toArray n:=e3
 subst e2 e3
 have hl:=r.length
 refine wpAny_binaryOp_repeat_ref (T:= "tuple") (U:= "int") (by decide) ⟨_,e1,rfl⟩ (λs' => typeIs_int s' k t) za8 F.fills_int_mul F.slot_int_rmul zgw F.slot_int_index.lookup
  (call_meets F.slot_int_rmul (typeIs_int s k t) F.entry_int_rmul (F.args_int_rmul_2 _ _) (zad k t l its.toArray n dct sl) ⟨e1,rfl,⟨_,e1,rfl⟩,?_⟩)
 by_cases h1:k=1
 ·subst h1
  exact call_meets F.slot_tuple_mul ⟨_,e1,rfl⟩ F.entry_tuple_mul (F.args_tuple_mul_2 _ _) (zcC l its.toArray n t dct sl) ⟨e1,.ref l,H,I,rfl,q1 (.inl rfl)⟩
 by_cases hne:xs=[]
 ·have hemp:its.toArray.isEmpty=true:=by
   cases its with
   | nil=>rfl
   | cons a b=>rw[hne] at hl;cases hl
  exact call_meets F.slot_tuple_mul ⟨_,e1,rfl⟩ F.entry_tuple_mul (F.args_tuple_mul_2 _ _) (zdC l its.toArray n k t dct sl k1 k2 hemp) ⟨e1,.ref l,H,I,rfl,q1 (.inr hne)⟩
 have hemp:its.toArray.isEmpty=false:=by
  cases its with
  | nil=>exact absurd (r.Vq.mp rfl) hne
  | cons a b=>simp
 have hlen:(List.replicate k.toNat xs).flatten.length<=sizeLine:=by
  rw[len_rep]
  have z:(1000:Nat)*1000<=sizeLine:=by decide
  have:=mul_le_mul (show k.toNat<=1000 by omega) hz
  omega
 have e4:List.foldl (λx1 x2=>x1++x2) #[] (List.replicate k.toNat its.toArray)=(List.replicate k.toNat its).flatten.toArray:=by
  have:=foldl_rep its k.toNat []
  rw[List.nil_append] at this
  exact this
 have fin:=λ(hh:Heap) (e:hh=s.heap.push { cls:=.type "tuple",data:=.seq (List.replicate k.toNat its).flatten.toArray })=>(show EP X pins σ Q (.ref s.heap.objs.size) { s with heap:=hh } from by
  subst e
  exact ⟨.ref s.heap.objs.size,_,I.laid (t' := s.toks) (o:=.tup (List.replicate k.toNat xs).flatten) (λb ob q=>get?_push_of_some _ q) (Nat.le_refl _) ⟨hlen,_,r.rep k.toNat,IsTup.new _ _,_,get?_push_size _ rfl,rfl⟩,rfl,q2 h1 hne _ (I.hok.fresh (Nat.le_refl _))⟩)
 by_cases h0:k=0
 ·subst h0
  exact call_meets F.slot_tuple_mul ⟨_,e1,rfl⟩ F.entry_tuple_mul (F.args_tuple_mul_2 _ _) (zcq l its.toArray n t dct sl hemp) ⟨e1,fin _ rfl⟩
 ·refine call_meets F.slot_tuple_mul ⟨_,e1,rfl⟩ F.entry_tuple_mul (F.args_tuple_mul_2 _ _) (zdf l its.toArray n k t dct sl (by omega) k2 hemp (by simp;omega)) ⟨e1,fin _ (by rw[e4])⟩
end
section
variable {K:PySem.W.Frag}{B:Hp}{ρ:List PV}{ta tb:TE}
theorem zf7 {ds:List PyData}{n:Nat}(ha:Er K B ta ρ (.tuple ds))(hb:Er K B tb ρ (.int (n:Nat)))(h2:n<=1000)(hz:ds.length<=1000):Er K B (tOp (zh1 K) ta tb) ρ (.tuple (List.replicate n ds).flatten):=λG σ r=>Qj (ha G σ r) (hb G σ r) λG1 H x y Q s1 s2 hx hy k=>by
 obtain ⟨p,us,rfl,hp,hus⟩:=hx.tup
 rw[hy.int]
 have hl:=hus.length
 refine ⟨p,n,us,rfl,rfl,s2.tup hp,by omega,by omega,by omega,λz=>?_,λz zn q hq=>?_⟩
 ·have e:(List.replicate n ds).flatten=ds:=by
   rcases z with z | z
   ·have:n=1:=by omega
    subst this;simp
   ·have:ds=[]:=List.eq_nil_of_length_eq_zero (by rw[← hl,z];rfl)
    subst this;simp
  rw[e] at k
  exact k _ G1 H (Xq.refl s2) (Xv hp hus)
 ·rw[toNat_natCast]
  have g:=Yl (o:=.tup (List.replicate n us).flatten) s2 hq
  exact k _ _ _ g (Xv (SqT.of Zz) ((zab hus n).same g.gg))
end
end L2
namespace V8
open PySem PySem.SetTable
section
variable {prog:Program}{w:World}{A:Around}{E:Value->Shared->Prop}{s:Shared}
theorem Uv {l:Addr}{items:Array Value}{its:Nat->Addr×List Int}{Q:Value->Shared->Prop}(hh:A.handled=none)(hu:∀ A' : Around,A'.units<=A.units+8->A'.units<cLine)
  (hl:s.heap.IsTuple l items) (hits:∀ (i:Nat) (v:Value),items[i]?=some v->v = .ref (its i).1) (hT:∀ i,i<items.size->Jx prog w s.heap (its i).2 (its i).1) (few:Few items.size its)
  (h:∀ (h' : Heap) (tk:Nat) (M:List (Addr×List Int)),TSt prog w h' s.heap.objs.size (ldd w) M->Met its items.size M->(∀ b o,b<s.heap.objs.size->s.heap.get? b=some o->h'.get? b=some o)->s.toks<=tk->Q (.ref s.heap.objs.size) { s with heap:=h',toks:=tk }):
  wpAny (model prog w) A (call (.type "set") [.ref l]) Q E s:=by
 have ct:=F.called_set
 obtain ⟨c,tl,hmro⟩:=ct.mro
 have c1:=ct.made
 have c2:=ct.sub
 have c3:=ct.notType
 have c4:=ct.canCreate
 have c5:=F.typeCall_set_1 (.ref l)
 refine wpAny_call (codeAny_of_tree ?_)
 show wpAny _ _ (callAny (.type "set") _) _ _ _
 refine wpAny_pure ⟨Code.quiet_builtin _ (by decide +kernel),codeAny_builtin F.entry_type_call ?_⟩
 rw[Around.under_plain (weight_type_call_type "set" [.ref l] []) rfl]
 repeat (any_goals (first | assumption | wp_step))
 refine codeAny_mono (zcT (.ref l) (E:=E) (Q:=λv s1=>v = .ref s.heap.objs.size/\s1={ s with heap:=s.heap.push (Uc w) }) ⟨rfl,rfl⟩) λr s1 hr=>?_
 match r,hr with
 | .ok (.ret v),hr=>
  obtain ⟨rfl,rfl⟩:=hr
  have gS:(s.heap.push (Uc w)).get? s.heap.objs.size=some (Uc w):=get?_push_size _ rfl
  have tS:TypeIs { s with heap:=s.heap.push (Uc w) } (.ref s.heap.objs.size) "set" := ⟨_,gS,rfl⟩
  have i1:=ct.init.lookup
  have i2:=ct.init.bind (.ref s.heap.objs.size)
  repeat (any_goals (first | assumption | wp_step))
  refine codeAny_mono (codeAny_call_builtin (R:=wants (λv s2=>v = .none/\∃ h' tk M,s2={ s with heap:=h',toks:=tk }/\TSt prog w h' s.heap.objs.size (ldd w) M/\Met its items.size M/\(∀ b o,b<s.heap.objs.size->s.heap.get? b=some o->h'.get? b=some o)/\s.toks<=tk) E) ct.init.plain F.entry_set_init (check_set_init_1 tS ?_)) λr2 s2 hr2=>?_
  ·have hl1:=hl.push (Uc w)
   obtain ⟨⟨ocls,odict,odata,oslots⟩,hol,hcl,nl,hdl⟩:=hl
   simp only at hcl hdl
   subst hcl;subst hdl
   have hol' := get?_push_of_some (Uc w) hol
   have n1:=F.sub_tuple_set
   have n2:=F.sub_tuple_frozenset
   have n3:(Value.type "tuple" == Value.type "dict")=false:=by decide
   unfold Builtin.«set.__init__» noKeywords Builtin.Frozenset.updateFrom
   generalize hPI:pyIter=PI
   wp_walk
   subst hPI
   refine wpAny_pyIter_tuple hl1 ?_
   refine wpAny_bind (wpAny_runValue ?_)
   have hlt:l<s.heap.objs.size:=lt_size hol
   have hh3:A.in1.in1.in1.handled=none:=by simp[hh]
   have nI:l≠(s.heap.push (Uc w)).objs.size:=by rw[size_push];exact ne_of_lt (lt_succ_of_lt hlt)
   have nS:s.heap.objs.size∉[(s.heap.push (Uc w)).objs.size,l]:=by
    rw[size_push]
    intro z
    rcases mem_cons.mp z with z | z
    ·exact absurd z (ne_of_lt (lt_succ_self _))
    ·rw[mem_singleton] at z;exact absurd z (ne_of_gt hlt)
   have low:∀ i,i<items.size->(its i).1<s.heap.objs.size:=λi hi=>by
    obtain ⟨o,_,_,ho,_⟩:=hT i hi
    exact lt_size ho
   refine zhi ((Walks.tuple hh3 _ l nI items).toS) (hu _ (by simp <;> omega)) s.heap.objs.size (ldd w) nS its hits (λi hi z=>?_) few (items.size-0) 0 _ [] (by omega) (zero_le _) ⟨⟨_,get?_push_size _ rfl,rfl,rfl⟩,hl1.push _⟩ (λm hm=>Jx.at (hT m hm) λo e=>get?_push_of_some _ (get?_push_of_some _ e)) ((TSt.new s.heap).at (λo e=>get?_push_of_some _ e) λq hq=>(by cases hq)) (Met.zero its) λs' M mv T mt=>?_
   ·have:=low i hi
    rw[size_push] at z
    rcases mem_cons.mp z with z | z
    ·exact absurd z (ne_of_lt this)
    ·rw[mem_singleton] at z;exact absurd z (ne_of_lt (lt_succ_of_lt this))
   ·obtain ⟨h',g',d',tk',os'⟩:=s'
    have eg:g'=s.gens:=mv.gens
    have ed:d'=s.drawn:=mv.drawn
    have eo:os'=s.os:=mv.os
    subst eg;subst ed;subst eo
    show wpAny _ _ _ _ _ _
    refine wpAny_pure ?_
    show wpAny _ _ (ret Value.none) _ _ _
    refine wpAny_pure ⟨rfl,h',tk',M,rfl,T,mt,λb o hb e=>?_,mv.toks⟩
    refine mv.heap b o (λz=>?_) (get?_push_of_some _ (get?_push_of_some _ e))
    rw[size_push] at z
    rcases mem_cons.mp z with z | z
    ·exact absurd z (ne_of_lt hb)
    ·rw[mem_singleton] at z;exact absurd z (ne_of_lt (lt_succ_of_lt hb))
  ·match r2,hr2 with
   | .ok (.ret v),hr2=>
    obtain ⟨rfl,h',tk,M,rfl,T,mt,kp,ht⟩:=hr2
    repeat (any_goals (first | assumption | wp_step))
    exact h _ _ _ T mt kp ht
   | .error e,hr2=>exact hr2
 | .error e,hr=>exact hr
end
end V8
namespace L2
open PySem PySem.Spec PyProof.Rows StbG V8
section
variable {X:Cx}{pins:List (Addr×Obj)}{σ:St}{H G:Hp}{s:Shared}
theorem zaK {p:Addr}{vs:List V}{ps:List (Int×Int)}{Q:VK}(hc:X.calm=true)(hu:X.A.units+8<cLine)(I:Inv X pins σ H s)(sg:ZS G H)(hq:SqT X.K H p vs)(hd:Yr X.K G vs (ps.map dPr))(few:∀ L:List (Int×Int),L.Nodup->(∀ q∈L,q∈ps)->L.length<64)(hps:∀ q∈ps,0<=q.2/\q.2<1000)
  (k:∀ (l:Addr) (us:List V) (qs:List (Int×Int)),H l=none->qs.Nodup->(∀ q,q∈qs↔q∈ps)->Yr X.K G us (qs.map dPr)->qs.Pairwise (λa b=>a.1*1000+a.2<=b.1*1000+b.2)->Q (.ref l) (upd H l (.lst us))):
  wpAny (model X.prog X.w) X.A (call (.type "set") [.ref p]) (λv s1=>wpAny (model X.prog X.w) X.A (call (.builtin "sorted") [v]) (EP X pins σ Q) X.xe s1) X.xe s:=by
 obtain ⟨its,r',pl,hz⟩:=I.tuple hq
 obtain ⟨Z,z1,z2,z3⟩:=triples I sg r' hd
 have hZl:Z.length=its.length:=by rw[← z1,length_map]
 let f:Nat->Addr×List Int:=λi=>match Z[i]? with | some z=>(adr z.1,JP z.2.2) | none=>(0,[])
 have fz:∀ {i z},Z[i]?=some z->f i=(adr z.1,JP z.2.2):=λ{i z} e=>by show (match Z[i]? with | some z=>_ | none=>_)=_;rw[e]
 have fex:∀ i,i<its.toArray.size->∃ z,Z[i]?=some z/\z∈Z:=λi hi=>by
  have hi:i<Z.length:=by rw[hZl];simpa using hi
  exact ⟨Z[i],List.getElem?_eq_getElem hi,getElem_mem hi⟩
 have keyps:∀ {m:Nat}{kk:List Int},m<its.toArray.size->(f m).2=kk->∃ q∈ps,kk=JP q:=λ{m kk} hm e=>by
  obtain ⟨z,e1,e2⟩:=fex m hm
  refine ⟨z.2.2,by rw[← z2];exact mem_map_of_mem e2,?_⟩
  rw[← e,fz e1]
 have psm:∀ q∈ps,∃ m,m<its.toArray.size/\(f m).2=JP q:=λq hq=>by
  rw[← z2] at hq
  obtain ⟨z,hz,rfl⟩:=mem_map.mp hq
  obtain ⟨i,hi,e⟩:=getElem_of_mem hz
  exact ⟨i,by simpa [← hZl] using hi,by rw[fz (by rw[List.getElem?_eq_getElem hi,e])]⟩
 have few' : ∀ L:List (List Int),L.Nodup->(∀ kk∈L,∃ m,m<its.toArray.size/\(f m).2=kk)->L.length<64:=λL nd h=>by
  obtain ⟨P,e,hP⟩:=Vm (R:=λ(kk:List Int) (q:Int×Int)=>q∈ps/\kk=JP q) (M:=L) λkk hk=>by
   obtain ⟨m,hm,e⟩:=h kk hk
   obtain ⟨q,hq,e⟩:=keyps hm e
   exact ⟨q,hq,e⟩
  have em:P.map JP=L.map id:=Jr e λi q z h1 h2=>(hP i q z h1 h2).2.symm
  rw[map_id] at em
  rw[← e]
  refine few P (zeB (f:=JP) (by rw[em];exact nd)) λq hq=>?_
  obtain ⟨i,hi,e3⟩:=getElem_of_mem hq
  exact (hP i (L[i]'(by omega)) q (List.getElem?_eq_getElem (by omega)) (by rw[List.getElem?_eq_getElem hi,e3])).1
 refine Uv (its:=f) (I.ok.hd hc) (λA' hA=>by omega) pl (λi v hv=>?_) (λi hi=>?_) (λL nd h=>le_of_lt (few' L nd h)) λh1 tk1 M T mt kp ht=>?_
 ·have hi:i<its.toArray.size:=(Array.getElem?_eq_some_iff.mp hv).1
  obtain ⟨z,e1,e2⟩:=fex i hi
  have ev:its[i]?=some v:=by simpa using hv
  rw[← z1,getElem?_map,e1] at ev
  have ev:z.1=v:=Option.some.inj ev
  rw[fz e1,← ev]
  exact (Ju (prog:=X.prog) (w:=X.w) (z3 z e2).2.2).2
 ·obtain ⟨z,e1,e2⟩:=fex i hi
  rw[fz e1]
  exact (Ju (z3 z e2).2.2).1
 have ndM:(M.map Prod.snd).Nodup:=by
  obtain ⟨_,_,_,_,_,_,_,_,_,_,_,_,nd,_⟩:=T
  exact nd
 have hMl:M.length<64:=by
  have:=few' (M.map Prod.snd) ndM λkk hk=>(mt.1 kk).mp hk
  rwa [length_map] at this
 refine Q3 (s:={ s with heap:=h1,toks:=tk1 }) (I.ok.hd hc) T (λq hq=>?_) hMl λs2 M' st' pm kp2 eg ed eo ht2 a1 a2=>?_
 ·obtain ⟨m,hm,e⟩:=mt.2 q hq
  obtain ⟨q',hq',e'⟩:=keyps hm rfl
  exact ⟨q'.1,q'.2,by rw[e,e'],hps q' hq'⟩
 have old:∀ b o,s.heap.get? b=some o->h1.get? b=some o:=λb o e=>kp b o (lt_size e) e
 obtain ⟨Z1,zl1,hZ1⟩:=Vm (R:=λ(q:Addr×List Int) (z:Value×V×(Int×Int))=>z∈Z/\z.1 = .ref q.1/\JP z.2.2=q.2) (M:=M') λq hq=>by
  obtain ⟨m,hm,e⟩:=mt.2 q (pm.mem_iff.mp hq)
  obtain ⟨z,e1,e2⟩:=fex m hm
  rw[fz e1] at e
  refine ⟨z,e2,?_,?_⟩
  ·rw[e];exact (Ju (prog:=X.prog) (w:=X.w) (z3 z e2).2.2).2
  ·rw[e]
 have zz1:Z1.map (·.1)=M'.map λq=>Value.ref q.1:=Jr zl1 λi q z h1 h2=>(hZ1 i q z h1 h2).2.1
 have zz2:Z1.map (λz=>JP z.2.2)=M'.map Prod.snd:=Jr zl1 λi q z h1 h2=>(hZ1 i q z h1 h2).2.2
 have zz3:∀ z∈Z1,RelV z.2.1 z.1/\Dat X.K G z.2.1 (dPr z.2.2)/\YG h1 z.1 z.2.2.1 z.2.2.2:=λz hz' => by
  obtain ⟨i,hi,e⟩:=getElem_of_mem hz'
  obtain ⟨b1,b2,b3⟩:=z3 z (hZ1 i (M'[i]'(by omega)) z (List.getElem?_eq_getElem (by omega)) (by rw[List.getElem?_eq_getElem hi,e])).1
  exact ⟨b1,b2,b3.keep old⟩
 obtain ⟨Z',p1,hV,hD,hpw⟩:=zbq zz1 zz3 a1 a2
 have nd1:(Z1.map (·.2.2)).Nodup:=by
  refine zeB (f:=JP) ?_
  rw[map_map]
  show (Z1.map λz=>JP z.2.2).Nodup
  rw[zz2]
  exact ((pm.map Prod.snd).nodup_iff).mpr ndM
 have hmem:∀ q,q∈Z'.map (·.2.2)↔q∈ps:=λq=>by
  rw[(p1.map (·.2.2)).mem_iff]
  constructor
  ·intro h
   obtain ⟨z,hz',rfl⟩:=mem_map.mp h
   have:JP z.2.2∈M'.map Prod.snd:=by rw[← zz2];exact mem_map.mpr ⟨z,hz',rfl⟩
   obtain ⟨m,hm,e⟩:=(mt.1 _).mp (((pm.map Prod.snd).mem_iff).mp this)
   obtain ⟨q',hq',e'⟩:=keyps hm e
   rw[QX e'];exact hq'
  ·intro h
   have:JP q∈Z1.map (λz=>JP z.2.2):=by rw[zz2,(pm.map Prod.snd).mem_iff];exact (mt.1 _).mpr (psm q h)
   obtain ⟨z,hz',e⟩:=mem_map.mp this
   exact mem_map.mpr ⟨z,hz',QX e⟩
 obtain ⟨h2,g2,d2,tk2,os2⟩:=s2
 have eg:g2=s.gens:=eg
 have ed:d2=s.drawn:=ed
 have eo:os2=s.os:=eo
 subst eg ed eo
 have big:s.heap.objs.size<=h2.objs.size:=by
  obtain ⟨oS,_,_,_,_,gS,_⟩:=T
  exact le_of_lt (lt_size (kp2 _ _ gS))
 obtain ⟨c,hcc⟩:=sortedHeap_at (h:=h2.push (seqObj "list" (M'.map λq=>Value.ref q.1).toArray 0)) (a:=h2.objs.size) (vs:=M'.map λq=>Value.ref q.1) (out:=(arrOf st').map (·.2)) (n:=0) (get?_push_size _ rfl)
 have zlen:(Z'.map (·.2.1)).length<=sizeLine:=by
  have:(64:Nat)<=sizeLine:=by decide
  rw[length_map,p1.length_eq,zl1,pm.length_eq];omega
 refine ⟨.ref h2.objs.size,_,I.laid (t' := tk2) (λb o e=>?_) big (show Xp X.prog X.w _ (sortedHeap (h2.push (seqObj "list" (M'.map λq=>Value.ref q.1).toArray 0)) h2.objs.size (M'.map λq=>Value.ref q.1) ((arrOf st').map (·.2))) _ (.lst (Z'.map (·.2.1))) from ⟨zlen,((arrOf st').map (·.2)).toList,c,hV,hcc⟩),rfl,k _ _ (Z'.map (·.2.2)) (I.hok.fresh big) (((p1.map (·.2.2)).nodup_iff).mpr nd1) hmem hD hpw⟩
 have e2:=kp2 b o (old b o e)
 have lt:=lt_size e2
 have lt:b<h2.objs.size:=lt
 rw[sortedHeap_old (ne_of_lt lt) (by rw[size_push'];exact lt_succ_of_lt lt)]
 exact get?_push_of_some _ e2
def zbb (K:PySem.W.Frag):List V->Hp->VK->Prop:=λxs H Q=>∃ (G:Hp) (p:Addr) (vs:List V) (ps:List (Int×Int)),xs=[.ref p]/\ZS G H/\SqT K H p vs/\Yr K G vs (ps.map dPr)/\(∀ L:List (Int×Int),L.Nodup->(∀ q∈L,q∈ps)->L.length<64)/\(∀ q∈ps,0<=q.2/\q.2<1000)/\
 ∀ (l:Addr) (us:List V) (qs:List (Int×Int)),H l=none->qs.Nodup->(∀ q,q∈qs↔q∈ps)->Yr K G us (qs.map dPr)->qs.Pairwise (λa b=>a.1*1000+a.2<=b.1*1000+b.2)->Q (.ref l) (upd H l (.lst us))
theorem zcL {K:PySem.W.Frag}(eK:X.K=K)(hc:X.calm=true)(hu:X.A.units+8<cLine)(hg:Gl X "sorted")(hm:X.mg "sorted" = none)(hg2:Gl X "set")(hm2:X.mg "set" = none){e:Expr}{t:TA}{p1 p2 q1 q2:Pos}(ha:PA X [e] t)
  (he1:starEach [.Call (.Name "set" p2) [e] [] q2] X.env=[(false,eval (.Call (.Name "set" p2) [e] [] q2) X.env)]:=by rfl) (he2:starEach [e] X.env=(false,eval e X.env)::starEach [] X.env:=by rfl):
  PE X (.Call (.Name "sorted" p1) [.Call (.Name "set" p2) [e] [] q2] [] q1) (tCB (zbb K) t):=by
 subst eK
 intro pins s σ H Q I h
 refine wpAny_Call_Name_kw (WK I hg hm JR (PyProof.Rows.callWith_builtin1 ?_ he1 rfl))
 rw[he1]
 show wpAny _ _ (spliced [(false,eval (.Call (.Name "set" p2) [e] [] q2) X.env)]) _ _ s
 refine spliced_cons (wpAny_Call_Name_kw (WK I hg2 hm2 boot_set (PyProof.Rows.callWith_type1 (thn (ha q2 pins s σ H _ I h) λus s1 ⟨vs,H1,I1,r1,z1⟩=>?_) he2 rfl)))
 obtain ⟨G,p,vs',ps,rfl,sg,hq,hd,few,hps,k⟩:=z1
 obtain ⟨u,rfl,rx⟩:=vals1 r1
 cases rx
 exact thn (zaK (Q:=Q) hc hu I1 sg hq hd few hps k) λv s2 z=>spliced_nil z
theorem zdl {K:PySem.W.Frag}{t:TA}{ps qs:List (Int×Int)}(h:EvA K t σ G [.tuple (ps.map dPr)])(few:∀ L:List (Int×Int),L.Nodup->(∀ q∈L,q∈ps)->L.length<64)(hps:∀ q∈ps,0<=q.2/\q.2<1000)(hq:∀ rs:List (Int×Int),rs.Nodup->(∀ q,q∈rs↔q∈ps)->rs.Pairwise (λa b=>a.1*1000+a.2<=b.1*1000+b.2)->rs=qs):Ev K (tCB (zbb K) t) σ G (.list (qs.map dPr)):=
 Uz h λG1 H xs Q s1 s2 hx k=>by
  obtain ⟨v,r,rfl,hv,hx⟩:=hx.cons
  rw[hx.nil]
  obtain ⟨p,ys,rfl,hp,hys⟩:=Dat.tup hv
  refine ⟨G1,p,ys,ps,rfl,s2,s2.tup hp,hys,few,hps,λl us rs hl nd hmem hd hs=>?_⟩
  have e:=hq rs nd hmem hs
  subst e
  have g:=Yl (o:=.lst us) s2 hl
  exact k _ _ _ g (YZ Zz (hd.same g.gg))
end
open PySem PySem.Spec PyProof.Rows Lw
section
variable {X:Cx}
def zi2 (K:PySem.W.Frag):V->List V->Hp->VK->Prop:=λx vs H Q=>∃ (G:Hp) (d:PyData) (ds:List PyData) (p:Addr) (xs:List V) (y:V) (j:Nat),ZS G H/\x = .ref p/\vs=[y]/\Dat K G y d/\H p=some (.lst xs)/\Yr K G xs ds/\Pl 60 d/\(∀ e∈ds,Pl 60 e)/\ds[j]?=some d/\(∀ i,i<j->ds[i]?≠some d)/\Q (.int (j:Nat)) H
theorem zeo {K:PySem.W.Frag}(eK:X.K=K)(hu:X.A.units+64<cLine):MtM X "list.index" (zi2 K):=by
 subst eK
 intro pins s σ H x vs v us Q I rx rv h
 obtain ⟨G,d,ds,l,xs,y,j,e,rfl,rfl,hd,hH,hx,pd,pds,hj,hno,q⟩:=h
 cases rx
 obtain ⟨u,rfl,ru⟩:=vals1 rv
 obtain ⟨z,its,n,r,ht⟩:=I.zfc hH
 obtain ⟨hl,ht⟩:=ht
 obtain ⟨as,rd⟩:=Dat.reads I e hd ru
 obtain ⟨h1,_⟩:=Wz I e hu rd pd hx r pds
 have hlen:its.length=ds.length:=by rw[← hx.length];exact hl.symm
 have at_:∀ (i:Nat) (hi:i<its.length),(ds[i]?=some d->Xb s d its[i]=true)/\(ds[i]?≠some d->Xb s d its[i]=false):=λi hi=>by
  have hi2:i<ds.length:=by omega
  obtain ⟨x0,e0,dx⟩:=hx.get (List.getElem?_eq_getElem hi2)
  obtain ⟨u0,eu,r0⟩:=r.get e0
  have eu' : its[i]=u0:=by rw[List.getElem?_eq_getElem hi] at eu;exact Option.some.inj eu
  obtain ⟨_,h2⟩:=Wz I e hu rd pd (ds:=[ds[i]]) (xs:=[x0]) (its:=[u0]) (Ye dx Yq) (.cons r0 .nil) (λb hb=>by rw[mem_singleton.mp hb];exact pds _ (getElem_mem hi2))
  rw[any_cons,List.any_nil,Bool.or_false,any_cons,List.any_nil,Bool.or_false] at h2
  rw[eu',h2,List.getElem?_eq_getElem hi2]
  refine ⟨λz=>?_,λz=>?_⟩
  ·rw[Option.some.inj z,same_self]
  ·rw[Qq λw=>z (congrArg some w)]
 have hjl:j<its.length:=by rw[hlen];exact (List.getElem?_eq_some_iff.mp hj).1
 have zz:sizeLine<2 ^ 62:=by decide
 refine call_meets F.slot_list_index ⟨_,ht,rfl⟩ F.entry_list_index (F.args_list_index_2 _ _)
  (SeqAt.list_indexAt l its.toArray n none #[] u (Xb s d) j (by simpa using hjl) (by omega) ?_ λm hm hlt=>?_) ⟨ht,λy hy=>h1 y (by simpa using hy),?_⟩
 ·have:=(at_ j hjl).1 hj
  simpa using this
 ·have hm' : m<its.length:=by simpa using hm
  have:=(at_ m hm').2 (hno m hlt)
  simpa using this
 ·exact ⟨.int (j:Nat),H,I.tok _,⟨_,rfl⟩,q⟩
end
section
variable {K:PySem.W.Frag}{B:Hp}{ρ:List PV}{ta tb te:TE}{ds:List PyData}{d:PyData}{x y:Str}
theorem zg3 {j:Nat}(ha:Er K B ta ρ (.list ds))(hb:Er K B tb ρ d)(pd:Pl 60 d)(pds:∀ e∈ds,Pl 60 e)(hj:ds[j]?=some d)(hno:∀ i,i<j->ds[i]?≠some d):Er K B (tBM K "list" (zi2 K) ta (Xc tb QT)) ρ (.int (j:Nat)):=λG σ r G1 H s1 s2 Q k=>by
 refine ha G σ r G1 H s1 s2 _ λx G2 H2 g2 hx=>?_
 obtain ⟨p,xs,rfl,hp,hd⟩:=hx.lst
 refine ⟨.inl ⟨rfl,xs,SqL.of (g2.gh _ _ hp)⟩,hb G σ r G2 H2 (s1.trans g2.gg) g2.gh _ λv G3 H3 g3 hv=>?_⟩
 exact ⟨G3,d,ds,p,xs,v,j,g3.gh,rfl,rfl,hv,g3.gh _ _ (g3.gg _ _ hp),hd.same g3.gg,pd,pds,hj,hno,k _ G3 H3 (g2.trans g3) (Zk _)⟩
theorem zgT {j:Int}(h:Er K B te ρ (.list ds))(hd:Er K B tb ρ (.int j)):Er K B (tSl (zhv K) te (Vj tb) Jm) ρ (.list (slD ds (some j) none)):=λG σ r G1 H s1 s2 Q k=>h G σ r G1 H s1 s2 _ λv G2 H2 g2 hv=>hd G σ r G2 H2 (s1.trans g2.gg) g2.gh _ λv2 G3 H3 g3 hv2=>by
 rw[hv2.int]
 refine ⟨j,rfl,?_⟩
 have:=ziZ (K:=K) (σ:=σ) (G:=G3) (te:=tC v) (tl:=Vj (tC (.int j))) (th:=Jm) (UL (hv.same g3.gg)) (λH Q q=>⟨j,rfl,q⟩) (λH Q q=>q) G3 H3 (ZS.refl _) g3.gh Q λv3 G4 H4 g4 hv4=>k v3 G4 H4 ((g2.trans g3).trans g4) hv4
 obtain ⟨j',e',this⟩:=this
 cases e'
 exact this
theorem QM (ha:Er K B ta ρ (.str x))(hb:Er K B tb ρ (.str y)):Er K B (tOp rEq ta tb) ρ (.bool (decide (x=y))):=λG σ r=>Qj (ha G σ r) (hb G σ r) λG1 H u v Q s1 s2 hu hv k=>by
 rw[hu.str,hv.str]
 refine ⟨rfl,?_⟩
 have:=k (.bl (decide (x=y))) G1 H (Xq.refl s2) (Yy _)
 rw[show decide (V.str x=V.str y)=decide (x=y) from decide_eq_decide.mpr ⟨λe=>by injection e,λe=>by rw[e]⟩]
 exact this
theorem zix {α:Type}{wi:TI}{js:List Nat}{tt:TT}{R:PV->List PV->Prop}(as:List α)(ea eb:α->PyData)(f:α->Option PyData)(h:Ei K B wi (msk ρ) (as.map λa=>.tuple [ea a,eb a]))(hn:as.length<sizeLine)(hc:∀ a∈as,Lcx K B tt te (.dat (ea a) :: .dat (eb a)::zbO (msk ρ) js) (f a))(k:R (.own (as.filterMap f)) ρ):Eg K B (zhp K wi js tt te) ρ R:=
 λE G0 H0 G H σ F r Q q=>zdU as ea eb f h hn hc r.rx r.g.gh λp xs G' H' g hp hd=>by
  obtain ⟨a,b,c⟩:=(r.grow g).zjq hp hd
  exact q _ _ ρ G' _ F [p] k g.gg a b c
theorem zcA {G:Hp}:∀ {ds:List PyData}{xs:List V},Yr K G xs ds->Yr K G xs.dropLast ds.dropLast
 | [],_,h=>by rw[h.nil];exact Yq
 | a::r,xs,h=>by
  obtain ⟨y,ys,rfl,hy,hr⟩:=h.cons
  cases r with
  | nil=>rw[hr.nil];exact Yq
  | cons b r=>
   obtain ⟨z,zs,rfl,hz,hr'⟩:=hr.cons
   rw[List.dropLast_cons₂,List.dropLast_cons₂]
   exact Ye hy (zcA hr)
theorem ziK {i:Nat}{R:PV->List PV->Prop}{u:PV}{ds:List PyData}{d:PyData}(hi:ρ[i]?=some u)(hu:u.rd=some ds)(hd:ds[ds.length-1]?=some d)(k:R (.dat d) (ρ.set i (u.put ds.dropLast))):Eg K B (zkj K "list" zko (WL i)) ρ R:=λE G0 H0 G H σ F r Q q=>by
 obtain ⟨p,xs,e,hx,hp,hdx⟩:=(r.sl i _ hi).rd hu
 refine ⟨_,hx,.inl ⟨rfl,xs,SqL.of hp⟩,?_⟩
 obtain ⟨y,hy,hyd⟩:=hdx.get hd
 refine ⟨p,xs,y,rfl,rfl,hp,by rw[hdx.length];exact hy,?_⟩
 exact q y _ _ G _ F [] k (ZS.refl _) (r.put hi hu hx (zcA hdx)) ⟨rfl,y,rfl,hyd⟩ JT
end
end L2
namespace M41
noncomputable def may (k:Kn) (row:List Nat) (p:Nat):Bool:=!decide (p∈row)&&decide (((pairsOf k).filter λq=>decide (q.2=p) && !decide (q.1∈row)).map Prod.fst=[])
noncomputable def X3 (k:Kn) (row:List Nat):List (List Nat):=((List.range k.length).filter (may k row)).map λp=>row++[p]
noncomputable def Xx (k:Kn):Nat->List (List Nat)
 | 0=>[[]]
 | t+1=>(Xx k t).flatMap (X3 k)
structure Vd (k:Kn)(l:List Nat):Prop where
 nd:l.Nodup
 lt:∀ x∈l,x<k.length
 pr:∀ pre x post,l=pre++x::post->∀ i,i<k.length->ah k i x=true->i∈pre
theorem zgF {k:Kn}{row:List Nat}{p:Nat}(hp:p<k.length):may k row p=true↔p∉row/\∀ i,i<k.length->ah k i p=true->i∈row:=by
 unfold may
 rw[and_eq_true,not_eq_true',decide_eq_false_iff_not,decide_eq_true_eq,List.map_eq_nil_iff,List.filter_eq_nil_iff]
 refine and_congr_right λ_=>⟨λh i hi ha=>?_,λh q hq=>?_⟩
 ·have:=h (i,p) (Yh.mpr ⟨hi,hp,ha⟩)
  simpa using this
 ·obtain ⟨h1,h2,h3⟩:=Yh.mp hq
  by_cases z:q.2=p
  ·subst z
   have:=h q.1 h1 h3
   simp[this]
  ·simp[z]
theorem Vd.snoc {k:Kn}{l:List Nat}{p:Nat}(hp:p<k.length):Vd k (l++[p])↔Vd k l/\may k l p=true:=by
 rw[zgF hp]
 constructor
 ·intro h
  have nd:=h.nd
  rw[nodup_append] at nd
  refine ⟨⟨nd.1,λx hx=>h.lt x (mem_append_left _ hx),λpre x post e i hi ha=>h.pr pre x (post++[p]) (by rw[e,append_assoc];rfl) i hi ha⟩,λz=>nd.2.2 p z p (mem_singleton_self _) rfl,λi hi ha=>h.pr l p [] rfl i hi ha⟩
 ·rintro ⟨h,h1,h2⟩
  refine ⟨?_,λx hx=>?_,λpre x post e i hi ha=>?_⟩
  ·rw[nodup_append]
   refine ⟨h.nd,List.pairwise_singleton _ _,λa ha b hb e=>?_⟩
   rw[mem_singleton.mp hb] at e
   subst e
   exact h1 ha
  ·rcases mem_append.mp hx with hx | hx
   ·exact h.lt x hx
   ·rw[mem_singleton.mp hx];exact hp
  ·rcases List.append_eq_append_iff.mp e with ⟨r,e1,e2⟩ | ⟨r,e1,e2⟩
   ·cases r with
    | nil=>
     rw[append_nil] at e1
     rw[e1]
     injection e2 with e3 e4
     subst e3
     exact h2 i hi ha
    | cons a r=>
     injection e2 with e3 e4
     cases r <;> cases e4
   ·cases r with
    | nil=>
     rw[append_nil] at e1
     rw[← e1]
     injection e2 with e3 e4
     subst e3
     exact h2 i hi ha
    | cons a r=>
     injection e2 with e3 e4
     subst e3
     exact h.pr pre x r e1 i hi ha
theorem W0 {k:Kn}:∀ {t:Nat}{l:List Nat},l∈Xx k t↔l.length=t/\Vd k l
 | 0,l=>by
  show l∈[[]]↔_
  rw[mem_singleton]
  constructor
  ·rintro rfl
   exact ⟨rfl,nodup_nil,(λx hx=>nomatch hx),(λpre x post e=>by cases pre <;> cases e)⟩
  ·rintro ⟨h,_⟩
   exact List.eq_nil_of_length_eq_zero h
 | t+1,l=>by
  show l∈(Xx k t).flatMap (X3 k)↔_
  rw[mem_flatMap]
  constructor
  ·rintro ⟨r,hr,hl⟩
   obtain ⟨p,hp,rfl⟩:=mem_map.mp hl
   obtain ⟨hp,hm⟩:=mem_filter.mp hp
   obtain ⟨h1,h2⟩:=W0.mp hr
   exact ⟨by rw[length_append,h1];rfl,(Vd.snoc (mem_range.mp hp)).mpr ⟨h2,hm⟩⟩
  ·rintro ⟨h1,h2⟩
   have hne:l≠[]:=λz=>by rw[z] at h1;cases h1
   obtain ⟨r,p,rfl⟩:∃ r p,l=r++[p]:=⟨l.dropLast,l.getLast hne,(List.dropLast_concat_getLast hne).symm⟩
   have hp:p<k.length:=h2.lt p (mem_append_right _ (mem_singleton_self _))
   obtain ⟨h3,h4⟩:=(Vd.snoc hp).mp h2
   rw[length_append] at h1
   exact ⟨r,W0.mpr ⟨by simpa using h1,h3⟩,mem_map.mpr ⟨p,mem_filter.mpr ⟨mem_range.mpr hp,h4⟩,rfl⟩⟩
theorem za6 (k:Kn):∀ t,(Xx k t).Nodup
 | 0=>List.pairwise_singleton _ _
 | t+1=>by
  show ((Xx k t).flatMap (X3 k)).Pairwise (· ≠ ·)
  rw[List.pairwise_flatMap]
  refine ⟨λr _=>?_,(za6 k t).imp λ{a b} hab x hx y hy e=>?_⟩
  ·unfold X3
   rw[pairwise_map]
   exact (nodup_range.filter _).imp λ{a b} hab e=>hab (by simpa using e)
  ·obtain ⟨p,_,rfl⟩:=mem_map.mp hx
   obtain ⟨q,_,rfl⟩:=mem_map.mp hy
   exact hab (List.append_inj_left' e rfl)
theorem zbi (k:Kn):∀ t,(Xx k t).length<=k.length ^ t
 | 0=>Nat.le_refl _
 | t+1=>by
  have h:∀ l:List (List Nat),(l.flatMap (X3 k)).length<=l.length*k.length:=λl=>by
   induction l with
   | nil=>simp
   | cons a r ih=>
    rw[flatMap_cons,length_append,length_cons,succ_mul]
    have:(X3 k a).length<=k.length:=by
     unfold X3
     rw[length_map]
     exact Nat.le_trans (length_filter_le _ _) (le_of_eq length_range)
    omega
  exact Nat.le_trans (h _) (mul_le_mul_right _ (zbi k t))
theorem zdi {k:Kn}{l:List Nat}(h:Vd k l)(hl:l.length=k.length):l.Perm (List.range k.length):=by
 refine (List.perm_ext_iff_of_nodup h.nd nodup_range).mpr λa=>⟨λha=>mem_range.mpr (h.lt a ha),λha=>Decidable.byContradiction λz=>?_⟩
 have:=List.Nodup.length_le_of_subset (l₁:=a::l) (l₂:=List.range k.length) (nodup_cons.mpr ⟨z,h.nd⟩) λx hx=>by
  rcases mem_cons.mp hx with rfl | hx
  ·exact ha
  ·exact mem_range.mpr (h.lt x hx)
 rw[length_cons,length_range] at this
 omega
noncomputable def lj (k:Kn) (l:List Nat):Bool:=decide (l.Perm (List.range k.length))&&(l.zip (l.drop 1)).all λp=>ah k p.1 p.2
theorem U5 {α:Type}{R:α->α->Prop}:∀ {l:List α},(∀ p∈l.zip (l.drop 1),R p.1 p.2)↔∀ pre a b post,l=pre++a::b::post->R a b
 | []=>⟨(λ_ pre a b post e=>by cases pre <;> cases e),(λ_ p hp=>by cases hp)⟩
 | [x]=>⟨(λ_ pre a b post e=>by
   cases pre with
   | nil=>cases e
   | cons y r=>injection e with _ e;cases r <;> cases e),(λ_ p hp=>by simp at hp)⟩
 | x::y::r=>by
  rw[drop_succ_cons,drop_zero,List.zip_cons_cons]
  have ih:=@U5 α R (y::r)
  rw[drop_succ_cons,drop_zero] at ih
  constructor
  ·intro h pre a b post e
   cases pre with
   | nil=>
    injection e with e1 e2
    injection e2 with e2 e3
    subst e1 e2
    exact h (x,y) mem_cons_self
   | cons z pre=>
    injection e with e1 e2
    exact ih.mp (λp hp=>h p (mem_cons_of_mem _ hp)) pre a b post e2
  ·intro h p hp
   rcases mem_cons.mp hp with rfl | hp
   ·exact h [] x y r rfl
   ·exact ih.mpr (λpre a b post e=>h (x::pre) a b post (by rw[e];rfl)) p hp
theorem zbv {k:Kn}(o:IsO k):∀ {l:List Nat},(∀ x∈l,x<k.length)->(∀ p∈l.zip (l.drop 1),ah k p.1 p.2=true)->l.Pairwise λa b=>ah k a b=true
 | [],_,_=>.nil
 | [a],_,_=>List.pairwise_singleton _ _
 | a::b::r,hl,h=>by
  rw[drop_succ_cons,drop_zero,List.zip_cons_cons] at h
  have h1:=h (a,b) mem_cons_self
  have ih:=zbv o (l:=b::r) (λx hx=>hl x (mem_cons_of_mem _ hx)) (λp hp=>h p (mem_cons_of_mem _ hp))
  refine pairwise_cons.mpr ⟨λc hc=>?_,ih⟩
  rcases mem_cons.mp hc with rfl | hc
  ·exact h1
  ·exact o.tr a b c (hl a mem_cons_self) (hl b (mem_cons_of_mem _ mem_cons_self)) h1 ((pairwise_cons.mp ih).1 c hc)
theorem zaY {k:Kn}{l:List Nat}(h:Vd k l):l.Pairwise λa b=>ah k b a=false:=by
 have:∀ (pre l:List Nat),Vd k (pre++l)->l.Pairwise λa b=>ah k b a=false:=by
  intro pre l
  induction l generalizing pre with
  | nil=>intro _;exact .nil
  | cons a r ih=>
   intro h
   refine pairwise_cons.mpr ⟨λb hb=>?_,ih (pre++[a]) (by rw[append_assoc];exact h)⟩
   refine eq_false_iff.mpr λz=>?_
   have hi:=h.pr pre a r rfl b (h.lt b (mem_append_right _ (mem_cons_of_mem _ hb))) z
   have nd:=h.nd
   rw[nodup_append] at nd
   exact nd.2.2 b hi b (mem_cons_of_mem _ hb) rfl
 exact this [] l h
theorem zib {k:Kn}{l:List Nat}(o:IsO k)(hp:l.Perm (List.range k.length))(hw:l.Pairwise λa b=>ah k b a=false):Vd k l:=by
 refine ⟨hp.nodup_iff.mpr nodup_range,λx hx=>mem_range.mp (hp.mem_iff.mp hx),λpre x post e i hi ha=>?_⟩
 have hm:i∈l:=hp.mem_iff.mpr (mem_range.mpr hi)
 rw[e] at hm hw
 rcases mem_append.mp hm with hm | hm
 ·exact hm
 rcases mem_cons.mp hm with rfl | hm
 ·rw[o.ir i hi] at ha;cases ha
 ·have:=(pairwise_cons.mp (pairwise_append.mp hw).2.1).1 i hm
  rw[this] at ha;cases ha
theorem zhb {k:Kn}{l:List Nat}(o:IsO k):lj k l=true↔Xx k k.length=[l]:=by
 unfold lj
 rw[and_eq_true,decide_eq_true_eq,all_eq_true]
 constructor
 ·rintro ⟨hp,hc⟩
  have hlt:∀ x∈l,x<k.length:=λx hx=>mem_range.mp (hp.mem_iff.mp hx)
  have pw:=zbv o hlt hc
  have zjh:∀ {a b},a<k.length->b<k.length->ah k a b=true->ah k b a=false:=λ{a b} ha hb h=>eq_false_iff.mpr λz=>by
   have:=o.tr a b a ha hb h z
   rw[o.ir a ha] at this;cases this
  have vl:Vd k l:=zib o hp (pw.imp_of_mem λ{a b} ha hb h=>zjh (hlt a ha) (hlt b hb) h)
  have hm:l∈Xx k k.length:=W0.mpr ⟨by rw[hp.length_eq,length_range],vl⟩
  have un:∀ r∈Xx k k.length,r=l:=λr hr=>by
   obtain ⟨h1,h2⟩:=W0.mp hr
   refine (List.Perm.eq_of_pairwise (le:=λa b=>ah k b a=false) (l₁:=r) (l₂:=l) (λa b ha hb h3 h4=>?_) (zaY h2) (zaY vl) ((zdi h2 h1).trans hp.symm))
   have ha:=h2.lt a ha
   have ha2:a∈l:=hp.mem_iff.mpr (mem_range.mpr ha)
   refine Decidable.byContradiction λne=>?_
   have tot:∀ (m:List Nat),m.Pairwise (λa b=>ah k a b=true)->a∈m->b∈m->ah k a b=true\/ah k b a=true:=by
    intro m
    induction m with
    | nil=>intro _ h;cases h
    | cons x m ih=>
     intro h ha hb
     obtain ⟨h5,h6⟩:=pairwise_cons.mp h
     rcases mem_cons.mp ha with za | za
     ·rcases mem_cons.mp hb with zb | zb
      ·exact absurd (za.trans zb.symm) ne
      ·rw[za];exact .inl (h5 b zb)
     ·rcases mem_cons.mp hb with zb | zb
      ·rw[zb];exact .inr (h5 a za)
      ·exact ih h6 za zb
   rcases tot l pw ha2 hb with z | z
   ·rw[h4] at z;cases z
   ·rw[h3] at z;cases z
  have nd:=za6 k k.length
  generalize Xx k k.length=R at *
  cases R with
  | nil=>cases hm
  | cons a R=>
   have ea:=un a mem_cons_self
   subst ea
   cases R with
   | nil=>rfl
   | cons b R=>
    have eb:=un b (mem_cons_of_mem _ mem_cons_self)
    subst eb
    exact absurd mem_cons_self (nodup_cons.mp nd).1
 ·intro e
  obtain ⟨h1,h2⟩:=W0.mp (show l∈Xx k k.length by rw[e];exact mem_singleton_self _)
  have hp:=zdi h2 h1
  refine ⟨hp,?_⟩
  have:∀ p∈l.zip (l.drop 1),ah k p.1 p.2=true:=(U5 (R:=λa b=>ah k a b=true)).mpr λpre a b post e2=>by
   refine Decidable.byContradiction λne=>?_
   have ne:ah k a b=false:=eq_false_iff.mpr ne
   subst e2
   have pm:(pre++b::a::post).Perm (pre++a::b::post):=(List.Perm.swap a b post).append_left pre
   have bk:=zaY h2
   obtain ⟨w1,w2,w3⟩:=pairwise_append.mp bk
   obtain ⟨w4,w5⟩:=pairwise_cons.mp w2
   obtain ⟨w6,w7⟩:=pairwise_cons.mp w5
   have bk2:(pre++b::a::post).Pairwise λa b=>ah k b a=false:=pairwise_append.mpr ⟨w1,pairwise_cons.mpr ⟨λc hc=>by
    rcases mem_cons.mp hc with rfl | hc
    ·exact ne
    ·exact w6 c hc,pairwise_cons.mpr ⟨λc hc=>w4 c (mem_cons_of_mem _ hc),w7⟩⟩,λx hx y hy=>w3 x hx y (by
    rcases mem_cons.mp hy with rfl | hy
    ·exact mem_cons_of_mem _ mem_cons_self
    ·rcases mem_cons.mp hy with rfl | hy
     ·exact mem_cons_self
     ·exact mem_cons_of_mem _ (mem_cons_of_mem _ hy))⟩
   have v2:=zib o (pm.trans hp) bk2
   have hm:(pre++b::a::post)∈Xx k k.length:=W0.mpr ⟨by rw[pm.length_eq];exact h1,v2⟩
   rw[e,mem_singleton] at hm
   have hab:b=a:=by
    have:=List.append_cancel_left hm
    injection this
   subst hab
   have nd:=h2.nd
   rw[nodup_append] at nd
   exact (nodup_cons.mp nd.2.1).1 mem_cons_self
  exact this
inductive Kt
 | told (l:List Nat)
 | look (i j:Nat) (a b:Int)
noncomputable def go (B:Nat->Kn->Option Nat) (a:Nat) (x:Int) (k:Kn):Option Nat:=if (a:Int)<x then B x.toNat k else none
noncomputable def mx2:Option Nat->Option Nat->Option Nat
 | some c,some d=>some (1+max c d)
 | _,_=>none
noncomputable def stp (B:Nat->Kn->Option Nat) (a:Nat) (k:Kn):Kt->Option Nat
 | .told l=>if lj k l then some 0 else none
 | .look i j x y=>if i=j then none else if ah k i j then (go B a x k).map (1 + ·) else if ah k j i then (go B a y k).map (1 + ·) else mx2 (go B a x (wl k i j)) (go B a y (wl k j i))
noncomputable def beh (es:List Kt):Nat->Nat->Kn->Option Nat
 | 0,_,_=>none
 | f+1,a,k=>(es[a]?).bind (stp (beh es f) a k)
theorem zdB (es:List Kt):∀ (f g a:Nat) (k:Kn),es.length<=a+f->es.length<=a+g->beh es f a k=beh es g a k
 | 0,0,a,k,_,_=>rfl
 | 0,g+1,a,k,h1,_=>by
  show none=(es[a]?).bind _
  rw[List.getElem?_eq_none (by omega)];rfl
 | f+1,0,a,k,_,h1=>by
  show (es[a]?).bind _=none
  rw[List.getElem?_eq_none (by omega)];rfl
 | f+1,g+1,a,k,h1,h2=>by
  show (es[a]?).bind _=(es[a]?).bind _
  have e:∀ x k',go (beh es f) a x k'=go (beh es g) a x k' := λx k' => by
   unfold go
   by_cases z:(a:Int)<x
   ·rw[if_pos z,if_pos z];exact zdB es f g _ _ (by omega) (by omega)
   ·rw[if_neg z,if_neg z]
  congr 1
  funext t
  cases t with
  | told l=>rfl
  | look i j x y=>unfold stp;simp only[e]
noncomputable def Bh (es:List Kt) (a:Nat) (k:Kn):Option Nat:=beh es es.length a k
theorem zb7 (es:List Kt)(a:Nat)(k:Kn):Bh es a k=(es[a]?).bind (stp (Bh es) a k):=by
 unfold Bh
 rw[zdB es es.length (es.length+1) a k (by omega) (by omega)];rfl
theorem Uj {es:List Kt}{a:Nat}{k:Kn}(h:es.length<=a):Bh es a k=none:=by
 rw[zb7,List.getElem?_eq_none h];rfl
end M41
namespace L2
open PySem Lw M41
theorem zjG {n:Nat}{C:Nat×Nat->Prop}{qs:List (Nat×Nat)}(hn:n<=8)(h0:0<n->¬ C (0,0))(h1:∀ q∈qs,q.1<n/\q.2<n)(h2:∀ q∈qs,C q)(L:List (Int×Int))(nd:L.Nodup)(h:∀ q∈L,q∈qs.map up):L.length<64:=by
 cases L with
 | nil=>exact Nat.zero_lt_succ _
 | cons a r=>
  obtain ⟨b,hb,_⟩:=mem_map.mp (h a mem_cons_self)
  have hn0:0<n:=by have:=h1 b hb;omega
  have:=List.Nodup.length_le_of_subset (l₁:=up (0,0)::a::r) (l₂:=zfa n) (nodup_cons.mpr ⟨λz=>?_,nd⟩) λx hx=>?_
  ·rw[za2,length_map,Jt] at this
   have:n*n<=8*8:=mul_le_mul hn hn
   simp only[length_cons] at *
   omega
  ·exact h0 hn0 (h2 _ (ze3.mp (h _ z)))
  ·rw[za2]
   rcases mem_cons.mp hx with rfl | hx
   ·exact mem_map.mpr ⟨(0,0),JX.mpr ⟨hn0,hn0⟩,rfl⟩
   ·obtain ⟨c,hc,rfl⟩:=mem_map.mp (h x hx)
    exact mem_map.mpr ⟨c,JX.mpr (h1 c hc),rfl⟩
section
variable {K:PySem.W.Frag}{B:Hp}{ρ:List PV}
theorem zbl {t:TA}{n:Nat}{ps:List (Int×Int)}(h:Ea K B t ρ [.list (ps.map dPr)])(hn:n<=8)(few:∀ L:List (Int×Int),L.Nodup->(∀ q∈L,q∈ps)->L.length<64)(hps:∀ q∈ps,0<=q.1/\q.1<n/\0<=q.2/\q.2<n):Er K B (tCB (zdg K) t) ρ (.list ((zel n ps).map dPr)):=
 λG σ r=>zfz (h G σ r) few (λq hq=>by have:=hps q hq;omega) λrs nd hm hpw=>zbH (by omega) hps nd hm hpw
theorem zbX {t:TA}{n:Nat}{ps:List (Int×Int)}(h:Ea K B t ρ [.tuple (ps.map dPr)])(hn:n<=8)(few:∀ L:List (Int×Int),L.Nodup->(∀ q∈L,q∈ps)->L.length<64)(hps:∀ q∈ps,0<=q.1/\q.1<n/\0<=q.2/\q.2<n):Er K B (tCB (zbb K) t) ρ (.list ((zel n ps).map dPr)):=
 λG σ r=>zdl (h G σ r) few (λq hq=>by have:=hps q hq;omega) λrs nd hm hpw=>zbH (by omega) hps nd hm hpw
theorem zgY {a b c d e:PyData}{i j l m n:Nat}{P:List PV->Prop}(h:P (((((ρ.set i (.dat a)).set j (.dat b)).set l (.dat c)).set m (.dat d)).set n (.dat e))):Gt K B (zh3 K 5 (QR (Ja i) (QR (Ja j) (QR (Ja l) (QR (Ja m) (QR (Ja n) zhk)))))) (.tuple [a,b,c,d,e]) ρ P:=λE G0 H0 G H σ F x Q r hd k=>by
 obtain ⟨p,xs,rfl,hp,hx⟩:=hd.tup
 obtain ⟨y1,_,rfl,h1,hx⟩:=hx.cons
 obtain ⟨y2,_,rfl,h2,hx⟩:=hx.cons
 obtain ⟨y3,_,rfl,h3,hx⟩:=hx.cons
 obtain ⟨y4,_,rfl,h4,hx⟩:=hx.cons
 obtain ⟨y5,_,rfl,h5,hx⟩:=hx.cons
 cases hx.nil
 exact ⟨p,_,rfl,r.g.gh.tup hp,rfl,y1,_,rfl,y2,_,rfl,y3,_,rfl,y4,_,rfl,y5,_,rfl,rfl,k _ _ G H _ h (ZS.refl _) (((((r.zd2 h1).zd2 h2).zd2 h3).zd2 h4).zd2 h5)⟩
end
open PySem PySem.Spec PyProof.Rows
section
variable {X:Cx}{pins:List (Addr×Obj)}{σ:St}{H:Hp}{s:Shared}{sc:Scope}{x x2:Str}{cap:List Str}
def zj5 (K:PySem.W.Frag)(i:Nat)(wi:TI)(js:List Nat)(tt:TT)(te:TE):TS:=λD σ H=>zhp K wi js tt te σ H λv H' => D.nx (σ.set i (some v)) H'
theorem ziA (S:X8 X.env.scope sc x x2 cap){js:List Nat}(hjs:js.map (λj=>X.N[j]?)=cap.map some)(hc:X.calm=true)(hxe:∀ e s,¬ X.xe e s){elt iter:Expr}{ifs:List Expr}{pos px py pz tpos spos:Pos}{tk:Nat}{wi:TI}{tt:TT}{te:TE}{i:Nat}{y:Str}
  (hN:X.N.Nodup) (hi' : X.N[i]?=some y) (hy:X.env.scope.names.lookup y=some .local)
  (hi:PI X (.Tuple [.Name x px,.Name x2 pz] tk tpos) iter wi) (hb:∀ C s0 H0 ex,PIf (Y0 X sc (x::x2::cap) C s0 H0 ex) ifs tt/\PE (Y0 X sc (x::x2::cap) C s0 H0 ex) elt te)
  (hsw:swapsWith (.ListComp elt [⟨.Tuple [.Name x px,.Name x2 pz] tk tpos,iter,ifs,0⟩] sc pos) (some (.Name y py)) spos.line X.env=pure true:=by rfl)
  (hs:∀ x,foldedSetIterable iter X.env x=pure x:=by intro _;rfl):PS X (.Assign [.Name y py] (.ListComp elt [⟨.Tuple [.Name x px,.Name x2 pz] tk tpos,iter,ifs,0⟩] sc pos) spos) (zj5 X.K i wi js tt te):=by
 intro pins s σ H D0 I h
 rw[exec_Assign_Name_used _ _ _ _ hsw]
 refine wpAny_bind (wpAny_standAt (wpAny_bind ?_))
 show wpAny _ X.A (do let _ ← comprehension (.ListComp elt [⟨.Tuple [.Name x px,.Name x2 pz] tk tpos,iter,ifs,0⟩] sc pos) sc X.env _ (newList []) false (eval iter X.env) (some (assign (.Name y py) X.env))) _ _ s
 refine wpAny_bind (wpAny_mono (wpAny_comprehension_free (use:=some (assign (.Name y py) X.env)) (Q:=λ_ s' => SP X pins D0 .next s') rfl hs (X5 (S.n.cells I.ok)) S.kind S.names
  (thn (hi pins s σ H _ I h) λxv s₁ h₁=>thn h₁ λitv s₂ h₂=>?_)) (λ_ s' hq=>wpAny_pure (wpAny_pure hq)) λ_ _ e=>e)
 obtain ⟨it,fp,tn,J,H2,e,I2,T,st2,f2,W,w0,turn⟩:=h₂
 subst e
 refine Q0 (xs:=[x,x2]) (Q:=λv H' => D0.nx (σ.set i (some v)) H') (RR:=λacc C=>compPost (model X.prog X.w) X.A X.xe (some (assign (.Name y py) X.env)) (λ_ s' => SP X pins D0 .next s') acc C) S.n hjs (λ_ _ _ _=>hc) (S.pg hc) (λC=>hb C _ _ _) I2 T st2 f2 w0 (zft turn) ?_
 intro D C s' σ' H' ys its k hD hC J' rv hz q
 have gtC:∀ {b:Addr},b<s₂.heap.objs.size->b≠C:=λh=>by rw[hC];exact zaD (lt_succ_of_lt h)
 have pinD:=J'.pin (D,{ cls:=.type "list",data:=.seq its.toArray k }) (mem_append_right _ (mem_singleton.mpr rfl))
 obtain ⟨m,hn,_⟩:=id J'.loc
 have hn:s'.heap.Ns C m:=hn
 obtain ⟨oC,es,ep,hoC,hdC,rest⟩:=id hn
 have hCn:C∉X.fs/\C≠X.env.locals:=by
  constructor
  ·intro hb'
   obtain ⟨_,o,ho,_⟩:=I2.zcn.mem hb'
   exact gtC (lt_size ho) rfl
  ·exact λz=>gtC I2.lt z.symm
 have I3:Inv X pins σ (upd H' D (.lst ys)) s' := Vn (xs:=[x,x2]) (h' := s'.heap) S.n I2 f2 hD hC J' pinD.2.1 pinD.1 rv hz (.refl ..)
 have hDC:C≠D:=by rw[hC,hD];exact zjv (lt_succ_self _)
 have hH'C:H' C=none:=J'.free
 have I4:Inv X [(C,oC)] σ (upd H' D (.lst ys)) s' := I3.Jf λp hp=>by
  have hp' : p=(C,oC):=by simpa using hp
  subst hp'
  exact ⟨hoC,by rw[ZC hDC];exact hH'C,hCn.2,hCn.1,λv z=>by rw[hdC] at z;cases z⟩
 have I5:Inv X (pins++[(C,oC)]) σ (upd H' D (.lst ys)) s' := I3.Jf λp hp=>by
  rcases mem_append.mp hp with hp | hp
  ·exact I3.pin p (mem_append_right _ hp)
  ·exact I4.pin p (mem_append_right _ hp)
 show wpAny _ X.A (assign (.Name y py) X.env (.ref D)) _ _ _
 refine wpAny_assign_Name (J4 I5 hN hi' (.inl hy) (v:=.ref D) rfl (λs6 I6=>?_) (.inr hy))
 have pinC:=I6.pin (C,oC) (mem_append_right _ (mem_append_right _ (mem_singleton.mpr rfl)))
 refine ⟨m,⟨oC,es,ep,pinC.1,hdC,rest⟩,λh' hs' => ⟨_,_,?_,q D pinD.2.1⟩⟩
 refine I6.Js.turned (it:=C) (h' := h') (t' := s6.toks) (λb o hb' e=>hs'.extBut b o hb' e) pinC.2.1 hCn.2 (.inr ?_) (λy' c e z=>?_) λp hp z=>?_
 ·rw[hC];exact Nat.le_succ_of_le I2.sz
 ·obtain ⟨v',o,ho,_⟩:=I2.cell y' c e
  exact gtC (lt_size ho) z
 ·exact gtC (lt_size (I2.pin p hp).1) z
end
end L2
namespace K36
open PySem L2 Lw M41
noncomputable def top (i:Nat):Stmt:=PySem.Challenge.pw_ordertext_k36_tree_count.main.body.getD i (.Pass ⟨0,0,0,0⟩)
abbrev VB:Stmt:=top 1
abbrev WW:Stmt:=top 2
abbrev Je:Stmt:=top 3
abbrev XJ:Stmt:=top 4
abbrev Q5:Stmt:=top 5
abbrev X7:Stmt:=top 6
abbrev JH:Stmt:=top 8
abbrev Xw:Stmt:=top 9
abbrev JK:Stmt:=top 11
abbrev Jl:Stmt:=top 12
abbrev WR:Stmt:=top 13
abbrev Xm:Stmt:=top 14
abbrev Xh:Stmt:=top 15
abbrev W3:Stmt:=top 17
abbrev WM:Stmt:=top 18
abbrev Xu:Stmt:=top 19
abbrev XD:Stmt:=top 20
abbrev Uu:Stmt:=top 21
theorem Wy:Ys ["pairs", "many", "known", "one", "other"] ["pairs", "many"] (Zn VB):=⟨rfl,rfl,rfl,by decide +kernel,rfl,by decide +kernel,by decide +kernel⟩
theorem QH:Ys ["known", "one", "other", "onward"] ["known", "one", "other"] (Zn WW):=⟨rfl,rfl,rfl,by decide +kernel,rfl,by decide +kernel,by decide +kernel⟩
theorem Uw:Ys ["known", "one", "other"] ["known", "one", "other"] (Zn Je):=⟨rfl,rfl,rfl,by decide +kernel,rfl,by decide +kernel,by decide +kernel⟩
theorem YM:Ys ["tree", "known", "many", "worst", "to_go", "way", "knot", "onward"] ["tree", "known", "many"] (Zn XJ):=⟨rfl,rfl,rfl,by decide +kernel,rfl,by decide +kernel,by decide +kernel⟩
theorem Qw:Ys ["knot", "known", "one", "other"] ["knot", "known"] (Zn Q5):=⟨rfl,rfl,rfl,by decide +kernel,rfl,by decide +kernel,by decide +kernel⟩
theorem VP:Ys ["known", "places"] ["known", "places"] (Zn X7):=⟨rfl,rfl,rfl,by decide +kernel,rfl,by decide +kernel,by decide +kernel⟩
theorem Wq:Ys ["deck", "cells", "at", "mixed"] ["deck"] (Zn JH):=⟨rfl,rfl,rfl,by decide +kernel,rfl,by decide +kernel,by decide +kernel⟩
theorem Zw:Ys ["pairs", "found", "more", "fresh", "i", "j"] ["pairs"] (Zn Xw):=⟨rfl,rfl,rfl,by decide +kernel,rfl,by decide +kernel,by decide +kernel⟩
theorem Jc:Ys ["deck", "many", "left", "found"] ["deck", "many"] (Zn JK):=⟨rfl,rfl,rfl,by decide +kernel,rfl,by decide +kernel,by decide +kernel⟩
theorem Y6:Ys ["deck", "many", "turn", "pairs", "k", "cell", "j"] ["deck", "many"] (Zn Jl):=⟨rfl,rfl,rfl,by decide +kernel,rfl,by decide +kernel,by decide +kernel⟩
theorem Wt:Ys ["known", "many", "found", "j"] ["known", "many"] (Zn WR):=⟨rfl,rfl,rfl,by decide +kernel,rfl,by decide +kernel,by decide +kernel⟩
theorem Yb:Ys ["deck", "known", "many", "knots", "tree", "here", "pairs", "ahead", "cell", "i", "j", "goals", "pair", "then"] ["deck", "known", "many"] (Zn Xm):=⟨rfl,rfl,rfl,by decide +kernel,rfl,by decide +kernel,by decide +kernel⟩
theorem Z9:Ys ["known", "many", "rows", "turn", "fresh", "row", "place", "lacking"] ["known", "many"] (Zn Xh):=⟨rfl,rfl,rfl,by decide +kernel,rfl,by decide +kernel,by decide +kernel⟩
theorem ZF:Ys ["tree", "number", "known", "many", "knot", "left", "word", "i", "j", "then", "other", "most", "pair", "goal", "count"] ["tree", "number", "known", "many"] (Zn W3):=⟨rfl,rfl,rfl,by decide +kernel,rfl,by decide +kernel,by decide +kernel⟩
theorem ZW:Ys ["deck", "tree", "many", "cell", "at", "knot", "some", "k", "fresh", "last", "number"] ["deck", "tree", "many"] (Zn WM):=⟨rfl,rfl,rfl,by decide +kernel,rfl,by decide +kernel,by decide +kernel⟩
theorem ZV:Ys ["deck", "tree", "known", "many", "cell", "pairs", "shifted", "knot", "i", "j"] ["deck", "tree", "known", "many"] (Zn Xu):=⟨rfl,rfl,rfl,by decide +kernel,rfl,by decide +kernel,by decide +kernel⟩
theorem ZD:Ys ["deck", "many", "turn", "cell", "at", "far", "pairs", "b", "a", "near"] ["deck", "many"] (Zn XD):=⟨rfl,rfl,rfl,by decide +kernel,rfl,by decide +kernel,by decide +kernel⟩
theorem Wo:Ys ["script", "deck", "k", "many", "known", "tree", "due", "turn", "other", "there", "found"] ["script"] (Zn Uu):=⟨rfl,rfl,rfl,by decide +kernel,rfl,by decide +kernel,by decide +kernel⟩
set_option genInjectivity false
structure Fn1 (K:PySem.W.Frag)(mg:Str->Option Value)(n:Str)(s:Stmt)(ps:List Str) where
 f:Addr
 fd:FuncData
 F:Fun K n n s f fd
 b:Binds K fd ps []
 m:mg n=some (.ref f)
abbrev Fn1.O {K:PySem.W.Frag}{mg:Str->Option Value}{n:Str}{s:Stmt}{ps:List Str}(T:Fn1 K mg n s ps)(P:Program)(w:World)(base:Heap)(k:Nat)(sp:Sp):Prop:=Ql P w K mg base CX0 k T.f T.fd ps sp
structure Top (K:PySem.W.Frag)(mg:Str->Option Value) where
 Vx:Fn1 K mg "bits_of" VB ["pairs", "many"]
 Wi:Fn1 K mg "with_look" WW ["known", "one", "other"]
 XQ:Fn1 K mg "goes_ahead" Je ["known", "one", "other"]
 Xn:Fn1 K mg "tree_count" XJ ["tree", "known", "many"]
 Vl:Fn1 K mg "answers" Q5 ["knot", "known"]
 W4:Fn1 K mg "leaves_just" X7 ["known", "places"]
 ZL:Fn1 K mg "_law_next" JH ["deck"]
 Yi:Fn1 K mg "_law_closed" Xw ["pairs"]
 Xj:Fn1 K mg "_law_turn" JK ["deck", "many"]
 XN:Fn1 K mg "_law_known" Jl ["deck", "many"]
 Wg:Fn1 K mg "_law_open" WR ["known", "many"]
 WP:Fn1 K mg "_law_tree" Xm ["deck", "known", "many"]
 Xg:Fn1 K mg "_law_rows_left" Xh ["known", "many"]
 Yu:Fn1 K mg "_law_behind" W3 ["tree", "number", "known", "many"]
 X6:Fn1 K mg "_law_spoilt" WM ["deck", "tree", "many"]
 YW:Fn1 K mg "_law_asked_twice" Xu ["deck", "tree", "known", "many"]
 Y8:Fn1 K mg "_law_much_known" XD ["deck", "many"]
 VH:mg "len" = none
 Wn:mg "range" = none
 QB:mg "tuple" = none
 zbc:mg "isinstance" = none
 zhR:mg "list" = none
 int_:mg "int" = none
 bool_:mg "bool" = none
 Qt:mg "sorted" = none
 zjA:mg "max" = none
 zkt:mg "min" = none
 zjg:mg "set" = none
 zkp:mg "all" = none
 zks:mg "zip" = none
 zb4:mg "enumerate" = none
 ib:kitOne K (.type "int") (.type "bool")=some false
 nb:kitOne K (.type "NoneType") (.type "bool")=some false
theorem peN {X:Cx}{x:Str}{st:Stmt}{ps:List Str}{k:Nat}{sp:Sp}{e:Expr}{es:List Expr}{t:TA}{p pos:Pos}(T:Fn1 X.K X.mg x st ps)(F:Ql X.prog X.w X.K X.mg X.base CX0 k T.f T.fd ps sp)(hr:Vu k X.A)(ha:PA X (e::es) t)(hg:Gl X x:=by rfl)(hdb:(x==("__debug__" : Str))=false:=by decide)(he:starEach (e::es) X.env=(false,eval e X.env)::starEach es X.env:=by rfl)(hpl:(backTo pos (starEach es X.env)).any (·.1)=false:=by rfl):PE X (.Call (.Name x p) (e::es) [] pos) (za9 sp [] E0 t):=zfS F hr hg T.m T.F.kp T.b .nil zjE ha hdb he hpl
section
def OkL (P:Program)(w:World)(K:PySem.W.Frag)(mg:Str->Option Value)(base:Heap):Prop:=∀ (f:Addr) (fd:FuncData) (F:Fun K "law" "law" Uu f fd) (T:Top K mg),Ql P w K mg base CX0 266 f fd ["script"] (zaW K)
structure EnC where
 P:Program
 w:World
 K:PySem.W.Frag
 mg:Str->Option Value
 base:Heap
theorem zjM:Nonempty EnC:=⟨⟨default,⟨λ_ _=>0,by constructor <;> first | exact default | exact .refcount | exact λ_=>default | exact λ_ _=>default | exact λ_ _ _=>default⟩,default,default,default⟩⟩
noncomputable def e0:EnC:=@Classical.epsilon EnC zjM λe=>¬ OkL e.P e.w e.K e.mg e.base
noncomputable def P:Program:=e0.P
noncomputable def w:World:=e0.w
noncomputable def K:PySem.W.Frag:=e0.K
noncomputable def mg:Str->Option Value:=e0.mg
noncomputable def base:Heap:=e0.base
end
abbrev dK (k:Kn):PyData:=.tuple (k.map λ(b:Nat)=>.int (b:Nat))
abbrev dP (q:Nat×Nat):PyData:=.tuple [.int (q.1:Nat),.int (q.2:Nat)]
abbrev dPs (ps:List (Nat×Nat)):PyData:=.tuple (ps.map dP)
theorem zjQ {k:Kn}{j:Nat}(h:j<k.length):(k.map λ(b:Nat)=>PyData.int (b:Nat))[j]?=some (.int (k.getD j 0:Nat)):=by
 rw[getElem?_map,getD_eq_getElem?_getD,List.getElem?_eq_getElem h];rfl
theorem zj0 (k:Kn):za4 (k.map λ(b:Nat)=>PyData.int (b:Nat))=(List.range k.length).map λ(t:Nat)=>PyData.tuple [.int (t:Nat),.int (k.getD t 0:Nat)]:=by
 unfold za4
 rw[length_map]
 refine map_congr_left λt ht=>?_
 rw[getD_eq_getElem?_getD,zjQ (mem_range.mp ht)];rfl
theorem U6 {α β:Type}(c:α->Bool)(f:α->β)(l:List α):(l.filterMap λa=>if c a then some (f a) else none)=(l.filter c).map f:=by
 induction l with
 | nil=>rfl
 | cons a r ih=>
  cases h:c a with
  | true=>rw[filterMap_cons,List.filter_cons,h,if_pos rfl,if_pos rfl,map_cons,ih]
  | false=>rw[filterMap_cons,List.filter_cons,h,if_neg Bool.false_ne_true,if_neg Bool.false_ne_true,ih]
theorem rix (n k:Nat)(hk:k<(List.range n).length):(List.range n)[k]=k:=by simp
inductive RWl:List PyData->PyData->Prop
 | mk (k:Kn) (i j:Nat) (_:k.length<=8) (_:i<k.length) (_:j<k.length):RWl [dK k,.int (i:Nat),.int (j:Nat)] (dK (wl k i j))
inductive RBi:List PyData->PyData->Prop
 | mk (ps:List (Nat×Nat)) (n:Nat) (_:n<=8) (_:∀ q∈ps,q.1<n/\q.2<n):RBi [dPs ps,.int (n:Nat)] (dK (Z4 ps n))
inductive RGo:List PyData->PyData->Prop
 | mk (k:Kn) (i j:Nat) (_:i<k.length):RGo [dK k,.int (i:Nat),.int (j:Nat)] (.bool (ah k i j))
section
theorem zhs (T:Top K mg):T.Wi.O P w base 1 (spP K RWl):=by
 refine T.Wi.F.okP QH (by rintro _ _ ⟨⟩;rfl) λcdv A outer s H E hr ds d hR=>?_
 cases hR with
 | mk k i j hn hi hj=>
 have zl:(2000:Nat)<sizeLine:=by decide
 refine ⟨_,(Ze (Zr (i:=3) QH.nd rfl (Or.inr rfl) (Zo zho (Ym (ZQ (K:=K) rfl) (pv 0) (pv 2) (λ_ _=>rfl)) (Zo zhA Zh (pv 2))))
   (Zm (Z5 (Xf (Y4 (K:=K) rfl) (by rfl) T.QB zff (Za (VF (x:= "thing") (x2:= "behind") (cap:=["one", "onward"]) (js:=[1,3]) ⟨rfl,by decide +kernel,by decide +kernel,rfl,rfl,(by show ∀ p∈(_:List (Str×NameKind)),p.2=NameKind.free->List.lookup p.1 (Zn WW).names=some NameKind.cell;decide +kernel),by decide +kernel,by decide +kernel,by decide +kernel⟩ rfl rfl (λ_ _ h=>h) (zeE (by rfl) T.zb4 (Za (pv 0) Zf Zd)) (λ_ _ _ _=>⟨Qy,(zd8 (PW.pt (pw_or (Zy XF (pv 0) (pv 2) (ZR _)) (pw_or1 (zgE (Zo zfk (Zo ze2 (pv 1) (pv 2)) Zh))))) (Zo zho (pv 1) (pv 3)) (pv 1))⟩)) Zf Xi))))) ,?_⟩
 refine Zj (Zq (Zv (zfg (Yd (Zb rfl) (Zb rfl) (by rw[length_map];exact YL hj) (zjQ hj)) (zhN (Zb rfl) (by omega))) ?_))
 refine Z6 (Zv (We (Zc (Yo (Q9 (js:=[1,3]) (List.range k.length) (λt=>.int (t:Nat)) (λt=>.int (k.getD t 0:Nat)) (λt=>some (.int ((if t==i||ah k t i then (k.getD t 0) ||| ((k.getD j 0) ||| (1 <<< j)) else k.getD t 0:Nat)))) ?_ (by rw[length_range];omega) λt ht=>lx1 Qo (zhL (zaC (Zu (Xy (Zb rfl) (Zb rfl))) λ_=>ziv (Zb rfl) (Zb rfl)) (λhc=>Yo (zfg (Zb rfl) (Zb rfl)) ?_) λhc=>Yo (Zb rfl) ?_)) ?_) Zg)) rfl)
 ·rw[← zj0];exact zhl (Zc (Zb rfl) Zg)
 ·have:(t==i||ah k t i)=true:=by
   rw[← hc];congr 1
   by_cases e:t=i
   ·subst e;simp
   ·have:¬ (t:Int)=(i:Int):=by omega
    simp[e,this]
  rw[if_pos this]
 ·have:¬ (t==i||ah k t i)=true:=by
   rw[Bool.not_eq_true,← hc];congr 1
   by_cases e:t=i
   ·subst e;simp
   ·have:¬ (t:Int)=(i:Int):=by omega
    simp[e,this]
  rw[if_neg this]
 ·rw[Qx]
  unfold wl
  rw[map_map];rfl
theorem zgQ (T:Top K mg):T.Vx.O P w base 2 (spP K RBi):=by
 have G_with_look:=@zhs T
 refine T.Vx.F.okP Wy (by rintro _ _ ⟨⟩;rfl) λcdv A outer s H E hr ds d hR=>?_
 cases hR with
 | mk ps n h8 hps=>
 have zl:(2000:Nat)<sizeLine:=by decide
 refine ⟨_,(Ze (Zr (i:=2) Wy.nd rfl (Or.inl rfl) (Zo (zg0 (K:=K) rfl) (ZG (Za Zh Zf Zx)) (pv 1)))
   (Ze (Wa PassesOwn.never rfl (zbF (pv 0)) (QC (n:=2) rfl (Yv (Z8 (i:=3) Wy.nd rfl (Or.inl rfl)) (Yv (Z8 (i:=4) Wy.nd rfl (Or.inl rfl)) Jd)) (by rfl)) (Zm (Zr (i:=2) Wy.nd rfl (Or.inl rfl) (peN T.Wi G_with_look hr (Za (pv 2) (Za (pv 3) (Za (pv 4) Zf Zd) Zd) Zd)))))
   (Zm (Z5 (pv 2))))) ,?_⟩
 refine Zj (Zq (Zv (d:=dK (List.replicate n 0)) (Yo (zf7 (ZM (Zc Zi Zg) (by show 1<=sizeLine;decide)) (Zb rfl) (by omega) (by show 1<=1000;decide)) ?_) ?_))
 ·show PyData.tuple _=PyData.tuple ((List.replicate n 0).map λ(b:Nat)=>PyData.int (b:Nat))
  rw[List.map_replicate];congr 1
  clear hps h8
  induction n with
  | zero=>rfl
  | succ n ih=>rw[replicate_succ,flatten_cons,ih];rfl
 refine Zj (Wr ps dP (zbx (Zb rfl)) (λi ρ=>∃ v3 v4:PV,ρ=[.dat (dPs ps),.dat (.int (n:Nat)),.dat (dK (Z4 (ps.take i) n)),v3,v4]) ⟨_,_,rfl⟩ ?_ ?_)
 ·rintro i hi _ ⟨v3,v4,rfl⟩
  obtain ⟨q1,q2⟩:=hps _ (getElem_mem hi)
  refine V1 (Zq (Zv (Yz (Zc (Zb rfl) (Zc (Zb rfl) (Zc (Zb rfl) Zg))) (RWl.mk _ _ _ (by rw[Qh];exact h8) (by rw[Qh];exact q1) (by rw[Qh];exact q2))) ⟨.dat (.int (ps[i].1:Nat)),.dat (.int (ps[i].2:Nat)),?_⟩))
  rw[take_succ_eq_append_getElem hi]
  unfold Z4
  rw[List.foldl_append];rfl
 ·rintro _ ⟨v3,v4,rfl⟩
  rw[take_length]
  exact Z6 (Zv (Zb rfl) rfl)
theorem zdF (T:Top K mg):T.XQ.O P w base 1 (spP K RGo):=by
 refine T.XQ.F.okP Uw (by rintro _ _ ⟨⟩;rfl) λcdv A outer s H E hr ds d hR=>?_
 cases hR with
 | mk k i j hi=>
 refine ⟨_,(Zm (Z5 (Wm XF (Zo zfk (Zo ze2 (Ym (ZQ (K:=K) rfl) (pv 0) (pv 1) (λ_ _=>rfl)) (pv 2)) Zh) Zh (ZR _)))) ,?_⟩
 refine Z6 (Zv (Yo (Xy (ze8 (Yd (Zb rfl) (Zb rfl) (by rw[length_map];exact YL hi) (zjQ hi)) (Zb rfl)) Zi) ?_) rfl)
 unfold ah
 cases (k.getD i 0).testBit j <;> rfl
end
inductive Dk (n:Nat) (es:List PyData):Prop
 | mk (cs:List Int) (a:Nat) (_:es=[.list (cs.map PyData.int),.int (a:Nat)]) (_:cs.length<=63) (_:a<=n):Dk n es
def zkx:List PyData->List PyData->Prop:=λes ds=>∃ n:Nat,Dk n es/\n<=10 ^ 6/\ds=[]
def RNx:List PyData->List PyData->PyData->List PyData->Prop:=λes ds x es' => ∃ r:Int,x = .int r/\∀ n,Dk n es->Dk (n+1) es'
def LkI (K:PySem.W.Frag)(n:Nat)(p:Addr)(fp:List Addr)(G H:Hp):Prop:=fp=[]/\∃ xs es,H p=some (.lst xs)/\Yr K G xs es/\Dk n es
noncomputable def lkT (K:PySem.W.Frag):TF K Nat:=zkF (λn p fp G H=>LkI K n p fp G H) (λ{n p fp G H G' H'} ⟨e,xs,es,h1,h2,h3⟩ s k=>⟨e,xs,es,by rw[k p mem_cons_self];exact h1,h2.same s,h3⟩) (λ{n p fp G H} ⟨e,xs,es,h1,h2,h3⟩ a ha=>by
 subst e
 rw[mem_singleton.mp ha];exact ⟨_,h1⟩)
def zfu (n:Nat)(ds:List PyData):Prop:=ds=[]/\n<=10 ^ 6
inductive RDw (n:Nat) (ds:List PyData) (x:PyData) (n' : Nat):Prop
 | mk (r:Int) (_:x = .int r) (_:n'=n+1):RDw n ds x n'
inductive zjk (n:Nat) (ds:List PyData):Prop
 | mk (m:Nat) (_:ds=[.int (m:Nat)]) (_:m<=8) (_:n<=10 ^ 5):zjk n ds
inductive RTu (n:Nat) (ds:List PyData) (x:PyData) (n' : Nat):Prop
 | mk (m:Nat) (l:List Nat) (_:ds=[.int (m:Nat)]) (_:x = .list (l.map λ(i:Nat)=>.int (i:Nat))) (_:l.Perm (List.range m)) (_:n' <= n+8):RTu n ds x n'
inductive RLc:List PyData->PyData->Prop
 | mk (ps:List (Nat×Nat)) (n:Nat) (_:n<=8) (_:∀ q∈ps,q.1<n/\q.2<n) (_:IsO (Z4 ps n)):RLc [.list (ps.map dP)] (dPs (pairsOf (Z4 ps n)))
inductive RLt:List PyData->PyData->Prop
 | mk (ps:List (Nat×Nat)) (n:Nat) (_:n<=8) (_:∀ q∈ps,q.1<n/\q.2<n) (_:IsO (Z4 ps n)):RLt [dPs ps] (dPs (pairsOf (Z4 ps n)))
inductive zjS (n:Nat) (ds:List PyData):Prop
 | mk (m:Nat) (_:ds=[.int (m:Nat)]) (_:m<=7) (_:n+100<=10 ^ 5):zjS n ds
inductive RKn (n:Nat) (ds:List PyData) (x:PyData) (n' : Nat):Prop
 | mk (m:Nat) (k:Kn) (_:ds=[.int (m:Nat)]) (_:x=dPs (pairsOf k)) (_:IsO k) (_:k.length=m) (_:n' <= n+100):RKn n ds x n'
inductive ROp:List PyData->PyData->Prop
 | mk (k:Kn) (_:k.length<=8):ROp [dPs (pairsOf k),.int (k.length:Nat)] (.list ((opn k).map dP))
theorem VM {n:Nat}(q:Nat×Nat):Pl (n+1) (dP q):=Qf λd hd=>by
 rcases mem_cons.mp hd with rfl | hd
 ·exact Xd _
 ·rw[mem_singleton.mp hd];exact Xd _
theorem zbt {n:Nat}(l:List (Nat×Nat)):Pl (n+2) (.list (l.map dP)):=Wb λd hd=>by
 obtain ⟨a,_,rfl⟩:=mem_map.mp hd;exact VM a
theorem zgG (a b:Nat×Nat):PySem.Spec.same (dP a) (dP b)=decide (a=b):=by
 have e:PySem.Spec.same (dP a) (dP b)=(decide ((a.1:Int)=b.1)&&decide ((a.2:Int)=b.2)):=by
  show PySem.Spec.same (.tuple [.int _,.int _]) (.tuple [.int _,.int _])=_
  simp[PySem.Spec.same,sameAll]
  rfl
 rw[e]
 obtain ⟨a1,a2⟩:=a
 obtain ⟨b1,b2⟩:=b
 by_cases h1:a1=b1
 ·by_cases h2:a2=b2
  ·subst h1 h2;simp
  ·have:¬ (a2:Int)=b2:=by omega
   simp[h1,h2,this]
 ·have:¬ (a1:Int)=b1:=by omega
  simp[h1,this]
theorem zby (l:List (Nat×Nat))(q:Nat×Nat):((l.map dP).any λe=>PySem.Spec.same e (dP q))=decide (q∈l):=by
 rw[List.any_map]
 induction l with
 | nil=>rfl
 | cons a r ih=>
  rw[any_cons,ih]
  show (PySem.Spec.same (dP a) (dP q)||_)=_
  rw[zgG]
  by_cases h:a=q
  ·subst h;simp
  ·have h' : ¬ q=a:=λz=>h z.symm
   simp[h,h']
theorem zce {α:Type}{l:List α}{j:Nat}(h:j<l.length):(l[j]::l.eraseIdx j).Perm l:=by
 rw[List.eraseIdx_eq_take_drop_succ]
 refine List.perm_middle.symm.trans (List.Perm.of_eq ?_)
 rw[← List.drop_eq_getElem_cons h,List.take_append_drop]
theorem zdk {α β:Type}(f:α->β)(l:List α)(j:Nat):(l.map f).eraseIdx j=(l.eraseIdx j).map f:=by
 rw[List.eraseIdx_eq_take_drop_succ,List.eraseIdx_eq_take_drop_succ,map_append,map_take,map_drop]
theorem zb6 (l:List (Nat×Nat)):l.map dP=(l.map up).map dPr:=by rw[map_map];rfl
section
theorem zgd (T:Top K mg):T.ZL.O P w base 1 (spL K zkx RNx):=by
 refine T.ZL.F.okL Wq (by rintro _ _ ⟨n,_,_,rfl⟩;rfl) λcdv A outer s H E hr p es ds hP=>?_
 obtain ⟨n,⟨cs,a,rfl,hcl,ha⟩,hn,rfl⟩:=hP
 have fin:∀ n,Dk n [.list (cs.map PyData.int),.int (a:Nat)]->Dk (n+1) [.list (cs.map PyData.int),.int ((a+1:Nat))]:=λn hD=>by
  obtain ⟨cs2,a2,e,h3,h4⟩:=hD
  simp only[List.cons.injEq,PyData.int.injEq,and_true] at e
  exact ⟨cs,a+1,rfl,hcl,by omega⟩
 refine ⟨_,(Ze (Zr (i:=1) Wq.nd rfl (Or.inl rfl) (Ym (Yt (K:=K) rfl) (pv 0) Zh (λ_ _=>rfl)))
   (Ze (Zr (i:=2) Wq.nd rfl (Or.inl rfl) (Ym (Yt (K:=K) rfl) (pv 0) Zh (λ_ _=>rfl)))
   (Ze (zbI (Zo YF (pv 2) Zh) (zij (pv 0) Zh set_list))
   (Ze (YX (Zy U9 (pv 2) (ZJ (Z0 (K:=K) rfl) (by rfl) T.VH PySem.boot_len (Za (pv 1) Zf Zd)) (ZR _)) (Zm (Z5 (Ym (Yt (K:=K) rfl) (pv 1) (pv 2) (λ_ _=>rfl)))) ZX)
   (Ze (YX (Zy XF (ZJ (Z0 (K:=K) rfl) (by rfl) T.VH PySem.boot_len (Za (pv 1) Zf Zd)) Zh (ZR _)) (Zm (Z5 (Zo YF (Zo Qn (Zo Qn (pv 2) (pv 2)) Zh) (pv 2)))) ZX)
   (Ze (Zr (i:=3) Wq.nd rfl (Or.inl rfl) (Zo Yn (Zo Qn (Zo YF (Zo YF (Zo Yn (Ym (Yt (K:=K) rfl) (pv 1) (Zo Yn (pv 2) (ZJ (Z0 (K:=K) rfl) (by rfl) T.VH PySem.boot_len (Za (pv 1) Zf Zd))) (λ_ _=>rfl)) Zh) (Zo Qn (pv 2) Zh)) Zh) Zh) Zh))
   (Zm (Z5 (Zo Yn (Zo Qn (pv 3) (pv 3)) Zh))))))))) ,?_⟩
 refine Zj (Zq (zcx (zdS (n:=0) rfl rfl Zi rfl rfl) ?_))
 refine Zj (Zq (zcx (zdS (n:=1) rfl rfl Zi rfl rfl) ?_))
 refine Zj (zgu (i:=0) (Ue (Y5 (Zb rfl) Zi λ_=>Zk _) rfl ⟨_,_,_,1,1,rfl,rfl,rfl,Zi,rfl,?_⟩))
 have he:((a:Int)+1)=((a+1:Nat):Int):=by omega
 rw[he]
 refine Zj (Xl (Zu (Y5 (Zb rfl) (Yo (XC (Zc (Zb rfl) Zg)) (by rw[length_map])) λ_=>Yy _)) (λh=>?_) λh=>ZZ ?_)
 ·have hal:a<cs.length:=by
   have:=of_decide_eq_true h
   omega
  exact Z6 (Zv (XM (n:=a) (d:=.int (cs.getD a 0)) (Zb rfl) (Zb rfl) (by rw[length_map];exact YL hal) (by rw[getElem?_map,getD_eq_getElem?_getD,List.getElem?_eq_getElem hal];rfl)) ⟨_,_,rfl,⟨_,rfl,fin⟩,rfl⟩)
 refine Zj (Xl (Zu (Xy (Yo (XC (Zc (Zb rfl) Zg)) (by rw[length_map])) Zi)) (λh2=>?_) λh2=>ZZ ?_)
 ·exact Z6 (Zv (Y5 (YQ (YQ (Zb rfl) (Zb rfl) (mw (by omega) (by omega)) λ_=>Zk _) Zi (mw (by
   have:((a:Int)*a).natAbs<=10 ^ 6*10 ^ 6:=by rw[Int.natAbs_mul];exact mul_le_mul (by omega) (by omega)
   omega) (by decide)) λ_=>Zk _) (Zb rfl) λ_=>Zk _) ⟨_,_,rfl,⟨_,rfl,fin⟩,rfl⟩)
 have hp:0<cs.length:=by
  have:=of_decide_eq_false h2
  omega
 have hi1:a % cs.length<cs.length:=mod_lt _ hp
 have hb:∀ z:Int,(0:Int)<=z % 2147483629/\z % 2147483629<2147483629:=λz=>⟨emod_nonneg _ (by decide),emod_lt_of_pos _ (by decide)⟩
 have hz:=hb (cs.getD (a % cs.length) 0)
 refine Zj (Zq (Zv (YQ (YQ (Y5 (Y5 (YQ (XM (n:=a % cs.length) (d:=.int (cs.getD (a % cs.length) 0)) (Zb rfl) (YQ (Zb rfl) (Yo (XC (Zc (Zb rfl) Zg)) (by rw[length_map])) (by omega) λ_=>Zk _) (by rw[length_map,← Int.natCast_emod];exact YL hi1) (by rw[getElem?_map,getD_eq_getElem?_getD,List.getElem?_eq_getElem hi1];rfl)) Zi (by decide) λ_=>Zk _) (YQ (Zb rfl) Zi (mw (by omega) (by decide)) λ_=>Zk _) λ_=>Zk _) Zi λ_=>Zk _) Zi (mw (by omega) (by decide)) λ_=>Zk _) Zi (by decide) λ_=>Zk _) ?_))
 generalize hM:(cs.getD (a % cs.length) 0 % 2147483629+(a:Int)*7919+5)*50021 % 2147483587=m
 have hm:0<=m/\m<2147483587:=by rw[← hM];exact ⟨emod_nonneg _ (by decide),emod_lt_of_pos _ (by decide)⟩
 exact Z6 (Zv (YQ (YQ (Zb rfl) (Zb rfl) (mw (by omega) (by omega)) λ_=>Zk _) Zi (by decide) λ_=>Zk _) ⟨_,_,rfl,⟨_,rfl,fin⟩,rfl⟩)
theorem zjn {k:Nat}{f:Addr}{fd:FuncData}{ps:List Str}{Pre:List PyData->List PyData->Prop}{R:List PyData->List PyData->PyData->List PyData->Prop}{Pre' : Nat->List PyData->Prop}{R' : Nat->List PyData->PyData->Nat->Prop}(F:Ql P w K mg base CX0 k f fd ps (spL K Pre R))
  (hP:∀ n es ds,Dk n es->Pre' n ds->Pre es ds) (hR:∀ n es ds x es',Dk n es->Pre' n ds->R es ds x es' -> ∃ n',Dk n' es' /\ R' n ds x n'):Ql P w K mg base CX0 k f fd ps (spT (lkT K) Pre' R'):=
 F.imp λvs H Q E h=>by
  obtain ⟨p,fp,us,G,n,ds,e,sg,gn,lv,⟨e2,xs,es,h1,h2,h3⟩,hv,hp,kk⟩:=h
  subst e2
  refine ⟨p,us,G,xs,es,ds,e,sg,gn p mem_cons_self,h1,h2,hv,hP n es ds h3 hp,λv x es' xs' G' H' hr gw gp hp' hd hx=>?_⟩
  obtain ⟨n',d',r'⟩:=hR n es ds x es' h3 hp hr
  have eE:(λb=>b=p)=(λb=>b∈[p]):=funext λb=>propext mem_singleton.symm
  rw[eE] at gw
  exact kk v x n' G' H' r' gw (λa ha=>by rw[mem_singleton.mp ha];exact gp) (λa ha=>by rw[mem_singleton.mp ha];exact ⟨_,hp'⟩) ⟨rfl,xs',es',hp',hd,d'⟩ hx
theorem zaN (T:Top K mg):T.ZL.O P w base 1 (spT (lkT K) zfu RDw):=
 zjn (zgd T) (λn es ds h ⟨e,h1⟩=>⟨n,h,h1,e⟩) λn es ds x es' h _ ⟨r,e2,s⟩=>⟨n+1,s n h,r,e2,rfl⟩
theorem zb0 {B:Hp}{ρ:List PV}{X:XK}{i c:Nat}{p:Addr}{fp:List Addr}{R:PV->List PV->Prop}(hi:ρ[i]?=some ((lkT K).pv c p fp))(hc:c<=10 ^ 6)(k:∀ r:Int,R (.dat (.int r)) (ρ.set i ((lkT K).pv (c+1) p fp))):Eg K B (za9 (spT (lkT K) zfu RDw) [] X (Xc (WL i) QT)) ρ R:=
 XH hi (Wh Zg ⟨c,hi,⟨rfl,hc⟩,λx s2 hx=>by
  obtain ⟨r,rfl,rfl⟩:=hx
  exact k r⟩)
theorem zae {B:Hp}{ρ:List PV}{X:XK}{i c:Nat}{p:Addr}{fp:List Addr}{te:TE}{m:Nat}{R:PV->List PV->Prop}(hi:ρ[i]?=some ((lkT K).pv c p fp))(hc:c<=10 ^ 6)(hm:Er K B te (ρ.set i ((lkT K).pv (c+1) p fp)) (.int (m:Nat)))(h1:1<=m)(k:∀ r:Nat,r<m->R (.dat (.int (r:Nat))) (ρ.set i ((lkT K).pv (c+1) p fp))):Eg K B (tOp (rI (λ_ j=>0<j) λi j=>.int (i % j)) (za9 (spT (lkT K) zfu RDw) [] X (Xc (WL i) QT)) te) ρ R:=
 zca (zb0 hi hc λr=>⟨_,rfl,Ue hm rfl ⟨_,.int (r % (m:Int)),rfl,λG σ va vb ha hb=>zgK (UL ha) (UL hb) (show (0:Int)<(m:Int) by omega) (Zk _),by
  have h0:0<=r % (m:Int):=emod_nonneg _ (by omega)
  have h2:r % (m:Int)<m:=emod_lt_of_pos _ (by omega)
  obtain ⟨z,hz⟩:=eq_ofNat_of_zero_le h0
  rw[hz];exact k z (by omega)⟩⟩)
theorem zba (T:Top K mg):T.Xj.O P w base 2 (spT (lkT K) zjk RTu):=by
 have G__law_next:=@zaN T
 refine T.Xj.F.okT Jc (by rintro _ _ ⟨_,rfl,_⟩;rfl) λcdv A outer s H E hr p fp n ds hP=>?_
 obtain ⟨m,rfl,hm8,hn⟩:=hP
 have zl:(2000:Nat)<sizeLine:=by decide
 have hu:=hr.units
 refine ⟨_,(Ze (Zr (i:=2) Jc.nd rfl (Or.inl rfl) (zam rfl (by rfl) T.zhR (by rfl) T.Wn (Za (pv 1) Zf Zd)))
   (Ze (Zr (i:=3) Jc.nd rfl (Or.inl rfl) (Yp Zf))
   (Ze (J1 PassesOwn.never (Zy (JM (K:=K) rfl hu) (pv 2) (Yp Zf) (ZR _)) (Zm (Wu (QV plainAttrs_list PySem.F.slot_list_append PySem.F.type_list_append Xr (pv 3) (Za (QV plainAttrs_list PySem.F.slot_list_pop PySem.F.type_list_pop zeV (pv 2) (Za (Zo Yn (peN T.ZL G__law_next hr (Za (pv 0) Zf Zd)) (ZJ (Z0 (K:=K) rfl) (by rfl) T.VH PySem.boot_len (Za (pv 2) Zf Zd))) Zf Yg)) Zf XX)))))
   (Zm (Z5 (pv 3)))))) ,?_⟩
 refine Zj (Zq (zeG (Wh (Zc (Zb rfl) Zg) ⟨m,rfl,by omega,?_⟩)))
 refine Zj (Zq (JC Zg (by show 0<=sizeLine;decide) ?_))
 refine Zj (JZ (λk ρ=>∃ (c:Nat) (left found:List Nat),left.length=k/\(found++left).Perm (List.range m)/\c+k<=n+m/\ρ=[(lkT K).pv c p fp,.dat (.int (m:Nat)),.own (left.map λ(i:Nat)=>PyData.int (i:Nat)),.own (found.map λ(i:Nat)=>PyData.int (i:Nat))]) m ⟨n,List.range m,[],length_range,by rw[List.nil_append],Nat.le_refl _,rfl⟩ ?_)
 rintro k _ ⟨c,left,found,hk,hp,hc,rfl⟩
 have hlen:=hp.length_eq
 rw[length_append,length_range] at hlen
 refine ⟨!decide (left=[]),W9 (Zu (Jh (n:=2) (JB rfl rfl) (YD Zg (by show 0<=sizeLine;decide)) (Wb λd hd=>by obtain ⟨_,_,rfl⟩:=mem_map.mp hd;exact Xd _) (Wb λd hd=>by cases hd) (by decide))) ?_,λh=>?_,λh=>?_⟩
 ·congr 1
  cases left with
  | nil=>rfl
  | cons a r=>rfl
 ·have hne:left≠[]:=by simpa using h
  have hpos:0<left.length:=length_pos_iff.mpr hne
  refine J8 (zex (i:=2) rfl rfl (zae (m:=left.length) (c:=c) rfl (by omega) (Yo (XC (Zc (JB rfl rfl) Zg)) (by rw[length_map])) hpos λj hj=>?_)) rfl rfl
  refine ⟨_,_,j,.int (left[j]:Nat),rfl,rfl,rfl,by rw[getElem?_map,List.getElem?_eq_getElem hj];rfl,by omega,?_⟩
  refine ⟨_,_,_,rfl,rfl,rfl,by rw[length_map];omega,k-1,by omega,c+1,left.eraseIdx j,found++[left[j]],?_,?_,by omega,?_⟩
  ·rw[List.length_eraseIdx_of_lt hj];omega
  ·refine List.Perm.trans ?_ hp
   rw[append_assoc]
   refine List.Perm.append_left _ ?_
   exact zce hj
  ·rw[map_append,zdk];rfl
 ·have hne:left=[]:=by simpa using h
  subst hne
  refine zdm (Z6 (Zv (Zb rfl) ⟨_,c,rfl,⟨m,found,rfl,rfl,by rw[append_nil] at hp;exact hp,by omega⟩,rfl⟩))
theorem zfb (T:Top K mg):T.Yi.O P w base 1 (spP K RLc):=by
 refine T.Yi.F.okP Zw (by rintro _ _ ⟨⟩;rfl) λcdv A outer s H E hr ds d hR=>?_
 cases hR with
 | mk ps n h7 hps hO=>
 have zl:(10 ^ 5:Nat)<sizeLine:=by decide
 have hu:=hr.units
 have hu8:=Nat.lt_of_le_of_lt (Nat.add_le_add_left (show 8<=64 by decide) _) hr.units
 have upb:∀ qs:List (Nat×Nat),(∀ q∈qs,q.1<n/\q.2<n)->∀ q∈qs.map up,0<=q.1/\q.1<n/\0<=q.2/\q.2<n:=λqs h q hq=>by
  obtain ⟨a,ha,rfl⟩:=mem_map.mp hq
  have:=h a ha
  show 0<=(a.1:Int)/\(a.1:Int)<n/\0<=(a.2:Int)/\(a.2:Int)<n
  omega
 have nn:n*n<=64:=mul_le_mul h7 h7
 have psl:∀ qs,(Yx n qs).length<=64:=λqs=>Nat.le_trans zak nn
 have bk:=JN ps hps (List.replicate n 0) length_replicate W8.1 W8.2
 have bkN:(Z4 ps n).length=n:=Qh
 have h00:0<n->¬ ah (Z4 ps n) 0 0=true:=λh z=>by rw[hO.ir 0 (by rw[bkN];exact h)] at z;cases z
 refine ⟨_,(Ze (Zr (i:=1) Zw.nd rfl (Or.inr rfl) (zaO (K:=K) rfl rfl hu8 (by rfl) T.Qt (by rfl) T.zjg (Za (pv 0) Zf Zd)))
   (Ze (Zr (i:=2) Zw.nd rfl (Or.inl rfl) zdp)
   (Ze (J1 PassesOwn.never (QK (pv 2)) (Ze (Zr (i:=3) Zw.nd rfl (Or.inl rfl) (Yp Zf))
   (Ze (Wa PassesOwn.never rfl (Wv (pv 1)) (QC (n:=2) rfl (Yv (Z8 (i:=4) Zw.nd rfl (Or.inr rfl)) (Yv (Z8 (i:=5) Zw.nd rfl (Or.inr rfl)) Jd)) (by rfl)) (Zm (Zr (i:=3) Zw.nd rfl (Or.inl rfl) (Zo Vk (pv 3) (VF (x:= "k") (x2:= "l") (cap:=["i", "j", "found"]) (js:=[4,5,1]) ⟨rfl,by decide +kernel,by decide +kernel,rfl,rfl,(by show ∀ p∈(_:List (Str×NameKind)),p.2=NameKind.free->List.lookup p.1 (Zn Xw).names=some NameKind.cell;decide +kernel),by decide +kernel,by decide +kernel,by decide +kernel⟩ rfl rfl (λ_ _ h=>h) (Wv (pv 1)) (λ_ _ _ _=>⟨(Vz (PW.pt (pw_and (Zy XF (pv 3) (pv 0) (ZR _)) (pw_and1 (Zy (Vr (K:=K) rfl hu) (ZG (Za (pv 2) (Za (pv 1) Zf Zd) Zd)) (pv 4) (by rfl)))))),(ZG (Za (pv 2) (Za (pv 1) Zf Zd) Zd))⟩))))))
   (Ze (Zr (i:=2) Zw.nd rfl (Or.inl rfl) (Wm (JM (K:=K) rfl hu) (pv 3) (Yp Zf) (ZR _)))
   (Zm (Zr (i:=1) Zw.nd rfl (Or.inr rfl) (zaO (K:=K) rfl rfl hu8 (by rfl) T.Qt (by rfl) T.zjg (Za (Zo Vk (pv 1) (pv 3)) Zf Yg))))))))
   (Zm (Z5 (Xf (Y4 (K:=K) rfl) (by rfl) T.QB zff (Za (pv 1) Zf Zd))))))) ,?_⟩
 have srt:∀ {ρ:List PV}{te:TE}{qs:List (Nat×Nat)},(∀ q∈qs,q.1<n/\q.2<n)->(∀ q∈qs,ah (Z4 ps n) q.1 q.2=true)->Er K B0 te ρ (.list (qs.map dP))->Er K B0 (tCB (zdg K) (Xc te QT)) ρ (.list ((Yx n qs).map dP)):=λ{ρ te qs} h1 h3 h2=>Yo (zbl (Zc (Yo h2 (by rw[zb6])) Zg) h7 (zjG (C:=λq=>ah (Z4 ps n) q.1 q.2=true) h7 h00 h1 h3) (upb qs h1)) (by rw[QW,← zb6])
 refine Zj (Zq (Zv (srt hps (λq hq=>bk.2.2.2.1 q hq) (Zb rfl)) ?_))
 refine Zj (Zq (Zv zgM ?_))
 refine Zj (JZ (λm ρ=>∃ (qs:List (Nat×Nat)) (b:Bool) (v3 v4 v5:PV),(∀ q∈qs,q.1<n/\q.2<n)/\(∀ q∈ps,q∈qs)/\(∀ q∈Yx n qs,ah (Z4 ps n) q.1 q.2=true)/\(b=false->UT (Yx n qs) (Yx n qs).length=[])/\m=(if b then 1 else 0)+(64-(Yx n qs).length)/\ρ=[.dat (.list (ps.map dP)),.dat (.list ((Yx n qs).map dP)),.dat (.bool b),v3,v4,v5]) (1+(64-(Yx n ps).length)) ⟨ps,true,_,_,_,hps,λq h=>h,λq hq=>bk.2.2.2.1 q (YB.mp hq).2,λh=>noConfusion h,rfl,rfl⟩ ?_)
 rintro m _ ⟨qs,b,v3,v4,v5,hq1,hq2,hq3,hq4,hm,rfl⟩
 refine ⟨b,zjc (Zb rfl),λhb=>?_,λhb=>?_⟩
 ·subst hb
  generalize hF:Yx n qs=F at hq3 hq4 hm
  have hFl:F.length<=64:=by rw[← hF];exact psl qs
  have hFm:∀ q∈F,q.1<n/\q.2<n:=λq hq=>by rw[← hF] at hq;exact (YB.mp hq).1
  have frl:∀ i,i<=F.length->(UT F i).length<=i*64:=λi=>by
   induction i with
   | zero=>intro _;unfold UT;simp
   | succ i ih=>
    intro hi
    unfold UT at ih ⊢
    rw[take_succ_eq_append_getElem (by omega),flatMap_append,length_append,flatMap_singleton]
    have:=ih (by omega)
    have h2:(zfw F F[i]).length<=64:=by
     unfold zfw
     rw[length_map]
     exact Nat.le_trans (length_filter_le _ _) hFl
    omega
  refine Zj (Zq (Zv (YD Zg (by show 0<=sizeLine;decide)) ?_))
  refine Zj (Wr F dP (Jz (Zb rfl)) (λi ρ=>∃ v4 v5:PV,ρ=[.dat (.list (ps.map dP)),.dat (.list (F.map dP)),.dat (.bool true),.dat (.list ((UT F i).map dP)),v4,v5]) ⟨v4,v5,rfl⟩ ?_ ?_)
  ·rintro i hi _ ⟨v4,v5,rfl⟩
   have hf:=frl i (by omega)
   refine V1 (Zq (Zv (Yo (JG (Zb rfl) (Q9 (js:=[4,5,1]) F (λr=>.int (r.1:Nat)) (λr=>.int (r.2:Nat)) (λr=>if decide (F[i].2=r.1) && !decide ((F[i].1,r.2)∈F) then some (dP (F[i].1,r.2)) else none) (Jz (Zb rfl)) (by omega) λr hr=>lxB ?_ λ_=>ZM (Zc (Zb rfl) (Zc (Zb rfl) Zg)) (by show 2<=sizeLine;decide)) ?_) ?_) ⟨.dat (.int (F[i].1:Nat)),.dat (.int (F[i].2:Nat)),rfl⟩))
   ·refine zaa (W9 (Zu (Xy (Zb rfl) (Zb rfl))) ?_) λ_=>Zu (Yo (za0 (ZM (Zc (Zb rfl) (Zc (Zb rfl) Zg)) (by show 2<=sizeLine;decide)) (Zb rfl) (VM (F[i].1,r.2)) λe he=>?_) ?_)
    ·exact decide_eq_decide.mpr (by omega)
    ·obtain ⟨a,_,rfl⟩:=mem_map.mp he;exact VM a
    ·rw[if_pos rfl,zby F (F[i].1,r.2)]
   ·rw[U6,length_map,length_map]
    have:=length_filter_le (λr:Nat×Nat=>decide (F[i].2=r.1) && !decide ((F[i].1,r.2)∈F)) F
    have:F.length*64<=64*64:=mul_le_mul_right _ hFl
    have:i*64<=F.length*64:=mul_le_mul_right _ (by omega)
    omega
   ·rw[U6]
    unfold UT
    rw[take_succ_eq_append_getElem hi,flatMap_append,flatMap_singleton,map_append]
    congr 1;congr 1
    unfold zfw
    rw[map_map];rfl
  ·rintro _ ⟨v4,v5,rfl⟩
   have hfr:=frl F.length (Nat.le_refl _)
   have:F.length*64<=64*64:=mul_le_mul_right _ hFl
   generalize hR:UT F F.length=fr at hfr
   have frm:∀ q,q∈fr↔q∉F/\∃ j,(q.1,j)∈F/\(j,q.2)∈F:=λq=>by rw[← hR];exact Ur
   refine Zj (Zq (Zv (d:=.bool (!decide (fr=[]))) (Yo (Jh (n:=4) (Zb rfl) (YD Zg (by show 0<=sizeLine;decide)) (zbt fr) (Wb λd hd=>by cases hd) (by decide)) ?_) ?_))
   ·cases fr with
    | nil=>rfl
    | cons a r=>rfl
   have inF:∀ q∈fr,q.1<n/\q.2<n:=λq hq=>by
    obtain ⟨_,j,h1,h2⟩:=(frm q).mp hq
    exact ⟨(hFm _ h1).1,(hFm _ h2).2⟩
   have all:∀ q∈F++fr,q.1<n/\q.2<n:=λq hq=>by
    rcases mem_append.mp hq with hq | hq
    ·exact hFm q hq
    ·exact inF q hq
   have allC:∀ q∈F++fr,ah (Z4 ps n) q.1 q.2=true:=λq hq=>by
    have hqn:=all q hq
    rcases mem_append.mp hq with h | h
    ·exact hq3 q h
    ·obtain ⟨_,j,h1,h2⟩:=(frm q).mp h
     have hj:=(hFm _ h1).2
     exact bk.1 q.1 j q.2 (by rw[show (List.foldl (λk q=>wl k q.1 q.2) (List.replicate n 0) ps).length=n from bkN];exact hqn.1) (by rw[show (List.foldl (λk q=>wl k q.1 q.2) (List.replicate n 0) ps).length=n from bkN];exact hj) (hq3 _ h1) (hq3 _ h2)
   refine Zq (Zv (srt (qs:=F++fr) all allC (Yo (JG (Zb rfl) (Zb rfl) (by rw[length_map,length_map];omega)) (by rw[map_append]))) ?_)
   have same:fr=[]->Yx n (F++fr)=F:=λe=>by
    rw[e,append_nil,← hF]
    unfold Yx
    refine filter_congr λq hq=>decide_eq_decide.mpr ?_
    rw[mem_filter,decide_eq_true_eq]
    exact ⟨λh=>h.2,λh=>⟨hq,h⟩⟩
   refine ⟨_,?_,F++fr,!decide (fr=[]),.dat (.list (fr.map dP)),v4,v5,all,λq hq=>mem_append_left _ (by rw[← hF];exact YB.mpr ⟨hps q hq,hq2 q hq⟩),λq hq=>?_,λhb=>?_,rfl,rfl⟩
   ·subst hm
    by_cases e:fr=[]
    ·rw[same e,decide_eq_true e]
     show 0+_<1+_
     omega
    ·rw[decide_eq_false e]
     obtain ⟨a,ha⟩:=List.exists_mem_of_ne_nil fr e
     have:=V0 (n:=n) (a:=qs) (b:=F++fr) (q:=a) (λx hx=>mem_append_left _ (by rw[hF] at hx;exact hx)) (mem_append_right _ ha) (inF a ha) (by rw[hF];exact ((frm a).mp ha).1)
     rw[hF] at this
     have:=psl (F++fr)
     show 1+_<1+_
     omega
   ·exact allC q (YB.mp hq).2
   ·have e:fr=[]:=by simpa using hb
    rw[same e,hR];exact e
 ·subst hb
  refine Z6 (Zv (Yo (We (Zc (Zb rfl) Zg)) ?_) rfl)
  rw[zah hps hq2 hq3 (hq4 rfl)]
theorem zeY (T:Top K mg):T.Yi.O P w base 1 (spP K RLt):=by
 refine T.Yi.F.okP Zw (by rintro _ _ ⟨⟩;rfl) λcdv A outer s H E hr ds d hR=>?_
 cases hR with
 | mk ps n h7 hps hO=>
 have zl:(10 ^ 5:Nat)<sizeLine:=by decide
 have hu:=hr.units
 have hu8:=Nat.lt_of_le_of_lt (Nat.add_le_add_left (show 8<=64 by decide) _) hr.units
 have upb:∀ qs:List (Nat×Nat),(∀ q∈qs,q.1<n/\q.2<n)->∀ q∈qs.map up,0<=q.1/\q.1<n/\0<=q.2/\q.2<n:=λqs h q hq=>by
  obtain ⟨a,ha,rfl⟩:=mem_map.mp hq
  have:=h a ha
  show 0<=(a.1:Int)/\(a.1:Int)<n/\0<=(a.2:Int)/\(a.2:Int)<n
  omega
 have nn:n*n<=64:=mul_le_mul h7 h7
 have psl:∀ qs,(Yx n qs).length<=64:=λqs=>Nat.le_trans zak nn
 have bk:=JN ps hps (List.replicate n 0) length_replicate W8.1 W8.2
 have bkN:(Z4 ps n).length=n:=Qh
 have h00:0<n->¬ ah (Z4 ps n) 0 0=true:=λh z=>by rw[hO.ir 0 (by rw[bkN];exact h)] at z;cases z
 refine ⟨_,(Ze (Zr (i:=1) Zw.nd rfl (Or.inr rfl) (zcL (K:=K) rfl rfl hu8 (by rfl) T.Qt (by rfl) T.zjg (Za (pv 0) Zf Zd)))
   (Ze (Zr (i:=2) Zw.nd rfl (Or.inl rfl) zdp)
   (Ze (J1 PassesOwn.never (QK (pv 2)) (Ze (Zr (i:=3) Zw.nd rfl (Or.inl rfl) (Yp Zf))
   (Ze (Wa PassesOwn.never rfl (Wv (pv 1)) (QC (n:=2) rfl (Yv (Z8 (i:=4) Zw.nd rfl (Or.inr rfl)) (Yv (Z8 (i:=5) Zw.nd rfl (Or.inr rfl)) Jd)) (by rfl)) (Zm (Zr (i:=3) Zw.nd rfl (Or.inl rfl) (Zo Vk (pv 3) (VF (x:= "k") (x2:= "l") (cap:=["i", "j", "found"]) (js:=[4,5,1]) ⟨rfl,by decide +kernel,by decide +kernel,rfl,rfl,(by show ∀ p∈(_:List (Str×NameKind)),p.2=NameKind.free->List.lookup p.1 (Zn Xw).names=some NameKind.cell;decide +kernel),by decide +kernel,by decide +kernel,by decide +kernel⟩ rfl rfl (λ_ _ h=>h) (Wv (pv 1)) (λ_ _ _ _=>⟨(Vz (PW.pt (pw_and (Zy XF (pv 3) (pv 0) (ZR _)) (pw_and1 (Zy (Vr (K:=K) rfl hu) (ZG (Za (pv 2) (Za (pv 1) Zf Zd) Zd)) (pv 4) (by rfl)))))),(ZG (Za (pv 2) (Za (pv 1) Zf Zd) Zd))⟩))))))
   (Ze (Zr (i:=2) Zw.nd rfl (Or.inl rfl) (Wm (JM (K:=K) rfl hu) (pv 3) (Yp Zf) (ZR _)))
   (Zm (Zr (i:=1) Zw.nd rfl (Or.inr rfl) (zaO (K:=K) rfl rfl hu8 (by rfl) T.Qt (by rfl) T.zjg (Za (Zo Vk (pv 1) (pv 3)) Zf Yg))))))))
   (Zm (Z5 (Xf (Y4 (K:=K) rfl) (by rfl) T.QB zff (Za (pv 1) Zf Zd))))))) ,?_⟩
 have srt:∀ {ρ:List PV}{te:TE}{qs:List (Nat×Nat)},(∀ q∈qs,q.1<n/\q.2<n)->(∀ q∈qs,ah (Z4 ps n) q.1 q.2=true)->Er K B0 te ρ (.list (qs.map dP))->Er K B0 (tCB (zdg K) (Xc te QT)) ρ (.list ((Yx n qs).map dP)):=λ{ρ te qs} h1 h3 h2=>Yo (zbl (Zc (Yo h2 (by rw[zb6])) Zg) h7 (zjG (C:=λq=>ah (Z4 ps n) q.1 q.2=true) h7 h00 h1 h3) (upb qs h1)) (by rw[QW,← zb6])
 refine Zj (Zq (Zv (Yo (zbX (n:=n) (ps:=ps.map up) (Zc (Yo (Zb rfl) (show dPs ps=_ by rw[← zb6])) Zg) h7 (zjG (C:=λq=>ah (Z4 ps n) q.1 q.2=true) h7 h00 hps (λq hq=>bk.2.2.2.1 q hq)) (upb ps hps)) (show _=PyData.list ((Yx n ps).map dP) by rw[QW,← zb6])) ?_))
 refine Zj (Zq (Zv zgM ?_))
 refine Zj (JZ (λm ρ=>∃ (qs:List (Nat×Nat)) (b:Bool) (v3 v4 v5:PV),(∀ q∈qs,q.1<n/\q.2<n)/\(∀ q∈ps,q∈qs)/\(∀ q∈Yx n qs,ah (Z4 ps n) q.1 q.2=true)/\(b=false->UT (Yx n qs) (Yx n qs).length=[])/\m=(if b then 1 else 0)+(64-(Yx n qs).length)/\ρ=[.dat (dPs ps),.dat (.list ((Yx n qs).map dP)),.dat (.bool b),v3,v4,v5]) (1+(64-(Yx n ps).length)) ⟨ps,true,_,_,_,hps,λq h=>h,λq hq=>bk.2.2.2.1 q (YB.mp hq).2,λh=>noConfusion h,rfl,rfl⟩ ?_)
 rintro m _ ⟨qs,b,v3,v4,v5,hq1,hq2,hq3,hq4,hm,rfl⟩
 refine ⟨b,zjc (Zb rfl),λhb=>?_,λhb=>?_⟩
 ·subst hb
  generalize hF:Yx n qs=F at hq3 hq4 hm
  have hFl:F.length<=64:=by rw[← hF];exact psl qs
  have hFm:∀ q∈F,q.1<n/\q.2<n:=λq hq=>by rw[← hF] at hq;exact (YB.mp hq).1
  have frl:∀ i,i<=F.length->(UT F i).length<=i*64:=λi=>by
   induction i with
   | zero=>intro _;unfold UT;simp
   | succ i ih=>
    intro hi
    unfold UT at ih ⊢
    rw[take_succ_eq_append_getElem (by omega),flatMap_append,length_append,flatMap_singleton]
    have:=ih (by omega)
    have h2:(zfw F F[i]).length<=64:=by
     unfold zfw
     rw[length_map]
     exact Nat.le_trans (length_filter_le _ _) hFl
    omega
  refine Zj (Zq (Zv (YD Zg (by show 0<=sizeLine;decide)) ?_))
  refine Zj (Wr F dP (Jz (Zb rfl)) (λi ρ=>∃ v4 v5:PV,ρ=[.dat (dPs ps),.dat (.list (F.map dP)),.dat (.bool true),.dat (.list ((UT F i).map dP)),v4,v5]) ⟨v4,v5,rfl⟩ ?_ ?_)
  ·rintro i hi _ ⟨v4,v5,rfl⟩
   have hf:=frl i (by omega)
   refine V1 (Zq (Zv (Yo (JG (Zb rfl) (Q9 (js:=[4,5,1]) F (λr=>.int (r.1:Nat)) (λr=>.int (r.2:Nat)) (λr=>if decide (F[i].2=r.1) && !decide ((F[i].1,r.2)∈F) then some (dP (F[i].1,r.2)) else none) (Jz (Zb rfl)) (by omega) λr hr=>lxB ?_ λ_=>ZM (Zc (Zb rfl) (Zc (Zb rfl) Zg)) (by show 2<=sizeLine;decide)) ?_) ?_) ⟨.dat (.int (F[i].1:Nat)),.dat (.int (F[i].2:Nat)),rfl⟩))
   ·refine zaa (W9 (Zu (Xy (Zb rfl) (Zb rfl))) ?_) λ_=>Zu (Yo (za0 (ZM (Zc (Zb rfl) (Zc (Zb rfl) Zg)) (by show 2<=sizeLine;decide)) (Zb rfl) (VM (F[i].1,r.2)) λe he=>?_) ?_)
    ·exact decide_eq_decide.mpr (by omega)
    ·obtain ⟨a,_,rfl⟩:=mem_map.mp he;exact VM a
    ·rw[if_pos rfl,zby F (F[i].1,r.2)]
   ·rw[U6,length_map,length_map]
    have:=length_filter_le (λr:Nat×Nat=>decide (F[i].2=r.1) && !decide ((F[i].1,r.2)∈F)) F
    have:F.length*64<=64*64:=mul_le_mul_right _ hFl
    have:i*64<=F.length*64:=mul_le_mul_right _ (by omega)
    omega
   ·rw[U6]
    unfold UT
    rw[take_succ_eq_append_getElem hi,flatMap_append,flatMap_singleton,map_append]
    congr 1;congr 1
    unfold zfw
    rw[map_map];rfl
  ·rintro _ ⟨v4,v5,rfl⟩
   have hfr:=frl F.length (Nat.le_refl _)
   have:F.length*64<=64*64:=mul_le_mul_right _ hFl
   generalize hR:UT F F.length=fr at hfr
   have frm:∀ q,q∈fr↔q∉F/\∃ j,(q.1,j)∈F/\(j,q.2)∈F:=λq=>by rw[← hR];exact Ur
   refine Zj (Zq (Zv (d:=.bool (!decide (fr=[]))) (Yo (Jh (n:=4) (Zb rfl) (YD Zg (by show 0<=sizeLine;decide)) (zbt fr) (Wb λd hd=>by cases hd) (by decide)) ?_) ?_))
   ·cases fr with
    | nil=>rfl
    | cons a r=>rfl
   have inF:∀ q∈fr,q.1<n/\q.2<n:=λq hq=>by
    obtain ⟨_,j,h1,h2⟩:=(frm q).mp hq
    exact ⟨(hFm _ h1).1,(hFm _ h2).2⟩
   have all:∀ q∈F++fr,q.1<n/\q.2<n:=λq hq=>by
    rcases mem_append.mp hq with hq | hq
    ·exact hFm q hq
    ·exact inF q hq
   have allC:∀ q∈F++fr,ah (Z4 ps n) q.1 q.2=true:=λq hq=>by
    have hqn:=all q hq
    rcases mem_append.mp hq with h | h
    ·exact hq3 q h
    ·obtain ⟨_,j,h1,h2⟩:=(frm q).mp h
     have hj:=(hFm _ h1).2
     exact bk.1 q.1 j q.2 (by rw[show (List.foldl (λk q=>wl k q.1 q.2) (List.replicate n 0) ps).length=n from bkN];exact hqn.1) (by rw[show (List.foldl (λk q=>wl k q.1 q.2) (List.replicate n 0) ps).length=n from bkN];exact hj) (hq3 _ h1) (hq3 _ h2)
   refine Zq (Zv (srt (qs:=F++fr) all allC (Yo (JG (Zb rfl) (Zb rfl) (by rw[length_map,length_map];omega)) (by rw[map_append]))) ?_)
   have same:fr=[]->Yx n (F++fr)=F:=λe=>by
    rw[e,append_nil,← hF]
    unfold Yx
    refine filter_congr λq hq=>decide_eq_decide.mpr ?_
    rw[mem_filter,decide_eq_true_eq]
    exact ⟨λh=>h.2,λh=>⟨hq,h⟩⟩
   refine ⟨_,?_,F++fr,!decide (fr=[]),.dat (.list (fr.map dP)),v4,v5,all,λq hq=>mem_append_left _ (by rw[← hF];exact YB.mpr ⟨hps q hq,hq2 q hq⟩),λq hq=>?_,λhb=>?_,rfl,rfl⟩
   ·subst hm
    by_cases e:fr=[]
    ·rw[same e,decide_eq_true e]
     show 0+_<1+_
     omega
    ·rw[decide_eq_false e]
     obtain ⟨a,ha⟩:=List.exists_mem_of_ne_nil fr e
     have:=V0 (n:=n) (a:=qs) (b:=F++fr) (q:=a) (λx hx=>mem_append_left _ (by rw[hF] at hx;exact hx)) (mem_append_right _ ha) (inF a ha) (by rw[hF];exact ((frm a).mp ha).1)
     rw[hF] at this
     have:=psl (F++fr)
     show 1+_<1+_
     omega
   ·exact allC q (YB.mp hq).2
   ·have e:fr=[]:=by simpa using hb
    rw[same e,hR];exact e
 ·subst hb
  refine Z6 (Zv (Yo (We (Zc (Zb rfl) Zg)) ?_) rfl)
  rw[zah hps hq2 hq3 (hq4 rfl)]
theorem zec (T:Top K mg):T.XN.O P w base 3 (spT (lkT K) zjS RKn):=by
 have G__law_next:T.ZL.O P w base 2 (spT (lkT K) zfu RDw):=(zaN T).mono (by decide)
 have G__law_turn:=@zba T
 have G__law_closed:T.Yi.O P w base 2 (spP K RLc):=(zfb T).mono (by decide)
 refine T.XN.F.okT Y6 (by rintro _ _ ⟨_,rfl,_⟩;rfl) λcdv A outer s H E hr p fp n ds hP=>?_
 obtain ⟨m,rfl,hm7,hn⟩:=hP
 have zl:(2000:Nat)<sizeLine:=by decide
 refine ⟨_,(Ze (Zr (i:=2) Y6.nd rfl (Or.inl rfl) (peN T.Xj G__law_turn hr (Za (pv 0) (Za (pv 1) Zf Zd) Zd)))
   (Ze (Zr (i:=3) Y6.nd rfl (Or.inl rfl) (Yp Zf))
   (Ze (Wa PassesOwn.never rfl (Xe (by rfl) T.Wn (Za (Zo Qn (Zo Yn (peN T.ZL G__law_next hr (Za (pv 0) Zf Zd)) (Zo YF (pv 1) Zh)) (Xf zaq (by rfl) T.int_ zkr (Za (Wm ziU (pv 1) Zh (ZR _)) Zf zci))) Zf Yg)) (Z8 (i:=4) Y6.nd rfl (Or.inl rfl)) (Ze (Zr (i:=5) Y6.nd rfl (Or.inl rfl) (peN T.ZL G__law_next hr (Za (pv 0) Zf Zd)))
   (Ze (Zr (i:=6) Y6.nd rfl (Or.inl rfl) (Zo YF Zh (Zo Yn (pv 5) (Zo QG (pv 1) Zh))))
   (Zm (Wu (QV plainAttrs_list PySem.F.slot_list_append PySem.F.type_list_append Xr (pv 3) (Za (ZG (Za (Ym (Yt (K:=K) rfl) (pv 2) (Zo Yn (Zo YJ (pv 5) (pv 1)) (pv 6)) (λ_ _=>rfl)) (Za (Ym (Yt (K:=K) rfl) (pv 2) (pv 6) (λ_ _=>rfl)) Zf Zt) Zt)) Zf Yc)))))))
   (Zm (Z5 (peN T.Yi G__law_closed hr (Za (pv 3) Zf Zd))))))) ,?_⟩
 refine Zj (Zq (XH (s:=n) rfl (Wh (Zc (Zb rfl) Zg) ⟨n,rfl,⟨m,rfl,by omega,by omega⟩,λx s2 hx=>?_⟩)))
 obtain ⟨m',l,e,rfl,hl,hs2⟩:=hx
 cases e
 have hll:l.length=m:=by rw[hl.length_eq,length_range]
 have hnd:l.Nodup:=hl.nodup_iff.mpr nodup_range
 have hlm:∀ x∈l,x<m:=λx hx=>mem_range.mp (hl.mem_iff.mp hx)
 refine Zj (Zq (JC Zg (by show 0<=sizeLine;decide) ?_))
 show Sv K B0 _ [(lkT K).pv s2 p fp,.dat (.int (m:Nat)),.dat (.list (l.map λ(i:Nat)=>.int (i:Nat))),.own [],.un,.un,.un] _
 refine Zj (zgg (zha (WN (zca (zae (m:=m+1) (c:=s2) rfl (by omega) (Y5 (Zb rfl) Zi λ_=>Zk _) (by omega) λr hr=>⟨_,rfl,Ue (zcv (Zc (Y5 (Zb rfl) Zi λ_=>Yy _) Zg)) rfl ⟨_,.int ((r*(if 1<m then 1 else 0):Nat):Int),rfl,λG σ va vb ha hb=>zjw (zgK (UL ha) (UL hb) (mw (by omega) (by split <;> decide)) (Zk _)) ?_,_,rfl,Wh Zg ⟨_,rfl,?_,?_⟩⟩⟩)))))
 ·congr 1
  by_cases h:1<m
  ·have:(1:Int)<(m:Nat):=by omega
   rw[decide_eq_true this,if_pos h];simp
  ·have:¬ (1:Int)<(m:Nat):=by omega
   rw[decide_eq_false this,if_neg h];simp
 ·split <;> omega
 generalize hN:r*(if 1<m then 1 else 0)=N
 have hN8:N<=m/\(0<N->1<m):=by
  subst hN
  split
  ·constructor <;> omega
  ·constructor <;> omega
 refine ⟨λi ρ=>∃ (c:Nat) (ps:List (Nat×Nat)) (v4 v5 v6:PV),c<=s2+1+i/\ps.length=i/\(∀ q∈ps,∃ a b,a<b/\b<m/\l[a]?=some q.1/\l[b]?=some q.2)/\ρ=[(lkT K).pv c p fp,.dat (.int (m:Nat)),.dat (.list (l.map λ(i:Nat)=>.int (i:Nat))),.own (ps.map dP),v4,v5,v6],⟨s2+1,[],_,_,_,Nat.le_refl _,rfl,(λq h=>nomatch h),rfl⟩,?_,?_⟩
 ·rintro i hi _ ⟨c,ps,v4,v5,v6,hc,hpl,hps,rfl⟩
  rw[length_map,length_range] at hi
  rw[List.getElem_map,rix]
  have h1m:1<m:=hN8.2 (by omega)
  refine Wj (Zj (Zq (zb0 (c:=c) rfl (by omega) λz=>?_)))
  have em:∀ x y:Int,0<y->0<=x % y/\x % y<y:=λx y h=>⟨emod_nonneg _ (by omega),emod_lt_of_pos _ h⟩
  refine Zj (Zq (Zv (Y5 Zi (YQ (Zb rfl) (Y5 (Zb rfl) Zi λ_=>Zk _) (by omega) λ_=>Zk _) λ_=>Zk _) ?_))
  obtain ⟨b,hb⟩:=eq_ofNat_of_zero_le (show 0<=1+z % ((m:Int)-1) by have:=em z ((m:Int)-1) (by omega);omega)
  have hbm:1<=b/\b<m:=by have:=em z ((m:Int)-1) (by omega);omega
  rw[hb]
  obtain ⟨a,ha⟩:=eq_ofNat_of_zero_le (em (z / (m:Int)) (b:Int) (by omega)).1
  have hab:a<b:=by have:=em (z / (m:Int)) (b:Int) (by omega);omega
  have gl:∀ x,x<m->(l.map λ(i:Nat)=>PyData.int (i:Nat))[x]?=some (.int (l.getD x 0:Nat))/\ixN (l.map λ(i:Nat)=>PyData.int (i:Nat)).length (x:Nat)=some x:=λx hx=>by
   refine ⟨?_,by rw[length_map];exact YL (by omega)⟩
   rw[getElem?_map,getD_eq_getElem?_getD,List.getElem?_eq_getElem (by omega)];rfl
  refine J8 (Zv (d:=dP (l.getD a 0,l.getD b 0)) (ZM (Zc (XM (n:=a) (Zb rfl) (YQ (YQ (Zb rfl) (Zb rfl) ⟨by omega,w0 (by omega)⟩ λ_=>Zk _) (Zb rfl) (by omega) λ_=>by rw[ha];exact Zk _) (gl a (by omega)).2 (gl a (by omega)).1) (Zc (XM (n:=b) (Zb rfl) (Zb rfl) (gl b (by omega)).2 (gl b (by omega)).1) Zg)) (by show 2<=sizeLine;decide)) ⟨_,_,_,rfl,rfl,rfl,by rw[length_map];omega,c+1,ps++[(l.getD a 0,l.getD b 0)],.dat (.int (i:Nat)),.dat (.int z),.dat (.int (b:Nat)),by omega,by rw[length_append,hpl];rfl,λq hq=>?_,by rw[map_append];rfl⟩) rfl rfl
  rcases mem_append.mp hq with hq | hq
  ·exact hps q hq
  ·rw[mem_singleton.mp hq]
   have e1:∀ x,x<m->l[x]?=some (l.getD x 0):=λx hx=>by rw[getD_eq_getElem?_getD,List.getElem?_eq_getElem (by omega)];rfl
   exact ⟨a,b,hab,hbm.2,e1 a (by omega),e1 b (by omega)⟩
 ·rintro _ ⟨c,ps,v4,v5,v6,hc,hpl,hps,rfl⟩
  rw[length_map,length_range] at hc hpl
  have hpm:∀ q∈ps,q.1<m/\q.2<m:=λq hq=>by
   obtain ⟨a,b,_,_,h1,h2⟩:=hps q hq
   exact ⟨hlm _ (mem_of_getElem? h1),hlm _ (mem_of_getElem? h2)⟩
  have ix:∀ {x y:Nat},l[x]?=some y->l.idxOf y=x:=λ{x y} h=>by
   obtain ⟨hx,e⟩:=List.getElem?_eq_some_iff.mp h
   subst e
   exact hnd.idxOf_getElem x hx
  have hO:IsO (Z4 ps m):=IsO.bits hpm (λa b=>l.idxOf a<l.idxOf b) (λa b c h1 h2=>Nat.lt_trans h1 h2) (λa h=>lt_irrefl _ h) λq hq=>by
   obtain ⟨a,b,hab,_,h1,h2⟩:=hps q hq
   show l.idxOf q.1<l.idxOf q.2
   rw[ix h1,ix h2];exact hab
  exact zdm (Z6 (Zv (Yz (Zc (Zb rfl) Zg) (RLc.mk ps m (by omega) hpm hO)) ⟨_,c,rfl,⟨m,_,rfl,rfl,hO,Qh,by omega⟩,rfl⟩))
theorem zcV (T:Top K mg):T.Wg.O P w base 1 (spP K ROp):=by
 refine T.Wg.F.okP Wt (by rintro _ _ ⟨⟩;rfl) λcdv A outer s H E hr ds d hR=>?_
 cases hR with
 | mk k h8=>
 have zl:(2000:Nat)<sizeLine:=by decide
 have hu:=hr.units
 have rowl:∀ j,(orow k j).length<=j:=λj=>by
  unfold orow
  rw[length_map]
  exact Nat.le_trans (length_filter_le _ _) (le_of_eq length_range)
 have few:∀ i,i<=k.length->((List.range i).flatMap (orow k)).length<=i*8:=λi=>by
  induction i with
  | zero=>intro _;simp
  | succ i ih=>
   intro hi
   rw[range_succ,flatMap_append,length_append,flatMap_singleton]
   have:=ih (by omega)
   have h2:=rowl i
   omega
 have pr:∀ {ρ:List PV}{ta tb:TE}{i j:Nat},i<k.length->j<k.length->Er K B0 ta ρ (.int (i:Nat))->Er K B0 tb ρ (.int (j:Nat))->Er K B0 (WL 2) ρ (dPs (pairsOf k))->Er K B0 (tOp (zbT K true) (zfo (Xc ta (Xc tb QT))) (WL 2)) ρ (.bool (!ah k i j)):=λ{ρ ta tb i j} hi hj h1 h2 h3=>Yo (Qv (ZM (Zc h1 (Zc h2 Zg)) (by show 2<=sizeLine;decide)) h3 (VM (i,j)) λe he=>by obtain ⟨a,_,rfl⟩:=mem_map.mp he;exact VM a) (by
  rw[if_pos rfl,zby (pairsOf k) (i,j)]
  congr 2
  cases e:ah k i j with
  | true=>exact decide_eq_true (Yh.mpr ⟨hi,hj,e⟩)
  | false=>exact decide_eq_false λz=>by rw[(Yh.mp z).2.2] at e;cases e)
 refine ⟨_,(Ze (Zr (i:=2) Wt.nd rfl (Or.inl rfl) (Yp Zf))
   (Ze (Wa PassesOwn.never rfl (Xe (by rfl) T.Wn (Za (pv 1) Zf Zd)) (Z8 (i:=3) Wt.nd rfl (Or.inr rfl)) (Zm (Zr (i:=2) Wt.nd rfl (Or.inl rfl) (Zo Vk (pv 2) (zhK (x:= "i") (cap:=["j", "known"]) (js:=[3,0]) ⟨rfl,by decide +kernel,by decide +kernel,rfl,(by show ∀ p∈(_:List (Str×NameKind)),p.2=NameKind.free->List.lookup p.1 (Zn WR).names=some NameKind.cell;decide +kernel),by decide +kernel,by decide +kernel,by decide +kernel⟩ rfl rfl (λ_ _ h=>h) (Xe (by rfl) T.Wn (Za (pv 3) Zf Zd)) (λ_ _ _ _=>⟨(Vz (PW.pt (pw_and (Zy (J3 (K:=K) rfl hu) (ZG (Za (pv 0) (Za (pv 1) Zf Zd) Zd)) (pv 2) (by rfl)) (pw_and1 (Zy (J3 (K:=K) rfl hu) (ZG (Za (pv 1) (Za (pv 0) Zf Zd) Zd)) (pv 2) (by rfl)))))),(ZG (Za (pv 0) (Za (pv 1) Zf Zd) Zd))⟩))))))
   (Zm (Z5 (pv 2))))) ,?_⟩
 refine Zj (Zq (Zv (YD Zg (by show 0<=sizeLine;decide)) ?_))
 refine Zj (Wr (List.range k.length) (λ(t:Nat)=>PyData.int (t:Nat)) (WQ (Zc (Zb rfl) Zg) (by omega)) (λi ρ=>∃ v3:PV,ρ=[.dat (dPs (pairsOf k)),.dat (.int (k.length:Nat)),.dat (.list (((List.range i).flatMap (orow k)).map dP)),v3]) ⟨.un,rfl⟩ ?_ ?_)
 ·rintro j hj _ ⟨v3,rfl⟩
  rw[rix _ j hj]
  rw[length_range] at hj
  have hf:=few j (by omega)
  refine Wj (Zq (Zv (Yo (JG (Zb rfl) (zg4 (js:=[3,0]) (List.range j) (λ(i:Nat)=>PyData.int (i:Nat)) (λi=>if opq k i j then some (dP (i,j)) else none) (WQ (Zc (Zb rfl) Zg) (by omega)) (by rw[length_range];omega) λi hi=>lxB ?_ λ_=>ZM (Zc (Zb rfl) (Zc (Zb rfl) Zg)) (by show 2<=sizeLine;decide)) ?_) ?_) ⟨.dat (.int (j:Nat)),rfl⟩))
  ·have hi:=mem_range.mp hi
   unfold opq
   exact zaa (Zu (pr (by omega) hj (Zb rfl) (Zb rfl) (Zb rfl))) λ_=>Zu (pr hj (by omega) (Zb rfl) (Zb rfl) (Zb rfl))
  ·rw[U6,length_map,length_map]
   have:=length_filter_le (λi=>opq k i j) (List.range j)
   rw[length_range] at this
   omega
  ·rw[U6,range_succ,flatMap_append,flatMap_singleton,map_append]
   congr 2
   unfold orow
   rw[map_map];rfl
 ·rintro _ ⟨v3,rfl⟩
  rw[length_range]
  exact Z6 (Zv (Zb rfl) rfl)
end
abbrev dR (l:List Nat):PyData:=.tuple (l.map λ(i:Nat)=>.int (i:Nat))
noncomputable def dKt:Kt->PyData
 | .told l=>.tuple [.str (Str.ofString "told"),dR l]
 | .look i j a b=>.tuple [.str (Str.ofString "look"),.int (i:Nat),.int (j:Nat),.int a,.int b]
abbrev dT (es:List Kt):PyData:=.tuple (es.map dKt)
noncomputable def oD:Option Nat->PyData
 | none=>.none
 | some c=>.int (c:Nat)
def zjl (n:Nat):Kt->Prop
 | .told l=>l.length<=60
 | .look i j _ _=>i<n/\j<n
def zhg (n:Nat)(es:List Kt):Prop:=∀ t∈es,zjl n t
def KtT (n:Nat):Kt->Prop
 | .told l=>l.length<=8
 | .look i j _ _=>i<n/\j<n
theorem KtT.in {n:Nat}:∀ {t:Kt},KtT n t->zjl n t
 | .told l,h=>Nat.le_trans h (by decide)
 | .look _ _ _ _,h=>h
noncomputable def ans (k:Kn) (i j:Nat) (x y:Int):List (Int×Kn):=if i=j then [] else if ah k i j then [(x,k)] else if ah k j i then [(y,k)] else [(x,wl k i j),(y,wl k j i)]
noncomputable def dA (p:Int×Kn):PyData:=.tuple [.int p.1,dK p.2]
inductive RAn:List PyData->PyData->Prop
 | mk (k:Kn) (i j:Nat) (x y:Int) (_:k.length<=8) (_:i<k.length) (_:j<k.length):RAn [dKt (.look i j x y),dK k] (.list ((ans k i j x y).map dA))
inductive RLj:List PyData->PyData->Prop
 | mk (k:Kn) (l:List Nat) (_:k.length<=8) (_:l.length<=60):RLj [dK k,dR l] (.bool (lj k l))
theorem ze6 {a b:List Nat}(h:dR a=dR b):a=b:=by
 injection h with h
 have:=congrArg (List.map λd=>match d with | PyData.int i=>i.toNat | _=>0) h
 rw[map_map,map_map] at this
 have e:((λd=>match d with | PyData.int i=>i.toNat | _=>0)∘λ(i:Nat)=>PyData.int (i:Nat))=id:=funext λi=>by simp
 rw[e,map_id,map_id] at this
 exact this
theorem zez {a b:List Nat}(h:(a.map λ(i:Nat)=>(i:Int)).Perm (b.map λ(i:Nat)=>(i:Int))):a.Perm b:=by
 have:=h.map Int.toNat
 rw[map_map,map_map] at this
 have e:(Int.toNat∘λ(i:Nat)=>(i:Int))=id:=funext λi=>by simp
 rw[e,map_id,map_id] at this
 exact this
section
theorem zhM (T:Top K mg):T.Vl.O P w base 2 (spP K RAn):=by
 have G_goes_ahead:=@zdF T
 have G_with_look:=@zhs T
 refine T.Vl.F.okP Qw (by rintro _ _ ⟨⟩;rfl) λcdv A outer s H E hr ds d hR=>?_
 cases hR with
 | mk k i j x y h8 hi hj=>
 have hu:=hr.units
 have zl:(2000:Nat)<sizeLine:=by decide
 refine ⟨_,(Ze (Zr (i:=2) Qw.nd rfl (Or.inl rfl) (Ym (ZQ (K:=K) rfl) (pv 0) Zh (λ_ _=>rfl)))
   (Ze (Zr (i:=3) Qw.nd rfl (Or.inl rfl) (Ym (ZQ (K:=K) rfl) (pv 0) Zh (λ_ _=>rfl)))
   (Ze (YX ((pw_or (Zy XF (pv 2) (pv 3) (ZR _)) (pw_or1 (zas (zc4 zei zei U9 Zh (ZJ (zdY rfl) (by rfl) T.zkt zkC (Za (pv 2) (Za (pv 3) Zf Zd) Zd)) (ZJ (Vb rfl) (by rfl) T.zjA zjO (Za (pv 2) (Za (pv 3) Zf Zd) Zd)) (ZJ (Z0 (K:=K) rfl) (by rfl) T.VH PySem.boot_len (Za (pv 1) Zf Zd))))))).pt (Zm (Z5 (Yp Zf))) ZX)
   (Ze (YX (QK (peN T.XQ G_goes_ahead hr (Za (pv 1) (Za (pv 2) (Za (pv 3) Zf Zd) Zd) Zd))) (Zm (Z5 (Yp (Za (ZG (Za (Ym (ZQ (K:=K) rfl) (pv 0) Zh (λ_ _=>rfl)) (Za (pv 1) Zf Zd) Zt)) Zf Yc)))) ZX)
   (Ze (YX (QK (peN T.XQ G_goes_ahead hr (Za (pv 1) (Za (pv 3) (Za (pv 2) Zf Zd) Zd) Zd))) (Zm (Z5 (Yp (Za (ZG (Za (Ym (ZQ (K:=K) rfl) (pv 0) Zh (λ_ _=>rfl)) (Za (pv 1) Zf Zd) Zt)) Zf Yc)))) ZX)
   (Zm (Z5 (Yp (Za (ZG (Za (Ym (ZQ (K:=K) rfl) (pv 0) Zh (λ_ _=>rfl)) (Za (peN T.Wi G_with_look hr (Za (pv 1) (Za (pv 2) (Za (pv 3) Zf Zd) Zd) Zd)) Zf XX) Zt)) (Za (ZG (Za (Ym (ZQ (K:=K) rfl) (pv 0) Zh (λ_ _=>rfl)) (Za (peN T.Wi G_with_look hr (Za (pv 1) (Za (pv 3) (Za (pv 2) Zf Zd) Zd) Zd)) Zf XX) Zt)) Zf Yc) Yc))))))))) ,?_⟩
 refine Zj (Zq (Zv (Yd (n:=1) (Zb rfl) Zi rfl rfl) ?_))
 refine Zj (Zq (Zv (Yd (n:=2) (Zb rfl) Zi rfl rfl) ?_))
 show Sv K B0 _ [.dat (dKt (.look i j x y)),.dat (dK k),.dat (.int (i:Nat)),.dat (.int (j:Nat))] _
 refine Zj (Xl (b:=decide (i=j)) (W9 (zaC (Zu (Xy (Zb rfl) (Zb rfl))) λ_=>zaw (Zu (zcY Zi (zf6 (Zc (Zb rfl) (Zc (Zb rfl) Zg))) (za1 (Zc (Zb rfl) (Zc (Zb rfl) Zg))) (Yo (Qm (Zc (Zb rfl) Zg)) (congrArg (λ(x:Nat)=>PyData.int (x:Nat)) (length_map _)))))) ?_) (λh=>?_) λh=>ZZ ?_)
 ·have e2:decide ((0:Int)<=if (j:Int)<i then (j:Int) else i)=true:=decide_eq_true (by split <;> omega)
  have e3:decide ((if (j:Int)<i then (j:Int) else i)<=if (j:Int)>i then (j:Int) else i)=true:=decide_eq_true (by split <;> split <;> omega)
  have e4:decide ((if (j:Int)>i then (j:Int) else i)<(k.length:Int))=true:=decide_eq_true (by split <;> omega)
  show (decide ((i:Int)=(j:Int)) || !(decide _&&decide _&&decide _))=_
  rw[e2,e3,e4]
  show (decide ((i:Int)=(j:Int))||false)=_
  rw[Bool.or_false]
  exact decide_eq_decide.mpr (by omega)
 ·have e:i=j:=of_decide_eq_true h
  refine Z6 (Zv (YD Zg (by show 0<=sizeLine;decide)) ?_)
  show PV.dat _=PV.dat _
  unfold ans;rw[if_pos e];rfl
 have hne:i≠j:=of_decide_eq_false h
 refine Zj (Xl (Zu (Yz (Zc (Zb rfl) (Zc (Zb rfl) (Zc (Zb rfl) Zg))) (RGo.mk k i j hi))) (λh1=>?_) λh1=>ZZ ?_)
 ·refine Z6 (Zv (YD (Zc (ZM (Zc (Yd (n:=3) (Zb rfl) Zi rfl rfl) (Zc (Zb rfl) Zg)) (by show 2<=sizeLine;decide)) Zg) (by show 1<=sizeLine;decide)) ?_)
  show PV.dat _=PV.dat _
  unfold ans;rw[if_neg hne,if_pos h1];rfl
 refine Zj (Xl (Zu (Yz (Zc (Zb rfl) (Zc (Zb rfl) (Zc (Zb rfl) Zg))) (RGo.mk k j i hj))) (λh2=>?_) λh2=>ZZ ?_)
 ·refine Z6 (Zv (YD (Zc (ZM (Zc (Yd (n:=4) (Zb rfl) Zi rfl rfl) (Zc (Zb rfl) Zg)) (by show 2<=sizeLine;decide)) Zg) (by show 1<=sizeLine;decide)) ?_)
  show PV.dat _=PV.dat _
  unfold ans;rw[if_neg hne,if_neg (by rw[h1];exact Bool.false_ne_true),if_pos h2];rfl
 refine Z6 (Zv (YD (Zc (ZM (Zc (Yd (n:=3) (Zb rfl) Zi rfl rfl) (Zc (Yz (Zc (Zb rfl) (Zc (Zb rfl) (Zc (Zb rfl) Zg))) (RWl.mk k i j h8 hi hj)) Zg)) (by show 2<=sizeLine;decide)) (Zc (ZM (Zc (Yd (n:=4) (Zb rfl) Zi rfl rfl) (Zc (Yz (Zc (Zb rfl) (Zc (Zb rfl) (Zc (Zb rfl) Zg))) (RWl.mk k j i h8 hj hi)) Zg)) (by show 2<=sizeLine;decide)) Zg)) (by show 2<=sizeLine;decide)) ?_)
 show PV.dat _=PV.dat _
 unfold ans;rw[if_neg hne,if_neg (by rw[h1];exact Bool.false_ne_true),if_neg (by rw[h2];exact Bool.false_ne_true)];rfl
theorem zjx (T:Top K mg):T.W4.O P w base 2 (spP K RLj):=by
 have G_goes_ahead:=@zdF T
 refine T.W4.F.okP VP (by rintro _ _ ⟨⟩;rfl) λcdv A outer s H E hr ds d hR=>?_
 cases hR with
 | mk k l h8 hl=>
 have hu:=hr.units
 have zl:(2000:Nat)<sizeLine:=by decide
 have mi:l.map (λ(i:Nat)=>PyData.int (i:Nat))=(l.map λ(i:Nat)=>(i:Int)).map PyData.int:=by rw[map_map];rfl
 refine ⟨_,(Ze (YX (Zy (JM (K:=K) rfl hu) (ZJ (zaB (K:=K) rfl) (by rfl) T.Qt JR (Za (pv 1) Zf Zd)) (zam rfl (by rfl) T.zhR (by rfl) T.Wn (Za (ZJ (Z0 (K:=K) rfl) (by rfl) T.VH PySem.boot_len (Za (pv 0) Zf Zd)) Zf XX)) (ZR _)) (Zm (Z5 zdp)) ZX)
   (Zm (Z5 (ZJ (zaH (K:=K) rfl rfl) (by rfl) T.zkp zj6 (Za (VF (x:= "one") (x2:= "other") (cap:=["known"]) (js:=[0]) ⟨rfl,by decide +kernel,by decide +kernel,rfl,rfl,(by show ∀ p∈(_:List (Str×NameKind)),p.2=NameKind.free->List.lookup p.1 (Zn X7).names=some NameKind.cell;decide +kernel),by decide +kernel,by decide +kernel,by decide +kernel⟩ rfl rfl (λ_ _ h=>h) (zfU (K:=K) rfl (by rfl) T.zks (Za (pv 1) (Za (ZK (Yk (K:=K) rfl) (pv 1) (Z3 Zh) Z7) Zf Zt) Zd)) (λ_ _ _ _=>⟨Qy,(peN T.XQ G_goes_ahead hr (Za (pv 2) (Za (pv 0) (Za (pv 1) Zf Zd) Zd) Zd))⟩)) Zf Xi))))) ,?_⟩
 refine Zj (Xl (b:=!decide (l.Perm (List.range k.length))) (W9 (Zu (Jh (n:=2) (zfL (Zc (Yo (Zb rfl) (congrArg PyData.tuple mi)) Zg) (by rw[length_map];omega)) (zgN (Zc (Yo (Qm (Zc (Zb rfl) Zg)) (congrArg (λ(x:Nat)=>PyData.int (x:Nat)) (length_map _))) Zg) (by omega) (by omega)) (Wb λd hd=>by obtain ⟨_,_,rfl⟩:=mem_map.mp hd;exact Xd _) (Wb λd hd=>by obtain ⟨_,_,rfl⟩:=mem_map.mp hd;exact Xd _) (by decide))) ?_) (λh=>?_) λh=>ZZ ?_)
 ·have ed:(PyData.int∘λ(i:Nat)=>(i:Int))=λ(i:Nat)=>PyData.int (i:Nat):=rfl
  rw[toNat_natCast]
  show (!PySem.Spec.same _ _)=_
  congr 1
  by_cases hp:l.Perm (List.range k.length)
  ·have es:zd1 (l.map λ(i:Nat)=>(i:Int))=(List.range k.length).map λ(i:Nat)=>(i:Int):=(zdQ (hp.symm.map _) (pairwise_map.mpr (List.pairwise_lt_range.imp λ{a b} h=>by omega))).symm
   rw[es,map_map,ed,same_self,decide_eq_true hp]
  ·rw[decide_eq_false hp]
   refine Qq λe=>hp ?_
   injection e with e
   have e2:(zd1 (l.map λ(i:Nat)=>(i:Int))).map PyData.int=((List.range k.length).map λ(i:Nat)=>(i:Int)).map PyData.int:=by rw[e,map_map];rfl
   have e3:=List.map_inj_right (λa b (h:PyData.int a=PyData.int b)=>by injection h) |>.mp e2
   exact zez ((e3 ▸ (zac _).symm))
 ·have hp:¬ l.Perm (List.range k.length):=by simpa using h
  refine Z6 (Zv zgM ?_)
  show PV.dat _=PV.dat _
  unfold lj;rw[decide_eq_false hp];rfl
 have hp:l.Perm (List.range k.length):=by simpa using h
 refine Z6 (Zv (Yo (zfi (bs:=(l.zip (l.drop 1)).map λp=>ah k p.1 p.2) (Zc (Yo (Q9 (js:=[0]) (l.zip (l.drop 1)) (λp=>.int (p.1:Nat)) (λp=>.int (p.2:Nat)) (λp=>some (.bool (ah k p.1 p.2))) ?_ (by rw[List.length_zip];omega) λp hpz=>lx1 Qo (Yz (Zc (Zb rfl) (Zc (Zb rfl) (Zc (Zb rfl) Zg))) (RGo.mk k p.1 p.2 ?_))) (by rw[Qx,map_map];rfl)) Zg)) ?_) rfl)
 ·have:=zhm (K:=K) (B:=B0) (ρ:=msk [.dat (dK k),.dat (.tuple (l.map λ(i:Nat)=>PyData.int (i:Nat)))]) (ds:=l.map λ(i:Nat)=>PyData.int (i:Nat)) (es:=(l.drop 1).map λ(i:Nat)=>PyData.int (i:Nat)) (t:=_) (Zc (Zb (i:=1) rfl) (Zc (Yo (Xa (Zb (i:=1) rfl) QL Yw) (by rw[map_drop];exact congrArg PyData.tuple (Jp 1 _))) Zg)) (by rw[length_map,length_map,length_drop];omega)
  rw[List.zip_map,map_map] at this
  exact this
 ·exact mem_range.mp (hp.mem_iff.mp (of_mem_zip (a:=p.1) (b:=p.2) (by assumption)).1)
 ·rw[List.all_map]
  unfold lj
  rw[decide_eq_true hp,Bool.true_and];rfl
end
theorem zjT {k:Kn}{i j:Nat}(hi:i<k.length)(hj:j<k.length)(n:i≠j)(h:opq k i j=true):u (wl k i j)<u k:=by
 by_cases z:i<j
 ·exact (zkg (Xk.mpr ⟨z,hj,h⟩)).1
 ·exact (zkg (Xk.mpr ⟨show j<i by omega,hi,by rw[J2] at h;exact h⟩)).2
structure It where
 a:Nat
 k:Kn
 d:Nat
noncomputable def dIt (x:It):PyData:=.tuple [.int (x.a:Nat),dK x.k,.int (x.d:Nat)]
noncomputable def comb (d:Nat):Option Nat->Option Nat->Option Nat
 | some c,some m=>some (max (d+c) m)
 | _,_=>none
noncomputable def tot (es:List Kt) (o:Option Nat) (l:List It):Option Nat:=l.foldr (λx r=>comb x.d (Bh es x.a x.k) r) o
theorem zdu (d:Nat)(b:Option Nat):comb d b none=none:=by cases b <;> rfl
theorem Uk (es:List Kt):∀ l:List It,tot es none l=none
 | []=>rfl
 | a::r=>by
  show comb _ _ (tot es none r)=none
  rw[Uk es r,zdu]
theorem zdj (es:List Kt)(o:Option Nat)(l r:List It):tot es o (l++r)=tot es (tot es o r) l:=by
 unfold tot;rw[List.foldr_append]
noncomputable def mu (L:Nat) (x:It):Nat:=(L-x.a)*2 ^ u x.k
noncomputable def msI (L:Nat) (l:List It):Nat:=(l.map (mu L)).sum
theorem zaM (L:Nat)(l r:List It):msI L (l++r)=msI L l+msI L r:=by
 unfold msI;rw[map_append,List.sum_append]
theorem zaU {L:Nat}:∀ {l:List It},(∀ x∈l,x.a<L)->l.length<=msI L l
 | [],_=>Nat.le_refl _
 | a::r,h=>by
  have h1:=h a mem_cons_self
  have h2:=zaU λx hx=>h x (mem_cons_of_mem _ hx)
  have h3:1<=mu L a:=Nat.mul_pos (by omega) (Nat.two_pow_pos _)
  show r.length+1<=mu L a+msI L r
  omega
noncomputable def items (d:Nat) (ps:List (Int×Kn)):List It:=ps.map λp=>⟨p.1.toNat,p.2,d+1⟩
theorem zbr (d W:Nat)(b:Option Nat):comb (d+1) b (some W)=comb d (b.map (1 + ·)) (some W):=by
 cases b with
 | none=>rfl
 | some c=>show some _=some _;congr 1;show max (d+1+c) W=max (d+(1+c)) W;omega
theorem zeH (d W:Nat)(b c:Option Nat):comb (d+1) b (comb (d+1) c (some W))=comb d (mx2 b c) (some W):=by
 cases b with
 | none=>cases c <;> rfl
 | some b=>cases c with
  | none=>rfl
  | some c=>show some _=some _;congr 1;show max (d+1+b) (max (d+1+c) W)=max (d+(1+max b c)) W;omega
theorem za5 {es:List Kt}{a:Nat}{x:Int}{k:Kn}(h:(a:Int)<x):go (Bh es) a x k=Bh es x.toNat k:=if_pos h
theorem ze4 {es:List Kt}{a:Nat}{x:Int}{k:Kn}(h:¬ ((a:Int)<x/\x<es.length)):go (Bh es) a x k=none:=by
 unfold go
 by_cases z:(a:Int)<x
 ·rw[if_pos z];exact Uj (by omega)
 ·rw[if_neg z]
theorem VJ {B:Nat->Kn->Option Nat}{a i j:Nat}{k:Kn}{x y:Int}:stp B a k (.look i j x y)=if i=j then none else if ah k i j then (go B a x k).map (1 + ·) else if ah k j i then (go B a y k).map (1 + ·) else mx2 (go B a x (wl k i j)) (go B a y (wl k j i)):=rfl
theorem zet {B:Nat->Kn->Option Nat}{a:Nat}{k:Kn}{l:List Nat}:stp B a k (.told l)=if lj k l then some 0 else none:=rfl
noncomputable def gd (es:List Kt) (a:Nat) (p:Int×Kn):Bool:=decide ((a:Int)<p.1)&&decide (p.1<(es.length:Int))
theorem zgf {es:List Kt}{a i j:Nat}{x y:Int}{k:Kn}(h:ans k i j x y=[]\/(ans k i j x y).all (gd es a)=false):stp (Bh es) a k (.look i j x y)=none:=by
 rw[VJ]
 unfold ans at h
 by_cases e:i=j
 ·rw[if_pos e]
 rw[if_neg e] at h ⊢
 have out:∀ {p:Int×Kn},gd es a p=false->go (Bh es) a p.1 p.2=none:=λ{p} hp=>ze4 λz=>by
  unfold gd at hp
  rw[decide_eq_true z.1,decide_eq_true z.2] at hp;cases hp
 by_cases h1:ah k i j=true
 ·rw[if_pos h1] at h ⊢
  rcases h with h | h
  ·cases h
  ·rw[out (p:=(x,k)) (by simpa using h)];rfl
 rw[if_neg h1] at h ⊢
 by_cases h2:ah k j i=true
 ·rw[if_pos h2] at h ⊢
  rcases h with h | h
  ·cases h
  ·rw[out (p:=(y,k)) (by simpa using h)];rfl
 rw[if_neg h2] at h ⊢
 rcases h with h | h
 ·cases h
 ·cases g1:gd es a (x,wl k i j) with
  | false=>rw[out g1];rfl
  | true=>
   have g2:gd es a (y,wl k j i)=false:=by simpa [g1] using h
   rw[out g2]
   cases go (Bh es) a x (wl k i j) <;> rfl
theorem zem {es:List Kt}{a i j d W:Nat}{x y:Int}{k:Kn}(hn:ans k i j x y≠[])(h:(ans k i j x y).all (gd es a)=true):tot es (some W) (items d (ans k i j x y))=comb d (stp (Bh es) a k (.look i j x y)) (some W):=by
 rw[VJ]
 unfold ans at h hn ⊢
 by_cases e:i=j
 ·rw[if_pos e] at hn;exact absurd rfl hn
 rw[if_neg e] at h ⊢
 rw[if_neg e]
 have inn:∀ {p:Int×Kn},gd es a p=true->go (Bh es) a p.1 p.2=Bh es p.1.toNat p.2:=λ{p} hp=>za5 (by
  unfold gd at hp
  rw[and_eq_true] at hp
  exact of_decide_eq_true hp.1)
 by_cases h1:ah k i j=true
 ·rw[if_pos h1] at h ⊢
  rw[if_pos h1,inn (p:=(x,k)) (by simpa using h)]
  exact zbr d W _
 rw[if_neg h1] at h ⊢
 rw[if_neg h1]
 by_cases h2:ah k j i=true
 ·rw[if_pos h2] at h ⊢
  rw[if_pos h2,inn (p:=(y,k)) (by simpa using h)]
  exact zbr d W _
 rw[if_neg h2] at h ⊢
 have g:=all_eq_true.mp h
 rw[if_neg h2,inn (p:=(x,wl k i j)) (g _ mem_cons_self),inn (p:=(y,wl k j i)) (g _ (mem_cons_of_mem _ mem_cons_self))]
 exact zeH d W _ _
theorem zhu {L a i j d:Nat}{x y:Int}{k:Kn}(hi:i<k.length)(hj:j<k.length)(ha:a<L)(h:∀ p∈ans k i j x y,(a:Int)<p.1):msI L (items d (ans k i j x y))<mu L ⟨a,k,d⟩:=by
 have pos:1<=2 ^ u k:=Nat.two_pow_pos _
 have one:∀ z:Int,(a:Int)<z->(L-z.toNat)*2 ^ u k+0<(L-a)*2 ^ u k:=λz hz=>Nat.lt_of_lt_of_le (m:=(L-z.toNat+1)*2 ^ u k) (by rw[succ_mul];omega) (mul_le_mul_right _ (by omega))
 unfold ans at h ⊢
 by_cases e:i=j
 ·rw[if_pos e]
  exact Nat.mul_pos (by show 0<L-a;omega) pos
 rw[if_neg e] at h ⊢
 by_cases h1:ah k i j=true
 ·rw[if_pos h1] at h ⊢
  exact one x (h (x,k) mem_cons_self)
 rw[if_neg h1] at h ⊢
 by_cases h2:ah k j i=true
 ·rw[if_pos h2] at h ⊢
  exact one y (h (y,k) mem_cons_self)
 rw[if_neg h2] at h ⊢
 have op:opq k i j=true:=by unfold opq;rw[eq_false_iff.mpr h1,eq_false_iff.mpr h2];rfl
 have u1:=zjT hi hj e op
 have u2:=zjT hj hi (Ne.symm e) (by rw[J2];exact op)
 have x1:=h (x,wl k i j) mem_cons_self
 have y1:=h (y,wl k j i) (mem_cons_of_mem _ mem_cons_self)
 have p1:=pow_le_pow_right (n:=2) (by decide) (Nat.succ_le_of_lt u1)
 have p2:=pow_le_pow_right (n:=2) (by decide) (Nat.succ_le_of_lt u2)
 rw[pow_succ] at p1 p2
 have m1:(L-x.toNat)*2 ^ u (wl k i j)<=(L-a-1)*2 ^ u (wl k i j):=mul_le_mul_right _ (by dsimp only at x1;omega)
 have m2:(L-y.toNat)*2 ^ u (wl k j i)<=(L-a-1)*2 ^ u (wl k j i):=mul_le_mul_right _ (by dsimp only at y1;omega)
 have m3:(L-a-1)*(2 ^ u (wl k i j)*2)<=(L-a-1)*2 ^ u k:=Nat.mul_le_mul_left _ p1
 have m4:(L-a-1)*(2 ^ u (wl k j i)*2)<=(L-a-1)*2 ^ u k:=Nat.mul_le_mul_left _ p2
 rw[← Nat.mul_assoc] at m3 m4
 have m5:(L-a)*2 ^ u k=(L-a-1)*2 ^ u k+2 ^ u k:=by rw[← succ_mul];congr 1;omega
 show (L-x.toNat)*2 ^ u (wl k i j)+((L-y.toNat)*2 ^ u (wl k j i)+0)<(L-a)*2 ^ u k
 omega
theorem zfD {k:Kn}{i j:Nat}{x y:Int}:(ans k i j x y).length<=2/\∀ p∈ans k i j x y,p.2.length=k.length:=by
 unfold ans
 split
 ·exact ⟨zero_le _,λp h=>nomatch h⟩
 split
 ·exact ⟨by simp,λp h=>by rw[mem_singleton.mp h]⟩
 split
 ·exact ⟨by simp,λp h=>by rw[mem_singleton.mp h]⟩
 ·exact ⟨by simp,λp h=>by
   simp only[mem_cons,not_mem_nil,or_false] at h
   rcases h with rfl | rfl
   ·exact YH
   ·exact YH⟩
inductive RTc:List PyData->PyData->Prop
 | mk (es:List Kt) (k:Kn) (_:k.length<=8) (_:zhg k.length es) (_:es.length*2 ^ u k<=10 ^ 6) (_:es.length<=10 ^ 4) (_:IsO k):RTc [dT es,dPs (pairsOf k),.int (k.length:Nat)] (oD (Bh es 0 k))
theorem zi4 (x:It):Pl 2 (dIt x):=Qf λd hd=>by
 simp only[mem_cons,not_mem_nil,or_false] at hd
 rcases hd with rfl | rfl | rfl
 ·exact Xd _
 ·exact Qf λd hd=>by obtain ⟨_,_,rfl⟩:=mem_map.mp hd;exact Xd _
 ·exact Xd _
section
theorem zjU (T:Top K mg):T.Xn.O P w base 3 (spP K RTc):=by
 have G_bits_of:=@zgQ T
 have G_answers:=@zhM T
 have G_leaves_just:=@zjx T
 refine T.Xn.F.okP YM (by rintro _ _ ⟨⟩;rfl) λcdv A outer s H E hr ds d hR=>?_
 cases hR with
 | mk es k h8 hin hm hel hO=>
 have hu:=hr.units
 have zl:(10 ^ 6+10 ^ 6:Nat)<sizeLine:=by decide
 have lenT:∀ {ρ:List PV}{te:TE},Er K B0 te ρ (dT es)->Er K B0 (tCB (λxs H Q=>∃ p ys,xs=[.ref p]/\(SqL K H p ys\/SqT K H p ys)/\Q (.int ys.length) H) (Xc te QT)) ρ (.int (es.length:Nat)):=λ{ρ te} h=>Yo (Qm (Zc h Zg)) (congrArg (λ(x:Nat)=>PyData.int (x:Nat)) (length_map _))
 refine ⟨_,(Ze (YX (Zy XF (ZJ (Z0 (K:=K) rfl) (by rfl) T.VH PySem.boot_len (Za (pv 0) Zf Zd)) Zh (ZR _)) (Zm (Z5 Jj)) ZX)
   (Ze (Zr (i:=3) YM.nd rfl (Or.inl rfl) Zh)
   (Ze (Zr (i:=4) YM.nd rfl (Or.inl rfl) (Yp (Za (ZG (Za Zh (Za (peN T.Vx G_bits_of hr (Za (pv 1) (Za (pv 2) Zf Zd) Zd)) (Za Zh Zf Zx) XX) Zx)) Zf Yc)))
   (Ze (J1 PassesOwn.never (Zy (JM (K:=K) rfl hu) (pv 4) (Yp Zf) (ZR _)) (Ze (Zr (i:=5) YM.nd rfl (Or.inr rfl) (zh5 plainAttrs_list PySem.F.slot_list_pop PySem.F.type_list_pop zig (pv 4)))
   (Ze (Zr (i:=6) YM.nd rfl (Or.inl rfl) (Ym (ZQ (K:=K) rfl) (pv 0) (Ym (ZQ (K:=K) rfl) (pv 5) Zh (λ_ _=>rfl)) (λ_ _=>rfl)))
   (Zm (YX (Zy XF (Ym (ZQ (K:=K) rfl) (pv 6) Zh (λ_ _=>rfl)) Ji (ZR _)) (Ze (YX (zas (QK (peN T.W4 G_leaves_just hr (Za (Ym (ZQ (K:=K) rfl) (pv 5) Zh (λ_ _=>rfl)) (Za (Ym (ZQ (K:=K) rfl) (pv 6) Zh (λ_ _=>rfl)) Zf Zt) Zt)))) (Zm (Z5 Jj)) ZX)
   (Zm (Zr (i:=3) YM.nd rfl (Or.inl rfl) (ZJ (Vb rfl) (by rfl) T.zjA zjO (Za (pv 3) (Za (Ym (ZQ (K:=K) rfl) (pv 5) Zh (λ_ _=>rfl)) Zf Zt) Zd))))) (Ze (Zr (i:=7) YM.nd rfl (Or.inl rfl) (peN T.Vl G_answers hr (Za (pv 6) (Za (Ym (ZQ (K:=K) rfl) (pv 5) Zh (λ_ _=>rfl)) Zf Zt) Zd)))
   (Ze (YX ((pw_or (Zy (Ut (K:=K) rfl hu) (pv 7) (Yp Zf) (ZR _)) (pw_or1 (zas (QK (ZJ (zaH (K:=K) rfl rfl) (by rfl) T.zkp zj6 (Za (VF (x:= "number") (x2:= "further") (cap:=["way", "tree"]) (js:=[5,0]) ⟨rfl,by decide +kernel,by decide +kernel,rfl,rfl,(by show ∀ p∈(_:List (Str×NameKind)),p.2=NameKind.free->List.lookup p.1 (Zn XJ).names=some NameKind.cell;decide +kernel),by decide +kernel,by decide +kernel,by decide +kernel⟩ rfl rfl (λ_ _ h=>h) (Wv (pv 7)) (λ_ _ _ _=>⟨Qy,(zej U9 U9 (Ym (ZQ (K:=K) rfl) (pv 2) Zh (λ_ _=>rfl)) (pv 0) (ZJ (Z0 (K:=K) rfl) (by rfl) T.VH PySem.boot_len (Za (pv 3) Zf Zd)))⟩)) Zf Xi))))))).pt (Zm (Z5 Jj)) ZX)
   (Zm (Wu (QV plainAttrs_list PySem.F.slot_list_extend PySem.F.type_list_extend zc1 (pv 4) (Za (VF (x:= "number") (x2:= "further") (cap:=["way"]) (js:=[5]) ⟨rfl,by decide +kernel,by decide +kernel,rfl,rfl,(by show ∀ p∈(_:List (Str×NameKind)),p.2=NameKind.free->List.lookup p.1 (Zn XJ).names=some NameKind.cell;decide +kernel),by decide +kernel,by decide +kernel,by decide +kernel⟩ rfl rfl (λ_ _ h=>h) (Wv (pv 7)) (λ_ _ _ _=>⟨Qy,(ZG (Za (pv 0) (Za (pv 1) (Za (Zo YF (Ym (ZQ (K:=K) rfl) (pv 2) Zh (λ_ _=>rfl)) Zh) Zf Yg) Zd) Zd))⟩)) Zf Xi)))))))))))
   (Zm (Z5 (pv 3))))))) ,?_⟩
 refine Zj (Xl (b:=decide (es.length=0)) (W9 (Zu (Xy (lenT (Zb rfl)) Zi)) (decide_eq_decide.mpr ⟨λe=>by omega,λe=>by omega⟩)) (λh0=>?_) λh0=>ZZ ?_)
 ·have h0:es.length=0:=of_decide_eq_true h0
  refine Z6 (Zv QD ?_)
  show PV.dat _=PV.dat _
  rw[Uj (by omega)];rfl
 have h0:0<es.length:=Nat.pos_of_ne_zero (of_decide_eq_false h0)
 refine Zj (Zq (Zv Zi ?_))
 refine Zj (Zq (JC (Zc (ZM (Zc Zi (Zc (Yo (Yz (Zc (Zb rfl) (Zc (Zb rfl) Zg)) (RBi.mk (pairsOf k) k.length h8 λq hq=>⟨(Yh.mp hq).1,(Yh.mp hq).2.1⟩)) (by rw[Jo hO])) (Zc Zi Zg))) (by show 3<=sizeLine;decide)) Zg) (by show 1<=sizeLine;decide) ?_))
 show Sv K B0 _ [.dat (dT es),.dat (dPs (pairsOf k)),.dat (.int (k.length:Nat)),.dat (.int 0),.own [dIt ⟨0,k,0⟩],.un,.un,.un] _
 have e00:tot es (some 0) [⟨0,k,0⟩]=Bh es 0 k:=by
  show comb 0 (Bh es 0 k) (some 0)=_
  cases Bh es 0 k with
  | none=>rfl
  | some c=>show some (max (0+c) 0)=some c;congr 1;omega
 refine Zj (JZ (fun μ ρ=>∃ (l:List It) (W:Nat) (v5 v6 v7:PV),msI es.length l=μ/\(∀ x∈l,x.a<es.length/\x.k.length=k.length)/\tot es (some W) l=Bh es 0 k/\μ<=10 ^ 6/\ρ=[.dat (dT es),.dat (dPs (pairsOf k)),.dat (.int (k.length:Nat)),.dat (.int (W:Nat)),.own (l.map dIt),v5,v6,v7]) (msI es.length [⟨0,k,0⟩]) ⟨[⟨0,k,0⟩],0,_,_,_,rfl,λx hx=>by rw[mem_singleton.mp hx];exact ⟨h0,rfl⟩,e00,by show (es.length-0)*2 ^ u k+0<=_;omega,rfl⟩ ?_)
 rintro μ _ ⟨l,W,v5,v6,v7,hμ,hl,hx,hμ2,rfl⟩
 refine ⟨!decide (l=[]),W9 (Zu (Jh (n:=3) (JB rfl rfl) (YD Zg (by show 0<=sizeLine;decide)) (Wb λd hd=>by obtain ⟨_,_,rfl⟩:=mem_map.mp hd;exact zi4 _) (Wb λd hd=>by cases hd) (by decide))) ?_,λh=>?_,λh=>?_⟩
 ·congr 1
  cases l with
  | nil=>rfl
  | cons a r=>rfl
 ·have hne:l≠[]:=by simpa using h
  obtain ⟨r,x,rfl⟩:∃ r x,l=r++[x]:=⟨l.dropLast,l.getLast hne,(List.dropLast_concat_getLast hne).symm⟩
  obtain ⟨hC1,hk1⟩:=hl x (mem_append_right _ (mem_singleton_self _))
  have hlr:∀ y∈r,y.a<es.length/\y.k.length=k.length:=λy hy=>hl y (mem_append_left _ hy)
  have hrl:r.length<=msI es.length r:=zaU λy hy=>(hlr y hy).1
  rw[zaM] at hμ
  rw[zdj] at hx
  refine Zj (Zq (ziK (i:=4) (d:=dIt x) rfl rfl (by rw[length_map,length_append,map_append];show _[r.length+1-1]?=_;rw[Nat.add_sub_cancel,getElem?_append_right (by rw[length_map];exact Nat.le_refl _),length_map,sub_self];rfl) ?_))
  have e1:((r++[x]).map dIt).dropLast=r.map dIt:=by rw[map_append];exact List.dropLast_concat
  show Sv K B0 _ [.dat (dT es),.dat (dPs (pairsOf k)),.dat (.int (k.length:Nat)),.dat (.int (W:Nat)),.own ((r++[x]).map dIt).dropLast,.dat (dIt x),v6,v7] _
  rw[e1]
  clear e1 h hne hl
  obtain ⟨a,k1,dp⟩:=x
  dsimp only at hC1 hk1
  obtain ⟨t,ht⟩:∃ t,es[a]?=some t:=⟨_,List.getElem?_eq_getElem hC1⟩
  have hB:Bh es a k1=stp (Bh es) a k1 t:=by rw[zb7,ht];rfl
  have hx:tot es (comb dp (stp (Bh es) a k1 t) (some W)) r=Bh es 0 k:=by rw[← hB];exact hx
  have hkt:=hin t (mem_of_getElem? ht)
  have m1:1<=msI es.length [⟨a,k1,dp⟩]:=by
   show 1<=(es.length-a)*2 ^ u k1+0
   exact Nat.mul_pos (by omega) (Nat.two_pow_pos _)
  refine Zj (Zq (Zv (Yd (n:=a) (d:=dKt t) (Zb rfl) (Yd (n:=0) (Zb rfl) Zi rfl rfl) (by rw[length_map];exact YL hC1) (by rw[getElem?_map,ht];rfl)) ?_))
  show Sv K B0 _ [.dat (dT es),.dat (dPs (pairsOf k)),.dat (.int (k.length:Nat)),.dat (.int (W:Nat)),.own (r.map dIt),.dat (dIt ⟨a,k1,dp⟩),.dat (dKt t),v7] _
  cases t with
  | told ls=>
   refine U4 (W9 (Zu (QM (Yd (n:=0) (Zb rfl) Zi rfl rfl) Wf)) (decide_eq_true rfl)) ?_
   refine Zj (Xl (b:=!lj k1 ls) (zaw (Zu (Yz (Zc (Yd (n:=1) (Zb rfl) Zi rfl rfl) (Zc (Yd (n:=1) (Zb rfl) Zi rfl rfl) Zg)) (RLj.mk k1 ls (by omega) hkt)))) (λhb=>?_) λhb=>ZZ ?_)
   ·have hb:lj k1 ls=false:=by simpa using hb
    refine Z6 (Zv QD ?_)
    show PV.dat _=PV.dat _
    rw[zet,if_neg (by rw[hb];exact Bool.false_ne_true)] at hx
    rw[← hx,show comb dp none (some W)=none from rfl,Uk];rfl
   ·have hb:lj k1 ls=true:=by simpa using hb
    refine Zq (Zv (Yo (za1 (Zc (Zb rfl) (Zc (Yd (n:=2) (Zb rfl) Zi rfl rfl) Zg))) (e:=.int ((max dp W:Nat):Int)) ?_) ?_)
    ·congr 1
     show (if (dp:Int)>(W:Int) then (dp:Int) else (W:Int))=((max dp W:Nat):Int)
     split <;> omega
    ·refine ⟨msI es.length r,by omega,r,max dp W,_,_,_,rfl,hlr,?_,by omega,rfl⟩
     rw[zet,if_pos hb] at hx
     exact hx
  | look i j z1 z2=>
   refine Vf (W9 (Zu (QM (Yd (n:=0) (Zb rfl) Zi rfl rfl) Wf)) (decide_eq_false (by decide))) ?_
   refine Zj (Zq (Zv (Yz (Zc (Zb rfl) (Zc (Yd (n:=1) (Zb rfl) Zi rfl rfl) Zg)) (RAn.mk k1 i j z1 z2 (by omega) (by rw[hk1];exact hkt.1) (by rw[hk1];exact hkt.2))) ?_))
   obtain ⟨an1,an2⟩:=zfD (k:=k1) (i:=i) (j:=j) (x:=z1) (y:=z2)
   have hmu:=λh=>zhu (L:=es.length) (a:=a) (i:=i) (j:=j) (d:=dp) (x:=z1) (y:=z2) (k:=k1) (by rw[hk1];exact hkt.1) (by rw[hk1];exact hkt.2) hC1 h
   have hbad:=zgf (es:=es) (a:=a) (i:=i) (j:=j) (x:=z1) (y:=z2) (k:=k1)
   have hgood:=zem (es:=es) (a:=a) (i:=i) (j:=j) (d:=dp) (W:=W) (x:=z1) (y:=z2) (k:=k1)
   generalize ans k1 i j z1 z2=ps at *
   show Sv K B0 _ [.dat (dT es),.dat (dPs (pairsOf k)),.dat (.int (k.length:Nat)),.dat (.int (W:Nat)),.own (r.map dIt),.dat (dIt ⟨a,k1,dp⟩),.dat (dKt (.look i j z1 z2)),.dat (.list (ps.map dA))] _
   refine Zj (Xl (b:=decide (ps=[]) || !ps.all (gd es a)) (zaC (W9 (Zu (Jh (n:=3) (Zb rfl) (YD Zg (by show 0<=sizeLine;decide)) ?_ (Wb λd hd=>by cases hd) (by decide))) ?_) λ_=>zaw (Zu (Yo (zfi (bs:=ps.map (gd es a)) (Zc (Yo (Q9 (js:=[5,0]) ps (λp=>.int p.1) (λp=>dK p.2) (λp=>some (.bool (gd es a p))) (Jz (Zb rfl)) (by omega) λp hp=>lx1 Qo (zbM (Yd (n:=0) (Zb rfl) Zi rfl rfl) (Zb rfl) (lenT (Zb rfl)))) (by rw[Qx,map_map];rfl)) Zg)) (by rw[List.all_map];rfl)))) (λhb=>?_) λhb=>ZZ ?_)
   ·exact Wb λd hd=>by
     obtain ⟨p,_,rfl⟩:=mem_map.mp hd
     exact Qf λd hd=>by
      simp only[mem_cons,not_mem_nil,or_false] at hd
      rcases hd with rfl | rfl
      ·exact Xd _
      ·exact Qf λd hd=>by obtain ⟨_,_,rfl⟩:=mem_map.mp hd;exact Xd _
   ·cases ps with
    | nil=>rfl
    | cons p q=>rfl
   ·refine Z6 (Zv QD ?_)
    show PV.dat _=PV.dat _
    rw[hbad (by
     rw[or_eq_true] at hb
     rcases hb with hb | hb
     ·exact .inl (of_decide_eq_true hb)
     ·exact .inr (by simpa using hb))] at hx
    rw[← hx,show comb dp none (some W)=none from rfl,Uk];rfl
   ·rw[Bool.or_eq_false_iff] at hb
    have hpn:ps≠[]:=of_decide_eq_false hb.1
    have hpa:ps.all (gd es a)=true:=by simpa using hb.2
    have hg:=all_eq_true.mp hpa
    have hgb:∀ p∈ps,(a:Int)<p.1/\p.1<es.length:=λp hp=>by
     have:=hg p hp
     unfold gd at this
     rw[and_eq_true] at this
     exact ⟨of_decide_eq_true this.1,of_decide_eq_true this.2⟩
    have hm2:=hmu λp hp=>(hgb p hp).1
    have hmx:msI es.length [⟨a,k1,dp⟩]=mu es.length ⟨a,k1,dp⟩:=Nat.add_zero _
    have il:(items dp ps).length<=msI es.length (items dp ps):=zaU λy hy=>by
     obtain ⟨p,hp,rfl⟩:=mem_map.mp hy
     have:=hgb p hp
     show p.1.toNat<_
     omega
    refine ziz (zix (js:=[5]) ps (λp=>.int p.1) (λp=>dK p.2) (λp=>some (dIt ⟨p.1.toNat,p.2,dp+1⟩)) (Jz (Zb rfl)) (by omega) (λp hp=>lx1 Qo (Yo (ZM (Zc (Zb rfl) (Zc (Zb rfl) (Zc (Y5 (Yd (n:=2) (Zb rfl) Zi rfl rfl) Zi λ_=>Zk _) Zg))) (by show 3<=sizeLine;decide)) (show PyData.tuple [.int p.1,dK p.2,.int ((dp:Int)+1)]=dIt ⟨p.1.toNat,p.2,dp+1⟩ by
     have:=hgb p hp
     show _=PyData.tuple [.int ((p.1.toNat:Nat):Int),dK p.2,.int ((dp+1:Nat):Int)]
     rw[show ((p.1.toNat:Nat):Int)=p.1 by omega];rfl))) ⟨_,_,_,rfl,rfl,rfl,?_,?_⟩) rfl rfl
    ·rw[length_map,Qx,length_map]
     show r.length+ps.length<=sizeLine
     omega
    ·refine ⟨msI es.length (r++items dp ps),by rw[zaM];omega,r++items dp ps,W,.dat (dIt ⟨a,k1,dp⟩),.dat (dKt (.look i j z1 z2)),.dat (.list (ps.map dA)),rfl,λy hy=>?_,?_,by rw[zaM];omega,?_⟩
     ·rcases mem_append.mp hy with hy | hy
      ·exact hlr y hy
      ·obtain ⟨p,hp,rfl⟩:=mem_map.mp hy
       have:=hgb p hp
       exact ⟨by show p.1.toNat<_;omega,by rw[← hk1];exact an2 p hp⟩
     ·rw[zdj,hgood hpn hpa];exact hx
     ·rw[map_append,Qx]
      unfold items
      rw[map_map];rfl
 ·have hne:l=[]:=by simpa using h
  subst hne
  refine Z6 (Zv (Zb rfl) ?_)
  show PV.dat _=PV.dat _
  rw[← hx];rfl
end
inductive RRl:List PyData->PyData->Prop
 | mk (k:Kn) (_:k.length<=8):RRl [dPs (pairsOf k),.int (k.length:Nat)] (.list ((Xx k k.length).map dR))
theorem same_int (a b:Nat):PySem.Spec.same (.int (a:Nat)) (.int (b:Nat))=decide (b=a):=by
 by_cases h:b=a
 ·subst h;rw[decide_eq_true rfl];exact same_self _
 ·rw[decide_eq_false h]
  exact Qq λe=>h (by injection e with e;omega)
theorem zgj (l:List Nat)(p:Nat):((l.map λ(i:Nat)=>PyData.int (i:Nat)).any λe=>PySem.Spec.same e (.int (p:Nat)))=decide (p∈l):=by
 rw[List.any_map]
 induction l with
 | nil=>rfl
 | cons a r ih=>
  rw[any_cons,ih]
  show (PySem.Spec.same (.int (a:Nat)) (.int (p:Nat))||_)=_
  rw[same_int]
  by_cases h:p=a
  ·subst h;simp
  ·simp[h]
section
theorem zjZ (T:Top K mg):T.Xg.O P w base 1 (spP K RRl):=by
 refine T.Xg.F.okP Z9 (by rintro _ _ ⟨⟩;rfl) λcdv A outer s H E hr ds d hR=>?_
 cases hR with
 | mk k h8=>
 have hu:=hr.units
 have zl:(2000:Nat)<sizeLine:=by decide
 have z24:(8 ^ 8:Nat)=sizeLine:=by decide
 have pln:(pairsOf k).length<=64:=by
  rw[XR]
  refine Nat.le_trans (length_filter_le _ _) ?_
  rw[Jt]
  exact mul_le_mul h8 h8
 have notin:∀ {ρ:List PV}{ta tb:TE}{x:Nat}{l:List Nat},Er K B0 ta ρ (.int (x:Nat))->Er K B0 tb ρ (dR l)->Er K B0 (tOp (zbT K true) ta tb) ρ (.bool (!decide (x∈l))):=λ{ρ ta tb x l} h1 h2=>Yo (Qv h1 h2 (Xd _) λe he=>by obtain ⟨_,_,rfl⟩:=mem_map.mp he;exact Xd _) (by rw[if_pos rfl,zgj])
 refine ⟨_,(Ze (Zr (i:=2) Z9.nd rfl (Or.inl rfl) (Yp (Za (ZG Zf) Zf Yc)))
   (Ze (Wa PassesOwn.never rfl (Xe (by rfl) T.Wn (Za (pv 1) Zf Zd)) (Z8 (i:=3) Z9.nd rfl (Or.inl rfl)) (Ze (Zr (i:=4) Z9.nd rfl (Or.inl rfl) (Yp Zf))
   (Ze (Wa PassesOwn.never rfl (Wv (pv 2)) (Z8 (i:=5) Z9.nd rfl (Or.inr rfl)) (Zm (Wa PassesOwn.never rfl (Xe (by rfl) T.Wn (Za (pv 1) Zf Zd)) (Z8 (i:=6) Z9.nd rfl (Or.inr rfl)) (Ze (ziA (x:= "i") (x2:= "j") (cap:=["place", "row"]) (js:=[6,5]) (i:=7) (y:= "lacking") ⟨rfl,by decide +kernel,by decide +kernel,rfl,rfl,(by show ∀ p∈(_:List (Str×NameKind)),p.2=NameKind.free->List.lookup p.1 (Zn Xh).names=some NameKind.cell;decide +kernel),by decide +kernel,by decide +kernel,by decide +kernel⟩ rfl rfl (λ_ _ h=>h) Z9.nd rfl rfl (zbF (pv 0)) (λ_ _ _ _=>⟨(Vz (PW.pt (pw_and (Zy XF (pv 1) (pv 2) (ZR _)) (pw_and1 (Zy (J3 (K:=K) rfl hu) (pv 0) (pv 3) (by rfl)))))),(pv 0)⟩))
   (Zm (YX ((pw_and (Zy (J3 (K:=K) rfl hu) (pv 6) (pv 5) (by rfl)) (pw_and1 (Zy (Ut (K:=K) rfl hu) (pv 7) (Yp Zf) (ZR _))))).pt (Zm (Wu (QV plainAttrs_list PySem.F.slot_list_append PySem.F.type_list_append Xr (pv 4) (Za (Zo (ZP (K:=K) rfl) (pv 5) (ZG (Za (pv 6) Zf Zd))) Zf Yg)))) ZX))))))
   (Zm (Zr (i:=2) Z9.nd rfl (Or.inl rfl) (pv 4))))))
   (Zm (Z5 (pv 2))))) ,?_⟩
 refine Zj (Zq (Zv (YD (Zc (ZM Zg (by show 0<=sizeLine;decide)) Zg) (by show 1<=sizeLine;decide)) ?_))
 refine Zj (Wr (List.range k.length) (λ(t:Nat)=>PyData.int (t:Nat)) (WQ (Zc (Zb rfl) Zg) (by omega)) (λt ρ=>∃ v3 v4 v5 v6 v7:PV,ρ=[.dat (dPs (pairsOf k)),.dat (.int (k.length:Nat)),.dat (.list ((Xx k t).map dR)),v3,v4,v5,v6,v7]) ⟨_,_,_,_,_,rfl⟩ ?_ ?_)
 ·rintro t ht _ ⟨v3,v4,v5,v6,v7,rfl⟩
  rw[length_range] at ht
  rw[rix]
  refine Wj (Zj (Zq (JC Zg (by show 0<=sizeLine;decide) ?_)))
  have rl:=zbi k t
  have rl2:(Xx k t).length*k.length<=8 ^ 8:=by
   refine Nat.le_trans (mul_le_mul rl (Nat.le_refl _)) ?_
   rw[← pow_succ]
   exact Nat.le_trans (Nat.pow_le_pow_left h8 _) (pow_le_pow_right (by decide) (by omega))
  have fl:∀ l:List (List Nat),(l.flatMap (X3 k)).length<=l.length*k.length:=λl=>by
   induction l with
   | nil=>simp
   | cons a r ih=>
    rw[flatMap_cons,length_append,length_cons,succ_mul]
    have:(X3 k a).length<=k.length:=by
     unfold X3
     rw[length_map]
     exact Nat.le_trans (length_filter_le _ _) (le_of_eq length_range)
    omega
  show Sv K B0 _ [.dat (dPs (pairsOf k)),.dat (.int (k.length:Nat)),.dat (.list ((Xx k t).map dR)),.dat (.int (t:Nat)),.own [],v5,v6,v7] _
  refine Zj (Wr (Xx k t) dR (Jz (Zb rfl)) (λr ρ=>∃ v5 v6 v7:PV,ρ=[.dat (dPs (pairsOf k)),.dat (.int (k.length:Nat)),.dat (.list ((Xx k t).map dR)),.dat (.int (t:Nat)),.own ((((Xx k t).take r).flatMap (X3 k)).map dR),v5,v6,v7]) ⟨_,_,_,rfl⟩ ?_ ?_)
  ·rintro r hr2 _ ⟨v5,v6,v7,rfl⟩
   have fr:=fl ((Xx k t).take r)
   rw[length_take,Nat.min_eq_left (by omega)] at fr
   have rn:(r+1)*k.length<=(Xx k t).length*k.length:=mul_le_mul_right _ hr2
   rw[succ_mul] at rn
   generalize hA:((Xx k t).take r).flatMap (X3 k)=A0 at fr
   obtain ⟨row,hrow⟩:∃ row,(Xx k t)[r]=row:=⟨_,rfl⟩
   rw[hrow]
   refine Wj ?_
   refine Wr (List.range k.length) (λ(t:Nat)=>PyData.int (t:Nat)) (WQ (Zc (Zb rfl) Zg) (by omega)) (λp ρ=>∃ v6 v7:PV,ρ=[.dat (dPs (pairsOf k)),.dat (.int (k.length:Nat)),.dat (.list ((Xx k t).map dR)),.dat (.int (t:Nat)),.own ((A0++((List.range p).filter (may k row)).map λp=>row++[p]).map dR),.dat (dR row),v6,v7]) ⟨v6,v7,by rw[List.range_zero];show _=[_,_,_,_,PV.own ((A0++[]).map dR),_,_,_];rw[append_nil];rfl⟩ ?_ ?_
   ·rintro p hp _ ⟨v6,v7,rfl⟩
    rw[length_range] at hp
    rw[rix]
    have hrl:row.length<=8:=by
     have:=(W0.mp (show row∈Xx k t by rw[← hrow];exact getElem_mem _)).1
     omega
    have fp:(((List.range p).filter (may k row)).map λp=>row++[p]).length<=p:=by
     rw[length_map]
     exact Nat.le_trans (length_filter_le _ _) (le_of_eq length_range)
    refine Wj ?_
    refine Zj (Zq (Zv (Yo (Q9 (js:=[6,5]) (pairsOf k) (λq=>.int (q.1:Nat)) (λq=>.int (q.2:Nat)) (λq=>if decide (q.2=p) && !decide (q.1∈row) then some (.int (q.1:Nat)) else none) (zbx (Zb rfl)) (by omega) λq hq=>lxB (zaa (W9 (Zu (Xy (Zb rfl) (Zb rfl))) (decide_eq_decide.mpr ⟨λe=>by omega,λe=>by omega⟩)) λ_=>Zu (notin (Zb rfl) (Zb rfl))) λ_=>Zb rfl) (show _=PyData.list ((((pairsOf k).filter λq=>decide (q.2=p) && !decide (q.1∈row)).map Prod.fst).map λ(i:Nat)=>.int (i:Nat)) by rw[U6,map_map];rfl)) ?_))
    generalize hL:((pairsOf k).filter λq=>decide (q.2=p) && !decide (q.1∈row)).map Prod.fst=L
    have hm:may k row p=(!decide (p∈row)&&decide (L=[])):=by unfold may;rw[hL]
    have nx:((List.range (p+1)).filter (may k row)).map (λp=>row++[p])=((List.range p).filter (may k row)).map (λp=>row++[p])++if may k row p then [row++[p]] else []:=by
     rw[range_succ,filter_append,map_append,List.filter_cons]
     split <;> simp
    show Sv K B0 _ [.dat (dPs (pairsOf k)),.dat (.int (k.length:Nat)),.dat (.list ((Xx k t).map dR)),.dat (.int (t:Nat)),.own ((A0++((List.range p).filter (may k row)).map λp=>row++[p]).map dR),.dat (dR row),.dat (.int (p:Nat)),.dat (.list (L.map λ(i:Nat)=>.int (i:Nat)))] _
    refine Xl (b:=may k row p) (W9 (zaa (Zu (notin (Zb rfl) (Zb rfl))) λ_=>W9 (e:=decide (L=[])) (Zu (Jh (n:=2) (Zb rfl) (YD Zg (by show 0<=sizeLine;decide)) (Wb λd hd=>by obtain ⟨_,_,rfl⟩:=mem_map.mp hd;exact Xd _) (Wb λd hd=>by cases hd) (by decide))) ?_) hm.symm) (λhb=>?_) λhb=>ZZ ⟨_,_,by rw[nx,hb,if_neg Bool.false_ne_true,append_nil]⟩
    ·cases L with
     | nil=>rfl
     | cons a r=>rfl
    ·refine J8 (Zv (Yo (YC (Zb rfl) (ZM (Zc (Zb rfl) Zg) (by show 1<=sizeLine;decide)) (by rw[length_map];show row.length+1<=sizeLine;omega)) (show _=dR (row++[p]) by show PyData.tuple _=PyData.tuple _;rw[map_append];rfl)) ⟨_,_,_,rfl,rfl,rfl,?_,.dat (.int (p:Nat)),.dat (.list (L.map λ(i:Nat)=>.int (i:Nat))),?_⟩) rfl rfl
     ·rw[length_map,length_append]
      have:r*k.length+k.length<=8 ^ 8:=Nat.le_trans rn rl2
      omega
     ·rw[nx,hb,if_pos rfl,← append_assoc,map_append (l₂:=[row++[p]])];rfl
   ·rintro _ ⟨v6,v7,rfl⟩
    refine ⟨.dat (dR row),v6,v7,?_⟩
    rw[length_range,take_succ_eq_append_getElem (by omega),flatMap_append,flatMap_singleton,hA,hrow];rfl
  ·rintro _ ⟨v5,v6,v7,rfl⟩
   rw[take_length]
   refine Us 4 rfl ?_
   refine Zq (Zv (Zb rfl) ⟨.dat (.int (t:Nat)),.dat (.list ((Xx k (t+1)).map dR)),v5,v6,v7,rfl⟩)
 ·rintro _ ⟨v3,v4,v5,v6,v7,rfl⟩
  rw[length_range]
  exact Z6 (Zv (Zb rfl) rfl)
end
noncomputable def cv (sk:Bool) (o:Option Nat):Option Nat:=if sk then some 0 else o
theorem zbL {k:Kn}{i j:Nat}(o:IsO k)(hi:i<k.length)(hj:j<k.length)(h:ah k i j=true):wl k i j=k:=by
 refine ext_getElem? λt=>?_
 by_cases ht:t<k.length
 ·rw[List.getElem?_eq_getElem ht,List.getElem?_eq_getElem (by rw[YH];exact ht)]
  congr 1
  refine Nat.eq_of_testBit_eq λb=>?_
  have e1:∀ (l:Kn) (h:t<l.length),l[t]=l.getD t 0:=λl h=>by rw[getD_eq_getElem?_getD,List.getElem?_eq_getElem h];rfl
  rw[e1,e1]
  show ah (wl k i j) t b=ah k t b
  rw[J9 ht]
  cases e:(t==i||ah k t i)&&(b==j||ah k j b) with
  | false=>rw[Bool.or_false]
  | true=>
   rw[Bool.or_true]
   simp only[or_eq_true,and_eq_true,beq_iff_eq] at e
   symm
   rcases e with ⟨rfl | e1,rfl | e2⟩
   ·exact h
   ·exact o.tr t j b ht hj h e2
   ·exact o.tr t i b ht hi e1 h
   ·exact o.tr t j b ht hj (o.tr t i j ht hi e1 h) e2
 ·rw[List.getElem?_eq_none (by rw[YH];omega),List.getElem?_eq_none (by omega)]
theorem zjh {k:Kn}(o:IsO k){a b:Nat}(ha:a<k.length)(hb:b<k.length)(h:ah k a b=true):ah k b a=false:=eq_false_iff.mpr λz=>by
 have:=o.tr a b a ha hb h z
 rw[o.ir a ha] at this;cases this
theorem ziq {B:Nat->Kn->Option Nat}{a i j:Nat}{k:Kn}{x y:Int}(o:IsO k)(hi:i<k.length)(hj:j<k.length)(n:i≠j):stp B a k (.look i j x y)=mx2 (cv (ah k j i) (go B a x (wl k i j))) (cv (ah k i j) (go B a y (wl k j i))):=by
 rw[VJ,if_neg n]
 cases h1:ah k i j with
 | true=>
  rw[if_pos rfl,zjh o hi hj h1,zbL o hi hj h1]
  show _=mx2 (go B a x k) (some 0)
  cases go B a x k with
  | none=>rfl
  | some c=>show some (1+c)=some (1+max c 0);rw[Nat.max_zero]
 | false=>
  rw[if_neg Bool.false_ne_true]
  cases h2:ah k j i with
  | true=>
   rw[if_pos rfl,zbL o hj hi h2]
   show _=mx2 (some 0) (go B a y k)
   cases go B a y k with
   | none=>rfl
   | some c=>show some (1+c)=some (1+max 0 c);rw[Nat.zero_max]
  | false=>rw[if_neg Bool.false_ne_true];rfl
theorem zd5 (o:Option Nat):mx2 o none=none:=by cases o <;> rfl
inductive RBe (N:Nat):List PyData->PyData->Prop
 | mk (es:List Kt) (a:Nat) (k:Kn) (_:k.length<=8) (_:IsO k) (_:zhg k.length es) (_:es.length<=a+N) (_:es.length<=10 ^ 4):RBe N [dT es,.int (a:Nat),dPs (pairsOf k),.int (k.length:Nat)] (oD (Bh es a k))
section
theorem ze9 (T:Top K mg)(N:Nat)(sp:Sp)(hsp:∀ m,N=m+1->sp=spP K (RBe m))(G__law_behind:T.Yu.O P w base (N+1) sp):T.Yu.O P w base (N+2) (spP K (RBe N)):=by
 have G__law_rows_left:T.Xg.O P w base (N+1) (spP K RRl):=(zjZ T).mono (by omega)
 have G__law_closed:T.Yi.O P w base (N+1) (spP K RLt):=(zeY T).mono (by omega)
 refine T.Yu.F.okP ZF (by rintro _ _ ⟨⟩;rfl) λcdv A outer s H E hr ds d hR=>?_
 cases hR with
 | mk es a k h8 hO hin hN hel=>
 have hu:=hr.units
 have zl:(10 ^ 6+10 ^ 6:Nat)<sizeLine:=by decide
 have lenT:∀ {ρ:List PV}{te:TE},Er K B0 te ρ (dT es)->Er K B0 (tCB (λxs H Q=>∃ p ys,xs=[.ref p]/\(SqL K H p ys\/SqT K H p ys)/\Q (.int ys.length) H) (Xc te QT)) ρ (.int (es.length:Nat)):=λ{ρ te} h=>Yo (Qm (Zc h Zg)) (congrArg (λ(x:Nat)=>PyData.int (x:Nat)) (length_map _))
 refine ⟨_,(Ze (YX (zas (zd7 zei U9 Zh (pv 1) (ZJ (Z0 (K:=K) rfl) (by rfl) T.VH PySem.boot_len (Za (pv 0) Zf Zd)))) (Zm (Z5 Jj)) ZX)
   (Ze (Zr (i:=4) ZF.nd rfl (Or.inl rfl) (Ym (ZQ (K:=K) rfl) (pv 0) (pv 1) (λ_ _=>rfl)))
   (Ze (YX (Zy XF (Ym (ZQ (K:=K) rfl) (pv 4) Zh (λ_ _=>rfl)) Ji (ZR _)) (Ze (Zr (i:=5) ZF.nd rfl (Or.inl rfl) (peN T.Xg G__law_rows_left hr (Za (pv 2) (Za (pv 3) Zf Zd) Zd)))
   (Zm (Z5 (Ym (Yt (K:=K) rfl) (Yp (Za Jj (Za Zh Zf Zx) Zx)) (Xf zaq (by rfl) T.int_ zkr (Za (zdc (Wm XF (ZJ (Z0 (K:=K) rfl) (by rfl) T.VH PySem.boot_len (Za (pv 5) Zf Zd)) Zh (ZR _)) (zcG (Wm (Ut (K:=K) rfl hu) (Ym (Yt (K:=K) rfl) (pv 5) Zh (λ_ _=>rfl)) (Ym (ZQ (K:=K) rfl) (pv 4) Zh (λ_ _=>rfl)) (ZR _)))) Zf zct)) (λ_ _=>rfl))))) ZX)
   (Ze (zbI (pv 4) (QC (n:=5) rfl (Yv (Z8 (i:=6) ZF.nd rfl (Or.inl rfl)) (Yv (Z8 (i:=7) ZF.nd rfl (Or.inl rfl)) (Yv (Z8 (i:=8) ZF.nd rfl (Or.inl rfl)) (Yv (Z8 (i:=9) ZF.nd rfl (Or.inl rfl)) (Yv (Z8 (i:=10) ZF.nd rfl (Or.inl rfl)) Jd))))) (by rfl)))
   (Ze (YX ((pw_or (Zy XF (pv 7) (pv 8) (ZR _)) (pw_or (Zy zdt (pv 7) (zcw (by rfl) T.Wn (Za (pv 3) Zf Zd)) (by rfl)) (pw_or1 (Zy zdt (pv 8) (zcw (by rfl) T.Wn (Za (pv 3) Zf Zd)) (by rfl)))))).pt (Zm (Z5 Jj)) ZX)
   (Ze (Zr (i:=11) ZF.nd rfl (Or.inl rfl) Zh)
   (Ze (Wa PassesOwn.never rfl (Wv (Yp (Za (ZG (Za (ZG (Za (pv 7) (Za (pv 8) Zf Zd) Zd)) (Za (pv 9) Zf Zd) Yc)) (Za (ZG (Za (ZG (Za (pv 8) (Za (pv 7) Zf Zd) Zd)) (Za (pv 10) Zf Zd) Yc)) Zf Yc) Yc))) (QC (n:=2) rfl (Yv (Z8 (i:=12) ZF.nd rfl (Or.inl rfl)) (Yv (Z8 (i:=13) ZF.nd rfl (Or.inl rfl)) Jd)) (by rfl)) (Zm (YX (Zy (J3 (K:=K) rfl hu) (zdP rfl (pv 12) (Z3 (zdM zav Zh))) (pv 2) (by rfl)) (Ze (Zr (i:=14) ZF.nd rfl (Or.inl rfl) Jj)
   (Ze (YX (Zy ziU (pv 13) (pv 1) (ZR _)) (Zm (Zr (i:=14) ZF.nd rfl (Or.inl rfl) (peN T.Yu G__law_behind hr (Za (pv 0) (Za (pv 13) (Za (peN T.Yi G__law_closed hr (Za (Zo (ZP (K:=K) rfl) (pv 2) (ZG (Za (pv 12) Zf Zd))) Zf Yg)) (Za (pv 3) Zf Zd) XX) Zd) Zd)))) ZX)
   (Ze (YX (Zy zcz (pv 14) Jj (ZR _)) (Zm (Z5 Jj)) ZX)
   (Zm (Zr (i:=11) ZF.nd rfl (Or.inl rfl) (ZJ (Vb rfl) (by rfl) T.zjA zjO (Za (pv 11) (Za (pv 14) Zf Zd) Zd))))))) ZX)))
   (Zm (Z5 (Zo YF Zh (pv 11))))))))))) ,?_⟩
 refine Zj (Xl (b:=!decide (a<es.length)) (zaw (W9 (Zu (zbM Zi (Zb rfl) (lenT (Zb rfl)))) ?_)) (λhb=>?_) λhb=>ZZ ?_)
 ·show (decide ((0:Int)<=(a:Int))&&decide ((a:Int)<(es.length:Int)))=_
  rw[decide_eq_true (show (0:Int)<=(a:Int) by omega),Bool.true_and]
  exact decide_eq_decide.mpr (by omega)
 ·have hb:¬ a<es.length:=by simpa using hb
  refine Z6 (Zv QD ?_)
  show PV.dat _=PV.dat _
  rw[Uj (by omega)];rfl
 have ha:a<es.length:=by simpa using hb
 obtain ⟨m,rfl⟩:∃ m,N=m+1:=⟨N-1,by omega⟩
 obtain rfl:=hsp m rfl
 obtain ⟨t,ht⟩:∃ t,es[a]?=some t:=⟨_,List.getElem?_eq_getElem ha⟩
 have hB:Bh es a k=stp (Bh es) a k t:=by rw[zb7,ht];rfl
 have hkt:=hin t (mem_of_getElem? ht)
 rw[hB]
 refine Zj (Zq (Zv (Yd (n:=a) (d:=dKt t) (Zb rfl) (Zb rfl) (by rw[length_map];exact YL ha) (by rw[getElem?_map,ht];rfl)) ?_))
 show Sv K B0 _ [.dat (dT es),.dat (.int (a:Nat)),.dat (dPs (pairsOf k)),.dat (.int (k.length:Nat)),.dat (dKt t),.un,.un,.un,.un,.un,.un,.un,.un,.un,.un] _
 cases t with
 | told l=>
  refine Zj (U4 (W9 (Zu (QM (Yd (n:=0) (Zb rfl) Zi rfl rfl) Wf)) (decide_eq_true rfl)) ?_)
  refine Zj (Zq (Zv (Yz (Zc (Zb rfl) (Zc (Zb rfl) Zg)) (RRl.mk k h8)) ?_))
  have hlj:=zhb (l:=l) hO
  rw[zet]
  have nd:=za6 k k.length
  generalize Xx k k.length=R at hlj nd
  show Sv K B0 _ [.dat (dT es),.dat (.int (a:Nat)),.dat (dPs (pairsOf k)),.dat (.int (k.length:Nat)),.dat (dKt (.told l)),.dat (.list (R.map dR)),.un,.un,.un,.un,.un,.un,.un,.un,.un] _
  refine Z6 (Zv (d:=oD (if lj k l then some 0 else none)) (XM (ds:=[.none,.int 0]) (n:=if lj k l then 1 else 0) (YD (Zc QD (Zc Zi Zg)) (by show 2<=sizeLine;decide)) (Yo (zcv (Zc (zcu (c:=decide (R.length=1)) (e:=lj k l) (Yo (Xy (XC (Zc (Zb rfl) Zg)) Zi) (congrArg PyData.bool (decide_eq_decide.mpr (by rw[length_map];omega)))) λhc=>?_) Zg)) (show _=PyData.int (if lj k l then 1 else 0) from ?_)) ?_ ?_) ?_)
  ·have h1:R.length=1:=of_decide_eq_true hc
   obtain ⟨r,rfl⟩:=List.length_eq_one_iff.mp h1
   refine Yo (Jh (n:=3) (XM (ds:=[r].map dR) (n:=0) (Zb rfl) Zi rfl rfl) (Yd (n:=1) (Zb rfl) Zi rfl rfl) (Qf λd hd=>by obtain ⟨_,_,rfl⟩:=mem_map.mp hd;exact Xd _) (Qf λd hd=>by obtain ⟨_,_,rfl⟩:=mem_map.mp hd;exact Xd _) (by decide)) ?_
   congr 1
   show PySem.Spec.same (dR r) (dR l)=lj k l
   by_cases e:r=l
   ·subst e;rw[same_self,hlj.mpr rfl]
   ·rw[Qq λz=>e (ze6 z)]
    symm
    exact eq_false_iff.mpr λz=>e (by have:=hlj.mp z;injection this)
  ·congr 1
   cases hq:lj k l with
   | true=>rw[hlj.mp hq];rfl
   | false=>rw[Bool.and_false]
  ·cases lj k l <;> rfl
  ·cases lj k l <;> rfl
  ·show PV.dat _=PV.dat _
   cases lj k l <;> rfl
 | look i j x y=>
  obtain ⟨hi,hj⟩:=hkt
  refine Zj (Vf (W9 (Zu (QM (Yd (n:=0) (Zb rfl) Zi rfl rfl) Wf)) (decide_eq_false (by decide))) (ZZ ?_))
  refine Zj (zaL (zeq (Zb rfl)) (zgY ?_))
  show Sv K B0 _ [.dat (dT es),.dat (.int (a:Nat)),.dat (dPs (pairsOf k)),.dat (.int (k.length:Nat)),.dat (dKt (.look i j x y)),.un,.dat (.str (Str.ofString "look")),.dat (.int (i:Nat)),.dat (.int (j:Nat)),.dat (.int x),.dat (.int y),.un,.un,.un,.un] _
  have nr:∀ {t:Nat},t<k.length->(!decide ((0:Int)<=(t:Int)/\(t:Int)<(k.length:Int)))=false:=λ{t} h=>by rw[decide_eq_true (by omega)];rfl
  refine Zj (Xl (b:=decide (i=j)) (W9 (zaC (W9 (e:=decide (i=j)) (Zu (Xy (Zb rfl) (Zb rfl))) (decide_eq_decide.mpr (by omega))) λ_=>W9 (e:=false) (zaC (Zu (zdn (Zb rfl) (Zc (Zb rfl) Zg))) λ_=>Zu (zdn (Zb rfl) (Zc (Zb rfl) Zg))) (by rw[nr hi,nr hj];rfl)) (Bool.or_false _)) (λhb=>?_) λhb=>ZZ ?_)
  ·have e:i=j:=of_decide_eq_true hb
   refine Z6 (Zv QD ?_)
   show PV.dat _=PV.dat _
   rw[VJ,if_pos e];rfl
  have hne:i≠j:=of_decide_eq_false hb
  rw[ziq hO hi hj hne]
  refine Zj (Zq (Zv Zi ?_))
  refine Zj (Wr [((i,j),x),((j,i),y)] (λq:(Nat×Nat)×Int=>PyData.tuple [dP q.1,.int q.2]) (Jz (YD (Zc (ZM (Zc (ZM (Zc (Zb rfl) (Zc (Zb rfl) Zg)) (by show 2<=sizeLine;decide)) (Zc (Zb rfl) Zg)) (by show 2<=sizeLine;decide)) (Zc (ZM (Zc (ZM (Zc (Zb rfl) (Zc (Zb rfl) Zg)) (by show 2<=sizeLine;decide)) (Zc (Zb rfl) Zg)) (by show 2<=sizeLine;decide)) Zg)) (by show 2<=sizeLine;decide))) (λs ρ' => ∃ (M:Nat) (v12 v13 v14:PV),(s=0->M=0)/\(s=1->cv (ah k j i) (go (Bh es) a x (wl k i j))=some M)/\(s=2->mx2 (cv (ah k j i) (go (Bh es) a x (wl k i j))) (cv (ah k i j) (go (Bh es) a y (wl k j i)))=some (1+M))/\ρ'=[.dat (dT es),.dat (.int (a:Nat)),.dat (dPs (pairsOf k)),.dat (.int (k.length:Nat)),.dat (dKt (.look i j x y)),.un,.dat (.str (Str.ofString "look")),.dat (.int (i:Nat)),.dat (.int (j:Nat)),.dat (.int x),.dat (.int y),.dat (.int (M:Nat)),v12,v13,v14]) ⟨0,.un,.un,.un,λ_=>rfl,(λh=>by cases h),(λh=>by cases h),rfl⟩ ?_ ?_)
  ·rintro s hs _ ⟨M,v12,v13,v14,hM0,hM1,_,rfl⟩
   have hs2:s<2:=hs
   generalize hC1:cv (ah k j i) (go (Bh es) a x (wl k i j))=C1 at *
   generalize hC2:cv (ah k i j) (go (Bh es) a y (wl k j i))=C2 at *
   obtain ⟨p1,p2,z,Cs,exy,h1,h2,h12,hCs,hnone,hsome⟩:∃ (p1 p2:Nat) (z:Int) (Cs:Option Nat),[((i,j),x),((j,i),y)][s]=((p1,p2),z)/\p1<k.length/\p2<k.length/\p1≠p2/\cv (ah k p2 p1) (go (Bh es) a z (wl k p1 p2))=Cs/\(Cs=none->mx2 C1 C2=none)/\(∀ c,Cs=some c->(s+1=1->C1=some (max M c))/\(s+1=2->mx2 C1 C2=some (1+max M c))):=by
    have:s=0\/s=1:=by omega
    rcases this with rfl | rfl
    ·refine ⟨i,j,x,C1,rfl,hi,hj,hne,hC1,λe=>by rw[e];rfl,λc e=>⟨λ_=>by rw[e,hM0 rfl,Nat.zero_max],λh=>by omega⟩⟩
    ·refine ⟨j,i,y,C2,rfl,hj,hi,Ne.symm hne,hC2,λe=>by rw[e];exact zd5 _,λc e=>⟨λh=>by omega,λ_=>by rw[e,hM1 rfl];rfl⟩⟩
   rw[exy]
   refine V1 ?_
   show Sv K B0 _ [.dat (dT es),.dat (.int (a:Nat)),.dat (dPs (pairsOf k)),.dat (.int (k.length:Nat)),.dat (dKt (.look i j x y)),.un,.dat (.str (Str.ofString "look")),.dat (.int (i:Nat)),.dat (.int (j:Nat)),.dat (.int x),.dat (.int y),.dat (.int (M:Nat)),.dat (dP (p1,p2)),.dat (.int z),v14] _
   refine Xl (b:=!ah k p2 p1) (Zu (Yo (Qv (zdG (Zb rfl)) (Zb rfl) (VM (p2,p1)) λe he=>by obtain ⟨q,_,rfl⟩:=mem_map.mp he;exact VM q) ?_)) (λhb=>?_) λhb=>ZZ ?_
   ·rw[if_pos rfl]
    show PyData.bool (!((pairsOf k).map dP).any λe=>PySem.Spec.same e (dP (p2,p1)))=_
    rw[zby (pairsOf k) (p2,p1)]
    congr 2
    cases e:ah k p2 p1 with
    | true=>exact decide_eq_true (Yh.mpr ⟨h2,h1,e⟩)
    | false=>exact decide_eq_false λz=>by rw[(Yh.mp z).2.2] at e;cases e
   ·have hb:ah k p2 p1=false:=by simpa using hb
    have O1:IsO (wl k p1 p2):=hO.wl h1 h2 h12 hb
    rw[hb] at hCs
    have hCs:go (Bh es) a z (wl k p1 p2)=Cs:=hCs
    refine Zj (Zq (Zv QD ?_))
    refine JF (fun ρ' => ρ'=[.dat (dT es),.dat (.int (a:Nat)),.dat (dPs (pairsOf k)),.dat (.int (k.length:Nat)),.dat (dKt (.look i j x y)),.un,.dat (.str (Str.ofString "look")),.dat (.int (i:Nat)),.dat (.int (j:Nat)),.dat (.int x),.dat (.int y),.dat (.int (M:Nat)),.dat (dP (p1,p2)),.dat (.int z),.dat (oD Cs)]) (Xl (b:=decide ((a:Int)<z)) (Zu (Y5 (Zb rfl) (Zb rfl) λ_=>Yy _)) (λhz=>?_) λhz=>ZZ ?_) ?_
    ·have hz:(a:Int)<z:=of_decide_eq_true hz
     have pl2:(pairsOf k).length<=64:=by
      rw[XR]
      refine Nat.le_trans (length_filter_le _ _) ?_
      rw[Jt]
      exact mul_le_mul h8 h8
     refine Zq (Zv (d:=oD Cs) (Yo (Yz (Zc (Zb rfl) (Zc (Yo (Zb rfl) (show PyData.int z = .int ((z.toNat:Nat):Int) by congr 1;omega)) (Zc (Yo (Yz (Zc (Yo (YC (Zb rfl) (ZM (Zc (Zb rfl) Zg) (by show 1<=sizeLine;decide)) (by rw[length_map];show (pairsOf k).length+1<=sizeLine;omega)) (show _=dPs (pairsOf k++[(p1,p2)]) by show PyData.tuple _=PyData.tuple _;rw[map_append];rfl)) Zg) (RLt.mk (pairsOf k++[(p1,p2)]) k.length h8 (λr hr=>?_) (by rw[JV hO];exact O1))) (congrArg (λk=>dPs (pairsOf k)) (JV hO p1 p2))) (Zc (Yo (Zb rfl) (show PyData.int ((k.length:Nat):Int) = .int (((wl k p1 p2).length:Nat):Int) by rw[YH])) Zg)))) (RBe.mk es z.toNat (wl k p1 p2) (by rw[YH];exact h8) O1 (by rw[YH];exact hin) (by omega) hel)) (by rw[← hCs,za5 hz])) rfl)
     rcases mem_append.mp hr with hr | hr
     ·exact ⟨(Yh.mp hr).1,(Yh.mp hr).2.1⟩
     ·rw[mem_singleton.mp hr];exact ⟨h1,h2⟩
    ·have hz:¬ (a:Int)<z:=of_decide_eq_false hz
     rw[← hCs,ze4 λq=>hz q.1];rfl
    ·rintro _ rfl
     cases Cs with
     | none=>
      refine Zj (U4 (W9 (Zu (zbd (Zb rfl))) rfl) ?_)
      refine Z6 (Zv QD ?_)
      show PV.dat _=PV.dat _
      rw[hnone rfl];rfl
     | some c=>
      refine Zj (Vf (W9 (Zu (zbd (Zb rfl))) rfl) (ZZ ?_))
      refine Zq (Zv (Yo (za1 (Zc (Zb rfl) (Zc (Zb rfl) Zg))) (e:=.int ((max M c:Nat):Int)) ?_) ⟨max M c,_,_,_,λh=>by omega,(hsome c rfl).1,(hsome c rfl).2,rfl⟩)
      congr 1
      show (if (c:Int)>(M:Int) then (c:Int) else (M:Int))=((max M c:Nat):Int)
      split <;> omega
   ·have hb:ah k p2 p1=true:=by simpa using hb
    rw[hb] at hCs
    have hCs:Cs=some 0:=hCs.symm
    have:=hsome 0 hCs
    rw[Nat.max_zero] at this
    exact ⟨M,_,_,_,λh=>by omega,this.1,this.2,rfl⟩
  ·rintro _ ⟨M,v12,v13,v14,_,_,hM2,rfl⟩
   refine Z6 (Zv (Yo (Y5 Zi (Zb rfl) λ_=>Zk _) (e:=.int ((1+M:Nat):Int)) (by congr 1)) ?_)
   show PV.dat _=PV.dat _
   rw[hM2 rfl];rfl
theorem ziT (T:Top K mg):T.Yu.O P w base 2 (spP K (RBe 0)):=ze9 T 0 (λ_ _ _ _=>False) (λm e=>by cases e) zd4
theorem zhO (T:Top K mg):∀ N:Nat,T.Yu.O P w base (N+2) (spP K (RBe N))
 | 0=>ziT T
 | N+1=>ze9 T (N+1) _ (λm e=>by injection e with e;subst e;rfl) (zhO T N)
end
noncomputable def ma (k:Kn) (t:Nat):Int:=(k.map λb=>if b.testBit t then (1:Int) else 0).sum
theorem zf9 (k:Kn)(t:Nat):ma k t=((List.range k.length).map λi=>if ah k i t then (1:Int) else 0).sum:=by
 unfold ma
 congr 1
 refine ext_getElem? λi=>?_
 rw[getElem?_map,getElem?_map]
 by_cases h:i<k.length
 ·rw[List.getElem?_eq_getElem h,List.getElem?_eq_getElem (by rw[length_range];exact h),List.getElem_range]
  show some (if (k[i]).testBit t then (1:Int) else 0)=some (if (k.getD i 0).testBit t then (1:Int) else 0)
  rw[getD_eq_getElem?_getD,List.getElem?_eq_getElem h];rfl
 ·rw[List.getElem?_eq_none (by omega),List.getElem?_eq_none (by rw[length_range];omega)];rfl
theorem zfx {f g:Nat->Int}:∀ l:List Nat,(∀ x∈l,f x<=g x)->(l.map f).sum<=(l.map g).sum
 | [],_=>Int.le_refl _
 | a::r,h=>by
  rw[map_cons,map_cons,sum_cons,sum_cons]
  have:=h a mem_cons_self
  have:=zfx r λx hx=>h x (mem_cons_of_mem _ hx)
  omega
theorem zfl {f g:Nat->Int}:∀ l:List Nat,(∀ x∈l,f x<=g x)->∀ y∈l,f y<g y->(l.map f).sum<(l.map g).sum
 | a::r,h,y,hy,hlt=>by
  rw[map_cons,map_cons,sum_cons,sum_cons]
  have h1:=h a mem_cons_self
  have h2:=zfx r λx hx=>h x (mem_cons_of_mem _ hx)
  rcases mem_cons.mp hy with rfl | hy
  ·omega
  ·have:=zfl r (λx hx=>h x (mem_cons_of_mem _ hx)) y hy hlt
   omega
theorem zjD {k:Kn}(o:IsO k){i j:Nat}(hi:i<k.length)(h:ah k i j=true):ma k i<ma k j:=by
 rw[zf9,zf9]
 refine zfl _ (λx hx=>?_) i (mem_range.mpr hi) ?_
 ·have hx:=mem_range.mp hx
  by_cases z:ah k x i=true
  ·rw[if_pos z,if_pos (o.tr x i j hx hi z h)];exact Int.le_refl _
  ·rw[if_neg z];split <;> omega
 ·rw[if_neg (by rw[o.ir i hi];exact Bool.false_ne_true),if_pos h];decide
theorem zbY {k:Kn}(hz:unp k=[]){i j:Nat}(hi:i<k.length)(hj:j<k.length)(n:i≠j):ah k i j=true\/ah k j i=true:=by
 refine Decidable.byContradiction λz=>?_
 rw[not_or] at z
 have op:opq k i j=true:=by
  unfold opq
  rw[eq_false_iff.mpr z.1,eq_false_iff.mpr z.2];rfl
 by_cases y:i<j
 ·exact List.ne_nil_of_mem (Xk.mpr ⟨y,hj,op⟩:(i,j)∈unp k) hz
 ·exact List.ne_nil_of_mem (Xk.mpr ⟨show j<i by omega,hi,by rw[J2] at op;exact op⟩:(j,i)∈unp k) hz
theorem zcI {k:Kn}(o:IsO k)(hz:unp k=[]):(Look.zax (ma k) k.length).Perm (List.range k.length)/\(Look.zax (ma k) k.length).Pairwise λa b=>ah k a b=true:=by
 have pm:=Look.XS (ma k) k.length
 refine ⟨pm,?_⟩
 refine List.Pairwise.imp_of_mem (R:=λa b=>Look.ltN (ma k) a b/\a≠b) (λ{a b} ha hb h=>?_) ((Look.zbn (ma k) k.length).and (Look.V9 (ma k) k.length))
 have ha:=mem_range.mp (pm.mem_iff.mp ha)
 have hb:=mem_range.mp (pm.mem_iff.mp hb)
 rcases zbY hz ha hb h.2 with z | z
 ·exact z
 ·have:=zjD o hb z
  have h1:=h.1
  unfold Look.ltN at h1
  omega
noncomputable def dRo (k:Kn):PyData:=.tuple ((Look.zax (ma k) k.length).map λ(i:Nat)=>.int (i:Nat))
theorem zc8 {es es' : List PyData}(h:es <+:es'){i:Nat}{d:PyData}(e:es[i]?=some d):es'[i]?=some d:=by
 obtain ⟨r,rfl⟩:=h
 rw[getElem?_append_left (List.getElem?_eq_some_iff.mp e).1];exact e
theorem zh2 {k:Kn}(h:k.length<=4):u k<=6:=by
 unfold u
 rw[Qs]
 have e:((zaI k.length).filter λq=>decide (q.1<q.2)&&opq k q.1 q.2)=(((zaI k.length).filter λq=>decide (q.1<q.2)).filter λq=>opq k q.1 q.2):=by
  rw[List.filter_filter]
  exact filter_congr λq _=>Bool.and_comm _ _
 rw[e]
 refine Nat.le_trans (length_filter_le _ _) ?_
 have:k.length=0\/k.length=1\/k.length=2\/k.length=3\/k.length=4:=by omega
 rcases this with h | h | h | h | h <;> rw[h] <;> decide
theorem zgn {a b:List (Nat×Nat)}(h:dPs a=dPs b):a=b:=by
 injection h with h
 refine (List.map_inj_right λx y e=>?_).mp h
 injection e with e
 injection e with e1 e2
 injection e2 with e2
 injection e1 with e1
 injection e2 with e2
 exact Prod.ext (by omega) (by omega)
theorem zbC (l:List (Nat×Nat)):Pl 2 (dPs l):=Qf λd hd=>by
 obtain ⟨q,_,rfl⟩:=mem_map.mp hd
 exact VM q
noncomputable def knL (i j b c:Nat):PyData:=.tuple [.str (Str.ofString "look"),.int (i:Nat),.int (j:Nat),.int (b:Nat),.int (c:Nat)]
theorem zbK {α:Type}{R:α->α->Prop}:∀ {l:List α},l.Pairwise R->∀ p∈l.zip (l.drop 1),R p.1 p.2
 | [],_,_,h=>nomatch h
 | [a],_,p,h=>by simp at h
 | a::b::r,hp,p,h=>by
  rw[drop_succ_cons,drop_zero,List.zip_cons_cons] at h
  obtain ⟨h1,h2⟩:=pairwise_cons.mp hp
  rcases mem_cons.mp h with rfl | h
  ·exact h1 b mem_cons_self
  ·exact zbK h2 p h
noncomputable def VD:Scope:=match (YT Xm).getD 2 (.Pass ⟨0,0,0,0⟩) with
 | .While _ (_::_ :: .If _ (.Assign _ (.Call _ [.ListComp _ _ sc _] _ _) _::_) _ _::_) _ _=>sc
 | _=>default
noncomputable def wt (k:Kn):Nat:=2 ^ (u k+1)-1
theorem zdA (k:Kn):1<=wt k:=by
 have:1<=2 ^ u k:=Nat.one_le_two_pow
 unfold wt;rw[pow_succ];omega
theorem zh0 {k:Kn}{i j:Nat}(hi:i<k.length)(hj:j<k.length)(n:i≠j)(h:opq k i j=true):2*wt (wl k i j)<wt k:=by
 have u1:=zjT hi hj n h
 have e1:=pow_le_pow_right (n:=2) (by decide) (Nat.succ_le_of_lt u1)
 have:1<=2 ^ (u (wl k i j)+1):=Nat.one_le_two_pow
 unfold wt
 rw[pow_succ 2 (u k)]
 simp only[Nat.succ_eq_add_one] at e1
 omega
noncomputable def pend (t:Nat) (kn:List Kn):Nat:=((kn.drop t).map wt).sum
theorem zcK:∀ l:List Kn,l.length<=(l.map wt).sum
 | []=>Nat.le_refl _
 | a::r=>by
  have:=zcK r
  have:=zdA a
  rw[map_cons,sum_cons,length_cons];omega
theorem zbf (t:Nat)(kn:List Kn):kn.length<=t+pend t kn:=by
 have:=zcK (kn.drop t)
 rw[length_drop] at this
 unfold pend;omega
theorem zaz {t:Nat}{kn ex:List Kn}{h:Kn}(e:kn[t]?=some h):pend (t+1) (kn++ex)+wt h=pend t kn+(ex.map wt).sum:=by
 obtain ⟨ht,e⟩:=List.getElem?_eq_some_iff.mp e
 unfold pend
 rw[List.drop_append_of_le_length (by omega),map_append,List.sum_append,List.drop_eq_getElem_cons ht,map_cons,sum_cons,e]
 omega
noncomputable def zgD (h:Kn):PyData:=.tuple [.str (Str.ofString "told"),dRo h]
inductive zgP (es:List PyData) (kn:List Kn) (a:Nat):Prop
 | told (h:Kn) (_:kn[a]?=some h) (_:unp h=[]) (_:es[a]?=some (zgD h)):zgP es kn a
 | look (h:Kn) (i j b c:Nat) (_:kn[a]?=some h) (_:i<h.length) (_:j<h.length) (_:i≠j) (_:opq h i j=true) (_:es[a]?=some (knL i j b c)) (_:a<b) (_:a<c) (_:kn[b]?=some (wl h i j)) (_:kn[c]?=some (wl h j i)):zgP es kn a
theorem zgP.mono {es es' : List PyData}{kn kn' : List Kn}{a:Nat}(h:zgP es kn a)(h1:es <+:es')(h2:kn <+:kn'):zgP es' kn' a:=by
 have g:∀ {i:Nat}{k:Kn},kn[i]?=some k->kn'[i]?=some k:=λ{i k} e=>by
  obtain ⟨r,rfl⟩:=h2
  rw[getElem?_append_left (List.getElem?_eq_some_iff.mp e).1];exact e
 cases h with
 | told h e z e2=>exact .told h (g e) z (zc8 h1 e2)
 | look h i j b c e hi hj n o e2 hb hc eb ec=>exact .look h i j b c (g e) hi hj n o (zc8 h1 e2) hb hc (g eb) (g ec)
theorem zc0:∀ {a b:Kt},dKt a=dKt b->a=b
 | .told l,.told m,h=>by
  injection h with h;injection h with _ h;injection h with h _
  rw[ze6 h]
 | .told l,.look i j x y,h=>by injection h with h;injection h with _ h;injection h with _ h;cases h
 | .look i j x y,.told l,h=>by injection h with h;injection h with _ h;injection h with _ h;cases h
 | .look i j x y,.look i' j' x' y',h=>by
  injection h with h;injection h with _ h;injection h with h1 h;injection h with h2 h;injection h with h3 h;injection h with h4 h
  injection h1 with h1;injection h2 with h2;injection h3 with h3;injection h4 with h4
  rw[show i=i' by omega,show j=j' by omega,h3,h4]
theorem zc7 {Pd:Kt->Prop}:∀ es:List PyData,(∀ a,a<es.length->∃ t,es[a]?=some (dKt t)/\Pd t)->∃ ks:List Kt,es=ks.map dKt/\∀ t∈ks,Pd t
 | [],_=>⟨[],rfl,λt h=>nomatch h⟩
 | d::r,h=>by
  obtain ⟨t,e,ht⟩:=h 0 (Nat.zero_lt_succ _)
  obtain ⟨ks,e2,hk⟩:=zc7 r λa ha=>h (a+1) (Nat.succ_lt_succ ha)
  refine ⟨t::ks,by rw[map_cons,← e2];injection e with e;rw[e],λx hx=>?_⟩
  rcases mem_cons.mp hx with rfl | hx
  ·exact ht
  ·exact hk x hx
def Sub (k k' : Kn):Prop:=k'.length=k.length/\∀ i j,i<k.length->j<k.length->ah k i j=true->ah k' i j=true
theorem Sub.zhP {k k' : Kn}{i j:Nat}(h:Sub k k')(o:IsO k')(ok:IsO k)(hi:i<k.length)(hj:j<k.length)(hij:ah k' i j=true):Sub (wl k i j) k' := by
 refine ⟨by rw[YH];exact h.1,λa b ha hb e=>?_⟩
 rw[YH] at ha hb
 rw[J9 ha] at e
 simp only[or_eq_true,and_eq_true,beq_iff_eq] at e
 have L:=h.1
 rcases e with e | ⟨e1,e2⟩
 ·exact h.2 a b ha hb e
 ·have h1:ah k' a j=true:=by
   rcases e1 with rfl | e1
   ·exact hij
   ·exact o.tr a i j (by omega) (by omega) (h.2 a i ha hi e1) hij
  rcases e2 with rfl | e2
  ·exact h1
  ·exact o.tr a j b (by omega) (by omega) h1 (h.2 j b hj hb e2)
theorem Sub.ze0 {k k' : Kn}{i j:Nat}(h:Sub k k')(hi:i<k.length)(hj:j<k.length):Sub (wl k i j) (wl k' i j):=by
 refine ⟨by rw[YH,YH];exact h.1,λa b ha hb e=>?_⟩
 rw[YH] at ha hb
 have L:=h.1
 rw[J9 ha] at e
 rw[J9 (by omega)]
 simp only[or_eq_true,and_eq_true,beq_iff_eq] at e ⊢
 rcases e with e | ⟨e1,e2⟩
 ·exact .inl (h.2 a b ha hb e)
 ·exact .inr ⟨e1.imp id λz=>h.2 a i ha hi z,e2.imp id λz=>h.2 j b hj hb z⟩
theorem Va {es:List PyData}{ks:List Kt}{kn:List Kn}(hk:es=ks.map dKt)(hl:es.length=kn.length)(hO:∀ k∈kn,IsO k)(hT:∀ a,a<es.length->zgP es kn a):∀ (N a:Nat),es.length<=a+N->∀ h,kn[a]?=some h->∀ k',IsO k' -> Sub h k' -> ∃ c,Bh ks a k'=some c
 | 0,a,hN,h,e,_,_,_=>by
  have:=(List.getElem?_eq_some_iff.mp e).1
  omega
 | N+1,a,hN,h,e,k',o',sb=>by
  have ha:=(List.getElem?_eq_some_iff.mp e).1
  have oh:=hO h (mem_of_getElem? e)
  have gt:∀ {t:Kt},es[a]?=some (dKt t)->ks[a]?=some t:=λ{t} e=>by
   rw[hk,getElem?_map] at e
   cases e2:ks[a]? with
   | none=>rw[e2] at e;cases e
   | some t' => rw[e2] at e;injection e with e;rw[zc0 e]
  cases hT a (by omega) with
  | told h' e1 z e2=>
   rw[e] at e1;cases e1
   obtain ⟨p,c⟩:=zcI oh z
   have g:=gt (t:=.told (Look.zax (ma h) h.length)) e2
   have hlt:∀ x∈Look.zax (ma h) h.length,x<h.length:=λx hx=>mem_range.mp (p.mem_iff.mp hx)
   refine ⟨0,?_⟩
   rw[zb7,g]
   show stp (Bh ks) a k' (.told _)=_
   rw[zet,if_pos]
   unfold lj
   rw[sb.1,decide_eq_true p,Bool.true_and]
   exact all_eq_true.mpr λq hq=>by
    have m1:=of_mem_zip (a:=q.1) (b:=q.2) hq
    exact sb.2 q.1 q.2 (hlt _ m1.1) (hlt _ (mem_of_mem_drop m1.2)) (zbK c q hq)
  | look h' i j b c e1 hi hj n o e2 hb hc eb ec=>
   rw[e] at e1;cases e1
   have g:=gt (t:=.look i j (b:Nat) (c:Nat)) e2
   have L:=sb.1
   rw[zb7,g]
   show ∃ c',stp (Bh ks) a k' (.look i j (b:Nat) (c:Nat))=some c'
   rw[VJ,if_neg n,za5 (show (a:Int)<(b:Nat) by omega),za5 (show (a:Int)<(c:Nat) by omega),za5 (show (a:Int)<(b:Nat) by omega),za5 (show (a:Int)<(c:Nat) by omega),toNat_natCast,toNat_natCast]
   cases h1:ah k' i j with
   | true=>
    obtain ⟨d,hd⟩:=Va hk hl hO hT N b (by omega) _ eb k' o' (sb.zhP o' oh hi hj h1)
    rw[if_pos rfl,hd];exact ⟨_,rfl⟩
   | false=>
    rw[if_neg Bool.false_ne_true]
    cases h2:ah k' j i with
    | true=>
     obtain ⟨d,hd⟩:=Va hk hl hO hT N c (by omega) _ ec k' o' (sb.zhP o' oh hj hi h2)
     rw[if_pos rfl,hd];exact ⟨_,rfl⟩
    | false=>
     obtain ⟨d,hd⟩:=Va hk hl hO hT N b (by omega) _ eb _ (o'.wl (by omega) (by omega) n h2) (sb.ze0 hi hj)
     obtain ⟨d',hd'⟩:=Va hk hl hO hT N c (by omega) _ ec _ (o'.wl (by omega) (by omega) (Ne.symm n) h1) (sb.ze0 hj hi)
     rw[if_neg Bool.false_ne_true,hd,hd'];exact ⟨_,rfl⟩
theorem zf2 {α:Type}[DecidableEq α]{l:List α}{t:Nat}{x:α}(h:x∈l.drop t):∃ b,t<=b/\b<l.length/\l[b]?=some x/\l.reverse[l.length-1-b]?=some x/\∀ i,i<l.length-1-b->l.reverse[i]?≠some x:=by
 have hm:x∈l.reverse:=List.mem_reverse.mpr (mem_of_mem_drop h)
 have hi:l.reverse.idxOf x<l.reverse.length:=List.idxOf_lt_length_iff.mpr hm
 have e1:l.reverse[l.reverse.idxOf x]?=some x:=by rw[List.getElem?_eq_getElem hi,List.getElem_idxOf hi]
 have no:∀ i,i<l.reverse.idxOf x->l.reverse[i]?≠some x:=λi hi2 e=>by
  obtain ⟨h1,e⟩:=List.getElem?_eq_some_iff.mp e
  have:=List.not_of_lt_findIdx (p:=(· == x)) (xs:=l.reverse) hi2
  rw[e] at this
  simp at this
 generalize l.reverse.idxOf x=j at *
 rw[length_reverse] at hi
 obtain ⟨s,hs,es⟩:=getElem_of_mem h
 rw[List.getElem_drop] at es
 rw[length_drop] at hs
 have hj:j<=l.length-1-(t+s):=Nat.le_of_not_lt λz=>no _ z (by
  rw[List.getElem?_reverse (by omega),show l.length-1-(l.length-1-(t+s))=t+s by omega,List.getElem?_eq_getElem (by omega),es])
 refine ⟨l.length-1-j,by omega,by omega,?_,?_,?_⟩
 ·rw[List.getElem?_reverse (by omega)] at e1;exact e1
 ·rw[show l.length-1-(l.length-1-j)=j by omega];exact e1
 ·rw[show l.length-1-(l.length-1-j)=j by omega];exact no
theorem zhI {k:Kn}{t:Nat}(ht:t<k.length):((((pairsOf k).filter λq=>decide (q.2=t)).length:Nat):Int)=ma k t:=by
 have one:∀ n,((List.range n).filter λj=>decide (j=t)).length=if t<n then 1 else 0:=λn=>by
  induction n with
  | zero=>rfl
  | succ n ih=>
   rw[range_succ,filter_append,length_append,ih]
   by_cases z:n=t
   ·subst z;simp
   ·have:([n].filter λj=>decide (j=t))=[]:=by simp[z]
    rw[this]
    simp only[List.length_nil,Nat.add_zero]
    by_cases y:t<n
    ·rw[if_pos y,if_pos (by omega)]
    ·rw[if_neg y,if_neg (by omega)]
 have row:∀ i,((zhc k i).filter λq=>decide (q.2=t)).length=if ah k i t then 1 else 0:=λi=>by
  unfold zhc
  rw[filter_map,length_map]
  have:((List.range k.length).filter λj=>ah k i j).filter ((λq:Nat×Nat=>decide (q.2=t))∘λj=>(i,j))=if ah k i t then (List.range k.length).filter λj=>decide (j=t) else []:=by
   rw[List.filter_filter]
   by_cases z:ah k i t=true
   ·rw[if_pos z]
    refine filter_congr λj hj=>?_
    show (decide (j=t)&&ah k i j)=decide (j=t)
    by_cases y:j=t
    ·subst y;rw[z];simp
    ·simp[y]
   ·rw[if_neg z]
    refine List.filter_eq_nil_iff.mpr λj hj=>?_
    show ¬ (decide (j=t)&&ah k i j)=true
    by_cases y:j=t
    ·subst y;simp[z]
    ·simp[y]
  rw[this]
  by_cases z:ah k i t=true
  ·rw[if_pos z,if_pos z,one,if_pos ht]
  ·rw[if_neg z,if_neg z];rfl
 have sm:∀ l:List Nat,(((l.flatMap (zhc k)).filter λq=>decide (q.2=t)).length:Int)=(l.map λi=>if ah k i t then (1:Int) else 0).sum:=λl=>by
  induction l with
  | nil=>rfl
  | cons a r ih=>
   rw[flatMap_cons,filter_append,length_append,map_cons,sum_cons,← ih,row,Int.natCast_add]
   congr 1
   split <;> rfl
 rw[zf9]
 exact sm _
theorem ziC (k:Kn):∀ rs:List (Int×Int),rs.Perm ((List.range k.length).map λ(t:Nat)=>(ma k t,(t:Int)))->rs.Pairwise (λa b=>a.1*1000+a.2<=b.1*1000+b.2)->k.length<=8->rs=(Look.zax (ma k) k.length).map λ(t:Nat)=>(ma k t,(t:Int)):=by
 intro rs hp hs h8
 have p2:rs.Perm ((Look.zax (ma k) k.length).map λ(t:Nat)=>(ma k t,(t:Int))):=hp.trans ((Look.XS (ma k) k.length).map _).symm
 refine p2.eq_of_pairwise (le:=λa b=>a.1*1000+a.2<=b.1*1000+b.2) (λa b ha hb h1 h2=>?_) hs ?_
 ·obtain ⟨x,hx,rfl⟩:=mem_map.mp (hp.mem_iff.mp ha)
  obtain ⟨y,hy,rfl⟩:=mem_map.mp hb
  have hx:=mem_range.mp hx
  have hy:=mem_range.mp ((Look.XS (ma k) k.length).mem_iff.mp hy)
  dsimp only at h1 h2
  have:x=y:=by omega
  rw[this]
 ·rw[pairwise_map]
  refine List.Pairwise.imp_of_mem (λ{a b} ha hb h=>?_) (Look.zbn (ma k) k.length)
  have ha:=mem_range.mp ((Look.XS (ma k) k.length).mem_iff.mp ha)
  have hb:=mem_range.mp ((Look.XS (ma k) k.length).mem_iff.mp hb)
  unfold Look.ltN at h
  dsimp only
  omega
inductive zgZ (n:Nat) (ds:List PyData):Prop
 | mk (k:Kn) (_:ds=[dPs (pairsOf k),.int (k.length:Nat)]) (_:IsO k) (_:k.length<=8) (_:u k<=7) (_:n+300<=10 ^ 5):zgZ n ds
inductive RTr (n:Nat) (ds:List PyData) (x:PyData) (n' : Nat):Prop
 | mk (k:Kn) (ks:List Kt) (_:ds=[dPs (pairsOf k),.int (k.length:Nat)]) (_:IsO k) (_:x=dT ks) (_:∀ t∈ks,KtT k.length t) (_:0<ks.length) (_:ks.length<=255) (_:∀ k',IsO k' -> Sub k k' -> ∃ c,Bh ks 0 k'=some c) (_:n' <= n+300):RTr n ds x n'
theorem zfY {W:Nat}(hW:0<W):∀ {ex:List Kn},(∀ x∈ex,2*wt x<W)->ex.length<=2->(ex.map wt).sum<W
 | [],_,_=>hW
 | [a],h,_=>by
  have:=h a mem_cons_self
  show wt a+0<W
  omega
 | [a,b],h,_=>by
  have:=h a mem_cons_self
  have:=h b (mem_cons_of_mem _ mem_cons_self)
  show wt a+(wt b+0)<W
  omega
 | _::_::_::_,_,h=>by simp at h
theorem zbB {a b:Kn}(ha:IsO a)(hb:IsO b)(hl:a.length=b.length)(h:dPs (pairsOf a)=dPs (pairsOf b)):a=b:=by
 rw[← Jo ha,← Jo hb,zgn h,hl]
theorem ziV {l:List Kn}{W:Kn}(h:∀ x∈l,dPs (pairsOf x)=dPs (pairsOf W)->x=W):((l.map λh=>dPs (pairsOf h)).any λe=>PySem.Spec.same e (dPs (pairsOf W)))=decide (W∈l):=by
 rw[Bool.eq_iff_iff,List.any_eq_true,decide_eq_true_iff]
 constructor
 ·rintro ⟨e,he,hs⟩
  obtain ⟨x,hx,rfl⟩:=mem_map.mp he
  by_cases z:dPs (pairsOf x)=dPs (pairsOf W)
  ·rw[← h x hx z];exact hx
  ·rw[Qq z] at hs;cases hs
 ·intro hW
  exact ⟨_,mem_map.mpr ⟨W,hW,rfl⟩,same_self _⟩
theorem Ua {k:Kn}(h:k.length<=8):(pairsOf k).length<=64:=by
 rw[XR]
 refine Nat.le_trans (length_filter_le _ _) ?_
 rw[Jt]
 exact mul_le_mul h h
section
theorem zgr {B:Hp}{ρ:List PV}{h:Kn}{n:Nat}(hn:h.length=n)(h8:n<=8)(h2:ρ[2]?=some (.dat (.int (n:Nat))))(h5:ρ[5]?=some (.dat (dPs (pairsOf h)))):Er K B (tCB (zeS K) (Xc (tLC (zcM (Xc (WL 2) QT)) [5] zen (zfo (Xc (tCB (λxs H Q=>∃ p ys,xs=[.ref p]/\(SqL K H p ys\/SqT K H p ys)/\Q (.int ys.length) H) (Xc (tLC (zja K (WL 1)) [0] (za7 (tOp rEq (tOp (zhf K) (WL 0) (tC (.int 1))) (WL 1))) (tC (.int 1))) QT)) (Xc (WL 0) QT)))) QT)) ρ (.list ((Look.zax (ma h) h.length).map λ(t:Nat)=>PyData.tuple [.int (ma h t),.int (t:Nat)])):=by
 have zl:(2000:Nat)<sizeLine:=by decide
 subst hn
 have pl:=Ua h8
 refine Yo (zgL (ps:=(List.range h.length).map λ(t:Nat)=>(ma h t,(t:Int))) (qs:=(Look.zax (ma h) h.length).map λ(t:Nat)=>(ma h t,(t:Int))) (Zc (Yo (zg4 (js:=[5]) (List.range h.length) (λ(t:Nat)=>PyData.int (t:Nat)) (λ(t:Nat)=>some (.tuple [.int (ma h t),.int (t:Nat)])) (WQ (Zc (Zb h2) Zg) (by omega)) (by rw[length_range];omega) λt ht=>lx1 Qo (ZM (Zc (Yo (XC (Zc (zg4 (js:=[0]) (pairsOf h) dP (λq=>if decide (q.2=t) then some (.int 1) else none) (zbx (Zb (by show (zbO ρ [5])[0]?=_;unfold zbO;simp[h5]))) (by omega) λq hq=>lxB (W9 (Zu (Xy (Yd (n:=1) (Zb rfl) Zi rfl rfl) (Zb rfl))) (decide_eq_decide.mpr ⟨λe=>by omega,λe=>by omega⟩)) λ_=>Zi) Zg)) ?_) (Zc (Zb rfl) Zg)) (by show 2<=sizeLine;decide))) ?_) Zg) (by rw[length_map,length_range];omega) (λq hq=>?_) λrs h1 h2=>ziC h rs h1 h2 h8) (by rw[map_map];rfl)
 ·rw[U6,length_map]
  congr 1
  exact zhI (mem_range.mp ht)
 ·have e:(λ(t:Nat)=>some (PyData.tuple [.int (ma h t),.int (t:Nat)]))=some∘λ(t:Nat)=>PyData.tuple [.int (ma h t),.int (t:Nat)]:=rfl
  rw[e,List.filterMap_eq_map,map_map];rfl
 ·obtain ⟨t,ht,rfl⟩:=mem_map.mp hq
  have:=mem_range.mp ht
  exact ⟨by dsimp only;omega,by dsimp only;omega⟩
theorem zfA (T:Top K mg):T.WP.O P w base 2 (spT (lkT K) zgZ RTr):=by
 have G__law_next:=@zaN T
 have G__law_closed:=@zeY T
 have G__law_open:=@zcV T
 refine T.WP.F.okT Yb (by rintro _ _ ⟨_,rfl,_⟩;rfl) λcdv A outer s H E hr p fp n ds hP=>?_
 obtain ⟨k,rfl,hO,h4,hu7,hn⟩:=hP
 have hu:=hr.units
 have zl:(2000:Nat)<sizeLine:=by decide
 have wk:wt k<=255:=by
  have:=pow_le_pow_right (n:=2) (by decide) (show u k+1<=8 by omega)
  unfold wt
  omega
 refine ⟨_,(Ze (Zr (i:=3) Yb.nd rfl (Or.inl rfl) (Yp (Za (pv 1) Zf Zd)))
   (Ze (Zr (i:=4) Yb.nd rfl (Or.inl rfl) (Yp Zf))
   (Ze (J1 PassesOwn.never (Zy U9 (ZJ (Z0 (K:=K) rfl) (by rfl) T.VH PySem.boot_len (Za (pv 4) Zf Zd)) (ZJ (Z0 (K:=K) rfl) (by rfl) T.VH PySem.boot_len (Za (pv 3) Zf Zd)) (ZR _)) (Ze (Zr (i:=5) Yb.nd rfl (Or.inr rfl) (Ym (Yt (K:=K) rfl) (pv 3) (ZJ (Z0 (K:=K) rfl) (by rfl) T.VH PySem.boot_len (Za (pv 4) Zf Zd)) (λ_ _=>rfl)))
   (Ze (Zr (i:=6) Yb.nd rfl (Or.inl rfl) (peN T.Wg G__law_open hr (Za (pv 5) (Za (pv 2) Zf Zd) Zd)))
   (Zm (YX (Zy (Ut (K:=K) rfl hu) (pv 6) (Yp Zf) (ZR _)) (Ze (Zr (i:=7) Yb.nd rfl (Or.inl rfl) (ZJ (zaG (K:=K) rfl) (by rfl) T.Qt JR (Za (zhz (x:= "place") (cap:=["here"]) (js:=[5]) ⟨rfl,(λ_ _=>rfl),(λ_=>rfl),by decide +kernel,by decide +kernel,rfl,(by show ∀ p∈(_:List (Str×NameKind)),p.2=NameKind.free->List.lookup p.1 (Zn Xm).names=some NameKind.cell;decide +kernel),by decide +kernel,by decide +kernel,by decide +kernel⟩ rfl rfl (λ_ _ h=>h) (Xe (by rfl) T.Wn (Za (pv 2) Zf Zd)) (λ_ _ _ _ _=>⟨Qy,(ZG (Za (ZJ (Z0 (K:=K) rfl) (by rfl) T.VH PySem.boot_len (Za (zhK (x:= "pair") (cap:=["place"]) (js:=[0]) ⟨rfl,by decide +kernel,by decide +kernel,rfl,(by show ∀ p∈(_:List (Str×NameKind)),p.2=NameKind.free->List.lookup p.1 (zkv VD (Zn Xm))=some NameKind.cell;decide +kernel),by decide +kernel,by decide +kernel,by decide +kernel⟩ rfl rfl (λ_ _ h=>h) (zfK (K:=K) rfl (pv 1)) (λ_ _ _ _=>⟨(Vz (Zy XF (Ym (ZQ (K:=K) rfl) (pv 0) Zh (λ_ _=>rfl)) (pv 1) (ZR _))),Zh⟩)) Zf Xi)) (Za (pv 0) Zf Zd) XX))⟩)) Zf Xi)))
   (Zm (Wu (QV plainAttrs_list PySem.F.slot_list_append PySem.F.type_list_append Xr (pv 4) (Za (ZG (Za Ji (Za (Xf (Y4 (K:=K) rfl) (by rfl) T.QB zff (Za (VF (x:= "some") (x2:= "place") (cap:=[]) (js:=[]) ⟨rfl,by decide +kernel,by decide +kernel,rfl,rfl,(by show ∀ p∈(_:List (Str×NameKind)),p.2=NameKind.free->List.lookup p.1 (Zn Xm).names=some NameKind.cell;decide +kernel),by decide +kernel,by decide +kernel,by decide +kernel⟩ rfl rfl (λ_ _ h=>h) (Wv (pv 7)) (λ_ _ _ _=>⟨Qy,(pv 1)⟩)) Zf Xi)) Zf XX) Zx)) Zf Yc))))) (Ze (Zr (i:=8) Yb.nd rfl (Or.inl rfl) (peN T.ZL G__law_next hr (Za (pv 0) Zf Zd)))
   (Ze (zbI (Ym (Yt (K:=K) rfl) (pv 6) (Zo Yn (Zo YJ (pv 8) Zh) (ZJ (Z0 (K:=K) rfl) (by rfl) T.VH PySem.boot_len (Za (pv 6) Zf Zd))) (λ_ _=>rfl)) (QC (n:=2) rfl (Yv (Z8 (i:=9) Yb.nd rfl (Or.inl rfl)) (Yv (Z8 (i:=10) Yb.nd rfl (Or.inl rfl)) Jd)) (by rfl)))
   (Ze (YX (Zy XF (Zo Yn (pv 8) Zh) Zh (ZR _)) (Zm (zil (i:=9) (j:=10) rfl Yb.nd rfl rfl (by decide) rfl rfl (Za (pv 10) (Za (pv 9) Zf Zd) Zd) (by rfl))) ZX)
   (Ze (Zr (i:=11) Yb.nd rfl (Or.inl rfl) (Yp Zf))
   (Ze (Wa PassesOwn.never rfl (Wv (Yp (Za (ZG (Za (pv 9) (Za (pv 10) Zf Zd) Zd)) (Za (ZG (Za (pv 10) (Za (pv 9) Zf Zd) Zd)) Zf Yc) Yc))) (Z8 (i:=12) Yb.nd rfl (Or.inl rfl)) (Ze (Zr (i:=13) Yb.nd rfl (Or.inl rfl) (peN T.Yi G__law_closed hr (Za (Zo (ZP (K:=K) rfl) (pv 5) (ZG (Za (pv 12) Zf Zd))) Zf Yg)))
   (Ze (YX (Zy (Vr (K:=K) rfl hu) (pv 13) (ZK (zbo (K:=K) rfl) (pv 3) (Z3 (Zo YF (ZJ (Z0 (K:=K) rfl) (by rfl) T.VH PySem.boot_len (Za (pv 4) Zf Zd)) Zh)) Z7) (by rfl)) (Zm (Wu (QV plainAttrs_list PySem.F.slot_list_append PySem.F.type_list_append Xr (pv 3) (Za (pv 13) Zf Zd)))) ZX)
   (Zm (Wu (QV plainAttrs_list PySem.F.slot_list_append PySem.F.type_list_append Xr (pv 11) (Za (Zo QG (Zo QG (ZJ (Z0 (K:=K) rfl) (by rfl) T.VH PySem.boot_len (Za (pv 3) Zf Zd)) Zh) (QV plainAttrs_list PySem.F.slot_list_index PySem.F.type_list_index (zeo (K:=K) rfl hu) (zc9 (pv 3) Z7 Z7 (Z3 (zdM zav Zh))) (Za (pv 13) Zf Zd))) Zf Yg)))))))
   (Zm (Wu (QV plainAttrs_list PySem.F.slot_list_append PySem.F.type_list_append Xr (pv 4) (Za (ZG (Za Ji (Za (pv 9) (Za (pv 10) (Za (Ym (Yt (K:=K) rfl) (pv 11) Zh (λ_ _=>rfl)) (Za (Ym (Yt (K:=K) rfl) (pv 11) Zh (λ_ _=>rfl)) Zf Zt) Zt) Zd) Zd) Zx)) Zf Yc))))))))))))))
   (Zm (Z5 (Xf (Y4 (K:=K) rfl) (by rfl) T.QB zff (Za (pv 4) Zf Zd))))))) ,?_⟩
 refine Zj (Zq (JC (Zc (Zb rfl) Zg) (by show 1<=sizeLine;decide) ?_))
 refine Zj (Zq (JC Zg (by show 0<=sizeLine;decide) ?_))
 show Sv K B0 _ [(lkT K).pv n p fp,.dat (dPs (pairsOf k)),.dat (.int (k.length:Nat)),.own [dPs (pairsOf k)],.own [],.un,.un,.un,.un,.un,.un,.un,.un,.un] _
 refine Zj (JZ (fun μ ρ=>∃ (c:Nat) (kn:List Kn) (es:List PyData) (v5 v6 v7 v8 v9 v10 v11 v12 v13:PV),kn[0]?=some k/\(∀ h∈kn,IsO h/\h.length=k.length)/\(∀ a,a<es.length->zgP es kn a)/\es.length<=kn.length/\pend es.length kn=μ/\es.length+μ<=255/\c<=n+es.length/\ρ=[(lkT K).pv c p fp,.dat (dPs (pairsOf k)),.dat (.int (k.length:Nat)),.own (kn.map λh=>dPs (pairsOf h)),.own es,v5,v6,v7,v8,v9,v10,v11,v12,v13]) (wt k) ⟨n,[k],[],_,_,_,_,_,_,_,_,_,rfl,λh hh=>by rw[mem_singleton.mp hh];exact ⟨hO,rfl⟩,(λa ha=>absurd ha (not_lt_zero _)),zero_le _,Nat.add_zero _,by show 0+wt k<=255;omega,Nat.le_refl _,rfl⟩ ?_)
 rintro μ _ ⟨c,kn,es,v5,v6,v7,v8,v9,v10,v11,v12,v13,hk0,hkn,hT,hle,hμ,h127,hc,rfl⟩
 have hknl:kn.length<=255:=by have:=zbf es.length kn;omega
 refine ⟨decide (es.length<kn.length),W9 (Zu (Y5 (XC (Zc (JB rfl rfl) Zg)) (Yo (XC (Zc (JB rfl rfl) Zg)) (congrArg (λ(x:Nat)=>PyData.int (x:Nat)) (length_map _))) λ_=>Yy _)) (decide_eq_decide.mpr ⟨λe=>by omega,λe=>by omega⟩),λh=>?_,λh=>?_⟩
 ·have hlt:es.length<kn.length:=of_decide_eq_true h
  obtain ⟨h0,he0⟩:∃ h0,kn[es.length]?=some h0:=⟨_,List.getElem?_eq_getElem hlt⟩
  obtain ⟨o0,l0⟩:=hkn h0 (mem_of_getElem? he0)
  have p0:=Ua (k:=h0) (by omega)
  refine Zj (Zq (zcx (zdS (ds:=kn.map λh=>dPs (pairsOf h)) (n:=es.length) (d:=dPs (pairsOf h0)) rfl rfl (XC (ds:=es) (Zc (JB rfl rfl) Zg)) (by rw[length_map];exact YL hlt) (by rw[getElem?_map,he0];rfl)) ?_))
  refine Zj (Zq (Zv (Yz (Zc (Zb rfl) (Zc (Yo (Zb rfl) (show PyData.int ((k.length:Nat):Int) = .int ((h0.length:Nat):Int) by rw[l0])) Zg)) (ROp.mk h0 (by omega))) ?_))
  show Sv K B0 _ [(lkT K).pv c p fp,.dat (dPs (pairsOf k)),.dat (.int (k.length:Nat)),.own (kn.map λh=>dPs (pairsOf h)),.own es,.dat (dPs (pairsOf h0)),.dat (.list ((opn h0).map dP)),v7,v8,v9,v10,v11,v12,v13] _
  refine Xl (b:=decide (opn h0=[])) (W9 (Zu (Jh (n:=2) (Zb rfl) (YD Zg (by show 0<=sizeLine;decide)) (zbt _) (Wb λd hd=>by cases hd) (by decide))) ?_) (λhz=>?_) λhz=>?_
  ·cases opn h0 with
   | nil=>rfl
   | cons a r=>rfl
  ·have hz:opn h0=[]:=of_decide_eq_true hz
   have hz2:unp h0=[]:=List.eq_nil_iff_forall_not_mem.mpr λq hq=>by
    have:=zaS.mpr hq
    rw[hz] at this;cases this
   refine Zj (Zq (Zv (zgr l0 (by omega) rfl rfl) ?_))
   refine J8 (Zv (ZM (Zc Wf (Zc (We (Zc (Yo (Q9 (js:=[]) (Look.zax (ma h0) h0.length) (λ(t:Nat)=>.int (ma h0 t)) (λ(t:Nat)=>.int (t:Nat)) (λ(t:Nat)=>some (.int (t:Nat))) (Jz (Zb rfl)) (by rw[(Look.XS _ _).length_eq,length_range];omega) λt ht=>lx1 Qo (Zb rfl)) (show _=PyData.list ((Look.zax (ma h0) h0.length).map λ(i:Nat)=>.int (i:Nat)) from congrArg PyData.list (congrFun List.filterMap_eq_map _))) Zg)) Zg)) (by show 2<=sizeLine;decide)) ⟨_,_,_,rfl,rfl,rfl,by omega,?_⟩) rfl rfl
   have hp:=zaz (ex:=[]) he0
   rw[append_nil] at hp
   have e0:(([]:List Kn).map wt).sum=0:=rfl
   have:=zdA h0
   have lS:(es++[zgD h0]).length=es.length+1:=by rw[length_append];rfl
   refine ⟨pend (es.length+1) kn,by omega,c,kn,es++[zgD h0],_,_,_,_,_,_,_,_,_,hk0,hkn,λa ha=>?_,by omega,by rw[lS],by omega,by omega,rfl⟩
   by_cases z:a<es.length
   ·exact (hT a z).mono (prefix_append _ _) (List.prefix_refl _)
   ·have:a=es.length:=by omega
    subst this
    exact .told h0 he0 hz2 (by rw[getElem?_append_right (Nat.le_refl _),sub_self];rfl)
  ·have hz:opn h0≠[]:=of_decide_eq_false hz
   have hN:0<(opn h0).length:=length_pos_iff.mpr hz
   refine Zj (Zq (zb0 (c:=c) rfl (by omega) λz=>?_))
   have em:∀ x y:Int,0<y->0<=x % y/\x % y<y:=λx y h=>⟨emod_nonneg _ (by omega),emod_lt_of_pos _ h⟩
   obtain ⟨a,ha⟩:=eq_ofNat_of_zero_le (em (z / 2) ((opn h0).length:Int) (by omega)).1
   have han:a<(opn h0).length:=by have:=em (z / 2) ((opn h0).length:Int) (by omega);omega
   obtain ⟨q,hq⟩:∃ q,(opn h0)[a]?=some q:=⟨_,List.getElem?_eq_getElem han⟩
   obtain ⟨q1,q2,q3⟩:=Xk.mp (zaS.mp (mem_of_getElem? hq))
   refine Zj (zaL (zeq (XM (ds:=(opn h0).map dP) (n:=a) (d:=dP q) (Zb rfl) (YQ (YQ (Zb rfl) Zi ⟨by decide,w0 (by decide)⟩ λ_=>Zk _) (Yo (XC (Zc (Zb rfl) Zg)) (congrArg (λ(x:Nat)=>PyData.int (x:Nat)) (length_map _))) (show (0:Int)<((opn h0).length:Nat) by omega) λ_=>by rw[ha];exact Zk _) (by rw[length_map];exact YL han) (by rw[getElem?_map,hq];rfl))) (V1 ?_))
   show Sv K B0 _ [(lkT K).pv (c+1) p fp,.dat (dPs (pairsOf k)),.dat (.int (k.length:Nat)),.own (kn.map λh=>dPs (pairsOf h)),.own es,.dat (dPs (pairsOf h0)),.dat (.list ((opn h0).map dP)),v7,.dat (.int z),.dat (.int (q.1:Nat)),.dat (.int (q.2:Nat)),v11,v12,v13] _
   refine JF (fun ρ' => ∃ i j:Nat,i<h0.length/\j<h0.length/\i≠j/\opq h0 i j=true/\ρ'=[(lkT K).pv (c+1) p fp,.dat (dPs (pairsOf k)),.dat (.int (k.length:Nat)),.own (kn.map λh=>dPs (pairsOf h)),.own es,.dat (dPs (pairsOf h0)),.dat (.list ((opn h0).map dP)),v7,.dat (.int z),.dat (.int (i:Nat)),.dat (.int (j:Nat)),v11,v12,v13]) (Xl (Zu (Xy (YQ (Zb rfl) Zi (by decide) λ_=>Zk _) Zi)) (λ_=>zhC (Zc (Zb rfl) (Zc (Zb rfl) Zg)) ⟨q.2,q.1,q2,by omega,by omega,by rw[J2];exact q3,rfl⟩) λ_=>ZZ ⟨q.1,q.2,by omega,q2,by omega,q3,rfl⟩) ?_
   clear q1 q2 q3 hq q
   rintro _ ⟨i,j,hi,hj,hne,hop,rfl⟩
   have ho:ah h0 i j=false/\ah h0 j i=false:=by unfold opq at hop;simpa using hop
   have O1:IsO (wl h0 i j):=o0.wl hi hj hne ho.2
   have O2:IsO (wl h0 j i):=o0.wl hj hi (Ne.symm hne) ho.1
   have hop' : opq h0 j i=true:=by rw[J2];exact hop
   refine Zj (Zq (JC Zg (by show 0<=sizeLine;decide) ?_))
   refine Zj (Wr [(i,j),(j,i)] dP (Jz (YD (Zc (ZM (Zc (Zb rfl) (Zc (Zb rfl) Zg)) (by show 2<=sizeLine;decide)) (Zc (ZM (Zc (Zb rfl) (Zc (Zb rfl) Zg)) (by show 2<=sizeLine;decide)) Zg)) (by show 2<=sizeLine;decide))) (λs ρ' => ∃ (ex:List Kn) (gs:List Nat) (v12 v13:PV),(∀ x∈ex,x=wl h0 i j\/x=wl h0 j i)/\ex.length<=s/\gs.length=s/\(∀ q,q<s->∃ b:Nat,gs[q]?=some b/\es.length<b/\(kn++ex)[b]?=some (if q=0 then wl h0 i j else wl h0 j i))/\ρ'=[(lkT K).pv (c+1) p fp,.dat (dPs (pairsOf k)),.dat (.int (k.length:Nat)),.own ((kn++ex).map λh=>dPs (pairsOf h)),.own es,.dat (dPs (pairsOf h0)),.dat (.list ((opn h0).map dP)),v7,.dat (.int z),.dat (.int (i:Nat)),.dat (.int (j:Nat)),.own (gs.map λ(b:Nat)=>.int (b:Nat)),v12,v13]) ⟨[],[],_,_,(λx h=>nomatch h),Nat.le_refl _,rfl,(λq h=>absurd h (not_lt_zero _)),by rw[append_nil];rfl⟩ ?_ ?_)
   ·rintro s hs _ ⟨ex,gs,v12,v13,hex,hexl,hgl,hgs,rfl⟩
    have hs2:s<2:=hs
    obtain ⟨x,y,exy,hx,hy,hxy,Oxy,hW⟩:∃ x y,[(i,j),(j,i)][s]=(x,y)/\x<h0.length/\y<h0.length/\(wl h0 x y=wl h0 i j\/wl h0 x y=wl h0 j i)/\IsO (wl h0 x y)/\(if s=0 then wl h0 i j else wl h0 j i)=wl h0 x y:=by
     have:s=0\/s=1:=by omega
     rcases this with rfl | rfl
     ·exact ⟨i,j,rfl,hi,hj,.inl rfl,O1,rfl⟩
     ·exact ⟨j,i,rfl,hj,hi,.inr rfl,O2,rfl⟩
    rw[exy]
    refine Wj ?_
    show Sv K B0 _ [(lkT K).pv (c+1) p fp,.dat (dPs (pairsOf k)),.dat (.int (k.length:Nat)),.own ((kn++ex).map λh=>dPs (pairsOf h)),.own es,.dat (dPs (pairsOf h0)),.dat (.list ((opn h0).map dP)),v7,.dat (.int z),.dat (.int (i:Nat)),.dat (.int (j:Nat)),.own (gs.map λ(b:Nat)=>.int (b:Nat)),.dat (dP (x,y)),v13] _
    refine Zj (Zq (Zv (Yo (Yz (Zc (Yo (YC (Zb rfl) (ZM (Zc (Zb rfl) Zg) (by show 1<=sizeLine;decide)) (by rw[length_map];show (pairsOf h0).length+1<=sizeLine;omega)) (show _=dPs (pairsOf h0++[(x,y)]) by show PyData.tuple _=PyData.tuple _;rw[map_append];rfl)) Zg) (RLt.mk (pairsOf h0++[(x,y)]) h0.length (by omega) (λr hr=>?_) (by rw[JV o0];exact Oxy))) (congrArg (λk=>dPs (pairsOf k)) (JV o0 x y))) ?_))
    ·rcases mem_append.mp hr with hr | hr
     ·exact ⟨(Yh.mp hr).1,(Yh.mp hr).2.1⟩
     ·rw[mem_singleton.mp hr];exact ⟨hx,hy⟩
    have lxy:(wl h0 x y).length=k.length:=by rw[YH];exact l0
    generalize wl h0 x y=W at *
    show Sv K B0 _ [(lkT K).pv (c+1) p fp,.dat (dPs (pairsOf k)),.dat (.int (k.length:Nat)),.own ((kn++ex).map λh=>dPs (pairsOf h)),.own es,.dat (dPs (pairsOf h0)),.dat (.list ((opn h0).map dP)),v7,.dat (.int z),.dat (.int (i:Nat)),.dat (.int (j:Nat)),.own (gs.map λ(b:Nat)=>.int (b:Nat)),.dat (dP (x,y)),.dat (dPs (pairsOf W))] _
    have all:∀ h∈kn++ex,IsO h/\h.length=k.length:=λh hh=>by
     rcases mem_append.mp hh with hh | hh
     ·exact hkn h hh
     ·rcases hex h hh with rfl | rfl
      ·exact ⟨O1,by rw[YH];exact l0⟩
      ·exact ⟨O2,by rw[YH];exact l0⟩
    have hkl:(kn++ex).length<=257:=by rw[length_append];omega
    have pls:∀ l:List Kn,∀ e∈l.map (λh=>dPs (pairsOf h)),Pl 60 e:=λl e he=>by obtain ⟨h,_,rfl⟩:=mem_map.mp he;exact (zbC _).mono (by decide)
    refine JF (fun ρ' => ∃ ex' : List Kn,(∀ x∈ex',x=wl h0 i j\/x=wl h0 j i)/\ex'.length<=s+1/\ex <+:ex' /\ W∈(kn++ex').drop (es.length+1)/\ρ'=[(lkT K).pv (c+1) p fp,.dat (dPs (pairsOf k)),.dat (.int (k.length:Nat)),.own ((kn++ex').map λh=>dPs (pairsOf h)),.own es,.dat (dPs (pairsOf h0)),.dat (.list ((opn h0).map dP)),v7,.dat (.int z),.dat (.int (i:Nat)),.dat (.int (j:Nat)),.own (gs.map λ(b:Nat)=>.int (b:Nat)),.dat (dP (x,y)),.dat (dPs (pairsOf W))]) (Xl (b:=!decide (W∈(kn++ex).drop (es.length+1))) (W9 (Zu (za0 (neg:=true) (Zb rfl) (Yo (zgT (JB rfl rfl) (Y5 (XC (Zc (JB rfl rfl) Zg)) Zi λ_=>Zk _)) (show _=PyData.list (((kn++ex).drop (es.length+1)).map λh=>dPs (pairsOf h)) by rw[map_drop];exact congrArg PyData.list (Jp (es.length+1) _))) ((zbC _).mono (by decide)) (pls _))) ?_) (λhb=>?_) λhb=>?_) ?_
    ·rw[if_pos rfl,ziV λv hv e=>zbB (all v (mem_of_mem_drop hv)).1 Oxy (by rw[(all v (mem_of_mem_drop hv)).2,lxy]) e]
    ·have hb:W∉(kn++ex).drop (es.length+1):=by simpa using hb
     refine J8 (Zv (Zb rfl) ⟨_,_,_,rfl,rfl,rfl,by rw[length_map];omega,ex++[W],λv hv=>?_,by rw[length_append];show ex.length+1<=s+1;omega,prefix_append _ _,?_,?_⟩) rfl rfl
     ·rcases mem_append.mp hv with hv | hv
      ·exact hex v hv
      ·rw[mem_singleton.mp hv];exact hxy
     ·rw[← append_assoc,List.drop_append_of_le_length (by rw[length_append];omega)]
      exact mem_append_right _ (mem_singleton_self _)
     ·rw[← append_assoc,map_append (l₁:=kn++ex)];rfl
    ·have hb:W∈(kn++ex).drop (es.length+1):=by simpa using hb
     exact ZZ ⟨ex,hex,by omega,List.prefix_refl _,hb,rfl⟩
    ·rintro _ ⟨ex',hex',hexl',hpre,hin,rfl⟩
     obtain ⟨b,hb1,hb2,hb3,hb4,hb5⟩:=zf2 hin
     have all' : ∀ h∈kn++ex',IsO h/\h.length=k.length:=λh hh=>by
      rcases mem_append.mp hh with hh | hh
      ·exact hkn h hh
      ·rcases hex' h hh with rfl | rfl
       ·exact ⟨O1,by rw[YH];exact l0⟩
       ·exact ⟨O2,by rw[YH];exact l0⟩
     have hkl' : (kn++ex').length<=258:=by rw[length_append];omega
     refine J8 (Ue (Yo (Y5 (Y5 (XC (ds:=(kn++ex').map λh=>dPs (pairsOf h)) (Zc (JB rfl rfl) Zg)) Zi λ_=>Zk _) (zg3 (j:=(kn++ex').length-1-b) (zh7 (ds:=(kn++ex').map λh=>dPs (pairsOf h)) (JB rfl rfl) (by rw[length_map];omega)) (Zb rfl) ((zbC _).mono (by decide)) (λe he=>pls (kn++ex') e (List.mem_reverse.mp he)) ?_ ?_) λ_=>Zk _) (show _=PyData.int ((b:Nat):Int) from ?_)) rfl ⟨_,_,_,rfl,rfl,rfl,by rw[length_map];omega,ex',gs++[b],.dat (dP (x,y)),.dat (dPs (pairsOf W)),hex',hexl',by rw[length_append,hgl];rfl,λq hq=>?_,by rw[map_append (l₁:=gs)];rfl⟩) rfl rfl
     ·rw[← List.map_reverse,getElem?_map,hb4];rfl
     ·intro v hv e
      rw[← List.map_reverse,getElem?_map] at e
      cases e2:(kn++ex').reverse[v]? with
      | none=>rw[e2] at e;cases e
      | some W2=>
       rw[e2] at e
       have hm:=all' W2 (List.mem_reverse.mp (mem_of_getElem? e2))
       have:=zbB hm.1 Oxy (by rw[hm.2,lxy]) (Option.some.inj e)
       rw[this] at e2
       exact hb5 v hv e2
     ·rw[length_map]
      congr 1
      omega
     ·by_cases z:q<s
      ·obtain ⟨b',e1,e2,e3⟩:=hgs q z
       refine ⟨b',by rw[getElem?_append_left (by omega)];exact e1,e2,?_⟩
       obtain ⟨r,rfl⟩:=hpre
       rw[← append_assoc,getElem?_append_left (List.getElem?_eq_some_iff.mp e3).1];exact e3
      ·have:q=s:=by omega
       subst this
       refine ⟨b,by rw[getElem?_append_right (by omega),hgl,sub_self];rfl,by omega,?_⟩
       rw[hW];exact hb3
   ·rintro _ ⟨ex,gs,v12,v13,hex,hexl,hgl,hgs,rfl⟩
    obtain ⟨b0,g0,lt0,k0⟩:=hgs 0 (by show 0<2;decide)
    obtain ⟨b1,g1,lt1,k1⟩:=hgs 1 (by show 1<2;decide)
    have hgl:gs.length=2:=hgl
    have hexl:ex.length<=2:=hexl
    refine Us 11 rfl ?_
    show Sv K B0 _ [(lkT K).pv (c+1) p fp,.dat (dPs (pairsOf k)),.dat (.int (k.length:Nat)),.own ((kn++ex).map λh=>dPs (pairsOf h)),.own es,.dat (dPs (pairsOf h0)),.dat (.list ((opn h0).map dP)),v7,.dat (.int z),.dat (.int (i:Nat)),.dat (.int (j:Nat)),.dat (.list (gs.map λ(b:Nat)=>.int (b:Nat))),v12,v13] _
    have hp:=zaz (ex:=ex) he0
    have hsum:=zfY (W:=wt h0) (zdA h0) (ex:=ex) (λx hx=>by
     rcases hex x hx with rfl | rfl
     ·exact zh0 hi hj hne hop
     ·exact zh0 hj hi (Ne.symm hne) hop') hexl
    have lS:(es++[knL i j b0 b1]).length=es.length+1:=by rw[length_append];rfl
    refine J8 (Zv (d:=knL i j b0 b1) (ZM (Zc Wf (Zc (Zb rfl) (Zc (Zb rfl) (Zc (XM (ds:=gs.map λ(b:Nat)=>.int (b:Nat)) (n:=0) (Zb rfl) Zi (by rw[length_map,hgl];rfl) (by rw[getElem?_map,g0];rfl)) (Zc (XM (ds:=gs.map λ(b:Nat)=>.int (b:Nat)) (n:=1) (Zb rfl) Zi (by rw[length_map,hgl];rfl) (by rw[getElem?_map,g1];rfl)) Zg))))) (by show 5<=sizeLine;decide)) ⟨_,_,_,rfl,rfl,rfl,by omega,?_⟩) rfl rfl
    refine ⟨pend (es.length+1) (kn++ex),by omega,c+1,kn++ex,es++[knL i j b0 b1],_,_,_,_,_,_,_,_,_,?_,λh hh=>?_,λa ha=>?_,by rw[lS,length_append];omega,by rw[lS],by omega,by omega,rfl⟩
    ·rw[getElem?_append_left (List.getElem?_eq_some_iff.mp hk0).1];exact hk0
    ·rcases mem_append.mp hh with hh | hh
     ·exact hkn h hh
     ·rcases hex h hh with rfl | rfl
      ·exact ⟨O1,by rw[YH];exact l0⟩
      ·exact ⟨O2,by rw[YH];exact l0⟩
    ·by_cases z:a<es.length
     ·exact (hT a z).mono (prefix_append _ _) (prefix_append _ _)
     ·have:a=es.length:=by omega
      subst this
      exact .look h0 i j b0 b1 (by rw[getElem?_append_left hlt];exact he0) hi hj hne hop (by rw[getElem?_append_right (Nat.le_refl _),sub_self];rfl) lt0 lt1 k0 k1
 ·have hge:¬ es.length<kn.length:=of_decide_eq_false h
  have hl:es.length=kn.length:=by omega
  have hpl:=zbf es.length kn
  obtain ⟨ks,rfl,hin⟩:=zc7 (Pd:=KtT k.length) es λa ha=>by
   cases hT a ha with
   | told h e1 z e2=>
    have hh:=(hkn h (mem_of_getElem? e1)).2
    exact ⟨.told (Look.zax (ma h) h.length),e2,show (Look.zax (ma h) h.length).length<=8 by rw[(Look.XS _ _).length_eq,length_range];omega⟩
   | look h i j b c e1 hi hj n o e2 hb hc eb ec=>
    have hh:=(hkn h (mem_of_getElem? e1)).2
    exact ⟨.look i j (b:Nat) (c:Nat),e2,⟨by omega,by omega⟩⟩
  have kl:0<kn.length:=(List.getElem?_eq_some_iff.mp hk0).1
  have key:=λk' o' sb=>Va (es:=ks.map dKt) rfl hl (λh hh=>(hkn h hh).1) hT (ks.map dKt).length 0 (by omega) k hk0 k' o' sb
  rw[length_map] at hl h127 hc
  refine Us 4 rfl ?_
  exact Z6 (Zv (We (Zc (Zb rfl) Zg)) ⟨_,c,rfl,⟨k,ks,rfl,hO,rfl,hin,by omega,by omega,key,by omega⟩,rfl⟩)
end
inductive zgx (c:Nat) (ds:List PyData):Prop
 | mk (es:List Kt) (n:Nat) (_:ds=[dT es,.int (n:Nat)]) (_:n<=8) (_:(∀ t∈es,KtT n t)) (_:0<es.length) (_:es.length<=256) (_:c+100<=10 ^ 5):zgx c ds
inductive RSp (c:Nat) (ds:List PyData) (x:PyData) (c' : Nat):Prop
 | mk (es:List Kt) (n:Nat) (es' : List Kt) (_:ds=[dT es,.int (n:Nat)]) (_:x=dT es') (_:zhg n es') (_:es'.length<=es.length) (_:c' <= c+20):RSp c ds x c'
theorem ziE {n a:Nat}{es:List Kt}{t:Kt}(h:∀ t∈es,KtT n t)(ht:zjl n t)(ha:a<es.length):zhg n (es.take a++t::es.drop (a+1))/\(es.take a++t::es.drop (a+1)).length<=es.length:=by
 refine ⟨λx hx=>?_,by rw[length_append,length_cons,length_take,length_drop];omega⟩
 rcases mem_append.mp hx with hx | hx
 ·exact (h x (List.mem_of_mem_take hx)).in
 rcases mem_cons.mp hx with rfl | hx
 ·exact ht
 ·exact (h x (mem_of_mem_drop hx)).in
section
theorem QJ {ρ:List PV}{te:TE}{t:Kt}{es:List Kt}{a:Nat}(hl:es.length<=256)(h:Er K B0 te ρ (dKt t))(h1:ρ[1]?=some (.dat (dT es)))(h4:ρ[4]?=some (.dat (.int (a:Nat)))):Er K B0 (tOp (zdx K) (tOp (zdx K) (tSl (zcZ K) (WL 1) Jm (Vj (WL 4))) (zfo (Xc te QT))) (tSl (zcZ K) (WL 1) (Vj (tOp (rI0 λa b=>.int (a+b)) (WL 4) (tC (.int 1)))) Jm)) ρ (dT (es.take a++t::es.drop (a+1))):=by
 have zl:(2000:Nat)<sizeLine:=by decide
 have e1:=QZ a (es.map dKt)
 have e2:slD (es.map dKt) (some ((a:Int)+1)) none=(es.map dKt).drop (a+1):=Jp (a+1) (es.map dKt)
 refine Yo (YC (Yo (YC (Yo (Xa (Zb h1) Yw (Vo h4)) (congrArg PyData.tuple e1)) (ZM (Zc h Zg) (by show 1<=sizeLine;decide)) ?_) rfl) (Yo (Xa (Zb h1) (zaT h4) Yw) (congrArg PyData.tuple e2)) ?_) ?_
 ·rw[length_take,length_map];show min a es.length+1<=sizeLine;omega
 ·rw[length_append,length_take,length_drop,length_map];show min a es.length+1+_<=sizeLine;omega
 ·show PyData.tuple _=PyData.tuple _
  rw[map_append,map_cons,map_take,map_drop,append_assoc];rfl
theorem zdL (T:Top K mg):T.X6.O P w base 4 (spT (lkT K) zgx RSp):=by
 have G__law_next:T.ZL.O P w base 3 (spT (lkT K) zfu RDw):=(zaN T).mono (by decide)
 have G__law_turn:T.Xj.O P w base 3 (spT (lkT K) zjk RTu):=(zba T).mono (by decide)
 refine T.X6.F.okT ZW (by rintro _ _ ⟨_,_,rfl,_⟩;rfl) λcdv A outer s H E hr p fp c0 ds hP=>?_
 obtain ⟨es,n,rfl,hn,hin,hes,hel,hc0⟩:=hP
 have zl:(2000:Nat)<sizeLine:=by decide
 have hu:=hr.units
 have em:∀ x y:Int,0<y->0<=x % y/\x % y<y:=λx y h=>⟨emod_nonneg _ (by omega),emod_lt_of_pos _ h⟩
 have nat:∀ (x:Int) (m:Nat),0<m->∃ b:Nat,x % (m:Int)=(b:Int)/\b<m:=λx m h=>by
  obtain ⟨b,hb⟩:=eq_ofNat_of_zero_le (em x m (by omega)).1
  exact ⟨b,hb,by have:=(em x m (by omega)).2;omega⟩
 have lenT:∀ {ρ:List PV}{te:TE},Er K B0 te ρ (dT es)->Er K B0 (tCB (λxs H Q=>∃ p ys,xs=[.ref p]/\(SqL K H p ys\/SqT K H p ys)/\Q (.int ys.length) H) (Xc te QT)) ρ (.int (es.length:Nat)):=λ{ρ te} h=>Yo (Qm (Zc h Zg)) (congrArg (λ(x:Nat)=>PyData.int (x:Nat)) (length_map _))
 refine ⟨_,(Ze (Zr (i:=3) ZW.nd rfl (Or.inl rfl) (peN T.ZL G__law_next hr (Za (pv 0) Zf Zd)))
   (Ze (Zr (i:=4) ZW.nd rfl (Or.inl rfl) (Zo Yn (Zo YJ (pv 3) Zh) (ZJ (Z0 (K:=K) rfl) (by rfl) T.VH PySem.boot_len (Za (pv 1) Zf Zd))))
   (Ze (Zr (i:=5) ZW.nd rfl (Or.inl rfl) (Ym (ZQ (K:=K) rfl) (pv 1) (pv 4) (λ_ _=>rfl)))
   (Ze (YX (Zy XF (Zo Yn (pv 3) Zh) Zh (ZR _)) (Zm (Z5 (Zo (ZP (K:=K) rfl) (Zo (ZP (K:=K) rfl) (ZK (Yk (K:=K) rfl) (pv 1) Z7 (Z3 (pv 4))) (ZG (Za (Ym (ZQ (K:=K) rfl) (pv 1) (Zo Yn (Zo YJ (pv 3) Zh) (ZJ (Z0 (K:=K) rfl) (by rfl) T.VH PySem.boot_len (Za (pv 1) Zf Zd))) (λ_ _=>rfl)) Zf Zt))) (ZK (Yk (K:=K) rfl) (pv 1) (Z3 (Zo YF (pv 4) Zh)) Z7)))) ZX)
   (Ze (YX (Zy XF (Zo Yn (pv 3) Zh) Zh (ZR _)) (Zm (Z5 (Zo (ZP (K:=K) rfl) (ZK (Yk (K:=K) rfl) (pv 1) Z7 (Z3 (pv 4))) (ZK (Yk (K:=K) rfl) (pv 1) (Z3 (Zo YF (pv 4) Zh)) Z7)))) ZX)
   (Ze (YX (Zy XF (Zo Yn (pv 3) Zh) Zh (ZR _)) (Zm (Z5 (Zo (ZP (K:=K) rfl) (Zo (ZP (K:=K) rfl) (ZK (Yk (K:=K) rfl) (pv 1) Z7 (Z3 (pv 4))) (ZG (Za (ZG (Za Ji (Za (Xf (Y4 (K:=K) rfl) (by rfl) T.QB zff (Za (peN T.Xj G__law_turn hr (Za (pv 0) (Za (pv 2) Zf Zd) Zd)) Zf XX)) Zf XX) Zx)) Zf Yc))) (ZK (Yk (K:=K) rfl) (pv 1) (Z3 (Zo YF (pv 4) Zh)) Z7)))) ZX)
   (Ze (YX (Zy XF (Ym (ZQ (K:=K) rfl) (pv 5) Zh (λ_ _=>rfl)) Ji (ZR _)) (Ze (Zr (i:=6) ZW.nd rfl (Or.inl rfl) (Ym (ZQ (K:=K) rfl) (pv 5) Zh (λ_ _=>rfl)))
   (Ze (Zr (i:=6) ZW.nd rfl (Or.inl rfl) (Ym (Yt (K:=K) rfl) (Yp (Za (ZK (Yk (K:=K) rfl) (pv 6) Z7 (Z3 (zdM zav Zh))) (Za (Zo (ZP (K:=K) rfl) (pv 6) (ZK (Yk (K:=K) rfl) (pv 6) Z7 (Z3 Zh))) (Za (zdP rfl (pv 6) (Z3 (zdM zav Zh))) (Za (Zo (ZP (K:=K) rfl) (ZK (Yk (K:=K) rfl) (pv 6) (Z3 Zh) Z7) (ZK (Yk (K:=K) rfl) (pv 6) Z7 (Z3 Zh))) Zf Yg) Zt) Yg) Zt)) (Zo Yn (Zo YJ (pv 3) Zh) Zh) (λ_ _=>rfl)))
   (Zm (Z5 (Zo (ZP (K:=K) rfl) (Zo (ZP (K:=K) rfl) (ZK (Yk (K:=K) rfl) (pv 1) Z7 (Z3 (pv 4))) (ZG (Za (ZG (Za Ji (Za (pv 6) Zf Zd) Zx)) Zf Yc))) (ZK (Yk (K:=K) rfl) (pv 1) (Z3 (Zo YF (pv 4) Zh)) Z7)))))) ZX)
   (Ze (YX (Zy XF (Zo Yn (pv 3) Zh) Zh (ZR _)) (Zm (Z5 (Zo (ZP (K:=K) rfl) (Zo (ZP (K:=K) rfl) (ZK (Yk (K:=K) rfl) (pv 1) Z7 (Z3 (pv 4))) (ZG (Za (Zo (ZP (K:=K) rfl) (ZG (Za (Ym (ZQ (K:=K) rfl) (pv 5) Zh (λ_ _=>rfl)) (Za (Ym (ZQ (K:=K) rfl) (pv 5) Zh (λ_ _=>rfl)) (Za (Ym (ZQ (K:=K) rfl) (pv 5) Zh (λ_ _=>rfl)) Zf Zt) Zt) Zt)) (ZK (Yk (K:=K) rfl) (pv 5) (Z3 Zh) Z7)) Zf Yg))) (ZK (Yk (K:=K) rfl) (pv 1) (Z3 (Zo YF (pv 4) Zh)) Z7)))) ZX)
   (Ze (YX (Zy XF (Zo Yn (pv 3) Zh) Zh (ZR _)) (Zm (Z5 (Zo (ZP (K:=K) rfl) (Zo (ZP (K:=K) rfl) (ZK (Yk (K:=K) rfl) (pv 1) Z7 (Z3 (pv 4))) (ZG (Za (Zo (ZP (K:=K) rfl) (ZK (Yk (K:=K) rfl) (pv 5) Z7 (Z3 Zh)) (ZG (Za (Ym (ZQ (K:=K) rfl) (pv 5) Zh (λ_ _=>rfl)) (Za (Ym (ZQ (K:=K) rfl) (pv 5) Zh (λ_ _=>rfl)) Zf Zt) Zt))) Zf Yg))) (ZK (Yk (K:=K) rfl) (pv 1) (Z3 (Zo YF (pv 4) Zh)) Z7)))) ZX)
   (Ze (YX (Zy XF (Zo Yn (pv 3) Zh) Zh (ZR _)) (Ze (Zr (i:=7) ZW.nd rfl (Or.inl rfl) (Zo YF Zh (Zo Yn (Zo YJ (pv 3) Zh) Zh)))
   (Ze (Zr (i:=8) ZW.nd rfl (Or.inl rfl) (Zo (ZP (K:=K) rfl) (Zo (ZP (K:=K) rfl) (ZK (Yk (K:=K) rfl) (pv 5) Z7 (Z3 (pv 7))) (ZG (Za (Zo Yn (Zo YJ (pv 3) Zh) (pv 2)) Zf Yg))) (ZK (Yk (K:=K) rfl) (pv 5) (Z3 (Zo YF (pv 7) Zh)) Z7)))
   (Zm (Z5 (Zo (ZP (K:=K) rfl) (Zo (ZP (K:=K) rfl) (ZK (Yk (K:=K) rfl) (pv 1) Z7 (Z3 (pv 4))) (ZG (Za (pv 8) Zf Zd))) (ZK (Yk (K:=K) rfl) (pv 1) (Z3 (Zo YF (pv 4) Zh)) Z7)))))) ZX)
   (Ze (Zr (i:=7) ZW.nd rfl (Or.inl rfl) (Zo YF Zh (Zo Yn (Zo YJ (pv 3) Zh) Zh)))
   (Ze (Zr (i:=9) ZW.nd rfl (Or.inl rfl) (Zo QG (ZJ (Z0 (K:=K) rfl) (by rfl) T.VH PySem.boot_len (Za (pv 1) Zf Zd)) Zh))
   (Ze (Zr (i:=10) ZW.nd rfl (Or.inl rfl) (Ym (Yt (K:=K) rfl) (Yp (Za (Zo YF (Ym (ZQ (K:=K) rfl) (pv 5) (pv 7) (λ_ _=>rfl)) Zh) (Za (Zo QG (Ym (ZQ (K:=K) rfl) (pv 5) (pv 7) (λ_ _=>rfl)) Zh) (Za Zh (Za (pv 4) (Za (Zo YF (pv 9) Zh) (Za (zdM zav Zh) (Za (pv 9) (Za (Zo zie Zh Zh) Zf Yg) Zd) zb8) Yg) Zd) Zx) Yg) Yg)) (Zo Yn (Zo YJ (pv 3) Zh) Zh) (λ_ _=>rfl)))
   (Ze (Zr (i:=8) ZW.nd rfl (Or.inl rfl) (Zo (ZP (K:=K) rfl) (Zo (ZP (K:=K) rfl) (ZK (Yk (K:=K) rfl) (pv 5) Z7 (Z3 (pv 7))) (ZG (Za (pv 10) Zf Zd))) (ZK (Yk (K:=K) rfl) (pv 5) (Z3 (Zo YF (pv 7) Zh)) Z7)))
   (Zm (Z5 (Zo (ZP (K:=K) rfl) (Zo (ZP (K:=K) rfl) (ZK (Yk (K:=K) rfl) (pv 1) Z7 (Z3 (pv 4))) (ZG (Za (pv 8) Zf Zd))) (ZK (Yk (K:=K) rfl) (pv 1) (Z3 (Zo YF (pv 4) Zh)) Z7)))))))))))))))))) ,?_⟩
 refine Zj (Zq (zb0 (c:=c0) rfl (by omega) λcell=>?_))
 obtain ⟨a,ha,hal⟩:=nat (cell / 8) es.length hes
 obtain ⟨t,ht⟩:∃ t,es[a]?=some t:=⟨_,List.getElem?_eq_getElem hal⟩
 have hkt:=hin t (mem_of_getElem? ht)
 refine Zj (Zq (Zv (d:=.int (a:Nat)) (YQ (YQ (Zb rfl) Zi ⟨by decide,w0 (by decide)⟩ λ_=>Zk _) (lenT (Zb rfl)) (show (0:Int)<((es.length:Nat):Int) by omega) λ_=>by rw[ha];exact Zk _) ?_))
 refine Zj (Zq (Zv (Yd (n:=a) (d:=dKt t) (Zb rfl) (Zb rfl) (by rw[length_map];exact YL hal) (by rw[getElem?_map,ht];rfl)) ?_))
 show Sv K B0 _ [(lkT K).pv (c0+1) p fp,.dat (dT es),.dat (.int (n:Nat)),.dat (.int cell),.dat (.int (a:Nat)),.dat (dKt t),.un,.un,.un,.un,.un] _
 have fin:∀ {t' : Kt} {c' : Nat},zjl n t' -> c' <= c0+20->RSp c0 [dT es,.int (n:Nat)] (dT (es.take a++t'::es.drop (a+1))) c' := λ{t' c'} h hc=>by
  obtain ⟨h1,h2⟩:=ziE hin h hal
  exact ⟨es,n,_,rfl,rfl,h1,h2,hc⟩
 have m8:∀ {ρ:List PV}{z:Int},ρ[3]?=some (.dat (.int cell))->Et K B0 (za7 (tOp rEq (tOp (rI (λ_ j=>0<j) λi j=>.int (i % j)) (WL 3) (tC (.int 8))) (tC (.int z)))) ρ (decide (cell % 8=z)):=λ{ρ z} h=>Zu (Xy (YQ (Zb h) Zi (by decide) λ_=>Zk _) Zi)
 have dv:∀ {ρ:List PV}{q m:Int}{b:Nat},ρ[3]?=some (.dat (.int cell))->0<q->q.natAbs<10 ^ 100->0<m->(cell / q) % m=(b:Int)->Er K B0 (tOp (rI (λ_ j=>0<j) λi j=>.int (i % j)) (tOp (rI zeF λi j=>.int (i / j)) (WL 3) (tC (.int q))) (tC (.int m))) ρ (.int (b:Nat)):=λ{ρ q m b} h hq hq2 hm e=>YQ (YQ (Zb h) Zi ⟨hq,w0 hq2⟩ λ_=>Zk _) Zi hm λ_=>by rw[e];exact Zk _
 refine Zj (Xl (m8 rfl) (λ_=>?_) λ_=>ZZ ?_)
 ·obtain ⟨b,hb,hbl⟩:=nat (cell / 64) es.length hes
  obtain ⟨t',ht'⟩:∃ t,es[b]?=some t:=⟨_,List.getElem?_eq_getElem hbl⟩
  exact Z6 (Zv (QJ hel (t:=t') (Yd (n:=b) (d:=dKt t') (Zb rfl) (YQ (YQ (Zb rfl) Zi ⟨by decide,w0 (by decide)⟩ λ_=>Zk _) (lenT (Zb rfl)) (show (0:Int)<((es.length:Nat):Int) by omega) λ_=>by rw[hb];exact Zk _) (by rw[length_map];exact YL hbl) (by rw[getElem?_map,ht'];rfl)) rfl rfl) ⟨_,c0+1,rfl,fin (hin t' (mem_of_getElem? ht')).in (by omega),rfl⟩)
 refine Zj (Xl (m8 rfl) (λ_=>?_) λ_=>ZZ ?_)
 ·have e1:=QZ a (es.map dKt)
  have e2:slD (es.map dKt) (some ((a:Int)+1)) none=(es.map dKt).drop (a+1):=Jp (a+1) (es.map dKt)
  refine Z6 (Zv (d:=dT (es.take a++es.drop (a+1))) (Yo (YC (Yo (Xa (Zb rfl) Yw (Vo rfl)) (congrArg PyData.tuple e1)) (Yo (Xa (Zb rfl) (zaT rfl) Yw) (congrArg PyData.tuple e2)) ?_) ?_) ⟨_,c0+1,rfl,⟨es,n,_,rfl,rfl,λx hx=>?_,?_,by omega⟩,rfl⟩)
  ·rw[length_take,length_drop,length_map];omega
  ·show PyData.tuple _=PyData.tuple _
   rw[map_append,map_take,map_drop]
  ·rcases mem_append.mp hx with hx | hx
   ·exact (hin x (List.mem_of_mem_take hx)).in
   ·exact (hin x (mem_of_mem_drop hx)).in
  ·rw[length_append,length_take,length_drop];omega
 refine Zj (Xl (m8 rfl) (λ_=>?_) λ_=>ZZ ?_)
 ·have e1:=QZ a (es.map dKt)
  have e2:slD (es.map dKt) (some ((a:Int)+1)) none=(es.map dKt).drop (a+1):=Jp (a+1) (es.map dKt)
  refine Z6 (zca (zca (Zv (Yo (Xa (Zb rfl) Yw (Vo rfl)) (congrArg PyData.tuple e1)) ⟨_,rfl,zfv (WN (zfv (WN (Zv Wf ⟨_,rfl,WN (zii (XH (s:=c0+1) rfl (Wh (Zc (Zb rfl) Zg) ⟨c0+1,rfl,⟨n,rfl,by omega,by omega⟩,λx c2 hx=>?_⟩)))⟩))))⟩)))
  obtain ⟨m',l,e,rfl,hl,hc2⟩:=hx
  injection e with e _
  injection e with e
  have e:m'=n:=by omega
  subst e
  have hll:l.length<=8:=by rw[hl.length_eq,length_range];exact hn
  refine ⟨_,dR l,rfl,(λG σ va hva=>zaF (zbj (UL hva) zcU)),_,rfl,Wh Zg ⟨by show 2<=sizeLine;decide,_,rfl,Wh Zg ⟨by show 1<=sizeLine;decide,_,.tuple ((es.map dKt).take a++[dKt (.told l)]),rfl,(λG σ va vb hva hvb=>zaV (UL hva) (UL hvb) ?_),_,rfl,Zv (Yo (Xa (Zb rfl) (zaT rfl) Yw) (congrArg PyData.tuple e2)) ⟨_,dT (es.take a ++ .told l::es.drop (a+1)),rfl,(λG σ va vb hva hvb=>zjw (zaV (UL hva) (UL hvb) ?_) ?_),_,c2,rfl,fin (t' := .told l) (Nat.le_trans hll (by decide)) (by omega),rfl⟩⟩⟩⟩
  ·rw[length_take,length_map];show min a es.length+1<=sizeLine;omega
  ·rw[length_append,length_take,length_drop,length_map];show min a es.length+1+_<=sizeLine;omega
  ·show PyData.tuple _=PyData.tuple _
   rw[map_append,map_cons,map_take,map_drop,append_assoc];rfl
 cases t with
 | told l=>
  have hl8:l.length<=8:=hkt
  refine Zj (U4 (W9 (Zu (QM (Yd (n:=0) (Zb rfl) Zi rfl rfl) Wf)) (decide_eq_true rfl)) ?_)
  refine Zj (Zq (Zv (d:=dR l) (Yd (n:=1) (Zb rfl) Zi rfl rfl) ?_))
  obtain ⟨b,hb,hb4⟩:=nat (cell / 64) 4 (by decide)
  obtain ⟨l',hl',hl2⟩:∃ l' : List Nat,([l.take (l.length-1),l++l.take 1,l.reverse,l.drop 1++l.take 1].map dR)[b]?=some (dR l')/\l'.length<=9:=by
   have:b=0\/b=1\/b=2\/b=3:=by omega
   rcases this with rfl | rfl | rfl | rfl
   ·exact ⟨_,rfl,by rw[length_take];omega⟩
   ·exact ⟨_,rfl,by rw[length_append,length_take];omega⟩
   ·exact ⟨_,rfl,by rw[length_reverse];omega⟩
   ·exact ⟨_,rfl,by rw[length_append,length_take,length_drop];omega⟩
  show Sv K B0 _ [(lkT K).pv (c0+1) p fp,.dat (dT es),.dat (.int (n:Nat)),.dat (.int cell),.dat (.int (a:Nat)),.dat (dKt (.told l)),.dat (dR l),.un,.un,.un,.un] _
  have up1:slD (l.map λ(i:Nat)=>PyData.int (i:Nat)) none (some 1)=(l.take 1).map λ(i:Nat)=>PyData.int (i:Nat):=by rw[map_take];exact QZ 1 _
  have fr1:slD (l.map λ(i:Nat)=>PyData.int (i:Nat)) (some 1) none=(l.drop 1).map λ(i:Nat)=>PyData.int (i:Nat):=by rw[map_drop];exact Jp 1 _
  have mm1:slD (l.map λ(i:Nat)=>PyData.int (i:Nat)) none (some (-1))=(l.take (l.length-1)).map λ(i:Nat)=>PyData.int (i:Nat):=by rw[map_take,ziM,length_map]
  refine Zj (Zq (Zv (d:=dR l') (XM (n:=b) (ds:=[l.take (l.length-1),l++l.take 1,l.reverse,l.drop 1++l.take 1].map dR) (YD (Zc (Yo (Xa (Zb rfl) Yw zgh) (congrArg PyData.tuple mm1)) (Zc (Yo (YC (Zb rfl) (Yo (Xa (Zb rfl) Yw QL) (congrArg PyData.tuple up1)) (by rw[length_map,length_map,length_take];omega)) (show _=dR (l++l.take 1) by show PyData.tuple _=PyData.tuple _;rw[map_append])) (Zc (Yo (zdG (Zb rfl)) (show _=dR l.reverse by show PyData.tuple _=PyData.tuple _;rw[List.map_reverse])) (Zc (Yo (YC (Yo (Xa (Zb rfl) QL Yw) (congrArg PyData.tuple fr1)) (Yo (Xa (Zb rfl) Yw QL) (congrArg PyData.tuple up1)) (by rw[length_map,length_map,length_take,length_drop];omega)) (show _=dR (l.drop 1++l.take 1) by show PyData.tuple _=PyData.tuple _;rw[map_append])) Zg)))) (by show 4<=sizeLine;decide)) (dv rfl (by decide) (by decide) (by decide) hb) (YL hb4) hl') ?_))
  exact Z6 (Zv (QJ hel (t:=.told l') (ZM (Zc Wf (Zc (Zb rfl) Zg)) (by show 2<=sizeLine;decide)) rfl rfl) ⟨_,c0+1,rfl,fin (t' := .told l') (show l'.length<=60 by omega) (by omega),rfl⟩)
 | look i j x y=>
  obtain ⟨hi,hj⟩:=hkt
  refine Zj (Vf (W9 (Zu (QM (Yd (n:=0) (Zb rfl) Zi rfl rfl) Wf)) (decide_eq_false (by decide))) (ZZ ?_))
  refine Zj (Xl (m8 rfl) (λ_=>?_) λ_=>ZZ ?_)
  ·exact Z6 (Zv (QJ hel (t:=.look j i x y) (Yo (YC (ZM (Zc (Yd (n:=0) (Zb rfl) Zi rfl rfl) (Zc (Yd (n:=2) (Zb rfl) Zi rfl rfl) (Zc (Yd (n:=1) (Zb rfl) Zi rfl rfl) Zg))) (by show 3<=sizeLine;decide)) (Xa (Zb rfl) QL Yw) (by show 5<=sizeLine;decide)) rfl) rfl rfl) ⟨_,c0+1,rfl,fin (t' := .look j i x y) ⟨hj,hi⟩ (by omega),rfl⟩)
  refine Zj (Xl (m8 rfl) (λ_=>?_) λ_=>ZZ ?_)
  ·exact Z6 (Zv (QJ hel (t:=.look i j y x) (Yo (YC (Xa (Zb rfl) Yw QL) (ZM (Zc (Yd (n:=4) (Zb rfl) Zi rfl rfl) (Zc (Yd (n:=3) (Zb rfl) Zi rfl rfl) Zg)) (by show 2<=sizeLine;decide)) (by show 5<=sizeLine;decide)) rfl) rfl rfl) ⟨_,c0+1,rfl,fin (t' := .look i j y x) ⟨hi,hj⟩ (by omega),rfl⟩)
  obtain ⟨k,hk,hk2⟩:=nat (cell / 64) 2 (by decide)
  refine Zj (Xl (m8 rfl) (λ_=>?_) λ_=>ZZ ?_)
  ·obtain ⟨r,hr1,hrn⟩:=nat (cell / 128) n (by omega)
   refine Zj (Zq (Zv (d:=.int ((1+k:Nat):Int)) (Yo (Y5 Zi (dv rfl (by decide) (by decide) (by decide) hk) λ_=>Zk _) (by congr 1)) ?_))
   show Sv K B0 _ [(lkT K).pv (c0+1) p fp,.dat (dT es),.dat (.int (n:Nat)),.dat (.int cell),.dat (.int (a:Nat)),.dat (dKt (.look i j x y)),.un,.dat (.int ((1+k:Nat):Int)),.un,.un,.un] _
   have dr:∀ {ρ:List PV},ρ[3]?=some (.dat (.int cell))->ρ[2]?=some (.dat (.int (n:Nat)))->Er K B0 (tOp (rI (λ_ j=>0<j) λi j=>.int (i % j)) (tOp (rI zeF λi j=>.int (i / j)) (WL 3) (tC (.int 128))) (WL 2)) ρ (.int (r:Nat)):=λ{ρ} h h2=>YQ (YQ (Zb h) Zi ⟨by decide,w0 (by decide)⟩ λ_=>Zk _) (Zb h2) (show (0:Int)<(n:Nat) by omega) λ_=>by rw[hr1];exact Zk _
   have:k=0\/k=1:=by omega
   rcases this with rfl | rfl
   ·refine Zj (Zq (Zv (d:=dKt (.look r j x y)) (Yo (YC (YC (Xa (Zb rfl) Yw (Vo rfl)) (ZM (Zc (dr rfl rfl) Zg) (by show 1<=sizeLine;decide)) (by show 2<=sizeLine;decide)) (Xa (Zb rfl) (zaT rfl) Yw) (by show 5<=sizeLine;decide)) rfl) ?_))
    exact Z6 (Zv (QJ hel (t:=.look r j x y) (Zb rfl) rfl rfl) ⟨_,c0+1,rfl,fin (t' := .look r j x y) ⟨hrn,hj⟩ (by omega),rfl⟩)
   ·refine Zj (Zq (Zv (d:=dKt (.look i r x y)) (Yo (YC (YC (Xa (Zb rfl) Yw (Vo rfl)) (ZM (Zc (dr rfl rfl) Zg) (by show 1<=sizeLine;decide)) (by show 3<=sizeLine;decide)) (Xa (Zb rfl) (zaT rfl) Yw) (by show 5<=sizeLine;decide)) rfl) ?_))
    exact Z6 (Zv (QJ hel (t:=.look i r x y) (Zb rfl) rfl rfl) ⟨_,c0+1,rfl,fin (t' := .look i r x y) ⟨hi,hrn⟩ (by omega),rfl⟩)
  ·refine Zj (Zq (Zv (d:=.int ((3+k:Nat):Int)) (Yo (Y5 Zi (dv rfl (by decide) (by decide) (by decide) hk) λ_=>Zk _) (by congr 1)) ?_))
   refine Zj (Zq (Zv (Y5 (lenT (Zb rfl)) Zi λ_=>Zk _) ?_))
   show Sv K B0 _ [(lkT K).pv (c0+1) p fp,.dat (dT es),.dat (.int (n:Nat)),.dat (.int cell),.dat (.int (a:Nat)),.dat (dKt (.look i j x y)),.un,.dat (.int ((3+k:Nat):Int)),.un,.dat (.int ((es.length:Int)-1)),.un] _
   obtain ⟨b,hb,hb8⟩:=nat (cell / 256) 8 (by decide)
   obtain ⟨z,hz⟩:∃ z:Int,z=if k=0 then x else y:=⟨_,rfl⟩
   have kx:∀ {ρ:List PV},ρ[5]?=some (.dat (dKt (.look i j x y)))->ρ[7]?=some (.dat (.int ((3+k:Nat):Int)))->Er K B0 (tOp (zhf K) (WL 5) (WL 7)) ρ (.int z):=λ{ρ} h5 h7=>by
    have:k=0\/k=1:=by omega
    rcases this with rfl | rfl
    ·rw[hz];exact Yd (n:=3) (Zb h5) (Zb h7) rfl rfl
    ·rw[hz];exact Yd (n:=4) (Zb h5) (Zb h7) rfl rfl
   obtain ⟨v,hv⟩:∃ v:Int,(([z+1,z-1,0,(a:Int),(es.length:Int)-1+1,-1,(es.length:Int)-1,10 ^ 20]:List Int).map PyData.int)[b]?=some (.int v):=by
    have:b<([z+1,z-1,0,(a:Int),(es.length:Int)-1+1,-1,(es.length:Int)-1,10 ^ 20]:List Int).length:=hb8
    exact ⟨_,by rw[getElem?_map,List.getElem?_eq_getElem this];rfl⟩
   refine Zj (Zq (Zv (d:=.int v) (XM (n:=b) (ds:=([z+1,z-1,0,(a:Int),(es.length:Int)-1+1,-1,(es.length:Int)-1,10 ^ 20]:List Int).map PyData.int) (YD (Zc (Y5 (kx rfl rfl) Zi λ_=>Zk _) (Zc (Y5 (kx rfl rfl) Zi λ_=>Zk _) (Zc Zi (Zc (Zb rfl) (Zc (Y5 (Zb rfl) Zi λ_=>Zk _) (Zc (zhT Zi) (Zc (Zb rfl) (Zc (zh6 (r:=10 ^ 20) ⟨by decide,by decide,by decide⟩ rfl) Zg)))))))) (by show 8<=sizeLine;decide)) (dv rfl (by decide) (by decide) (by decide) hb) (YL hb8) hv) ?_))
   show Sv K B0 _ [(lkT K).pv (c0+1) p fp,.dat (dT es),.dat (.int (n:Nat)),.dat (.int cell),.dat (.int (a:Nat)),.dat (dKt (.look i j x y)),.un,.dat (.int ((3+k:Nat):Int)),.un,.dat (.int ((es.length:Int)-1)),.dat (.int v)] _
   have:k=0\/k=1:=by omega
   rcases this with rfl | rfl
   ·refine Zj (Zq (Zv (d:=dKt (.look i j v y)) (Yo (YC (YC (Xa (Zb rfl) Yw (Vo rfl)) (ZM (Zc (Zb rfl) Zg) (by show 1<=sizeLine;decide)) (by show 4<=sizeLine;decide)) (Xa (Zb rfl) (zaT rfl) Yw) (by show 5<=sizeLine;decide)) rfl) ?_))
    exact Z6 (Zv (QJ hel (t:=.look i j v y) (Zb rfl) rfl rfl) ⟨_,c0+1,rfl,fin (t' := .look i j v y) ⟨hi,hj⟩ (by omega),rfl⟩)
   ·refine Zj (Zq (Zv (d:=dKt (.look i j x v)) (Yo (YC (YC (Xa (Zb rfl) Yw (Vo rfl)) (ZM (Zc (Zb rfl) Zg) (by show 1<=sizeLine;decide)) (by show 5<=sizeLine;decide)) (Xa (Zb rfl) (zaT rfl) Yw) (by show 5<=sizeLine;decide)) rfl) ?_))
    exact Z6 (Zv (QJ hel (t:=.look i j x v) (Zb rfl) rfl rfl) ⟨_,c0+1,rfl,fin (t' := .look i j x v) ⟨hi,hj⟩ (by omega),rfl⟩)
end
noncomputable def sh:Kt->Kt
 | .told l=>.told l
 | .look i j x y=>.look i j (x+1) (y+1)
theorem zkJ {n:Nat}:∀ {t:Kt},KtT n t->KtT n (sh t)
 | .told _,h=>h
 | .look _ _ _ _,h=>h
theorem zfq (t0:Kt)(ks:List Kt):∀ (f a:Nat) (k:Kn),beh (t0::ks.map sh) f (a+1) k=beh ks f a k
 | 0,_,_=>rfl
 | f+1,a,k=>by
  show ((t0::ks.map sh)[a+1]?).bind _=(ks[a]?).bind _
  rw[getElem?_cons_succ,getElem?_map]
  have e:∀ x k',go (beh (t0::ks.map sh) f) (a+1) (x+1) k'=go (beh ks f) a x k' := λx k' => by
   unfold go
   by_cases z:(a:Int)<x
   ·rw[if_pos z,if_pos (by omega),show (x+1).toNat=x.toNat+1 by omega];exact zfq t0 ks f _ _
   ·rw[if_neg z,if_neg (by omega)]
  cases ks[a]? with
  | none=>rfl
  | some t=>cases t with
   | told l=>rfl
   | look i j x y=>
    show stp _ (a+1) k (.look i j (x+1) (y+1))=stp _ a k (.look i j x y)
    rw[VJ,VJ];simp only[e]
theorem zjB (t0:Kt)(ks:List Kt)(a:Nat)(k:Kn):Bh (t0::ks.map sh) (a+1) k=Bh ks a k:=by
 unfold Bh
 rw[zfq]
 exact zdB ks _ _ a k (by rw[length_cons,length_map];omega) (by omega)
theorem Sub.wl {k:Kn}{i j:Nat}:Sub k (wl k i j):=⟨YH,λa b ha hb e=>by rw[J9 ha,e];rfl⟩
theorem Sub.refl (k:Kn):Sub k k:=⟨rfl,λ_ _ _ _ e=>e⟩
inductive zfW (c:Nat) (ds:List PyData):Prop
 | mk (ks:List Kt) (k:Kn) (_:ds=[dT ks,dPs (pairsOf k),.int (k.length:Nat)]) (_:k.length<=8) (_:IsO k) (_:(∀ t∈ks,KtT k.length t)) (_:0<ks.length) (_:ks.length<=255) (_:(∀ k',IsO k' -> Sub k k' -> ∃ c,Bh ks 0 k'=some c)) (_:c+100<=10 ^ 5):zfW c ds
inductive RAt (c:Nat) (ds:List PyData) (x:PyData) (c' : Nat):Prop
 | mk (ks:List Kt) (k:Kn) (es:List Kt) (_:ds=[dT ks,dPs (pairsOf k),.int (k.length:Nat)]) (_:x=dT es) (_:∀ t∈es,KtT k.length t) (_:0<es.length) (_:es.length<=256) (_:∃ z,Bh es 0 k=some z) (_:IsO k) (_:c' <= c+1):RAt c ds x c'
theorem zht {a b:List Kt}(h:dT a=dT b):a=b:=by
 injection h with h
 exact (List.map_inj_right λx y e=>zc0 e).mp h
section
theorem zjL (T:Top K mg):T.YW.O P w base 4 (spT (lkT K) zfW RAt):=by
 have G__law_next:T.ZL.O P w base 3 (spT (lkT K) zfu RDw):=(zaN T).mono (by decide)
 have G__law_open:T.Wg.O P w base 3 (spP K ROp):=(zcV T).mono (by decide)
 refine T.YW.F.okT ZV (by rintro _ _ ⟨_,_,rfl,_⟩;rfl) λcdv A outer s H E hr p fp c0 ds hP=>?_
 obtain ⟨ks,k,rfl,h8,hO,hin,hks,hkl,key,hc0⟩:=hP
 have zl:(2000:Nat)<sizeLine:=by decide
 have hu:=hr.units
 have pln:(pairsOf k).length<=64:=by
  rw[XR]
  refine Nat.le_trans (length_filter_le _ _) ?_
  rw[Jt]
  exact mul_le_mul h8 h8
 have em:∀ x y:Int,0<y->0<=x % y/\x % y<y:=λx y h=>⟨emod_nonneg _ (by omega),emod_lt_of_pos _ h⟩
 have nat:∀ (x:Int) (m:Nat),0<m->∃ b:Nat,x % (m:Int)=(b:Int)/\b<m:=λx m h=>by
  obtain ⟨b,hb⟩:=eq_ofNat_of_zero_le (em x m (by omega)).1
  exact ⟨b,hb,by have:=(em x m (by omega)).2;omega⟩
 refine ⟨_,(Ze (Zr (i:=4) ZV.nd rfl (Or.inl rfl) (peN T.ZL G__law_next hr (Za (pv 0) Zf Zd)))
   (Ze (Zr (i:=5) ZV.nd rfl (Or.inl rfl) (peN T.Wg G__law_open hr (Za (pv 2) (Za (pv 3) Zf Zd) Zd)))
   (Ze (YX ((pw_or (Zy U9 (Zo Yn (pv 4) Zh) Zh (ZR _)) (pw_or1 (Zy (zcO (K:=K) rfl hu) (Ym (Yt (K:=K) rfl) (Yp (Za (pv 2) (Za (pv 5) Zf Zd) Zd)) (Zo QG (Zo Yn (pv 4) Zh) Zh) (λ_ _=>rfl)) (ZG (Za (ZG Zf) (Za (Yp Zf) Zf zgm) Yc)) (by rfl))))).pt (Zm (Z5 (pv 1))) ZX)
   (Ze (Zr (i:=6) ZV.nd rfl (Or.inl rfl) (Yp Zf))
   (Ze (Wa PassesOwn.never rfl (zbF (pv 1)) (Z8 (i:=7) ZV.nd rfl (Or.inl rfl)) (Ze (YX (Zy XF (Ym (ZQ (K:=K) rfl) (pv 7) Zh (λ_ _=>rfl)) Ji (ZR _)) (Zm (Zr (i:=7) ZV.nd rfl (Or.inl rfl) (Zo (ZP (K:=K) rfl) (ZK (Yk (K:=K) rfl) (pv 7) Z7 (Z3 Zh)) (ZG (Za (Zo YF (Ym (ZQ (K:=K) rfl) (pv 7) Zh (λ_ _=>rfl)) Zh) (Za (Zo YF (Ym (ZQ (K:=K) rfl) (pv 7) Zh (λ_ _=>rfl)) Zh) Zf Yg) Yg))))) ZX)
   (Zm (Wu (QV plainAttrs_list PySem.F.slot_list_append PySem.F.type_list_append Xr (pv 6) (Za (pv 7) Zf Zd))))))
   (Ze (YX (Zy XF (Zo Yn (pv 4) Zh) Zh (ZR _)) (Zm (Z5 (Xf (Y4 (K:=K) rfl) (by rfl) T.QB zff (Za (Zo Vk (Yp (Za (Zo (ZP (K:=K) rfl) (Zo (ZP (K:=K) rfl) (ZG (Za Ji Zf Zx)) (Ym (Yt (K:=K) rfl) (pv 5) (Zo Yn (Zo YJ (pv 4) Zh) (ZJ (Z0 (K:=K) rfl) (by rfl) T.VH PySem.boot_len (Za (pv 5) Zf Zd))) (λ_ _=>rfl))) (ZG (Za Zh (Za Zh Zf Zx) Zx))) Zf Yg)) (pv 6)) Zf Yg)))) ZX)
   (Ze (zbI (Ym (ZQ (K:=K) rfl) (pv 2) (Zo Yn (Zo YJ (pv 4) Zh) (ZJ (Z0 (K:=K) rfl) (by rfl) T.VH PySem.boot_len (Za (pv 2) Zf Zd))) (λ_ _=>rfl)) (QC (n:=2) rfl (Yv (Z8 (i:=8) ZV.nd rfl (Or.inl rfl)) (Yv (Z8 (i:=9) ZV.nd rfl (Or.inl rfl)) Jd)) (by rfl)))
   (Zm (Z5 (Xf (Y4 (K:=K) rfl) (by rfl) T.QB zff (Za (Zo Vk (Yp (Za (Ym (Yt (K:=K) rfl) (Yp (Za (ZG (Za Ji (Za (pv 8) (Za (pv 9) (Za Zh (Za Zh Zf Zx) Zx) Zd) Zd) Zx)) (Za (ZG (Za Ji (Za (pv 9) (Za (pv 8) (Za Zh (Za Zh Zf Zx) Zx) Zd) Zd) Zx)) Zf Yc) Yc)) (Zo Yn (Zo YJ (pv 4) Zh) Zh) (λ_ _=>rfl)) Zf Zt)) (pv 6)) Zf Yg))))))))))) ,?_⟩
 refine Zj (Zq (zb0 (c:=c0) rfl (by omega) λcell=>?_))
 refine Zj (Zq (Zv (Yz (Zc (Zb rfl) (Zc (Zb rfl) Zg)) (ROp.mk k h8)) ?_))
 show Sv K B0 _ [(lkT K).pv (c0+1) p fp,.dat (dT ks),.dat (dPs (pairsOf k)),.dat (.int (k.length:Nat)),.dat (.int cell),.dat (.list ((opn k).map dP)),.un,.un,.un,.un] _
 obtain ⟨r,hr4,hrl⟩:=nat cell 4 (by decide)
 have md:∀ {ρ:List PV},ρ[4]?=some (.dat (.int cell))->Er K B0 (tOp (rI (λ_ j=>0<j) λi j=>.int (i % j)) (WL 4) (tC (.int 4))) ρ (.int (r:Nat)):=λ{ρ} h=>YQ (Zb h) Zi (by decide) λ_=>by rw[show (4:Int)=((4:Nat):Int) from rfl,hr4];exact Zk _
 have hpl:∀ (l:List (Nat×Nat)),([PyData.tuple [],.list []].any λe=>PySem.Spec.same e (dPs l))=decide (l=[]):=λl=>by cases l <;> rfl
 have hll:∀ (l:List (Nat×Nat)),([PyData.tuple [],.list []].any λe=>PySem.Spec.same e (.list (l.map dP)))=decide (l=[]):=λl=>by cases l <;> rfl
 have pls:∀ e∈[PyData.tuple [],.list []],Pl 60 e:=λe he=>by
  simp only[mem_cons,not_mem_nil,or_false] at he
  rcases he with rfl | rfl
  ·exact Qf λd hd=>by cases hd
  ·exact Wb λd hd=>by cases hd
 refine Zj (Xl (b:=decide (r<2)||(decide (r=2)&&decide (pairsOf k=[])||decide (r=3)&&decide (opn k=[]))) (zaC (W9 (e:=decide (r<2)) (Zu (Y5 (md rfl) Zi λ_=>Yy _)) (decide_eq_decide.mpr (by omega))) λh2=>?_) (λhb=>?_) λhb=>ZZ ?_)
 ·have h2:¬ r<2:=of_decide_eq_false h2
  have:r=2\/r=3:=by omega
  rcases this with rfl | rfl
  ·exact Zu (Yo (Qv (XM (n:=0) (d:=dPs (pairsOf k)) (YD (Zc (Zb rfl) (Zc (Zb rfl) Zg)) (by show 2<=sizeLine;decide)) (Y5 (md rfl) Zi λ_=>Zk _) rfl rfl) (ZM (Zc (ZM Zg (by show 0<=sizeLine;decide)) (Zc (YD Zg (by show 0<=sizeLine;decide)) Zg)) (by show 2<=sizeLine;decide)) ((zbC _).mono (by decide)) pls) (by rw[if_neg Bool.false_ne_true,hpl];simp))
  ·exact Zu (Yo (Qv (XM (n:=1) (d:=.list ((opn k).map dP)) (YD (Zc (Zb rfl) (Zc (Zb rfl) Zg)) (by show 2<=sizeLine;decide)) (Y5 (md rfl) Zi λ_=>Zk _) rfl rfl) (ZM (Zc (ZM Zg (by show 0<=sizeLine;decide)) (Zc (YD Zg (by show 0<=sizeLine;decide)) Zg)) (by show 2<=sizeLine;decide)) ((zbt (n:=0) _).mono (by decide)) pls) (by rw[if_neg Bool.false_ne_true,hll];simp))
 ·exact Z6 (Zv (Zb rfl) ⟨_,c0+1,rfl,⟨ks,k,ks,rfl,rfl,hin,hks,by omega,key k hO (Sub.refl k),hO,by omega⟩,rfl⟩)
 refine Zj (Zq (JC Zg (by show 0<=sizeLine;decide) ?_))
 refine Zj (Wr ks dKt (zbx (Zb rfl)) (λs ρ=>∃ v7:PV,ρ=[(lkT K).pv (c0+1) p fp,.dat (dT ks),.dat (dPs (pairsOf k)),.dat (.int (k.length:Nat)),.dat (.int cell),.dat (.list ((opn k).map dP)),.own (((ks.take s).map sh).map dKt),v7,.un,.un]) ⟨_,rfl⟩ ?_ ?_)
 ·rintro s hs _ ⟨v7,rfl⟩
  obtain ⟨t,ht⟩:∃ t,ks[s]=t:=⟨_,rfl⟩
  rw[ht]
  refine Wj (JF (fun ρ' => ρ'=[(lkT K).pv (c0+1) p fp,.dat (dT ks),.dat (dPs (pairsOf k)),.dat (.int (k.length:Nat)),.dat (.int cell),.dat (.list ((opn k).map dP)),.own (((ks.take s).map sh).map dKt),.dat (dKt (sh t)),.un,.un]) ?_ ?_)
  ·cases t with
   | told l=>exact Vf (W9 (Zu (QM (Yd (n:=0) (Zb rfl) Zi rfl rfl) Wf)) (decide_eq_false (by decide))) (ZZ rfl)
   | look i j x y=>exact U4 (W9 (Zu (QM (Yd (n:=0) (Zb rfl) Zi rfl rfl) Wf)) (decide_eq_true rfl)) (Zq (Zv (d:=dKt (.look i j (x+1) (y+1))) (Yo (YC (Xa (Zb rfl) Yw QL) (ZM (Zc (Y5 (Yd (n:=3) (Zb rfl) Zi rfl rfl) Zi λ_=>Zk _) (Zc (Y5 (Yd (n:=4) (Zb rfl) Zi rfl rfl) Zi λ_=>Zk _) Zg)) (by show 2<=sizeLine;decide)) (by show 5<=sizeLine;decide)) rfl) rfl))
  ·rintro _ rfl
   refine J8 (Zv (Zb rfl) ⟨_,_,_,rfl,rfl,rfl,by rw[length_map,length_map,length_take];omega,.dat (dKt (sh t)),?_⟩) rfl rfl
   rw[take_succ_eq_append_getElem hs,ht,map_append,map_append];rfl
 ·rintro _ ⟨v7,rfl⟩
  rw[take_length]
  refine Us 6 rfl ?_
  show Sv K B0 _ [(lkT K).pv (c0+1) p fp,.dat (dT ks),.dat (dPs (pairsOf k)),.dat (.int (k.length:Nat)),.dat (.int cell),.dat (.list ((opn k).map dP)),.dat (.list ((ks.map sh).map dKt)),v7,.un,.un] _
  have fin:∀ t0:Kt,KtT k.length t0->(∃ z,Bh (t0::ks.map sh) 0 k=some z)->RAt c0 [dT ks,dPs (pairsOf k),.int (k.length:Nat)] (dT (t0::ks.map sh)) (c0+1):=λt0 h0 hz=>⟨ks,k,_,rfl,rfl,λt ht=>by
   rcases mem_cons.mp ht with rfl | ht
   ·exact h0
   ·obtain ⟨t',ht',rfl⟩:=mem_map.mp ht
    exact zkJ (hin t' ht'),by rw[length_cons];omega,by rw[length_cons,length_map];omega,hz,hO,by omega⟩
  have root:∀ t0:Kt,Bh (t0::ks.map sh) 0 k=stp (Bh (t0::ks.map sh)) 0 k t0:=λt0=>by rw[zb7];rfl
  have g1:∀ (t0:Kt) (k' : Kn),IsO k' -> Sub k k' -> ∃ z,go (Bh (t0::ks.map sh)) 0 1 k'=some z:=λt0 k' o' s' => by
   obtain ⟨z,hz⟩:=key k' o' s'
   refine ⟨z,?_⟩
   rw[za5 (by decide)]
   show Bh (t0::ks.map sh) (0+1) k'=_
   rw[zjB];exact hz
  have lt2:(((ks.map sh).map dKt).length+1:Nat)<=sizeLine:=by rw[length_map,length_map];omega
  rw[Bool.or_eq_false_iff] at hb
  have hr2:¬ r<2:=of_decide_eq_false hb.1
  refine Zj (Xl (b:=decide (r=3)) (W9 (Zu (Xy (md rfl) Zi)) (decide_eq_decide.mpr (by omega))) (λh3=>?_) λh3=>ZZ ?_)
  ·have h3:r=3:=of_decide_eq_true h3
   subst h3
   have hz:opn k≠[]:=λz=>by have:=hb.2;rw[z] at this;simp at this
   have hN:0<(opn k).length:=length_pos_iff.mpr hz
   obtain ⟨b,hb1,hb2⟩:=nat (cell / 4) (opn k).length hN
   obtain ⟨q,hq⟩:∃ q,(opn k)[b]?=some q:=⟨_,List.getElem?_eq_getElem hb2⟩
   obtain ⟨q1,q2,q3⟩:=Xk.mp (zaS.mp (mem_of_getElem? hq))
   have ho:ah k q.1 q.2=false/\ah k q.2 q.1=false:=by unfold opq at q3;simpa using q3
   refine Z6 (Zv (d:=dT (.look q.1 q.2 1 1::ks.map sh)) (We (Zc (Yo (JG (YD (Zc (Yo (YC (YC (ZM (Zc Wf Zg) (by show 1<=sizeLine;decide)) (XM (ds:=(opn k).map dP) (n:=b) (d:=dP q) (Zb rfl) (YQ (YQ (Zb rfl) Zi ⟨by decide,w0 (by decide)⟩ λ_=>Zk _) (Yo (XC (Zc (Zb rfl) Zg)) (congrArg (λ(x:Nat)=>PyData.int (x:Nat)) (length_map _))) (show (0:Int)<(((opn k).length:Nat):Int) by omega) λ_=>by rw[hb1];exact Zk _) (by rw[length_map];exact YL hb2) (by rw[getElem?_map,hq];rfl)) (by show 3<=sizeLine;decide)) (ZM (Zc Zi (Zc Zi Zg)) (by show 2<=sizeLine;decide)) (by show 5<=sizeLine;decide)) (show _=dKt (.look q.1 q.2 1 1) from rfl)) Zg) (by show 1<=sizeLine;decide)) (Zb rfl) (by show 1+_<=sizeLine;omega)) rfl) Zg)) ⟨_,c0+1,rfl,fin _ ⟨by omega,q2⟩ ?_,rfl⟩)
   rw[root,VJ,if_neg (by omega),if_neg (by rw[ho.1];exact Bool.false_ne_true),if_neg (by rw[ho.2];exact Bool.false_ne_true)]
   obtain ⟨z1,e1⟩:=g1 (.look q.1 q.2 1 1) _ (hO.wl (by omega) q2 (by omega) ho.2) Sub.wl
   obtain ⟨z2,e2⟩:=g1 (.look q.1 q.2 1 1) _ (hO.wl q2 (by omega) (by omega) ho.1) Sub.wl
   rw[e1,e2];exact ⟨_,rfl⟩
  ·have h3:¬ r=3:=of_decide_eq_false h3
   have h2:r=2:=by omega
   subst h2
   have hz:pairsOf k≠[]:=λz=>by have:=hb.2;rw[z] at this;simp at this
   have hN:0<(pairsOf k).length:=length_pos_iff.mpr hz
   obtain ⟨b,hb1,hb2⟩:=nat (cell / 4) (pairsOf k).length hN
   obtain ⟨q,hq⟩:∃ q,(pairsOf k)[b]?=some q:=⟨_,List.getElem?_eq_getElem hb2⟩
   obtain ⟨q1,q2,q3⟩:=Yh.mp (mem_of_getElem? hq)
   have hne:q.1≠q.2:=λz=>by rw[← z,hO.ir q.1 q1] at q3;cases q3
   have q4:=zjh hO q1 q2 q3
   refine Zj (zaL (zeq (Yd (ds:=(pairsOf k).map dP) (n:=b) (d:=dP q) (Zb rfl) (YQ (YQ (Zb rfl) Zi ⟨by decide,w0 (by decide)⟩ λ_=>Zk _) (Yo (Qm (Zc (Zb rfl) Zg)) (congrArg (λ(x:Nat)=>PyData.int (x:Nat)) (length_map _))) (show (0:Int)<(((pairsOf k).length:Nat):Int) by omega) λ_=>by rw[hb1];exact Zk _) (by rw[length_map];exact YL hb2) (by rw[getElem?_map,hq];rfl))) (V1 ?_))
   show Sv K B0 _ [(lkT K).pv (c0+1) p fp,.dat (dT ks),.dat (dPs (pairsOf k)),.dat (.int (k.length:Nat)),.dat (.int cell),.dat (.list ((opn k).map dP)),.dat (.list ((ks.map sh).map dKt)),v7,.dat (.int (q.1:Nat)),.dat (.int (q.2:Nat))] _
   obtain ⟨b2,hb3,hb4⟩:=nat (cell / 64) 2 (by decide)
   obtain ⟨t0,et0,kt0,bt0⟩:∃ t0:Kt,([dKt (.look q.1 q.2 1 0),dKt (.look q.2 q.1 7 1)])[b2]?=some (dKt t0)/\KtT k.length t0/\∃ z,Bh (t0::ks.map sh) 0 k=some z:=by
    have:b2=0\/b2=1:=by omega
    rcases this with rfl | rfl
    ·refine ⟨_,rfl,⟨q1,q2⟩,?_⟩
     rw[root,VJ,if_neg hne,if_pos q3]
     obtain ⟨z1,e1⟩:=g1 (.look q.1 q.2 1 0) k hO (Sub.refl k)
     rw[e1];exact ⟨_,rfl⟩
    ·refine ⟨_,rfl,⟨q2,q1⟩,?_⟩
     rw[root,VJ,if_neg (Ne.symm hne),if_neg (by rw[q4];exact Bool.false_ne_true),if_pos q3]
     obtain ⟨z1,e1⟩:=g1 (.look q.2 q.1 7 1) k hO (Sub.refl k)
     rw[e1];exact ⟨_,rfl⟩
   exact Z6 (Zv (d:=dT (t0::ks.map sh)) (We (Zc (Yo (JG (YD (Zc (XM (ds:=[dKt (.look q.1 q.2 1 0),dKt (.look q.2 q.1 7 1)]) (n:=b2) (YD (Zc (ZM (Zc Wf (Zc (Zb rfl) (Zc (Zb rfl) (Zc Zi (Zc Zi Zg))))) (by show 5<=sizeLine;decide)) (Zc (ZM (Zc Wf (Zc (Zb rfl) (Zc (Zb rfl) (Zc Zi (Zc Zi Zg))))) (by show 5<=sizeLine;decide)) Zg)) (by show 2<=sizeLine;decide)) (YQ (YQ (Zb rfl) Zi ⟨by decide,w0 (by decide)⟩ λ_=>Zk _) Zi (by decide) λ_=>by rw[show (2:Int)=((2:Nat):Int) from rfl,hb3];exact Zk _) (YL hb4) et0) Zg) (by show 1<=sizeLine;decide)) (Zb rfl) (by show 1+_<=sizeLine;omega)) rfl) Zg)) ⟨_,c0+1,rfl,fin t0 kt0 bt0,rfl⟩)
end
theorem ziX {m:Nat}{l:List Nat}(hl:l.Perm (List.range m))(hm:m<=8){k:Kn}(hk:k.length=m){N:Nat->Nat->Bool}{t:Nat}(ht:t<m)(hN:(∀ a b,N a b=true->a=t\/b=t)\/∀ a b,N a b=true->b=a+1)
  (h:∀ a b,a<b->b<m->N a b=false->ah k (l.getD a 0) (l.getD b 0)=true):u k<=7:=by
 have ll:l.length=m:=by rw[hl.length_eq,length_range]
 have pos:∀ x,x<m->∃ a,a<m/\l.getD a 0=x:=λx hx=>by
  obtain ⟨a,ha,e⟩:=getElem_of_mem (hl.mem_iff.mpr (mem_range.mpr hx))
  exact ⟨a,by omega,by rw[getD_eq_getElem?_getD,List.getElem?_eq_getElem ha];exact e⟩
 have gl:∀ a,a<m->l.getD a 0<m:=λa ha=>by
  rw[getD_eq_getElem?_getD,List.getElem?_eq_getElem (by omega)]
  exact mem_range.mp (hl.mem_iff.mp (getElem_mem _))
 have near:∀ q∈unp k,∃ a b,a<b/\b<m/\N a b=true/\((q.1=l.getD a 0/\q.2=l.getD b 0)\/(q.1=l.getD b 0/\q.2=l.getD a 0)):=λq hq=>by
  obtain ⟨q1,q2,q3⟩:=Xk.mp hq
  have ho:ah k q.1 q.2=false/\ah k q.2 q.1=false:=by unfold opq at q3;simpa using q3
  obtain ⟨a,ha,ea⟩:=pos q.1 (by omega)
  obtain ⟨b,hb,eb⟩:=pos q.2 (by omega)
  have hab:a≠b:=λz=>by rw[z,eb] at ea;omega
  by_cases z:a<b
  ·refine ⟨a,b,z,hb,?_,.inl ⟨ea.symm,eb.symm⟩⟩
   cases e:N a b with
   | true=>rfl
   | false=>have:=h a b z hb e;rw[ea,eb,ho.1] at this;cases this
  ·refine ⟨b,a,by omega,ha,?_,.inr ⟨ea.symm,eb.symm⟩⟩
   cases e:N b a with
   | true=>rfl
   | false=>have:=h b a (by omega) ha e;rw[ea,eb,ho.2] at this;cases this
 unfold u
 rcases hN with hN | hN
 ·have sub:=List.Nodup.length_le_of_subset (zdE k) (l₂:=((List.range m).filter λy=>decide (y≠l.getD t 0)).map λy=>(min (l.getD t 0) y,max (l.getD t 0) y)) λq hq=>by
   obtain ⟨a,b,hab,hb,hn,e⟩:=near q hq
   have q1:=(Xk.mp hq).1
   have q2:=(Xk.mp hq).2.1
   refine mem_map.mpr ?_
   obtain ⟨y,hy,hyt,hqy⟩:∃ y,y<m/\y≠l.getD t 0/\((q.1=l.getD t 0/\q.2=y)\/(q.1=y/\q.2=l.getD t 0)):=by
    rcases hN a b hn with rfl | rfl
    ·rcases e with e | e
     ·exact ⟨q.2,by omega,by omega,.inl ⟨e.1,rfl⟩⟩
     ·exact ⟨q.1,by omega,by omega,.inr ⟨rfl,e.2⟩⟩
    ·rcases e with e | e
     ·exact ⟨q.1,by omega,by omega,.inr ⟨rfl,e.2⟩⟩
     ·exact ⟨q.2,by omega,by omega,.inl ⟨e.1,rfl⟩⟩
   refine ⟨y,mem_filter.mpr ⟨mem_range.mpr hy,decide_eq_true hyt⟩,?_⟩
   refine Prod.ext ?_ ?_
   ·show min _ _=q.1;omega
   ·show max _ _=q.2;omega
  have lt:((List.range m).filter λy=>decide (y≠l.getD t 0)).length<(List.range m).length:=List.length_filter_lt_length_iff_exists.mpr ⟨l.getD t 0,mem_range.mpr (gl t ht),by simp⟩
  rw[length_map] at sub
  rw[length_range] at lt
  omega
 ·have sub:=List.Nodup.length_le_of_subset (zdE k) (l₂:=(List.range (m-1)).map λa=>(min (l.getD a 0) (l.getD (a+1) 0),max (l.getD a 0) (l.getD (a+1) 0))) λq hq=>by
   obtain ⟨a,b,hab,hb,hn,e⟩:=near q hq
   have q1:=(Xk.mp hq).1
   have hb2:=hN a b hn
   subst hb2
   refine mem_map.mpr ⟨a,mem_range.mpr (by omega),Prod.ext ?_ ?_⟩
   ·show min _ _=q.1;omega
   ·show max _ _=q.2;omega
  rw[length_map,length_range] at sub
  omega
inductive zfy (c:Nat) (ds:List PyData):Prop
 | mk (m:Nat) (_:ds=[.int (m:Nat)]) (_:1<=m) (_:m<=8) (_:c+100<=10 ^ 5):zfy c ds
inductive RMk (c:Nat) (ds:List PyData) (x:PyData) (c' : Nat):Prop
 | mk (m:Nat) (k:Kn) (_:ds=[.int (m:Nat)]) (_:x=dPs (pairsOf k)) (_:IsO k) (_:k.length=m) (_:u k<=7) (_:c' <= c+20):RMk c ds x c'
section
theorem zj4 (T:Top K mg):T.Y8.O P w base 4 (spT (lkT K) zfy RMk):=by
 have G__law_next:T.ZL.O P w base 3 (spT (lkT K) zfu RDw):=(zaN T).mono (by decide)
 have G__law_turn:T.Xj.O P w base 3 (spT (lkT K) zjk RTu):=(zba T).mono (by decide)
 have G__law_closed:T.Yi.O P w base 3 (spP K RLc):=(zfb T).mono (by decide)
 refine T.Y8.F.okT ZD (by rintro _ _ ⟨_,rfl,_⟩;rfl) λcdv A outer s H E hr p fp n ds hP=>?_
 obtain ⟨m,rfl,hm1,hm8,hn⟩:=hP
 have zl:(2000:Nat)<sizeLine:=by decide
 have hu:=hr.units
 have em:∀ x y:Int,0<y->0<=x % y/\x % y<y:=λx y h=>⟨emod_nonneg _ (by omega),emod_lt_of_pos _ h⟩
 have nat:∀ (x:Int) (m:Nat),0<m->∃ b:Nat,x % (m:Int)=(b:Int)/\b<m:=λx m h=>by
  obtain ⟨b,hb⟩:=eq_ofNat_of_zero_le (em x m (by omega)).1
  exact ⟨b,hb,by have:=(em x m (by omega)).2;omega⟩
 refine ⟨_,(Ze (Zr (i:=2) ZD.nd rfl (Or.inl rfl) (peN T.Xj G__law_turn hr (Za (pv 0) (Za (pv 1) Zf Zd) Zd)))
   (Ze (Zr (i:=3) ZD.nd rfl (Or.inl rfl) (peN T.ZL G__law_next hr (Za (pv 0) Zf Zd)))
   (Ze (Zr (i:=4) ZD.nd rfl (Or.inl rfl) (Zo Yn (pv 3) (pv 1)))
   (Ze (Zr (i:=5) ZD.nd rfl (Or.inl rfl) (Zo YF Zh (Zo Yn (Zo YJ (pv 3) Zh) Zh)))
   (Ze (Zr (i:=6) ZD.nd rfl (Or.inl rfl) (Yp Zf))
   (Ze (Wa PassesOwn.never rfl (Xe (by rfl) T.Wn (Za (pv 1) Zf Zd)) (Z8 (i:=7) ZD.nd rfl (Or.inl rfl)) (Zm (Wa PassesOwn.never rfl (Xe (by rfl) T.Wn (Za (pv 7) Zf Zd)) (Z8 (i:=8) ZD.nd rfl (Or.inl rfl)) (Ze (Zr (i:=9) ZD.nd rfl (Or.inl rfl) (zdc (Wm (zcO (K:=K) rfl hu) (pv 4) (ZG (Za (pv 8) (Za (pv 7) Zf Zd) Zd)) (by rfl)) (zcG (Wm zei (Zo QG (pv 7) (pv 8)) (pv 5) (ZR _)))))
   (Ze (YX (Zy XF (Zo Yn (Zo YJ (pv 3) Zh) Zh) Zh (ZR _)) (Zm (Zr (i:=9) ZD.nd rfl (Or.inl rfl) (zdc (Wm XF (Zo QG (pv 7) (pv 8)) Zh (ZR _)) (zcG (Wm XF (Zo Yn (pv 8) Zh) (Zo Yn (Zo YJ (pv 3) Zh) Zh) (ZR _)))))) ZX)
   (Zm (YX (zas (QK (pv 9))) (Zm (Wu (QV plainAttrs_list PySem.F.slot_list_append PySem.F.type_list_append Xr (pv 6) (Za (ZG (Za (Ym (Yt (K:=K) rfl) (pv 2) (pv 8) (λ_ _=>rfl)) (Za (Ym (Yt (K:=K) rfl) (pv 2) (pv 7) (λ_ _=>rfl)) Zf Zt) Zt)) Zf Yc)))) ZX)))))))
   (Zm (Z5 (peN T.Yi G__law_closed hr (Za (pv 6) Zf Zd)))))))))) ,?_⟩
 refine Zj (Zq (XH (s:=n) rfl (Wh (Zc (Zb rfl) Zg) ⟨n,rfl,⟨m,rfl,by omega,by omega⟩,λx s2 hx=>?_⟩)))
 obtain ⟨m',l,e,rfl,hl,hs2⟩:=hx
 cases e
 have hll:l.length=m:=by rw[hl.length_eq,length_range]
 have hnd:l.Nodup:=hl.nodup_iff.mpr nodup_range
 have hlm:∀ x∈l,x<m:=λx hx=>mem_range.mp (hl.mem_iff.mp hx)
 have gl:∀ x,x<m->(l.map λ(i:Nat)=>PyData.int (i:Nat))[x]?=some (.int (l.getD x 0:Nat))/\ixN (l.map λ(i:Nat)=>PyData.int (i:Nat)).length (x:Nat)=some x:=λx hx=>by
  refine ⟨?_,by rw[length_map];exact YL (by omega)⟩
  rw[getElem?_map,getD_eq_getElem?_getD,List.getElem?_eq_getElem (by omega)];rfl
 have gd1:∀ x,x<m->l[x]?=some (l.getD x 0):=λx hx=>by rw[getD_eq_getElem?_getD,List.getElem?_eq_getElem (by omega)];rfl
 refine Zj (Zq (zb0 (c:=s2) rfl (by omega) λcell=>?_))
 obtain ⟨t,ht,htm⟩:=nat cell m (by omega)
 obtain ⟨f,hf,_⟩:=nat (cell / 8) 4 (by decide)
 obtain ⟨g,hg,_⟩:=nat (cell / 64) 3 (by decide)
 obtain ⟨b32,hb32,_⟩:=nat (cell / 32) 2 (by decide)
 have dv:∀ {ρ:List PV}{q:Int}{d b:Nat},ρ[3]?=some (.dat (.int cell))->0<q->q.natAbs<10 ^ 100->0<d->(cell / q) % (d:Int)=(b:Int)->Er K B0 (tOp (rI (λ_ j=>0<j) λi j=>.int (i % j)) (tOp (rI zeF λi j=>.int (i / j)) (WL 3) (tC (.int q))) (tC (.int (d:Nat)))) ρ (.int (b:Nat)):=λ{ρ q d b} h hq hq2 hm e=>YQ (YQ (Zb h) Zi ⟨hq,w0 hq2⟩ λ_=>Zk _) Zi (show (0:Int)<(d:Nat) by omega) λ_=>by rw[e];exact Zk _
 refine Zj (Zq (Zv (d:=.int (t:Nat)) (YQ (Zb rfl) (Zb rfl) (show (0:Int)<((m:Nat):Int) by omega) λ_=>by rw[ht];exact Zk _) ?_))
 refine Zj (Zq (Zv (Y5 Zi (dv (d:=4) rfl (by decide) (by decide) (by decide) hf) λ_=>Zk _) ?_))
 refine Zj (Zq (JC Zg (by show 0<=sizeLine;decide) ?_))
 show Sv K B0 _ [(lkT K).pv (s2+1) p fp,.dat (.int (m:Nat)),.dat (.list (l.map λ(i:Nat)=>.int (i:Nat))),.dat (.int cell),.dat (.int (t:Nat)),.dat (.int (1+(f:Int))),.own [],.un,.un,.un] _
 obtain ⟨N,hNd⟩:∃ N:Nat->Nat->Bool,N=λa b=>if b32=1 then decide (b-a=1)&&decide (a % 3=g) else (decide (t=a)||decide (t=b))&&decide (b-a<=1+f):=⟨_,rfl⟩
 have hN:(∀ a b,N a b=true->a=t\/b=t)\/∀ a b,N a b=true->b=a+1:=by
  by_cases z:b32=1
  ·refine .inr λa b h=>?_
   rw[hNd] at h
   simp only[if_pos z,and_eq_true,decide_eq_true_eq] at h
   omega
  ·refine .inl λa b h=>?_
   rw[hNd] at h
   simp only[if_neg z,and_eq_true,or_eq_true,decide_eq_true_eq] at h
   omega
 refine Zj (Wr (List.range m) (λ(t:Nat)=>PyData.int (t:Nat)) (WQ (Zc (Zb rfl) Zg) (by omega)) (λb ρ=>∃ (ps:List (Nat×Nat)) (v7 v8 v9:PV),ps.length<=b*8/\(∀ q∈ps,∃ a b,a<b/\b<m/\l[a]?=some q.1/\l[b]?=some q.2)/\(∀ a' b',a'<b' -> b'<b->N a' b'=false->(l.getD a' 0,l.getD b' 0)∈ps)/\ρ=[(lkT K).pv (s2+1) p fp,.dat (.int (m:Nat)),.dat (.list (l.map λ(i:Nat)=>.int (i:Nat))),.dat (.int cell),.dat (.int (t:Nat)),.dat (.int (1+(f:Int))),.own (ps.map dP),v7,v8,v9]) ⟨[],.un,.un,.un,zero_le _,(λq h=>nomatch h),(λa' b' _ h=>absurd h (not_lt_zero _)),rfl⟩ ?_ ?_)
 ·rintro b hb _ ⟨ps,v7,v8,v9,hpl,hps,hall,rfl⟩
  rw[length_range] at hb
  rw[rix]
  refine Wj ?_
  refine Wr (List.range b) (λ(t:Nat)=>PyData.int (t:Nat)) (WQ (Zc (Zb rfl) Zg) (by omega)) (λa ρ=>∃ (ps:List (Nat×Nat)) (v8 v9:PV),ps.length<=b*8+a/\(∀ q∈ps,∃ a b,a<b/\b<m/\l[a]?=some q.1/\l[b]?=some q.2)/\(∀ a' b',a'<b' -> (b'<b\/b'=b/\a'<a)->N a' b'=false->(l.getD a' 0,l.getD b' 0)∈ps)/\ρ=[(lkT K).pv (s2+1) p fp,.dat (.int (m:Nat)),.dat (.list (l.map λ(i:Nat)=>.int (i:Nat))),.dat (.int cell),.dat (.int (t:Nat)),.dat (.int (1+(f:Int))),.own (ps.map dP),.dat (.int (b:Nat)),v8,v9]) ⟨ps,v8,v9,hpl,hps,(λa' b' h1 h2 h3=>hall a' b' h1 (by omega) h3),rfl⟩ ?_ ?_
  ·rintro a ha _ ⟨ps,v8,v9,hpl,hps,hall,rfl⟩
   rw[length_range] at ha
   rw[rix]
   refine Wj ?_
   have tin:∀ {ρ:List PV},ρ[4]?=some (.dat (.int (t:Nat)))->ρ[8]?=some (.dat (.int (a:Nat)))->ρ[7]?=some (.dat (.int (b:Nat)))->Er K B0 (tOp (zbT K false) (WL 4) (zfo (Xc (WL 8) (Xc (WL 7) QT)))) ρ (.bool (decide (t=a)||decide (t=b))):=λ{ρ} h4 h8 h7=>Yo (Qv (Zb h4) (ZM (Zc (Zb h8) (Zc (Zb h7) Zg)) (by show 2<=sizeLine;decide)) (Xd _) λe he=>by
    simp only[mem_cons,not_mem_nil,or_false] at he
    rcases he with rfl | rfl
    ·exact Xd _
    ·exact Xd _) (by
    rw[if_neg Bool.false_ne_true]
    show PyData.bool (PySem.Spec.same (.int (a:Nat)) (.int (t:Nat))||(PySem.Spec.same (.int (b:Nat)) (.int (t:Nat))||false))=_
    rw[same_int,same_int,Bool.or_false])
   refine Zj (Zq (Zv (zcu (tin rfl rfl rfl) λ_=>Y5 (Y5 (Zb rfl) (Zb rfl) λ_=>Zk _) (Zb rfl) λ_=>Yy _) ?_))
   refine JF (fun ρ' => ρ'=[(lkT K).pv (s2+1) p fp,.dat (.int (m:Nat)),.dat (.list (l.map λ(i:Nat)=>.int (i:Nat))),.dat (.int cell),.dat (.int (t:Nat)),.dat (.int (1+(f:Int))),.own (ps.map dP),.dat (.int (b:Nat)),.dat (.int (a:Nat)),.dat (.bool (N a b))]) (Xl (b:=decide (b32=1)) (W9 (Zu (Xy (dv (d:=2) rfl (by decide) (by decide) (by decide) hb32) Zi)) (decide_eq_decide.mpr (by omega))) (λhz=>?_) λhz=>ZZ ?_) ?_
   ·have hz:b32=1:=of_decide_eq_true hz
    refine Zq (Zv (d:=.bool (N a b)) (Yo (zcu (Xy (Y5 (Zb rfl) (Zb rfl) λ_=>Zk _) Zi) λ_=>Xy (YQ (Zb rfl) Zi (by decide) λ_=>Zk _) (dv (d:=3) rfl (by decide) (by decide) (by decide) hg)) ?_) rfl)
    rw[hNd]
    simp only[if_pos hz]
    congr 1
    congr 1
    ·exact decide_eq_decide.mpr (by omega)
    ·exact decide_eq_decide.mpr (by omega)
   ·have hz:¬ b32=1:=of_decide_eq_false hz
    have e:N a b=((decide (t=a)||decide (t=b))&&decide ((b:Int)-(a:Int)<=1+(f:Int))):=by
     rw[hNd]
     simp only[if_neg hz]
     congr 1
     exact decide_eq_decide.mpr (by omega)
    rw[e];rfl
   ·rintro _ rfl
    have step:∀ (ps' : List (Nat×Nat)),(∀ q∈ps,q∈ps')->(N a b=false->(l.getD a 0,l.getD b 0)∈ps')->∀ a' b',a'<b' -> (b'<b\/b'=b/\a'<a+1)->N a' b'=false->(l.getD a' 0,l.getD b' 0)∈ps' := λps' h1 h2 a' b' h3 h4 h5=>by
     by_cases z:b'=b/\a'=a
     ·obtain ⟨rfl,rfl⟩:=z;exact h2 h5
     ·exact h1 _ (hall a' b' h3 (by omega) h5)
    refine Xl (b:=!N a b) (zaw (zjc (Zb rfl))) (λhz=>?_) λhz=>ZZ ⟨ps,.dat (.int (a:Nat)),.dat (.bool (N a b)),by omega,hps,step ps (λq h=>h) (λz=>by rw[z] at hz;cases hz),rfl⟩
    refine J8 (Zv (d:=dP (l.getD a 0,l.getD b 0)) (ZM (Zc (XM (n:=a) (Zb rfl) (Zb rfl) (gl a (by omega)).2 (gl a (by omega)).1) (Zc (XM (n:=b) (Zb rfl) (Zb rfl) (gl b hb).2 (gl b hb).1) Zg)) (by show 2<=sizeLine;decide)) ⟨_,_,_,rfl,rfl,rfl,by rw[length_map];omega,ps++[(l.getD a 0,l.getD b 0)],.dat (.int (a:Nat)),.dat (.bool (N a b)),by rw[length_append];show ps.length+1<=_;omega,λq hq=>?_,step _ (λq h=>mem_append_left _ h) (λ_=>mem_append_right _ (mem_singleton_self _)),by rw[map_append];rfl⟩) rfl rfl
    rcases mem_append.mp hq with hq | hq
    ·exact hps q hq
    ·rw[mem_singleton.mp hq]
     exact ⟨a,b,ha,hb,gd1 a (by omega),gd1 b hb⟩
  ·rintro _ ⟨ps,v8,v9,hpl,hps,hall,rfl⟩
   rw[length_range] at hpl hall
   exact ⟨ps,.dat (.int (b:Nat)),v8,v9,by omega,hps,(λa' b' h1 h2 h3=>hall a' b' h1 (by omega) h3),rfl⟩
 ·rintro _ ⟨ps,v7,v8,v9,hpl,hps,hall,rfl⟩
  rw[length_range] at hpl hall
  have hpm:∀ q∈ps,q.1<m/\q.2<m:=λq hq=>by
   obtain ⟨a,b,_,_,h1,h2⟩:=hps q hq
   exact ⟨hlm _ (mem_of_getElem? h1),hlm _ (mem_of_getElem? h2)⟩
  have ix:∀ {x y:Nat},l[x]?=some y->l.idxOf y=x:=λ{x y} h=>by
   obtain ⟨hx,e⟩:=List.getElem?_eq_some_iff.mp h
   subst e
   exact hnd.idxOf_getElem x hx
  have hO:IsO (Z4 ps m):=IsO.bits hpm (λa b=>l.idxOf a<l.idxOf b) (λa b c h1 h2=>Nat.lt_trans h1 h2) (λa h=>lt_irrefl _ h) λq hq=>by
   obtain ⟨a,b,hab,_,h1,h2⟩:=hps q hq
   show l.idxOf q.1<l.idxOf q.2
   rw[ix h1,ix h2];exact hab
  have hold:=(JN ps hpm (List.replicate m 0) length_replicate W8.1 W8.2).2.2.2.1
  have hu7:=ziX hl hm8 (k:=Z4 ps m) Qh (N:=N) htm hN λa b h1 h2 h3=>hold _ (hall a b h1 h2 h3)
  exact zdm (Z6 (Zv (Yz (Zc (Zb rfl) Zg) (RLc.mk ps m hm8 hpm hO)) ⟨_,s2+1,rfl,⟨m,_,rfl,rfl,hO,Qh,hu7,by omega⟩,rfl⟩))
end
theorem zgB {n:Nat}:Pl n .none:=⟨by unfold PyData.canLay0;rfl,by unfold PyData.depth;omega,by unfold noBool;rfl⟩
theorem ziH (o:Option Nat):Pl 2 (oD o):=by
 cases o with
 | none=>exact zgB
 | some c=>exact Xd _
theorem zbN (m:Nat):pairsOf (Z4 [] m)=[]:=List.eq_nil_iff_forall_not_mem.mpr λq hq=>by
 have:=(Yh.mp hq).2.2
 have e:ah (List.replicate m 0) q.1 q.2=true:=this
 rw[V3] at e;cases e
theorem zfe (m:Nat):IsO (Z4 [] m):=IsO.bits (λq h=>nomatch h) (λ_ _=>False) (λ_ _ _ h _=>h) (λ_ h=>h) λq h=>nomatch h
section
theorem zgb {B:Hp}{ρ:List PV}{ds:List PyData}{n:Nat}{t:TS}{R:L2.Pn}(i:Nat)(hi:ρ[i]?=some (.own ds))(hD:Dk n ds)(h:∀ p,Sv K B t (ρ.set i ((lkT K).pv n p [])) R):Sv K B t ρ R:=λE G0 H0 G H σ F D r dn=>by
 obtain ⟨p,xs,e,hx,hp,hd⟩:=r.sl i _ hi
 have hlt:i<ρ.length:=(List.getElem?_eq_some_iff.mp hi).1
 refine h p E G0 H0 G H σ F D ⟨r.g,r.bb,by rw[length_set];exact r.ls,λj v hj=>?_,r.fr,r.dj,λj ds' a hj ha=>?_⟩ dn
 ·by_cases z:j=i
  ·subst z
   rw[getElem?_set_self hlt] at hj
   cases hj
   exact (lkT K).sl.mpr ⟨e,hx,rfl,xs,ds,hp,hd,hD⟩
  ·rw[getElem?_set_ne (Ne.symm z)] at hj
   exact r.sl j v hj
 ·by_cases z:j=i
  ·subst z
   rw[getElem?_set_self hlt] at hj
   cases hj
  ·rw[getElem?_set_ne (Ne.symm z)] at hj
   exact r.ow j ds' a hj ha
theorem zgi {f:Addr}{fd:FuncData}(F:Fun K "law" "law" Uu f fd)(T:Top K mg):Ql P w K mg base CX0 266 f fd ["script"] (zaW K):=by
 have G__law_next:T.ZL.O P w base 265 (spT (lkT K) zfu RDw):=(zaN T).mono (by decide)
 have G__law_known:T.XN.O P w base 265 (spT (lkT K) zjS RKn):=(zec T).mono (by decide)
 have G__law_much_known:T.Y8.O P w base 265 (spT (lkT K) zfy RMk):=(zj4 T).mono (by decide)
 have G__law_tree:T.WP.O P w base 265 (spT (lkT K) zgZ RTr):=(zfA T).mono (by decide)
 have G__law_asked_twice:T.YW.O P w base 265 (spT (lkT K) zfW RAt):=(zjL T).mono (by decide)
 have G__law_behind:T.Yu.O P w base 265 (spP K (RBe 256)):=(zhO T 256).mono (by decide)
 have G_tree_count:T.Xn.O P w base 265 (spP K RTc):=(zjU T).mono (by decide)
 have G__law_spoilt:T.X6.O P w base 265 (spT (lkT K) zgx RSp):=(zdL T).mono (by decide)
 refine F.zjo Wo λcdv A outer s H E hr ns hns=>?_
 have hu:=hr.units
 have zl:(2000:Nat)<sizeLine:=by decide
 have pw:∀ {e v:Nat},e<=256->v<=7->e*2 ^ v<=10 ^ 6:=λ{e v} h1 h2=>Nat.le_trans (mul_le_mul h1 (pow_le_pow_right (by decide) h2)) (by decide)
 refine ⟨_,(Ze (Zr (i:=1) Wo.nd rfl (Or.inl rfl) (Yp (Za (ZK (zbo (K:=K) rfl) (pv 0) Z7 (Z3 Zh)) (Za Zh Zf Zx) Zt)))
   (Ze (Wa PassesOwn.never rfl (Xe (by rfl) T.Wn (Za Zh Zf Zx)) (Z8 (i:=2) Wo.nd rfl (Or.inl rfl)) (Ze (Zr (i:=3) Wo.nd rfl (Or.inl rfl) (Zo Yn (peN T.ZL G__law_next hr (Za (pv 1) Zf Zd)) Zh))
   (Ze (Zr (i:=4) Wo.nd rfl (Or.inl rfl) (peN T.XN G__law_known hr (Za (pv 1) (Za (pv 3) Zf Zd) Zd)))
   (Ze (YX (Zy XF (pv 2) Zh (ZR _)) (Ze (Zr (i:=3) Wo.nd rfl (Or.inl rfl) (Zo YF Zh (Zo Yn (peN T.ZL G__law_next hr (Za (pv 1) Zf Zd)) Zh)))
   (Zm (Zr (i:=4) Wo.nd rfl (Or.inl rfl) (peN T.Y8 G__law_much_known hr (Za (pv 1) (Za (pv 3) Zf Zd) Zd))))) ZX)
   (Ze (Zr (i:=5) Wo.nd rfl (Or.inl rfl) (peN T.YW G__law_asked_twice hr (Za (pv 1) (Za (peN T.WP G__law_tree hr (Za (pv 1) (Za (pv 4) (Za (pv 3) Zf Zd) Zd) Zd)) (Za (pv 4) (Za (pv 3) Zf Zd) Zd) XX) Zd)))
   (Ze (Zr (i:=6) Wo.nd rfl (Or.inl rfl) (peN T.Yu G__law_behind hr (Za (pv 5) (Za Zh (Za (pv 4) (Za (pv 3) Zf Zd) Zd) Zx) Zd)))
   (Ze (YX ((pw_or (Zy zcz (pv 6) Jj (ZR _)) (pw_or1 (Zy (JM (K:=K) rfl hu) (peN T.Xn G_tree_count hr (Za (pv 5) (Za (pv 4) (Za (pv 3) Zf Zd) Zd) Zd)) (pv 6) (ZR _))))).pt (Zm (Z5 zdp)) ZX)
   (Zm (Wa PassesOwn.never rfl (Xe (by rfl) T.Wn (Za Zh Zf Zx)) (Z8 (i:=7) Wo.nd rfl (Or.inl rfl)) (Ze (Zr (i:=8) Wo.nd rfl (Or.inl rfl) (peN T.X6 G__law_spoilt hr (Za (pv 1) (Za (pv 5) (Za (pv 3) Zf Zd) Zd) Zd)))
   (Ze (Zr (i:=9) Wo.nd rfl (Or.inl rfl) (pv 4))
   (Ze (YX (Zy U9 (pv 2) Zh (ZR _)) (Zm (Zr (i:=9) Wo.nd rfl (Or.inl rfl) (Ym (Yt (K:=K) rfl) (Yp (Za (pv 4) (Za (peN T.XN G__law_known hr (Za (pv 1) (Za (pv 3) Zf Zd) Zd)) (Za (ZG Zf) Zf Yc) XX) Zd)) (Zo Yn (peN T.ZL G__law_next hr (Za (pv 1) Zf Zd)) Zh) (λ_ _=>rfl)))) ZX)
   (Ze (Zr (i:=10) Wo.nd rfl (Or.inl rfl) (peN T.Xn G_tree_count hr (Za (pv 8) (Za (pv 9) (Za (pv 3) Zf Zd) Zd) Zd)))
   (Zm (YX ((pw_or (Zy (JM (K:=K) rfl hu) (pv 10) (peN T.Yu G__law_behind hr (Za (pv 8) (Za Zh (Za (pv 9) (Za (pv 3) Zf Zd) Zd) Zx) Zd)) (ZR _)) (pw_or1 (QK (ZJ (zek (K:=K) rfl) (by rfl) T.zbc zkG (Za (pv 10) (Za (zfG (v:=.ty "bool") (by rfl) T.bool_ zjJ rfl) Zf))))))).pt (Zm (Z5 zdp)) ZX)))))))))))))))
   (Zm (Z5 (Wm zcz (peN T.Xn G_tree_count hr (Za (ZG Zf) (Za (ZG Zf) (Za Zh Zf Zx) Yc) Yc)) Jj (ZR _)))))) ,?_⟩
 obtain ⟨cs,hcs,hcl,_⟩:=zgk PyData.int ns none (some 63)
 refine Zj (Zq (JC (Zc (Yo (zeU rfl Yw QL) (by rw[hcs])) (Zc Zi Zg)) (by show 2<=sizeLine;decide) ?_))
 refine zgb (n:=0) 1 rfl ⟨cs,0,rfl,by omega,by decide⟩ λp=>?_
 refine Zj (Wr (List.range 4) (λ(i:Nat)=>PyData.int (i:Nat)) (WQ (n:=4) (Zc Zi Zg) (by decide)) (λi ρ=>∃ (c:Nat) (v2 v3 v4 v5 v6 v7 v8 v9 v10:PV),c<=2000*i/\ρ=[.scr ns,(lkT K).pv c p [],v2,v3,v4,v5,v6,v7,v8,v9,v10]) ⟨0,_,_,_,_,_,_,_,_,_,Nat.le_refl _,rfl⟩ ?_ ?_)
 ·rintro i hi _ ⟨c,v2,v3,v4,v5,v6,v7,v8,v9,v10,hc,rfl⟩
  rw[rix 4 i hi]
  rw[length_range] at hi
  refine Wj (Zj (Zq (zae (m:=5) (c:=c) rfl (by omega) Zi (by decide) λm hm=>?_)))
  refine Zj (Zq (XH (s:=c+1) rfl (Wh (Zc (Zb rfl) Zg) ⟨c+1,rfl,⟨m,rfl,by omega,by omega⟩,λx c2 hx=>?_⟩)))
  obtain ⟨m',k0,e,rfl,hO0,hl0,hc2⟩:=hx
  injection e with e _
  injection e with e
  have e:m'=m:=by omega
  subst e
  show Sv K B0 _ [.scr ns,(lkT K).pv c2 p [],.dat (.int (i:Nat)),.dat (.int (m' : Nat)),.dat (dPs (pairsOf k0)),v5,v6,v7,v8,v9,v10] _
  refine JF (fun ρ' => ∃ (c3:Nat) (k:Kn),c3<=c2+21/\IsO k/\k.length<=8/\u k<=7/\(i<3->k.length<=4)/\ρ'=[.scr ns,(lkT K).pv c3 p [],.dat (.int (i:Nat)),.dat (.int (k.length:Nat)),.dat (dPs (pairsOf k)),v5,v6,v7,v8,v9,v10]) (Xl (b:=decide (i=3)) (W9 (Zu (Xy (Zb rfl) Zi)) (decide_eq_decide.mpr (by omega))) (λh3=>?_) λh3=>ZZ ⟨c2,k0,by omega,hO0,by omega,by have:=zh2 (k:=k0) (by omega);omega,λ_=>by omega,by rw[hl0]⟩) ?_
  ·have h3:i=3:=of_decide_eq_true h3
   refine Zj (Zq (zca (Zv Zi ⟨_,rfl,zae (m:=4) (c:=c2) rfl (by omega) Zi (by decide) λr hr4=>⟨_,.int ((5+r:Nat):Int),rfl,(λG σ va vb ha hb=>zjw (ziG (UL ha) (UL hb) (Zk _)) (by congr 1)),?_⟩⟩)))
   refine Zq (XH (s:=c2+1) rfl (Wh (Zc (Zb rfl) Zg) ⟨c2+1,rfl,⟨5+r,rfl,by omega,by omega,by omega⟩,λx c3 hx=>?_⟩))
   obtain ⟨m2,k,e,rfl,hO,hl,hu7,hc3⟩:=hx
   injection e with e _
   injection e with e
   have e:m2=5+r:=by omega
   subst e
   exact ⟨c3,k,by omega,hO,by omega,hu7,λz=>by omega,by rw[hl];rfl⟩
  clear hO0 hl0 k0
  rintro _ ⟨c3,k,hc3,hO,h8,hu7,h34,rfl⟩
  refine Zj (Zq (XH (s:=c3) rfl (WN (XH (s:=c3) rfl (Wh (Zc (Zb rfl) (Zc (Zb rfl) Zg)) ⟨c3,rfl,⟨k,rfl,hO,h8,hu7,by omega⟩,λx c4 hx=>?_⟩)))))
  obtain ⟨k',ks,e,hO',rfl,hin,hks,hkl,key,hc4⟩:=hx
  injection e with e1 e
  injection e with e _
  injection e with e
  have ek:k'=k:=zbB hO' hO (by omega) e1.symm
  subst ek
  clear e e1
  refine ⟨_,rfl,Wh (Zc (Zb rfl) (Zc (Zb rfl) Zg)) ⟨c4,rfl,⟨ks,k',rfl,h8,hO,hin,hks,hkl,key,by omega⟩,λx c5 hx=>?_⟩⟩
  obtain ⟨ks',k2,es,e,rfl,hin2,hes,hel,hBh,hO2,hc5⟩:=hx
  injection e with _ e
  injection e with e1 e
  injection e with e _
  injection e with e
  have ek:k2=k' := zbB hO2 hO (by omega) e1.symm
  subst ek
  clear e e1 hO2 hO' hin key hks hkl
  obtain ⟨z,hz⟩:=hBh
  show Sv K B0 _ [.scr ns,(lkT K).pv c5 p [],.dat (.int (i:Nat)),.dat (.int (k2.length:Nat)),.dat (dPs (pairsOf k2)),.dat (dT es),v6,v7,v8,v9,v10] _
  have hinT:zhg k2.length es:=λt ht=>(hin2 t ht).in
  refine Zj (Zq (Zv (d:=.int (z:Nat)) (Yo (Yz (Zc (Zb rfl) (Zc (Yo Zi (show PyData.int 0 = .int ((0:Nat):Int) from rfl)) (Zc (Zb rfl) (Zc (Zb rfl) Zg)))) (RBe.mk es 0 k2 h8 hO hinT (by omega) (by omega))) (by rw[hz];rfl)) ?_))
  refine Zj (Vf (W9 (zaC (Zu (zbd (Zb rfl))) λ_=>Zu (Jh (n:=2) (Yo (Yz (Zc (Zb rfl) (Zc (Zb rfl) (Zc (Zb rfl) Zg))) (RTc.mk es k2 h8 hinT (pw hel hu7) (by omega) hO)) (show _=PyData.int (z:Nat) by rw[hz];rfl)) (Zb rfl) (Xd _) (Xd _) (by decide))) (by
   show (false || !PySem.Spec.same _ _)=false
   rw[same_self];rfl)) (ZZ ?_))
  show Sv K B0 _ [.scr ns,(lkT K).pv c5 p [],.dat (.int (i:Nat)),.dat (.int (k2.length:Nat)),.dat (dPs (pairsOf k2)),.dat (dT es),.dat (.int (z:Nat)),v7,v8,v9,v10] _
  refine Wr (List.range 6) (λ(i:Nat)=>PyData.int (i:Nat)) (WQ (n:=6) (Zc Zi Zg) (by decide)) (λt ρ=>∃ (c6:Nat) (v7 v8 v9 v10:PV),c6<=c5+130*t/\ρ=[.scr ns,(lkT K).pv c6 p [],.dat (.int (i:Nat)),.dat (.int (k2.length:Nat)),.dat (dPs (pairsOf k2)),.dat (dT es),.dat (.int (z:Nat)),v7,v8,v9,v10]) ⟨c5,v7,v8,v9,v10,Nat.le_refl _,rfl⟩ ?_ ?_
  ·rintro t ht _ ⟨c6,v7,v8,v9,v10,hc6,rfl⟩
   rw[rix 6 t ht]
   rw[length_range] at ht
   refine Wj (Zj (Zq (XH (s:=c6) rfl (Wh (Zc (Zb rfl) (Zc (Zb rfl) Zg)) ⟨c6,rfl,⟨es,k2.length,rfl,h8,hin2,hes,hel,by omega⟩,λx c7 hx=>?_⟩))))
   obtain ⟨es2,n2,es',e,rfl,hin',hel',hc7⟩:=hx
   injection e with e1 e
   injection e with e _
   injection e with e
   have e:n2=k2.length:=by omega
   subst e
   have e1:=zht e1
   subst e1
   refine Zj (Zq (Zv (Zb rfl) ?_))
   show Sv K B0 _ [.scr ns,(lkT K).pv c7 p [],.dat (.int (i:Nat)),.dat (.int (k2.length:Nat)),.dat (dPs (pairsOf k2)),.dat (dT es),.dat (.int (z:Nat)),.dat (.int (t:Nat)),.dat (dT es'),.dat (dPs (pairsOf k2)),v10] _
   refine JF (fun ρ' => ∃ (c8:Nat) (k:Kn),c8<=c7+101/\IsO k/\k.length=k2.length/\u k<=7/\ρ'=[.scr ns,(lkT K).pv c8 p [],.dat (.int (i:Nat)),.dat (.int (k2.length:Nat)),.dat (dPs (pairsOf k2)),.dat (dT es),.dat (.int (z:Nat)),.dat (.int (t:Nat)),.dat (dT es'),.dat (dPs (pairsOf k)),v10]) (Xl (b:=decide (i<3)) (W9 (Zu (Y5 (Zb rfl) Zi λ_=>Yy _)) (decide_eq_decide.mpr (by omega))) (λh3=>?_) λh3=>ZZ ⟨c7,k2,by omega,hO,rfl,hu7,rfl⟩) ?_
   ·have h4:=h34 (of_decide_eq_true h3)
    refine Zq (zca (zgc (WN (Zv (Zb rfl) ⟨_,rfl,WN (XH (s:=c7) rfl (Wh (Zc (Zb rfl) Zg) ⟨c7,rfl,⟨k2.length,rfl,by omega,by omega⟩,λx c8 hx=>?_⟩))⟩))))
    obtain ⟨m2,k3,e,rfl,hO3,hl3,hc8⟩:=hx
    injection e with e _
    injection e with e
    have e:m2=k2.length:=by omega
    subst e
    refine ⟨_,rfl,Wh (Zc (ZM Zg (by show 0<=sizeLine;decide)) Zg) ⟨by show 3<=sizeLine;decide,_,rfl,zae (m:=3) (c:=c8) rfl (by omega) Zi (by decide) λr hr3=>?_⟩⟩
    obtain ⟨k4,e4,hO4,hl4⟩:∃ k4:Kn,[dPs (pairsOf k2),dPs (pairsOf k3),PyData.tuple []][r]?=some (dPs (pairsOf k4))/\IsO k4/\k4.length=k2.length:=by
     have:r=0\/r=1\/r=2:=by omega
     rcases this with rfl | rfl | rfl
     ·exact ⟨k2,rfl,hO,rfl⟩
     ·exact ⟨k3,rfl,hO3,hl3⟩
     ·exact ⟨Z4 [] k2.length,by rw[zbN];rfl,zfe _,Qh⟩
    refine ⟨_,dPs (pairsOf k4),rfl,(λG σ va vb ha hb=>zeZ (n:=r) (UL ha) (UL hb) (YL hr3) e4),c8+1,k4,by omega,hO4,hl4,by have:=zh2 (k:=k4) (by omega);omega,rfl⟩
   ·rintro _ ⟨c8,k,hc8,hOk,hlk,huk,rfl⟩
    have hink:zhg k.length es' := by rw[hlk];exact hin'
    have lk:∀ {ρ:List PV},ρ[3]?=some (.dat (.int (k2.length:Nat)))->Er K B0 (WL 3) ρ (.int (k.length:Nat)):=λh=>Yo (Zb h) (by rw[hlk])
    refine Zj (Zq (Zv (Yz (Zc (Zb rfl) (Zc (Zb rfl) (Zc (lk rfl) Zg))) (RTc.mk es' k (by omega) hink (pw (by omega) huk) (by omega) hOk)) ?_))
    refine Vf (W9 (e:=false) (zaC (c:=false) (e:=false) (W9 (Zu (Jh (n:=2) (Zb rfl) (Yz (Zc (Zb rfl) (Zc (Yo Zi (show PyData.int 0 = .int ((0:Nat):Int) from rfl)) (Zc (Zb rfl) (Zc (lk rfl) Zg)))) (RBe.mk es' 0 k (by omega) hOk hink (by omega) (by omega))) (ziH _) (ziH _) (by decide))) (by show (!PySem.Spec.same _ _)=false;rw[same_self];rfl)) λ_=>zjc (zhZ (Zb rfl) (by cases Bh es' 0 k <;> first | exact T.ib | exact T.nb))) rfl) (ZZ ?_)
    exact ⟨c8,_,_,_,_,by omega,rfl⟩
  ·rintro _ ⟨c6,v7,v8,v9,v10,hc6,rfl⟩
   rw[length_range] at hc6
   exact ⟨c6,_,_,_,_,_,_,_,_,_,by omega,rfl⟩
 ·rintro _ ⟨c,v2,v3,v4,v5,v6,v7,v8,v9,v10,hc,rfl⟩
  refine Z6 (Zv (Yo (zbd (Yo (Yz (Zc (Yo (ZM Zg (by show 0<=sizeLine;decide)) (show _=dT [] from rfl)) (Zc (Yo (ZM Zg (by show 0<=sizeLine;decide)) (show _=dPs (pairsOf (Z4 [] 1)) by rw[zbN];rfl)) (Zc (Yo Zi (show PyData.int 1 = .int (((Z4 [] 1).length:Nat):Int) from rfl)) Zg))) (RTc.mk [] (Z4 [] 1) (by decide) (λt h=>nomatch h) (by show 0*_<=_;omega) (by decide) (zfe 1))) (show _=PyData.none by rw[Uj (by decide)];rfl))) ?_) rfl)
  rfl
end
theorem zfT (P:Program)(w:World)(K:PySem.W.Frag)(mg:Str->Option Value)(base:Heap):OkL P w K mg base:=Classical.byContradiction λh=>(@Classical.epsilon_spec EnC (λe=>¬ OkL e.P e.w e.K e.mg e.base) ⟨⟨P,w,K,mg,base⟩,h⟩) (λf fd F T=>zgi F T)
theorem ziS {P:Program}{w:World}{K:PySem.W.Frag}{mg:Str->Option Value}{base:Heap}{f:Addr}{fd:FuncData}(F:Fun K "law" "law" Uu f fd)(T:Top K mg):Ql P w K mg base CX0 266 f fd ["script"] (zaW K):=zfT P w K mg base f fd F T
structure Pm (K:PySem.W.Frag)(x:Str)(st:Stmt)(f:Addr)(oc:Value)(od:Option Addr)(kV dc pm:Value)(an:Option Addr)(cd ct:Value)(sl:Array (Option Value)):Prop where
 a:PySem.W.nsIn K mainGlobals x=some (some (.ref f))
 l:K.lookup f=some ⟨oc,od,.func (PySem.W.fnOf x x (Wl st) (YT st) (Zn st) .none kV dc pm an cd ct),sl⟩
 c:codeIn K cd x=true
 k:keepIn K (.ref f)=true
def Pn (K:PySem.W.Frag)(n:Str)(s:Stmt):Prop:=∃ f oc od kV dc pm an cd ct sl,Pm K n s f oc od kV dc pm an cd ct sl
noncomputable def Pn.go {K:PySem.W.Frag}{h:Heap}{mg:Str->Option Value}{n:Str}{s:Stmt}{ps:List Str}(p:Pn K n s) (X:K.In h) (G:h.Ns mainGlobals mg) (hb:∀ (kV doc pm:Value) (an:Option Addr) (cdv ct:Value) (us:List Value),us.length=ps.length->bindArgs (PySem.W.fnOf n n (Wl s) (YT s) (Zn s) .none kV doc pm an cdv ct) ⟨us,[]⟩=pure (ps.zip us)):Fn1 K mg n s ps:=Classical.choice (by
 obtain ⟨f,oc,od,kV,dc,pm,an,cd,ct,sl,p⟩:=p
 exact ⟨⟨f,_,zcH (st:=s) p.l p.c p.k,(zcH (st:=s) p.l p.c p.k).binds hb,mg_of X G p.a⟩⟩)
noncomputable def Pn.go1 {K:PySem.W.Frag}{h:Heap}{mg:Str->Option Value}{n:Str}{s:Stmt}{x0:Str}(p:Pn K n s) (X:K.In h) (G:h.Ns mainGlobals mg) (hb:∀ (kV doc pm:Value) (an:Option Addr) (cdv ct:Value) (u0:Value),bindArgs (PySem.W.fnOf n n (Wl s) (YT s) (Zn s) .none kV doc pm an cdv ct) ⟨[u0],[]⟩=pure ([x0].zip [u0])):Fn1 K mg n s [x0]:=p.go X G λa b c d e f us hl=>match us,hl with | [u0],_=>hb a b c d e f u0
noncomputable def Pn.go2 {K:PySem.W.Frag}{h:Heap}{mg:Str->Option Value}{n:Str}{s:Stmt}{x0 x1:Str}(p:Pn K n s) (X:K.In h) (G:h.Ns mainGlobals mg) (hb:∀ (kV doc pm:Value) (an:Option Addr) (cdv ct:Value) (u0 u1:Value),bindArgs (PySem.W.fnOf n n (Wl s) (YT s) (Zn s) .none kV doc pm an cdv ct) ⟨[u0,u1],[]⟩=pure ([x0,x1].zip [u0,u1])):Fn1 K mg n s [x0,x1]:=p.go X G λa b c d e f us hl=>match us,hl with | [u0,u1],_=>hb a b c d e f u0 u1
noncomputable def Pn.go3 {K:PySem.W.Frag}{h:Heap}{mg:Str->Option Value}{n:Str}{s:Stmt}{x0 x1 x2:Str}(p:Pn K n s) (X:K.In h) (G:h.Ns mainGlobals mg) (hb:∀ (kV doc pm:Value) (an:Option Addr) (cdv ct:Value) (u0 u1 u2:Value),bindArgs (PySem.W.fnOf n n (Wl s) (YT s) (Zn s) .none kV doc pm an cdv ct) ⟨[u0,u1,u2],[]⟩=pure ([x0,x1,x2].zip [u0,u1,u2])):Fn1 K mg n s [x0,x1,x2]:=p.go X G λa b c d e f us hl=>match us,hl with | [u0,u1,u2],_=>hb a b c d e f u0 u1 u2
noncomputable def Pn.go4 {K:PySem.W.Frag}{h:Heap}{mg:Str->Option Value}{n:Str}{s:Stmt}{x0 x1 x2 x3:Str}(p:Pn K n s) (X:K.In h) (G:h.Ns mainGlobals mg) (hb:∀ (kV doc pm:Value) (an:Option Addr) (cdv ct:Value) (u0 u1 u2 u3:Value),bindArgs (PySem.W.fnOf n n (Wl s) (YT s) (Zn s) .none kV doc pm an cdv ct) ⟨[u0,u1,u2,u3],[]⟩=pure ([x0,x1,x2,x3].zip [u0,u1,u2,u3])):Fn1 K mg n s [x0,x1,x2,x3]:=p.go X G λa b c d e f us hl=>match us,hl with | [u0,u1,u2,u3],_=>hb a b c d e f u0 u1 u2 u3
theorem zhY {l:PySem.W.OpenLaw}{w:World}{K:PySem.W.Frag}{h:Heap}{mg:Str->Option Value}{fa:Addr}{fz17:Addr}(X:K.In h)(G:h.Ns mainGlobals mg)(hfa:mg "law" = some (.ref fa))
  {odz17 anz17:Option Addr}{slz17:Array (Option Value)}{ocz17 kVz17 dcz17 pmz17 cdz17 ctz17:Value}
  (pz0:Pn K "bits_of" VB)
  (pz1:Pn K "with_look" WW)
  (pz2:Pn K "goes_ahead" Je)
  (pz3:Pn K "tree_count" XJ)
  (pz4:Pn K "answers" Q5)
  (pz5:Pn K "leaves_just" X7)
  (pz6:Pn K "_law_next" JH)
  (pz7:Pn K "_law_closed" Xw)
  (pz8:Pn K "_law_turn" JK)
  (pz9:Pn K "_law_known" Jl)
  (pz10:Pn K "_law_open" WR)
  (pz11:Pn K "_law_tree" Xm)
  (pz12:Pn K "_law_rows_left" Xh)
  (pz13:Pn K "_law_behind" W3)
  (pz14:Pn K "_law_spoilt" WM)
  (pz15:Pn K "_law_asked_twice" Xu)
  (pz16:Pn K "_law_much_known" XD)
  (pz17:Pm K "law" Uu fz17 ocz17 odz17 kVz17 dcz17 pmz17 anz17 cdz17 ctz17 slz17)
  (z_len:PySem.W.nsIn K mainGlobals "len" = some none)
  (z_range:PySem.W.nsIn K mainGlobals "range" = some none)
  (z_tuple:PySem.W.nsIn K mainGlobals "tuple" = some none)
  (z_isinstance:PySem.W.nsIn K mainGlobals "isinstance" = some none)
  (z_list:PySem.W.nsIn K mainGlobals "list" = some none)
  (z_int:PySem.W.nsIn K mainGlobals "int" = some none)
  (z_bool:PySem.W.nsIn K mainGlobals "bool" = some none)
  (z_sorted:PySem.W.nsIn K mainGlobals "sorted" = some none)
  (z_max:PySem.W.nsIn K mainGlobals "max" = some none)
  (z_min:PySem.W.nsIn K mainGlobals "min" = some none)
  (z_set:PySem.W.nsIn K mainGlobals "set" = some none)
  (z_all:PySem.W.nsIn K mainGlobals "all" = some none)
  (z_zip:PySem.W.nsIn K mainGlobals "zip" = some none)
  (z_enumerate:PySem.W.nsIn K mainGlobals "enumerate" = some none)
  (ib:kitOne K (.type "int") (.type "bool")=some false)
  (nb:kitOne K (.type "NoneType") (.type "bool")=some false):
  ∃ fd:FuncData,(∀ (s:Shared) (v:Value),BindsTo s fd ⟨[v],[]⟩ [("script",v)])/\∀ base:Heap,K.In base->base.Ns mainGlobals mg->Ql l.prog w K mg base CX0 266 fa fd ["script"] (zaW K):=by
 have e:=hfa.symm.trans (mg_of X G pz17.a)
 cases e
 exact ⟨PySem.W.fnOf "law" "law" (Wl Uu) (YT Uu) (Zn Uu) .none kVz17 dcz17 pmz17 anz17 cdz17 ctz17,λs v=>.of_eq rfl,λbase _ _=>ziS (zcH (st:=Uu) pz17.l pz17.c pz17.k)
  ⟨pz0.go2 X G λ_ _ _ _ _ _ _ _=>rfl,
  pz1.go3 X G λ_ _ _ _ _ _ _ _ _=>rfl,
  pz2.go3 X G λ_ _ _ _ _ _ _ _ _=>rfl,
  pz3.go3 X G λ_ _ _ _ _ _ _ _ _=>rfl,
  pz4.go2 X G λ_ _ _ _ _ _ _ _=>rfl,
  pz5.go2 X G λ_ _ _ _ _ _ _ _=>rfl,
  pz6.go1 X G λ_ _ _ _ _ _ _=>rfl,
  pz7.go1 X G λ_ _ _ _ _ _ _=>rfl,
  pz8.go2 X G λ_ _ _ _ _ _ _ _=>rfl,
  pz9.go2 X G λ_ _ _ _ _ _ _ _=>rfl,
  pz10.go2 X G λ_ _ _ _ _ _ _ _=>rfl,
  pz11.go3 X G λ_ _ _ _ _ _ _ _ _=>rfl,
  pz12.go2 X G λ_ _ _ _ _ _ _ _=>rfl,
  pz13.go4 X G λ_ _ _ _ _ _ _ _ _ _=>rfl,
  pz14.go3 X G λ_ _ _ _ _ _ _ _ _=>rfl,
  pz15.go4 X G λ_ _ _ _ _ _ _ _ _ _=>rfl,
  pz16.go2 X G λ_ _ _ _ _ _ _ _=>rfl,
   mg_none_of X G z_len,
   mg_none_of X G z_range,
   mg_none_of X G z_tuple,
   mg_none_of X G z_isinstance,
   mg_none_of X G z_list,
   mg_none_of X G z_int,
   mg_none_of X G z_bool,
   mg_none_of X G z_sorted,
   mg_none_of X G z_max,
   mg_none_of X G z_min,
   mg_none_of X G z_set,
   mg_none_of X G z_all,
   mg_none_of X G z_zip,
   mg_none_of X G z_enumerate,
   ib,
   nb⟩⟩
theorem walk {l:PySem.W.OpenLaw}{q:Program}{loose:List Str}{XP:(Str->Option Value)->Heap->Prop}{YP:World->Heap->Prop}{d:DefRec}{K:Params->PySem.W.Frag}(hn:l.most=some 63)(hdf:d.params.defaults=[])
  (hY:∀ (w:World) (h:Heap),YP w h->(K w.params).In h)
  (F:∀ (w:World) (mg:Str->Option Value) (fa:Addr) (h:Heap),(K w.params).In h->h.Ns mainGlobals mg->mg d.name=some (.ref fa)->
   ∃ fd:FuncData,(∀ (s:Shared) (u:Value),BindsTo s fd ⟨[u],[]⟩ [("script",u)])/\∀ base:Heap,(K w.params).In base->base.Ns mainGlobals mg->Ql l.prog w (K w.params) mg base CX0 266 fa fd ["script"] (zaW (K w.params))):
  PySem.W.WalkO q loose XP YP l.row.toRowW d [] (λf vs=>PySem.call f vs):=
 L2.zfN (n:=63) (k:=266) (x:= "script") (CX:=λ_=>CX0) (sp:=λw=>zaW (K w.params)) hn (by decide) hdf ⟨rfl,by decide,by decide⟩ hY F (λ_ _ a ns hl _ hS=>⟨a,ns,rfl,hS,hl,λ_=>rfl⟩) λ_ _ _ _ _ z=>z
end K36
def PySem.W.Fast.tw4488836794686202344:Nat:=0
def PySem.W.Fast.tw9746773630005217901:Nat:=0
def PySem.W.Fast.tw13964552294775442902:Nat:=0
def PySem.W.Fast.tw14982728715480352615:=0
def PySem.W.Fast.tw1978287506160108241:=0
def PySem.W.Fast.tw2981727787443209268:=0
def PySem.W.Fast.tw7683783426004610415:=0
def PySem.W.Fast.tw16118669608835951271:=0
def PySem.W.Fast.tw3782541273595755157:=0
def PySem.W.Fast.tw6006261845046509744:=0
def PySem.W.Fast.tw11463820601336802529:=0
def PySem.W.Fast.tw5476454950913897190:=0
def PySem.W.Fast.tw5676525303868563172:=0
def PySem.W.Fast.tw3403302108715061013:=0
def PySem.W.Fast.tw3660956692156752864:=0
def PySem.W.Fast.tw1770126013608439351:=0
def PySem.W.Fast.tw16226095332383031941:=0
def PySem.W.Fast.tw2591907053237467103:=0
def PySem.W.Fast.tw8169908277877227210:=0
def PySem.W.Fast.tw1240812098214245019:=0
def PySem.W.Fast.tw14384639013213405280:=0
def PySem.W.Fast.tw17376561492370740175:=0
def PySem.W.Fast.tw10919659826360685075:=0
def PySem.W.Fast.tw15275638230720269909:=0
def PySem.W.Fast.tw7737541562196038200:=0
def PySem.W.Fast.tw10263140884830279836:=0
def PySem.W.Fast.tw7260973829128686505:=0
def PySem.W.Fast.tw12611943168071351031:=0
def PySem.W.Fast.tw12780583087248590092:=0
def PySem.W.Fast.tw12259455865752658846:=0
def PySem.W.Fast.tw17856432635660659800:=0
def PySem.W.Fast.tw18127794256817346617:=0
def PySem.W.Fast.tw1455637293985026940:=0
def PySem.W.Fast.tw14812876581521853195:=0
def PySem.W.Fast.tw16463469364711175626:=0
def PySem.W.Fast.tw2870034581541115776:=0
def PySem.W.Fast.tw7481767450606630346:=0
def PySem.W.Fast.tw2141763889903825595:=0
def PySem.W.Fast.tw5458140345447076516:=0
def PySem.W.Fast.tw16310469521290695325:=0
def PySem.W.Fast.tw7793301133201527045:=0
def PySem.W.Fast.tw12553878039532295380:=0
def PySem.W.Fast.tw14028219010350245788:=0
def PySem.W.Fast.tw5495695152709417647:=0
def PySem.W.Fast.tw16618609608245539540:=0
def PySem.W.Fast.tw13984704550593140069:=0
def PySem.W.Fast.tw1884248692367379712:=0
def PySem.W.Fast.tw15789578688721960894:=0
def PySem.W.Fast.tw3203022276339656301:=0
def PySem.W.Fast.tw18395327832427828994:=0
def PySem.W.Fast.tw13546309660814589494:=0
def PySem.W.Fast.tw1202342433480223651:=0
def PySem.W.Fast.tw9270184847095872462:=0
def PySem.W.Fast.tw11219917160935899686:=0
def PySem.W.Fast.tw7289822131139330942:=0
def PySem.W.Fast.tw10144573228349588764:=0
open PySem PySem.W PyProof.Rows
set_option maxRecDepth 100000 in
set_option maxHeartbeats 0 in
theorem PySem.Challenge.cw_ordertext_k36_tree_count_holds : PySem.Challenge.rw_ordertext_k36_tree_count.Holds := by
 w_on;o_law;k_head;(case hw=>w_witness2)
 k_fill
 refine K36.walk (l:=PySem.Challenge.rw_ordertext_k36_tree_count) rfl rfl (λw h Y=>PySem.W.kIn_of Y) ?F
 case F=>
  intro w mg fa h KX G hmg
  refine' K36.zhY KX G hmg ?pz0 ?pz1 ?pz2 ?pz3 ?pz4 ?pz5 ?pz6 ?pz7 ?pz8 ?pz9 ?pz10 ?pz11 ?pz12 ?pz13 ?pz14 ?pz15 ?pz16 ?pz17 ?z_len ?z_range ?z_tuple ?z_isinstance ?z_list ?z_int ?z_bool ?z_sorted ?z_max ?z_min ?z_set ?z_all ?z_zip ?z_enumerate ?ib ?nb
  case pz0|pz1|pz2|pz3|pz4|pz5|pz6|pz7|pz8|pz9|pz10|pz11|pz12|pz13|pz14|pz15|pz16=>exact ⟨_,_,_,_,_,_,_,_,_,_,by k_is,by k_is,by k_is,by k_is⟩
  (case pz17=>exact ⟨by k_is,by k_is,by k_is,by k_is⟩)
  (case z_len=>k_is)
  (case z_range=>k_is)
  (case z_tuple=>k_is)
  (case z_isinstance=>k_is)
  (case z_list=>k_is)
  (case z_int=>k_is)
  (case z_bool=>k_is)
  (case z_sorted=>k_is)
  (case z_max=>k_is)
  (case z_min=>k_is)
  (case z_set=>k_is)
  (case z_all=>k_is)
  (case z_zip=>k_is)
  (case z_enumerate=>k_is)
  (case ib=>first | kit_is | k_is | rfl)
  (case nb=>first | kit_is | k_is | rfl)
