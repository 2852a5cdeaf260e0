import PyProof.Rows.All
import Wide.All
import OpenK.AllK
import Wide.FinOn
import Lean
import PyProof.EqAt
import PyProof.EqKinds
import PyProof.TupleCall
import PySem.Challenge.RW_ordertext_k35_closed
set_option Elab.async false
set_option linter.all false
set_option maxRecDepth 100000
set_option genSizeOf false
set_option compiler.extract_closed false
open PySem.Around (under_plainId)
open Array (getD_eq_getD_getElem? getElem?_toList length_toList perm_iff_toList_perm toList_append toList_push toList_reverse)
open Bool (and_eq_true eq_false_iff false_eq_true not_eq_true')
open PySem.Calls (spliced_cons spliced_nil)
open PySem.Heap (SameBut get?_push_of_some get?_push_size get?_update_other get?_update_self lt_size size_push)
open Int (emod_lt_of_pos emod_nonneg eq_ofNat_of_zero_le toNat_natCast)
open List (all_eq_true any_cons append_assoc append_nil ext_getElem? filterMap_cons flatMap_append flatMap_singleton flatten_cons foldl_cons getD_eq_getElem?_getD getElem?_append_left getElem?_append_right getElem?_cons_succ getElem?_map getElem?_range getElem?_set_ne getElem?_set_self getElem_mem getElem_of_mem length_append length_cons length_drop length_map length_range length_replicate length_set length_take map_append map_congr_left map_cons map_drop map_map map_take mem_append mem_append_right mem_cons mem_cons_of_mem mem_cons_self mem_filter mem_filterMap mem_flatMap mem_map mem_of_getElem? mem_of_mem_drop mem_of_mem_take mem_range mem_replicate mem_singleton nodup_cons pairwise_map range_succ replicate_succ size_toArray take_append_drop take_length take_succ)
open Nat (add_sub_cancel_left le_of_eq le_of_lt le_succ lt_irrefl lt_succ_of_lt lt_trichotomy mod_lt mul_le_mul ne_of_lt not_lt_zero zero_add zero_le)
open PySem.F (plainAttrs_list)
open PySem.Spec (sameAll samePairs same_self)
open PySem.W (KatTups Looks callWith_K codeIn excIn exmOne findIn hideAll hideAll_get instObj kat_cons kat_go kat_no kat_yes keepIn kia_one kitAny kitOne kitx_dict kitx_list kitx_none kitx_tuple lookIn looks_findIn methodObj mg_none_of mg_of of_hideAll plainGet subIn)
noncomputable section
set_option maxHeartbeats 4000000
namespace StbG
open PySem PyProof.Rows
noncomputable def R (f:Keyed->Int) (xs:Array Keyed) (i:Nat):Int:=match xs[i]? with
 | some p=>f p
 | none=>0
theorem zb9 {f:Keyed->Int}{xs ys:Array Keyed}{i j:Nat}(h:xs[i]?=ys[j]?):R f xs i=R f ys j:=by unfold R;rw[h]
structure SB (κ:SortKind)(a₀:Array Keyed)(st:SortSt):Prop where
 perm:(arrOf st).Perm a₀
 kind:kindOf st=κ
 failed:failedOf st=none
 pend:pendingOf st = #[]
theorem SB.size {κ:SortKind}{a₀:Array Keyed}{st:SortSt}(h:SB κ a₀ st):(arrOf st).size=a₀.size:=h.perm.size_eq
theorem SB.setArr {κ:SortKind}{a₀:Array Keyed}{st:SortSt}(h:SB κ a₀ st){xs:Array Keyed}(hp:xs.Perm (arrOf st)):SB κ a₀ (PyProof.Rows.setArr st xs):=⟨hp.trans h.perm,h.kind,h.failed,h.pend⟩
def Srt (ρ:Keyed->Int)(xs:Array Keyed)(n:Nat):Prop:=∀ i j,i<=j->j<n->R ρ xs i<=R ρ xs j
def Up (ρ τ:Keyed->Int)(xs:Array Keyed)(n:Nat):Prop:=∀ i j,i<j->j<n->R ρ xs i<R ρ xs j\/(R ρ xs i=R ρ xs j/\R τ xs i<=R τ xs j)
def Dn (ρ τ:Keyed->Int)(xs:Array Keyed)(n:Nat):Prop:=∀ i j,i<j->j<n->R ρ xs j<R ρ xs i\/(R ρ xs i=R ρ xs j/\R τ xs j<=R τ xs i)
def Rs (τ:Keyed->Int)(N:Nat)(xs:Array Keyed)(n:Nat):Prop:=∀ i j,i<j->n<=j->j<N->R τ xs i<=R τ xs j
variable {ρ τ:Keyed->Int}{κ:SortKind}
theorem Rs.mono {N n m:Nat}{xs:Array Keyed}(h:Rs τ N xs n)(k:n<=m):Rs τ N xs m:=λi j a b c=>h i j a (by omega) c
theorem Up.le {xs:Array Keyed}{n:Nat}(h:Up ρ τ xs n):Srt ρ xs n:=λi j hij hj=>by
 rcases Nat.lt_or_eq_of_le hij with q | rfl
 ·rcases h i j q hj with z | z <;> omega
 ·exact Int.le_refl _
theorem zfy {xs:Array Keyed}{a n N:Nat}(hu:Up ρ τ xs a)(hr:Rs τ N xs a)(hs:Srt ρ xs n)(hn:n<=N):Up ρ τ xs n:=λi j hij hj=>by
 have le:=hs i j (le_of_lt hij) hj
 by_cases h:j<a
 ·exact hu i j hij h
 ·have:=hr i j hij (by omega) (by omega)
  omega
theorem zdi {xs:Array Keyed}{i j:Nat}(hj:j<=xs.size)(k:Nat):(i<=k/\k<j->R ρ (mirror xs i j ((j-i) / 2)) k=R ρ xs (i+j-1-k)/\R τ (mirror xs i j ((j-i) / 2)) k=R τ xs (i+j-1-k))/\
  (¬ (i<=k/\k<j)->R ρ (mirror xs i j ((j-i) / 2)) k=R ρ xs k/\R τ (mirror xs i j ((j-i) / 2)) k=R τ xs k):=by
 have e:=getElem?_mirror_all (i:=i) hj k
 refine ⟨λh=>?_,λh=>?_⟩
 ·rw[if_pos h] at e;exact ⟨zb9 e,zb9 e⟩
 ·rw[if_neg h] at e;exact ⟨zb9 e,zb9 e⟩
theorem zgM {xs:Array Keyed}{src d:Nat}(hs:src<xs.size)(hd:d<=src)(k:Nat):(k=src-d->R ρ (bubble xs src d) k=R ρ xs src/\R τ (bubble xs src d) k=R τ xs src)/\
  (src-d<k/\k<=src->R ρ (bubble xs src d) k=R ρ xs (k-1)/\R τ (bubble xs src d) k=R τ xs (k-1))/\(k<src-d\/src<k->R ρ (bubble xs src d) k=R ρ xs k/\R τ (bubble xs src d) k=R τ xs k):=by
 have e:=getElem?_bubble hs d hd k
 refine ⟨λh=>?_,λh=>?_,λh=>?_⟩
 ·rw[if_pos h] at e;exact ⟨zb9 e,zb9 e⟩
 ·rw[if_neg (by omega),if_pos h] at e;exact ⟨zb9 e,zb9 e⟩
 ·rw[if_neg (by omega),if_neg (by omega)] at e;exact ⟨zb9 e,zb9 e⟩
theorem zaX {xs:Array Keyed}{g x:Nat}(hx:x<=xs.size)(hg:g<=x)(h1:Dn ρ τ xs g)(h2:∀ i,i<g->g<x->R ρ xs g<R ρ xs i)(h3:∀ i,g<=i->i<x->R ρ xs i=R ρ xs g)(h4:∀ i j,i<j->g<=i->j<x->R τ xs i<=R τ xs j):
  Dn ρ τ (mirror xs g x ((x-g) / 2)) x:=λi j hij hj=>by
 have mi:=zdi (ρ:=ρ) (τ:=τ) (i:=g) hx i
 have mj:=zdi (ρ:=ρ) (τ:=τ) (i:=g) hx j
 by_cases c1:g<=i
 ·obtain ⟨a1,a2⟩:=mi.1 ⟨c1,by omega⟩
  obtain ⟨b1,b2⟩:=mj.1 ⟨by omega,hj⟩
  rw[a1,a2,b1,b2]
  have q1:=h3 (g+x-1-i) (by omega) (by omega)
  have q2:=h3 (g+x-1-j) (by omega) (by omega)
  exact .inr ⟨by omega,h4 _ _ (by omega) (by omega) (by omega)⟩
 ·obtain ⟨a1,a2⟩:=mi.2 (by omega)
  rw[a1,a2]
  by_cases c2:g<=j
  ·obtain ⟨b1,b2⟩:=mj.1 ⟨c2,hj⟩
   rw[b1,b2]
   have q2:=h3 (g+x-1-j) (by omega) (by omega)
   have:=h2 i (by omega) (by omega)
   exact .inl (by omega)
  ·obtain ⟨b1,b2⟩:=mj.2 (by omega)
   rw[b1,b2]
   exact h1 i j hij (by omega)
theorem Q5 {xs:Array Keyed}{N g x:Nat}(hx:x<=xs.size)(h:Rs τ N xs x):Rs τ N (mirror xs g x ((x-g) / 2)) x:=λi j hij h1 h2=>by
 have mi:=zdi (ρ:=τ) (τ:=τ) (i:=g) hx i
 obtain ⟨_,b2⟩:=(zdi (ρ:=τ) (τ:=τ) (i:=g) hx j).2 (by omega)
 rw[b2]
 by_cases c1:g<=i/\i<x
 ·rw[(mi.1 c1).2];exact h _ _ (by omega) (by omega) h2
 ·rw[(mi.2 c1).2];exact h _ _ hij (by omega) h2
section
variable {prog:Program}{w:World}{A:Around}{E:Value->Shared->Prop}{s:Shared}{a₀:Array Keyed}
def Cmp (prog:Program)(w:World)(A:Around)(E:Value->Shared->Prop)(s:Shared)(ρ:Keyed->Int)(κ:SortKind)(a₀:Array Keyed):Prop:=∀ {st:SortSt}{i j:Nat}{Q:Option Bool->SortSt->Prop},SB κ a₀ st->i<a₀.size->j<a₀.size->Q (some (decide (R ρ (arrOf st) i<R ρ (arrOf st) j))) st->wpS (model prog w) A E s (ltAt' i j) Q st
theorem zfE {st:SortSt}{a nrem:Nat}{Q:AscSt->SortSt->Prop}(ik:Cmp prog w A E s ρ κ a₀)(hn:nrem<=a₀.size)(a1:1<=a)(an:a<=nrem)(hB:SB κ a₀ st)(hs:Srt ρ (arrOf st) a)
  (k:∀ n,a<=n->n<=nrem->Srt ρ (arrOf st) n->(n=nrem\/R ρ (arrOf st) n<R ρ (arrOf st) (n-1))->Q (none,n) st):wpS (model prog w) A E s (ascLoop a nrem) Q st:=by
 unfold ascLoop
 refine wpS_forRange (I:=λx c s2=>s2=st/\c=(none,x)/\Srt ρ (arrOf st) x) ?turn ?over ⟨rfl,rfl,hs⟩
 case over=>
  rintro c s2 ⟨rfl,rfl,h⟩
  rw[Nat.max_eq_right an] at h ⊢
  exact k nrem an (Nat.le_refl _) h (.inl rfl)
 case turn=>
  rintro x c s2 x1 x2 ⟨rfl,rfl,h⟩
  dsimp only
  refine wpS_bind (ik hB (by omega) (by omega) ?_)
  by_cases less:R ρ (arrOf s2) x<R ρ (arrOf s2) (x-1)
  ·rw[decide_eq_true less]
   simp only[if_true]
   exact wpS_pure (k x x1 (by omega) h (.inr less))
  ·rw[decide_eq_false less]
   simp only[false_eq_true,if_false]
   refine wpS_pure ⟨rfl,rfl,λi j hij hj=>?_⟩
   by_cases c:j<x
   ·exact h i j hij c
   ·have e:j=x:=by omega
    subst e
    by_cases e2:i=j
    ·rw[e2];exact Int.le_refl _
    ·have:=h i (j-1) (by omega) (by omega)
     omega
abbrev Good (ρ τ:Keyed->Int)(κ:SortKind)(a₀:Array Keyed)(st:SortSt)(n:Nat):Prop:=SB κ a₀ st/\Up ρ τ (arrOf st) n/\Rs τ a₀.size (arrOf st) n
theorem zdl {st:SortSt}{n nrem:Nat}{Q:Option Nat->SortSt->Prop}(ik:Cmp prog w A E s ρ κ a₀)(hn:nrem<=a₀.size)(n1:1<=n)(nn:n<=nrem)(hB:SB κ a₀ st)(hd:Dn ρ τ (arrOf st) n)(hr:Rs τ a₀.size (arrOf st) n)
  (k:∀ m st',Good ρ τ κ a₀ st' m->1<=m->m<=nrem->Q (some m) st'):wpS (model prog w) A E s (tail3 n nrem) Q st:=by
 have hsz:n<=(arrOf st).size:=by rw[hB.size];omega
 have u:Up ρ τ (mirror (arrOf st) 0 n ((n-0) / 2)) n:=λi j hij hj=>by
  obtain ⟨a1,a2⟩:=(zdi (ρ:=ρ) (τ:=τ) (i:=0) hsz i).1 ⟨zero_le _,by omega⟩
  obtain ⟨b1,b2⟩:=(zdi (ρ:=ρ) (τ:=τ) (i:=0) hsz j).1 ⟨zero_le _,hj⟩
  rw[a1,a2,b1,b2]
  have:=hd (0+n-1-j) (0+n-1-i) (by omega) (by omega)
  omega
 have r:Rs τ a₀.size (mirror (arrOf st) 0 n ((n-0) / 2)) n:=Q5 hsz hr
 unfold tail3
 refine wpS_bind (wpS_reverse (wpS_bind (zfE ik hn n1 nn (hB.setArr (mirror_perm _ _ _ _)) (Up.le u) λm m1 m2 sm _=>?_)))
 exact wpS_pure (k m _ ⟨hB.setArr (mirror_perm _ _ _ _),zfy u r sm (by omega),Rs.mono r m1⟩ (by omega) m2)
structure U5 (ρ τ:Keyed->Int)(κ:SortKind)(a₀:Array Keyed)(st:SortSt)(x g:Nat):Prop where
 b:SB κ a₀ st
 lt:g<x
 d:Dn ρ τ (arrOf st) g
 hi:∀ i,i<g->R ρ (arrOf st) g<R ρ (arrOf st) i
 eq:∀ i,g<=i->i<x->R ρ (arrOf st) i=R ρ (arrOf st) g
 r:Rs τ a₀.size (arrOf st) g
theorem U5.close {st:SortSt}{x g:Nat}(f:U5 ρ τ κ a₀ st x g)(hx:x<=a₀.size):SB κ a₀ (setArr st (mirror (arrOf st) g x ((x-g) / 2)))/\Dn ρ τ (mirror (arrOf st) g x ((x-g) / 2)) x/\Rs τ a₀.size (mirror (arrOf st) g x ((x-g) / 2)) x/\∀ k,R ρ (mirror (arrOf st) g x ((x-g) / 2)) k=R ρ (arrOf st) k:=by
 have hs:x<=(arrOf st).size:=by rw[f.b.size];exact hx
 have lt:=f.lt
 refine ⟨f.b.setArr (mirror_perm _ _ _ _),zaX hs (le_of_lt lt) f.d (λi h _=>f.hi i h) f.eq λi j a b c=>f.r i j a (by omega) (by omega),Q5 hs (f.r.mono (le_of_lt lt)),λk=>?_⟩
 by_cases c:g<=k/\k<x
 ·rw[((zdi (ρ:=ρ) (τ:=τ) (i:=g) hs k).1 c).1,f.eq _ (by omega) (by omega),f.eq k c.1 c.2]
 ·rw[((zdi (ρ:=ρ) (τ:=τ) (i:=g) hs k).2 c).1]
theorem U5.one {st:SortSt}{x:Nat}(f:U5 ρ τ κ a₀ st x (x-1)):Dn ρ τ (arrOf st) x:=λi j hij hj=>by
 have lt:=f.lt
 by_cases c:j<x-1
 ·exact f.d i j hij c
 ·have e:j=x-1:=by omega
  subst e
  exact .inl (f.hi i hij)
theorem zfO {st:SortSt}{n nrem:Nat}{Q:DescSt->SortSt->Prop}(ik:Cmp prog w A E s ρ κ a₀)(hn:nrem<=a₀.size)(nn:n+1<=nrem)(f0:U5 ρ τ κ a₀ st (n+1) n)
  (k:∀ m q st',U5 ρ τ κ a₀ st' m (m-(q+1))->q+1<=m->m<=nrem->Q (none,m,q) st'):wpS (model prog w) A E s (descLoop (n+1) nrem) Q st:=by
 unfold descLoop
 refine wpS_forRange (I:=λx c st' => ∃ q,c=(none,x,q)/\U5 ρ τ κ a₀ st' x (x-(q+1))/\q+1<=x) ?turn ?over ⟨0,rfl,by simpa using f0,by omega⟩
 case over=>
  rintro c st' ⟨q,rfl,f,hq⟩
  rw[show max (n+1) nrem=nrem from Nat.max_eq_right nn] at f hq ⊢
  exact k nrem q st' f hq (Nat.le_refl _)
 case turn=>
  rintro x c st' hx1 hx2 ⟨q,rfl,f,hq⟩
  dsimp only
  have lx:R ρ (arrOf st') (x-1)=R ρ (arrOf st') (x-(q+1)):=f.eq _ (by omega) (by omega)
  refine wpS_bind (ik f.b (by omega) (by omega) ?_)
  by_cases less:R ρ (arrOf st') x<R ρ (arrOf st') (x-1)
  ·rw[decide_eq_true less]
   simp only[if_true]
   have nextF:∀ st2,SB κ a₀ st2->Dn ρ τ (arrOf st2) x->Rs τ a₀.size (arrOf st2) x->(∀ z,R ρ (arrOf st2) z=R ρ (arrOf st') z)->U5 ρ τ κ a₀ st2 (x+1) (x+1-(0+1)):=λst2 b d r e=>by
    refine ⟨b,by omega,by simpa using d,λi hi=>?_,λi h1 h2=>?_,by simpa using r⟩
    ·have hi' : i<x:=by omega
     rw[show x+1-(0+1)=x by omega,e,e]
     by_cases c:i<x-(q+1)
     ·have:=f.hi i c;omega
     ·have:=f.eq i (by omega) hi';omega
    ·have:i=x+1-(0+1):=by omega
     rw[this]
   by_cases hq0:q>0
   ·rw[if_pos hq0]
    obtain ⟨c1,c2,c3,c4⟩:=f.close (by omega)
    exact wpS_bind (wpS_reverse (wpS_pure ⟨0,rfl,nextF _ c1 c2 c3 c4,by omega⟩))
   ·rw[if_neg hq0]
    have e0:q=0:=by omega
    subst e0
    exact wpS_pure ⟨0,rfl,nextF st' f.b (U5.one (by simpa using f)) (f.r.mono (by omega)) λ_=>rfl,by omega⟩
  ·rw[decide_eq_false less]
   simp only[false_eq_true,if_false]
   refine wpS_bind (ik f.b (by omega) (by omega) ?_)
   by_cases more:R ρ (arrOf st') (x-1)<R ρ (arrOf st') x
   ·rw[decide_eq_true more]
    simp only[if_true]
    exact wpS_pure (k x q st' f hq (by omega))
   ·rw[decide_eq_false more]
    simp only[false_eq_true,if_false]
    have ee:x+1-(q+1+1)=x-(q+1):=by omega
    have f' : U5 ρ τ κ a₀ st' (x+1) (x-(q+1)):=⟨f.b,by omega,f.d,f.hi,λi h1 h2=>by
     by_cases c:i<x
     ·exact f.eq i h1 c
     ·have:i=x:=by omega
      subst this;omega,f.r⟩
    exact wpS_pure ⟨q+1,rfl,by rw[ee];exact f',by omega⟩
theorem JW {st:SortSt}{n nrem:Nat}{Q:Option Nat->SortSt->Prop}(ik:Cmp prog w A E s ρ κ a₀)(hn:nrem<=a₀.size)(nn:n+1<=nrem)(f0:U5 ρ τ κ a₀ st (n+1) n)(k:∀ m st',Good ρ τ κ a₀ st' m->1<=m->m<=nrem->Q (some m) st'):
  wpS (model prog w) A E s (descPart n nrem) Q st:=by
 unfold descPart
 refine wpS_bind (wpS_lift (wpAny_rule ⟨rfl,wpS_bind (zfO ik hn nn f0 λm q st' f hq hm=>?_)⟩))
 dsimp only
 by_cases hq0:q>0
 ·rw[if_pos hq0]
  obtain ⟨c1,c2,c3,_⟩:=f.close (by omega)
  exact wpS_bind (wpS_reverse (zdl ik hn (by omega) hm c1 c2 c3 k))
 ·rw[if_neg hq0]
  have e0:q=0:=by omega
  subst e0
  exact zdl ik hn (by omega) hm f.b (U5.one (by simpa using f)) (f.r.mono (by omega)) k
theorem zec {st:SortSt}{nrem:Nat}{Q:Option Nat->SortSt->Prop}(ik:Cmp prog w A E s ρ κ a₀)(hn:nrem<=a₀.size)(n1:1<=nrem)(hB:SB κ a₀ st)(r0:Rs τ a₀.size (arrOf st) 0)(k:∀ m st',Good ρ τ κ a₀ st' m->1<=m->m<=nrem->Q (some m) st'):
  wpS (model prog w) A E s (countRun' 0 nrem) Q st:=by
 have u1:Up ρ τ (arrOf st) 1:=λi j a b=>by omega
 rw[countRun0_eq]
 refine wpS_bind (zfE ik hn (Nat.le_refl 1) n1 hB u1.le λn m1 m2 sn hor=>?_)
 have un:Up ρ τ (arrOf st) n:=zfy u1 (r0.mono (by omega)) sn (by omega)
 have g:Good ρ τ κ a₀ st n:=⟨hB,un,r0.mono (by omega)⟩
 dsimp only
 by_cases e:n=nrem
 ·rw[if_pos (by simpa using e)];exact wpS_pure (k n st g m1 m2)
 rw[if_neg (by simpa using e)]
 have lt:R ρ (arrOf st) n<R ρ (arrOf st) (n-1):=hor.resolve_left e
 by_cases c:n>1
 ·rw[if_pos c]
  refine wpS_bind (ik hB (by omega) (by omega) ?_)
  by_cases rose:R ρ (arrOf st) 0<R ρ (arrOf st) (n-1)
  ·rw[decide_eq_true rose]
   simp only[if_true]
   exact wpS_pure (k n st g m1 m2)
  ·rw[decide_eq_false rose]
   simp only[false_eq_true,if_false]
   have all:∀ i,0<=i->i<n->R ρ (arrOf st) i=R ρ (arrOf st) 0:=λi _ hi=>by
    have a1:=sn 0 i (zero_le _) hi
    have a2:=sn i (n-1) (by omega) (by omega)
    omega
   have f:U5 ρ τ κ a₀ st n 0:=⟨hB,by omega,λi j _ h=>by omega,λi h=>by omega,all,r0⟩
   obtain ⟨c1,c2,c3,c4⟩:=f.close (by omega)
   refine wpS_bind (wpS_reverse (JW ik hn (by omega) ⟨c1,by omega,c2,λi hi=>?_,λi h1 h2=>?_,c3⟩ k))
   ·show R ρ (mirror (arrOf st) 0 n ((n-0) / 2)) n<R ρ (mirror (arrOf st) 0 n ((n-0) / 2)) i
    rw[c4,c4]
    have:=all i (zero_le _) hi
    have:=all (n-1) (zero_le _) (by omega)
    omega
   ·have:i=n:=by omega
    rw[this]
 ·rw[if_neg c]
  have e1:n=1:=by omega
  subst e1
  exact JW ik hn (by omega) ⟨hB,by omega,λi j _ h=>by omega,λi h=>by (have:i=0:=by omega);subst this;exact lt,λi h1 h2=>by (have:i=1:=by omega);rw[this],r0.mono (by omega)⟩ k
theorem W0 {st:SortSt}{n ok:Nat}{Q:Bool->SortSt->Prop}(ik:Cmp prog w A E s ρ κ a₀)(hn:n<=a₀.size)(o1:1<=ok)(o2:ok<=n)(g0:Good ρ τ κ a₀ st ok)(kk:∀ st',Good ρ τ κ a₀ st' n->Q true st'):wpS (model prog w) A E s (binarySort' 0 n ok) Q st:=by
 rw[binarySort'_eq]
 simp only[zero_add]
 refine wpS_bind (wpS_mono (wpS_forRange (I:=λk c st' => c=(none,())/\Good ρ τ κ a₀ st' k) (Q:=λc st' => c=(none,())/\Good ρ τ κ a₀ st' n) ?turn ?over ⟨rfl,by rw[Nat.max_eq_left o1];exact g0⟩) λc st' ⟨e,g⟩=>by subst e;exact wpS_pure (kk st' g))
 case over=>
  rintro c st' ⟨e,g⟩
  rw[Nat.max_eq_left o1,Nat.max_eq_right o2] at g
  exact ⟨e,g⟩
 case turn=>
  rintro k c st' k1 k2 ⟨rfl,hB,u,r⟩
  have ks:k<a₀.size:=by omega
  have srt:=u.le
  refine wpS_bind (wpS_mono (wpS_forRange (I:=λx c s2=>s2=st' /\ ∃ lo hi,c=(none,lo,hi)/\lo<=hi/\hi<=k/\hi-lo<=k-x/\(∀ i,i<lo->R ρ (arrOf st') i<=R ρ (arrOf st') k)/\∀ i,hi<=i->i<k->R ρ (arrOf st') k<R ρ (arrOf st') i)
   (Q:=λc s2=>s2=st' /\ ∃ lo hi,c=(none,lo,hi)/\lo<=k/\(∀ i,i<lo->R ρ (arrOf st') i<=R ρ (arrOf st') k)/\∀ i,lo<=i->i<k->R ρ (arrOf st') k<R ρ (arrOf st') i) ?look ?found ⟨rfl,0,k,rfl,zero_le _,Nat.le_refl _,by omega,λi h=>by omega,λi a b=>by omega⟩) ?put)
  case found=>
   rintro c s2 ⟨rfl,lo,hi,rfl,a1,a2,a3,a4,a5⟩
   have:lo=hi:=by omega
   subst this
   exact ⟨rfl,lo,lo,rfl,a2,a4,a5⟩
  case look=>
   rintro x c s2 _ hx ⟨rfl,lo,hi,rfl,a1,a2,a3,a4,a5⟩
   dsimp only
   by_cases ge:lo ≥ hi
   ·rw[if_pos ge]
    have:lo=hi:=by omega
    subst this
    exact wpS_pure ⟨rfl,lo,lo,rfl,a2,a4,a5⟩
   ·rw[if_neg ge]
    refine wpS_bind (ik hB ks (by omega) ?_)
    by_cases less:R ρ (arrOf s2) k<R ρ (arrOf s2) ((lo+hi) / 2)
    ·rw[decide_eq_true less]
     simp only[if_true]
     exact wpS_pure ⟨rfl,lo,(lo+hi) / 2,rfl,by omega,by omega,by omega,a4,λi b1 b2=>Int.lt_of_lt_of_le less (srt _ _ b1 b2)⟩
    ·rw[decide_eq_false less]
     simp only[false_eq_true,if_false]
     exact wpS_pure ⟨rfl,(lo+hi) / 2+1,hi,rfl,by omega,by omega,by omega,λi b1=>Int.le_trans (srt i ((lo+hi) / 2) (by omega) (by omega)) (Int.not_lt.mp less),a5⟩
  case put=>
   rintro c s2 ⟨rfl,lo,hi,rfl,a2,a4,a5⟩
   show wpS _ _ _ _ (do moveDown' k lo;pure (ForInStep.yield (none,()))) _ _
   have kz:k<(arrOf s2).size:=by rw[hB.size];exact ks
   have ed:k-(k-lo)=lo:=by omega
   rw[moveDown'_eq]
   refine wpS_bind (wpS_modify (wpS_pure ⟨rfl,hB.setArr (bubble_perm _ _ _),λi j hij hj=>?_,λi j hij h1 h2=>?_⟩))
   ·show R ρ (bubble (arrOf s2) k (k-lo)) i<R ρ (bubble (arrOf s2) k (k-lo)) j\/(R ρ (bubble (arrOf s2) k (k-lo)) i=R ρ (bubble (arrOf s2) k (k-lo)) j/\R τ (bubble (arrOf s2) k (k-lo)) i<=R τ (bubble (arrOf s2) k (k-lo)) j)
    have bi:=zgM (ρ:=ρ) (τ:=τ) kz (show k-lo<=k by omega) i
    have bj:=zgM (ρ:=ρ) (τ:=τ) kz (show k-lo<=k by omega) j
    rw[ed] at bi bj
    rcases lt_trichotomy i lo with c1 | c1 | c1
    ·obtain ⟨p1,p2⟩:=bi.2.2 (.inl c1)
     rw[p1,p2]
     rcases lt_trichotomy j lo with c2 | c2 | c2
     ·obtain ⟨q1,q2⟩:=bj.2.2 (.inl c2)
      rw[q1,q2];exact u i j hij (by omega)
     ·obtain ⟨q1,q2⟩:=bj.1 c2
      rw[q1,q2]
      have z1:=a4 i c1
      have z2:=r i k (by omega) (Nat.le_refl _) ks
      omega
     ·obtain ⟨q1,q2⟩:=bj.2.1 ⟨c2,by omega⟩
      rw[q1,q2];exact u i (j-1) (by omega) (by omega)
    ·obtain ⟨p1,p2⟩:=bi.1 c1
     obtain ⟨q1,q2⟩:=bj.2.1 ⟨by omega,by omega⟩
     rw[p1,p2,q1,q2]
     exact .inl (a5 (j-1) (by omega) (by omega))
    ·obtain ⟨p1,p2⟩:=bi.2.1 ⟨c1,by omega⟩
     obtain ⟨q1,q2⟩:=bj.2.1 ⟨by omega,by omega⟩
     rw[p1,p2,q1,q2]
     exact u (i-1) (j-1) (by omega) (by omega)
   ·show R τ (bubble (arrOf s2) k (k-lo)) i<=R τ (bubble (arrOf s2) k (k-lo)) j
    have bi:=zgM (ρ:=ρ) (τ:=τ) kz (show k-lo<=k by omega) i
    rw[ed] at bi
    obtain ⟨_,q2⟩:=(zgM (ρ:=ρ) (τ:=τ) kz (show k-lo<=k by omega) j).2.2 (.inr (by omega))
    rw[q2]
    rcases lt_trichotomy i lo with c1 | c1 | c1
    ·rw[(bi.2.2 (.inl c1)).2];exact r i j hij (by omega) h2
    ·rw[(bi.1 c1).2];exact r k j (by omega) (by omega) h2
    ·by_cases c2:i<=k
     ·rw[(bi.2.1 ⟨c1,c2⟩).2];exact r (i-1) j (by omega) (by omega) h2
     ·rw[(bi.2.2 (.inr (by omega))).2];exact r i j hij (by omega) h2
theorem zfZ {st:SortSt}{Q:Unit->SortSt->Prop}(ik:Cmp prog w A E s ρ κ a₀)(hB:SB κ a₀ st)(z2:2<=a₀.size)(z64:a₀.size<64)(r0:Rs τ a₀.size (arrOf st) 0)
  (kk:∀ st',(arrOf st').Perm a₀->failedOf st'=none->Up ρ τ (arrOf st') a₀.size->Q () st'):wpS (model prog w) A E s sortRuns' Q st:=by
 have mr:minRun' a₀.size a₀.size 0=a₀.size:=by
  obtain ⟨f,hf⟩:∃ f,a₀.size=f+1:=⟨a₀.size-1,by omega⟩
  have q:minRun' (f+1) a₀.size 0=a₀.size:=by rw[minRun'_succ,if_pos z64];rfl
  rwa [← hf] at q
 rw[sortRuns'_eq]
 refine wpS_bind (wpS_get (show wpS _ _ _ _ _ _ _ from ?_))
 dsimp only
 simp only[hB.size,mr]
 have fin:∀ st' n,n=a₀.size->Good ρ τ κ a₀ st' n->(arrOf (setPending st' ((pendingOf st').push (0,n,0)))).Perm a₀/\failedOf (setPending st' ((pendingOf st').push (0,n,0)))=none/\pendingOf (setPending st' ((pendingOf st').push (0,n,0))) = #[(0,n,0)]/\Up ρ τ (arrOf (setPending st' ((pendingOf st').push (0,n,0)))) n:=λst' n _ g=>
  ⟨g.1.perm,g.1.failed,by show (pendingOf st').push _=_;rw[g.1.pend];rfl,g.2.1⟩
 refine wpS_bind (wpS_mono (wpS_forRange
  (I:=λx c st' => (x=0/\c=(none,0)/\SB κ a₀ st' /\ Rs τ a₀.size (arrOf st') 0)\/(1<=x/\c=(none,a₀.size)/\(arrOf st').Perm a₀/\failedOf st'=none/\pendingOf st' = #[(0,a₀.size,0)]/\Up ρ τ (arrOf st') a₀.size))
  (Q:=λc st' => c=(none,a₀.size)/\(arrOf st').Perm a₀/\failedOf st'=none/\pendingOf st' = #[(0,a₀.size,0)]/\Up ρ τ (arrOf st') a₀.size) ?turn ?over (.inl ⟨rfl,rfl,hB,r0⟩)) ?post)
 case over=>
  rintro c st' (⟨hx,_⟩ | ⟨_,r⟩)
  ·omega
  ·exact r
 case turn=>
  rintro x c st' _ hx (⟨rfl,rfl,hB',r'⟩ | ⟨hx1,rfl,hD⟩)
  ·dsimp only
   rw[if_neg (show ¬ (0 ≥ a₀.size) by omega)]
   simp only[Nat.sub_zero,Nat.min_self,zero_add]
   refine wpS_bind (zec ik (Nat.le_refl _) (show 1<=a₀.size by omega) hB' r' λm st2 g2 m1 m2=>?_)
   dsimp only
   by_cases lt:m<a₀.size
   ·rw[if_pos lt]
    refine wpS_bind (wpS_lift (wpAny_rule ⟨rfl,wpS_bind (W0 ik (Nat.le_refl _) m1 m2 g2 λst3 g3=>?_)⟩))
    simp only[Bool.not_true,false_eq_true,if_false]
    have nb:(pendingOf st3).back?=none:=by rw[g3.1.pend];rfl
    refine wpS_bind (wpS_get (show wpS _ _ _ _ _ _ _ from ?_))
    rw[nb]
    exact wpS_bind (wpS_modify (wpS_pure (.inr ⟨by omega,rfl,fin st3 _ rfl g3⟩)))
   ·rw[if_neg lt]
    have em:m=a₀.size:=by omega
    subst em
    have nb:(pendingOf st2).back?=none:=by rw[g2.1.pend];rfl
    refine wpS_bind (wpS_get (show wpS _ _ _ _ _ _ _ from ?_))
    rw[nb]
    exact wpS_bind (wpS_modify (wpS_pure (.inr ⟨by omega,rfl,fin st2 _ rfl g2⟩)))
  ·dsimp only
   rw[if_pos (show a₀.size ≥ a₀.size from Nat.le_refl _)]
   exact wpS_pure ⟨rfl,hD⟩
 case post=>
  rintro c st' ⟨rfl,p,f,pd,u⟩
  dsimp only
  refine wpS_bind (wpS_mono (wpS_forRange (I:=λ_ c s2=>s2=st' /\ c=(none,())) (Q:=λc s2=>s2=st' /\ c=(none,())) (λx c s2 _ _ ⟨e1,e2⟩=>?_) (λ_ _ q=>q) ⟨rfl,rfl⟩) λc s2 ⟨e1,e2⟩=>?_)
  ·subst e1 e2
   exact wpS_pure (kk _ p f u)
  ·subst e1 e2
   refine wpS_bind (wpS_get (show wpS _ _ _ _ _ _ _ from ?_))
   rw[if_pos (show (pendingOf s2).size<=1 by rw[pd];exact Nat.le_refl 1)]
   exact wpS_pure ⟨rfl,rfl⟩
end
end StbG
namespace L2
open PySem PySem.Spec PyProof.Rows
abbrev Key:=Sum Int Str
noncomputable def zf4:Key->Value->Bool
 | .inl k,v=>Value.isInt k v
 | .inr x,v=>Value.isStrOf x v
noncomputable def zih (w:World):Key->Int
 | .inl k=>hashInt k
 | .inr x=>hashStr w x
theorem ZP:∀ {k:Key}{v:Value},zf4 k v=true->(∃ i t,k=Sum.inl i/\v=Value.int i t)\/(∃ x t,k=Sum.inr x/\v=Value.str x t)
 | .inl i,v,h=>by
  obtain ⟨t,e⟩:=Value.isInt_shape (k:=i) (v:=v) h
  exact .inl ⟨i,t,rfl,e⟩
 | .inr x,v,h=>by
  obtain ⟨t,e⟩:=Value.isStrOf_shape (x:=x) (v:=v) h
  exact .inr ⟨x,t,rfl,e⟩
theorem zfr (a b:Int):decide ((Sum.inl a:Key)=Sum.inl b)=(a==b):=by
 by_cases e:a=b
 ·subst e;simp
 ·have h:¬ (Sum.inl a:Key)=Sum.inl b:=λq=>e (Sum.inl.inj q)
  rw[decide_eq_false h]
  exact (beq_eq_false_iff_ne.mpr e).symm
theorem zfx (a b:Str):decide ((Sum.inr a:Key)=Sum.inr b)=decide (a=b):=by
 by_cases e:a=b
 ·subst e;simp
 ·have h:¬ (Sum.inr a:Key)=Sum.inr b:=λq=>e (Sum.inr.inj q)
  rw[decide_eq_false h,decide_eq_false e]
theorem zfg (a:Int)(b:Str):decide ((Sum.inl a:Key)=Sum.inr b)=false:=decide_eq_false (λq=>nomatch q)
theorem zgE (a:Str)(b:Int):decide ((Sum.inr a:Key)=Sum.inl b)=false:=decide_eq_false (λq=>nomatch q)
noncomputable def zb5 (prog:Program) (w:World):PySem.KeyKind prog w Key where
 is:=zf4
 hash:=zih w
 inj:=λv a b ha hb=>by
  rcases ZP ha with ⟨i,t,rfl,rfl⟩ | ⟨x,t,rfl,rfl⟩
  ·rcases ZP hb with ⟨j,u,rfl,e⟩ | ⟨y,u,rfl,e⟩
   ·injection e with e1 _;rw[e1]
   ·exact nomatch e
  ·rcases ZP hb with ⟨j,u,rfl,e⟩ | ⟨y,u,rfl,e⟩
   ·exact nomatch e
   ·injection e with e1 _;rw[e1]
 byValue:=λk v h=>by
  rcases ZP h with ⟨i,t,rfl,rfl⟩ | ⟨x,t,rfl,rfl⟩ <;> rfl
 pyHash:=λhv h=>by
  rcases ZP hv with ⟨i,t,rfl,rfl⟩ | ⟨x,t,rfl,rfl⟩
  ·exact wpAny_pyHash_int h
  ·exact wpAny_pyHash_str h
 eqBool:=λhu hv h=>by
  rcases ZP hu with ⟨i,t,rfl,rfl⟩ | ⟨x,t,rfl,rfl⟩
  ·rcases ZP hv with ⟨j,u,rfl,rfl⟩ | ⟨y,u,rfl,rfl⟩
   ·rw[zfr] at h;exact wpAny_eqBool_int h
   ·rw[zfg] at h;exact SeqAt.EqAt.int_str i t y u _ _ _ _ h
  ·rcases ZP hv with ⟨j,u,rfl,rfl⟩ | ⟨y,u,rfl,rfl⟩
   ·rw[zgE] at h;exact SeqAt.EqAt.str_int x t j u _ _ _ _ h
   ·rw[zfx] at h;exact wpAny_eqBool_str h
 «strs» := λk x t v h=>by
  rcases ZP h with ⟨i,u,rfl,e⟩ | ⟨y,u,rfl,e⟩
  ·exact nomatch e
  ·injection e with e1 _
   subst e1
   cases v <;> rfl
inductive V where
 | non | bl (b:Bool) | int (i:Int) | str (x:Str) | byt (b:Array UInt8) | flt (b:UInt64) | ref (a:Addr) | ty (n:String)
 deriving DecidableEq
def RelV:V->Value->Prop
 | .non,u=>u=Value.none
 | .bl b,u=>u=Value.bool b
 | .int i,u=>∃ t,u=Value.int i t
 | .str x,u=>∃ t,u=Value.str x t
 | .byt b,u=>∃ t,u=Value.bytes b t
 | .flt b,u=>∃ t,u=Value.float b t
 | .ref a,u=>u=Value.ref a
 | .ty n,u=>u=Value.type n
abbrev Vals:List V->List Value->Prop:=Paired RelV
theorem Vals.length {xs:List V}{us:List Value}(r:Vals xs us):xs.length=us.length:=Paired.length r
theorem Vals.get:∀ {xs:List V}{us:List Value}{i:Nat}{x:V},Vals xs us->xs[i]?=some x->∃ u,us[i]?=some u/\RelV x u
 | _,_,_,_,.nil,e=>by simp at e
 | _,_,0,_,.cons r _,e=>by simp at e;subst e;exact ⟨_,rfl,r⟩
 | _,_,i+1,x,.cons _ t,e=>by
  obtain ⟨u,h1,h2⟩:=Vals.get (i:=i) (x:=x) t (by simpa using e)
  exact ⟨u,by simpa using h1,h2⟩
theorem Vals.set {x:V}{u:Value}(r:RelV x u):∀ {xs:List V}{us:List Value}(i:Nat),Vals xs us->Vals (xs.set i x) (us.set i u)
 | _,_,_,.nil=>.nil
 | _,_,0,.cons _ t=>.cons r t
 | _,_,i+1,.cons q t=>.cons q (Vals.set r i t)
theorem Vals.append:∀ {xs ys:List V}{us ws:List Value},Vals xs us->Vals ys ws->Vals (xs++ys) (us++ws)
 | _,_,_,_,.nil,s=>s
 | _,_,_,_,.cons r t,s=>.cons r (Vals.append t s)
theorem Vals.take:∀ {xs:List V}{us:List Value}(n:Nat),Vals xs us->Vals (xs.take n) (us.take n)
 | _,_,0,_=>.nil
 | _,_,_+1,.nil=>.nil
 | _,_,n+1,.cons r t=>.cons r (Vals.take n t)
theorem Vals.drop:∀ {xs:List V}{us:List Value}(n:Nat),Vals xs us->Vals (xs.drop n) (us.drop n)
 | _,_,0,r=>r
 | _,_,_+1,.nil=>.nil
 | _,_,n+1,.cons _ t=>Vals.drop n t
theorem Vals.none_of:∀ {xs:List V}{us:List Value}{i:Nat},Vals xs us->xs[i]?=none->us[i]?=none:=λ{xs us i} r e=>by
 have h1:=r.length
 have h2:xs.length<=i:=List.getElem?_eq_none_iff.mp e
 exact List.getElem?_eq_none_iff.mpr (by omega)
def zhi:Option V->Option Value->Prop
 | some v,some u=>RelV v u
 | none,none=>True
 | _,_=>False
def KV {κ:Type}:List (κ×V)->List (κ×Value)->Prop:=Paired λ(p:κ×V) (q:κ×Value)=>p.1=q.1/\RelV p.2 q.2
noncomputable def kV:Key->V
 | .inl i=>.int i
 | .inr x=>.str x
inductive HO where
 
 | lst (xs:List V)
 
 | tup (xs:List V)
 
 | dK (kvs:List (Key×V)) | dT (kvs:List (List Key×V))
 
 | set (S:Int->Bool) (n:Nat)
 
 | ins (C dx:Addr) (fs:List (Str×V))
 
 | own (x:Addr)
 
 | xd (fs:List (Str×V))
 
 | met (f x:Addr)
 
 | rng (lo hi:Int)
 
 | frz (o:Obj) (u:HO)
 
 | tbl (cr:Nat->Nat->Option Str)
 
 | ext (φ:Heap->Prop)
abbrev Hp:=Addr->Option HO
noncomputable def upd (H:Hp) (a:Addr) (o:HO):Hp:=λb=>if b=a then some o else H b
theorem Zn {H:Hp}{a:Addr}{o:HO}:upd H a o a=some o:=by unfold upd;rw[if_pos rfl]
theorem Zk {H:Hp}{a b:Addr}{o:HO}(h:b≠a):upd H a o b=H b:=by unfold upd;rw[if_neg h]
theorem Zx {H:Hp}{a b:Addr}{o:HO}(h:H a=some o)(h' : H b=none):a≠b:=by
 intro e;subst e;rw[h] at h';cases h'
def zgu (oc:Obj)(q:Str):Prop:=∃ (vs:Array Value) (t:Tok),oc.data = .fields vs/\vs[1]?=some (.str q t)
def zgx (h:Heap)(a:Addr):Prop:=∃ o,h.get? a=some o/\o.dict=none
section
variable (P:Program)(w:World)
def Yh (H:Hp)(h:Heap)(a:Addr):HO->Prop
 | .lst xs=>xs.length<=sizeLine/\∃ (its:List Value) (n:Nat),Vals xs its/\h.get? a=some { cls:=.type "list",data:=.seq its.toArray n }
 | .tup xs=>xs.length<=sizeLine/\∃ its:List Value,Vals xs its/\IsTup h a its.toArray/\zgx h a
 | .dK kvs=>kvs.length<=sizeLine/\(a==sysModules)=false/\∃ vs,KV kvs vs/\h.DictOf (zb5 P w) a vs
 | .dT kvs=>kvs.length<=sizeLine/\(a==sysModules)=false/\∃ xs:List (List Key×Addr×Value),
   Paired (λ(p:List Key×V) (q:List Key×Addr×Value)=>p.1=q.1/\H q.2.1=some (.tup (p.1.map kV))/\RelV p.2 q.2.2) kvs xs/\
   ∃ o es ep,h.get? a=some o/\o.ExactDict/\o.data = .dict es ep/\es.toList=xs.map (entryOfKey (tupleKind (zb5 P w)))/\(xs.map (·.1)).Nodup
 | .set S n=>h.SetOf (intKind P w) a S n
 | .ins C dx fs=>H dx=some (.own a)/\fs.length<=1000/\dx≠a/\h.get? a=some (instObj C dx)/\
   ∃ mA,h.Ns1 dx mA/\(∀ f,zhi (fs.lookup f) (mA f))/\PySem.Within mA (fs.map (·.1))
 | .own _=>∃ o,h.get? a=some o
 | .xd fs=>∃ mA,h.Ns1 a mA/\∀ f,zhi (fs.lookup f) (mA f)
 | .rng lo hi=>∃ t u v,h.get? a=some { cls:=.type "range",data:=.fields #[.int lo t,.int hi u,.int 1 v] }
 | .frz o u=>h.get? a=some o/\Yh H h a u
 | .tbl cr=>∃ ps:Array Value,h.get? a=some { cls:=.none,data:=.fields ps }/\TriplesOk ps.toList/\∀ (pos:Pos) (v:Value),codeAmong pos ps.toList=some v->
   ∃ (c:Addr) (oc:Obj) (q:Str),v = .ref c/\cr pos.line pos.col=some q/\H c=some (.frz oc (.own c))/\zgu oc q
 | .met f x=>h.get? a=some (methodObj (.ref f) (.ref x))
 | .ext φ=>φ h/\(∃ o,h.get? a=some o)/\∀ h1 h2:Heap,φ h1->(∀ o,h1.get? a=some o->h2.get? a=some o)->φ h2
def HOk (H:Hp)(h:Heap):Prop:=∀ a o,H a=some o->Yh P w H h a o
end
section
variable {P:Program}{w:World}{H H' : Hp}{h h' : Heap}{a:Addr}{o:HO}
theorem Yh.lt (x:Yh P w H h a o):a<h.objs.size:=by
 cases o with
 | lst xs=>obtain ⟨_,_,_,_,e⟩:=x;exact lt_size e
 | tup xs=>obtain ⟨_,_,_,p,_⟩:=x;exact p.lt
 | dK kvs=>obtain ⟨_,_,_,_,o,_,_,e,_⟩:=x;exact lt_size e
 | dT kvs=>obtain ⟨_,_,_,_,o,_,_,e,_⟩:=x;exact lt_size e
 | set S n=>obtain ⟨o,_,_,_,e,_⟩:=x;exact lt_size e
 | ins C dx fs=>obtain ⟨_,_,_,e,_⟩:=x;exact lt_size e
 | own y=>obtain ⟨_,e⟩:=x;exact lt_size e
 | xd fs=>obtain ⟨_,⟨_,_,_,e,_⟩,_⟩:=x;exact lt_size e
 | rng lo hi=>obtain ⟨_,_,_,e⟩:=x;exact lt_size e
 | frz ob u=>obtain ⟨e,_⟩:=x;exact lt_size e
 | tbl cr=>obtain ⟨_,e,_⟩:=x;exact lt_size e
 | met f y=>exact lt_size (show h.get? a=some _ from x)
 | ext φ=>obtain ⟨_,⟨_,e⟩,_⟩:=x;exact lt_size e
theorem Paired.zhN {α β:Type}{F G:α->β->Prop}:∀ {l₁:List α}{l₂:List β},Paired F l₁ l₂->(∀ a b,F a b->G a b)->Paired G l₁ l₂
 | _,_,.nil,_=>.nil
 | _,_,.cons r t,f=>.cons (f _ _ r) (Paired.zhN t f)
theorem Yh.stay (x:Yh P w H h a o)(k:∀ b u,(b=a\/H b=some (.own a))->h.get? b=some u->h'.get? b=some u)
  (ho:∀ b,H b=some (.own a)->H' b=some (.own a)) (ht:∀ b xs,H b=some (.tup xs)->H' b=some (.tup xs)) (hz:∀ b o u,H b=some (.frz o u)->H' b=some (.frz o u)):Yh P w H' h' a o:=by
 induction o with
 | lst xs=>obtain ⟨z,its,n,r,e⟩:=x;exact ⟨z,its,n,r,k _ _ (.inl rfl) e⟩
 | tup xs=>obtain ⟨z,its,r,⟨ob,e,c⟩,od,e',d'⟩:=x;exact ⟨z,its,r,⟨ob,k _ _ (.inl rfl) e,c⟩,od,k _ _ (.inl rfl) e',d'⟩
 | dK kvs=>obtain ⟨z,y,vs,r,ob,es,ep,e,c⟩:=x;exact ⟨z,y,vs,r,ob,es,ep,k _ _ (.inl rfl) e,c⟩
 | dT kvs=>
  obtain ⟨z,y,xs,r,ob,es,ep,e,c⟩:=x
  exact ⟨z,y,xs,Paired.zhN r λp q z=>⟨z.1,ht _ _ z.2.1,z.2.2⟩,ob,es,ep,k _ _ (.inl rfl) e,c⟩
 | set S n=>obtain ⟨ob,es,ep,t,e,c⟩:=x;exact ⟨ob,es,ep,t,k _ _ (.inl rfl) e,c⟩
 | ins C dx fs=>
  obtain ⟨d,z,ne,e,mA,⟨od,es,ep,e2,c⟩,r⟩:=x
  exact ⟨ho _ d,z,ne,k _ _ (.inl rfl) e,mA,⟨od,es,ep,k _ _ (.inr d) e2,c⟩,r⟩
 | own y=>obtain ⟨ob,e⟩:=x;exact ⟨ob,k _ _ (.inl rfl) e⟩
 | xd fs=>obtain ⟨mA,⟨od,es,ep,e,c⟩,r⟩:=x;exact ⟨mA,⟨od,es,ep,k _ _ (.inl rfl) e,c⟩,r⟩
 | rng lo hi=>obtain ⟨t,u,v,e⟩:=x;exact ⟨t,u,v,k _ _ (.inl rfl) e⟩
 | frz ob u ih=>obtain ⟨e,q⟩:=x;exact ⟨k _ _ (.inl rfl) e,ih q⟩
 | tbl cr=>
  obtain ⟨ps,e,ht3,hc⟩:=x
  exact ⟨ps,k a _ (.inl rfl) e,ht3,λpos v q=>let ⟨c,oc,z,h1,h2,h3,h4⟩:=hc pos v q;⟨c,oc,z,h1,h2,hz _ _ _ h3,h4⟩⟩
 | met f y=>
  have e:h.get? a=some (methodObj (.ref f) (.ref y)):=x
  show h'.get? a=some (methodObj (.ref f) (.ref y))
  exact k a _ (.inl rfl) e
 | ext φ=>obtain ⟨p,⟨o,e⟩,st⟩:=x;exact ⟨st _ _ p λo q=>k _ _ (.inl rfl) q,⟨o,k _ _ (.inl rfl) e⟩,st⟩
theorem HOk.lt (x:HOk P w H h)(e:H a=some o):a<h.objs.size:=(x a o e).lt
theorem HOk.fresh (x:HOk P w H h)(e:h.objs.size<=a):H a=none:=by
 cases q:H a with
 | none=>rfl
 | some u=>exact absurd (Nat.lt_of_lt_of_le (x.lt q) e) (lt_irrefl _)
theorem HOk.kept (x:HOk P w H h)(k:∀ b u,h.get? b=some u->h'.get? b=some u):HOk P w H h' := λa o e=>
 (x a o e).stay (λb u _ q=>k b u q) (λ_ q=>q) (λ_ _ q=>q) λ_ _ _ q=>q
theorem HOk.laid (x:HOk P w H h)(k:∀ b u,h.get? b=some u->h'.get? b=some u)(hp:h.objs.size<=a)(new:Yh P w (upd H a o) h' a o):HOk P w (upd H a o) h' := λb u e=>by
 have hn:=x.fresh hp
 by_cases hb:b=a
 ·subst hb;rw[Zn] at e;cases e;exact new
 ·rw[Zk hb] at e
  exact (x b u e).stay (λc v _ q=>k c v q) (λc q=>by rw[Zk (Zx q hn)];exact q) (λc xs q=>by rw[Zk (Zx q hn)];exact q) λc o u q=>by rw[Zk (Zx q hn)];exact q
end
def Rd (H:Hp)(a:Addr)(u:HO):Prop:=H a=some u\/∃ o,H a=some (.frz o u)
theorem Rd.ok {P:Program}{w:World}{H:Hp}{h:Heap}{a:Addr}{u:HO}(r:Rd H a u)(x:HOk P w H h):Yh P w H h a u:=by
 rcases r with r | ⟨o,r⟩
 ·exact x a u r
 ·obtain ⟨_,q⟩:=x a _ r
  exact q
def Mut:Option HO->Prop
 | some (.lst _)=>True
 | some (.dK _)=>True
 | some (.dT _)=>True
 | some (.set _ _)=>True
 | some (.ins _ _ _)=>True
 | some (.ext _)=>True
 | _=>False
section
variable {P:Program}{w:World}{H:Hp}{h h' : Heap}{x e:Addr}{o' : HO}
theorem HOk.write (ok:HOk P w H h)(mu:Mut (H x))(he:e=x\/H e=some (.own x))(k:∀ b u,b≠e->h.get? b=some u->h'.get? b=some u)(heo:∃ u,h'.get? e=some u)
  (new:Yh P w (upd H x o') h' x o'):HOk P w (upd H x o') h' := λb u q=>by
 have nown:∀ c y,H c=some (.own y)->c≠x:=λc y r z=>by subst z;rw[r] at mu;exact mu
 have ntup:∀ c xs,H c=some (.tup xs)->c≠x:=λc xs r z=>by subst z;rw[r] at mu;exact mu
 have nfrz:∀ c o u,H c=some (.frz o u)->c≠x:=λc o u r z=>by subst z;rw[r] at mu;exact mu
 by_cases hb:b=x
 ·subst hb;rw[Zn] at q;cases q;exact new
 ·rw[Zk hb] at q
  by_cases hbe:b=e
  ·have q' : H b=some (.own x):=by
    rcases he with z | z
    ·exact absurd (hbe.trans z) hb
    ·rw[hbe];exact z
   rw[q] at q';cases q'
   obtain ⟨v,hv⟩:=heo
   exact ⟨v,by rw[hbe];exact hv⟩
  ·refine (ok b u q).stay (λc v hc r=>k c v ?_ r) (λc r=>by rw[Zk (nown c b r)];exact r) (λc xs r=>by rw[Zk (ntup c xs r)];exact r) λc o u r=>by rw[Zk (nfrz c o u r)];exact r
   rcases hc with rfl | hc
   ·exact hbe
   ·rintro rfl
    rcases he with z | z
    ·exact nown c b hc z
    ·rw[hc] at z;cases z;exact hb rfl
end
structure Un (fs ex:List Addr)(H H' : Hp)(h h' : Heap):Prop where
 keep:∀ b o,h.get? b=some o->H b=none->b∉fs->b∉ex->h'.get? b=some o
 slot:∀ b o,h.get? b=some o->H b=none->b∈fs->b∉ex->∃ sl,h'.get? b=some { o with slots:=sl }
 free:∀ b o,h.get? b=some o->H b=none->b∉ex->H' b=none
 there:∀ b o,h.get? b=some o->b∉ex->∃ o',h'.get? b=some o'
 tups:∀ b xs,H b=some (.tup xs)->H' b=some (.tup xs)
 frzs:∀ b o u,H b=some (.frz o u)->H' b=some (.frz o u)
 tbls:∀ b cr,H b=some (.tbl cr)->H' b=some (.tbl cr)
section
variable {fs fs' ex ex' : List Addr}{H H1 H2:Hp}{h h1 h2 h' : Heap}{a x e:Addr}{o:HO}
theorem Un.any (u:Un fs ex H H1 h h1){b:Addr}{ob:Obj}(q:h.get? b=some ob)(n:H b=none)(hx:b∉ex):∃ sl,h1.get? b=some { ob with slots:=sl }:=by
 by_cases hb:b∈fs
 ·exact u.slot b ob q n hb hx
 ·exact ⟨ob.slots,u.keep b ob q n hb hx⟩
theorem Un.kept (k:∀ b u,h.get? b=some u->h'.get? b=some u):Un fs ex H H h h' :=
 ⟨λb ob q _ _ _=>k b ob q,λb ob q _ _ _=>⟨ob.slots,k b ob q⟩,λ_ _ _ n _=>n,λb ob q _=>⟨ob,k b ob q⟩,λ_ _ q=>q,λ_ _ _ q=>q,λ_ _ q=>q⟩
theorem Un.refl:Un fs ex H H h h:=Un.kept λ_ _ q=>q
theorem Un.laid (k:∀ b u,h.get? b=some u->h'.get? b=some u)(hp:h.objs.size<=a)(hn:H a=none):Un fs ex H (upd H a o) h h' where
 keep:=λb u q _ _ _=>k b u q
 slot:=λb u q _ _ _=>⟨u.slots,k b u q⟩
 free:=λb u q n _=>by rw[Zk (ne_of_lt (Nat.lt_of_lt_of_le (lt_size q) hp))];exact n
 there:=λb u q _=>⟨u,k b u q⟩
 tups:=λb xs q=>by rw[Zk (Zx q hn)];exact q
 frzs:=λb u xs q=>by rw[Zk (Zx q hn)];exact q
 tbls:=λb cr q=>by rw[Zk (Zx q hn)];exact q
theorem Un.write (mu:Mut (H x))(he:e=x\/H e=some (.own x))(k:∀ b u,b≠e->h.get? b=some u->h'.get? b=some u)(heo:∃ u,h'.get? e=some u):Un fs ex H (upd H x o) h h' := by
 have hx:∀ b,H b=none->b≠x:=λb n z=>by subst z;rw[n] at mu;exact mu
 have hb:∀ b,H b=none->b≠e:=λb n z=>by
  subst z
  rcases he with r | r
  ·exact hx b n r
  ·rw[n] at r;cases r
 have hm:∀ b u,H b=some u->¬ Mut (some u)->b≠x:=λb u q nm z=>by subst z;rw[q] at mu;exact nm mu
 refine ⟨λb u q n _ _=>k b u (hb b n) q,λb u q n _ _=>⟨u.slots,k b u (hb b n) q⟩,λb u q n _=>by rw[Zk (hx b n)];exact n,λb u q _=>?_,
  λb xs q=>by rw[Zk (hm b _ q λz=>z)];exact q,λb u xs q=>by rw[Zk (hm b _ q λz=>z)];exact q,λb cr q=>by rw[Zk (hm b _ q λz=>z)];exact q⟩
 by_cases hbe:b=e
 ·subst hbe;exact heo
 ·exact ⟨u,k b u hbe q⟩
end
noncomputable def trk (h:Heap) (H:Hp):List Addr:=(List.range h.objs.size).filter λa=>(H a).isSome
noncomputable def zcy (h:Heap) (H:Hp):Heap:=hideAll h (trk h H)
theorem zbX (h:Heap)(H:Hp):(zcy h H).objs.size=h.objs.size:=PySem.W.hideAll_size _ _
theorem zcs {h:Heap}{H:Hp}{b:Addr}{o:Obj}(e:h.get? b=some o)(n:H b=none):(zcy h H).get? b=some o:=
 hideAll_get _ e λhm=>by
  have q:(H b).isSome=true:=(mem_filter.mp hm).2
  rw[n] at q;simp at q
theorem zeF {h:Heap}{H:Hp}{b:Addr}{o:Obj}(e:(zcy h H).get? b=some o):h.get? b=some o/\H b=none:=by
 have e' : h.get? b=some o:=of_hideAll (trk h H) e
 refine ⟨e',?_⟩
 cases q:H b with
 | none=>rfl
 | some x=>
  have hm:b∈trk h H:=mem_filter.mpr ⟨mem_range.mpr (lt_size e'),by simp[q]⟩
  have z:(zcy h H).get? b=none:=PySem.W.hideAll_none (trk h H) hm
  rw[z] at e;cases e
structure Mod (K:PySem.W.Frag)(mg:Str->Option Value)(base:Heap):Prop where
 kin:K.In base
 glob:base.Ns mainGlobals mg
 blt:∃ mb,base.Ns builtinsNs mb/\∀ x:Str,x≠ "__name__" -> mb x=bootBuiltins x
 nolimit:base.NoLimit
structure Cx where
 prog:Program
 w:World
 K:PySem.W.Frag
 mg:Str->Option Value
 base:Heap
 A:Around
 N:List Str
 s₀:Shared
 H₀:Hp
 env:Env
 outer:List Env
 stack:List Env
 ex:List Addr
 fn:Str->Bool
 calm:Bool
 pn:List (Addr×Obj)
 xe:Value->Shared->Prop
noncomputable def frs (l:List Env):List Addr:=l.filterMap (·.frame)
abbrev Cx.fs (X:Cx):List Addr:=frs X.outer
def Vis (sc:Scope)(x:Str):Prop:=sc.names.lookup x=some .local\/sc.names.lookup x=some .cell\/sc.names.lookup x=some .free
def Loc (sc:Scope)(x:Str):Prop:=sc.names.lookup x=some .local\/sc.names.lookup x=some .cell
def Look (env:Env)(h:Heap)(m:Str->Option Value)(x:Str)(u:Value):Prop:=
 (env.kindOf x=some .local/\m x=some u)\/((env.kindOf x=some .cell\/env.kindOf x=some .free)/\∃ c,env.cells.lookup x=some c/\h.IsCell c (some u))
structure Cx.Ok (X:Cx):Prop where
 mod:Mod X.K X.mg X.base
 kind:X.env.scope.kind = .function
 glob:X.env.globals=mainGlobals
 blt:X.env.builtins=builtinsNs
 above:X.s₀.heap.objs.size<=X.env.locals
 inj:∀ x y c,X.env.cells.lookup x=some c->X.env.cells.lookup y=some c->x=y
 has:∀ x,(X.env.kindOf x=some .cell\/X.env.kindOf x=some .free)->∃ c,X.env.cells.lookup x=some c
 cab:∀ x c,X.fn x=true->X.env.cells.lookup x=some c->X.s₀.heap.objs.size<=c
 hd:X.calm=true->X.A.handled=none
 frames:X.A.frames=some X.stack
 stk:X.stack=X.outer\/(X.stack=X.env::X.outer/\X.env.frame=some X.env.locals)
 exf:∀ b∈X.ex,b≠X.env.locals/\∀ x c,X.env.cells.lookup x=some c->c≠b
 bs:∀ b o,X.base.get? b=some o->X.s₀.heap.get? b=some o/\X.H₀ b=none
 bsz:X.base.objs.size<=X.s₀.heap.objs.size
 noex:∀ b o,X.base.get? b=some o->b∉X.ex
 exfs:∀ b∈X.ex,b∉X.fs
 zaa:X.s₀.heap.FunFrames X.base X.outer
 frf:∀ b∈X.fs,X.H₀ b=none
structure Inv (X:Cx)(pins:List (Addr×Obj))(σ:List (Option V))(H:Hp)(s:Shared):Prop where
 ok:X.Ok
 os:s.os=X.s₀.os
 bare:AllBare s.gens
 base:Un X.fs X.ex X.H₀ H X.s₀.heap s.heap
 loc:∃ m,s.heap.Ns X.env.locals m/\∀ (i:Nat) (x:Str) (v:V),X.N[i]?=some x->σ[i]?=some (some v)->Vis X.env.scope x->∃ u,RelV v u/\Look X.env s.heap m x u
 cell:∀ x c,X.env.cells.lookup x=some c->∃ v,s.heap.IsCell c v
 free:H X.env.locals=none
 freeC:∀ x c,X.env.cells.lookup x=some c->H c=none
 pin:∀ p∈X.pn++pins,s.heap.get? p.1=some p.2/\H p.1=none/\p.1≠X.env.locals/\p.1∉X.fs/\∀ v,p.2.data≠.cell v
 hok:HOk X.prog X.w H s.heap
 len:σ.length=X.N.length
section
variable {X:Cx}{pins:List (Addr×Obj)}{σ:List (Option V)}{H H' : Hp}{s:Shared}{h' : Heap}
theorem Cx.Ok.zh9 (ok:X.Ok){b:Addr}{o:Obj}(e:X.base.get? b=some o):b∉X.fs:=λhb=>by
 have:=(ok.zaa.mem hb).1
 rw[e] at this;cases this
theorem Inv.bs (I:Inv X pins σ H s):∀ b o,X.base.get? b=some o->s.heap.get? b=some o/\H b=none:=λb o e=>
 ⟨I.base.keep b o (I.ok.bs b o e).1 (I.ok.bs b o e).2 (I.ok.zh9 e) (I.ok.noex b o e),I.base.free b o (I.ok.bs b o e).1 (I.ok.bs b o e).2 (I.ok.noex b o e)⟩
theorem Inv.bk (I:Inv X pins σ H s):∀ b o,X.base.get? b=some o->s.heap.get? b=some o:=λb o e=>(I.bs b o e).1
theorem Inv.mod (I:Inv X pins σ H s):Mod X.K X.mg X.base:=I.ok.mod
theorem Inv.kIn (I:Inv X pins σ H s):X.K.In s.heap:=I.ok.mod.kin.keeps I.bk
theorem Inv.lt (I:Inv X pins σ H s):X.env.locals<s.heap.objs.size:=let ⟨_,hn,_⟩:=I.loc;hn.lt
theorem Inv.sz (I:Inv X pins σ H s):X.s₀.heap.objs.size<=s.heap.objs.size:=Nat.le_trans I.ok.above (le_of_lt I.lt)
theorem Inv.zij (I:Inv X pins σ H s){a:Addr}(h:s.heap.objs.size<=a):a∉X.fs:=λhb=>by
 obtain ⟨_,o,ho,_⟩:=I.ok.zaa.mem hb
 exact absurd (Nat.lt_of_lt_of_le (lt_size ho) (Nat.le_trans I.sz h)) (lt_irrefl _)
theorem Inv.cne (I:Inv X pins σ H s):∀ x c,X.env.cells.lookup x=some c->c≠X.env.locals:=λx c e z=>by
 obtain ⟨v,o,ho,hd⟩:=I.cell x c e
 obtain ⟨m,⟨o',es,ep,ho',hd',_⟩,_⟩:=I.loc
 rw[z,ho'] at ho;cases ho;rw[hd'] at hd;cases hd
theorem Inv.zaa (I:Inv X pins σ H s):s.heap.FunFrames X.base X.outer:=by
 have all:∀ (l:List Env),(∀ b∈frs l,b∈X.fs)->X.s₀.heap.FunFrames X.base l->s.heap.FunFrames X.base l:=by
  intro l
  induction l with
  | nil=>intro _ _;trivial
  | cons env r ih=>
   intro hs hl
   obtain ⟨hk,⟨L,o,hf,hn,ho,hd⟩,hr⟩:=hl
   have hL:L∈X.fs:=hs L (by unfold frs;rw[filterMap_cons,hf];exact mem_cons_self)
   obtain ⟨sl,e⟩:=I.base.slot L o ho (I.ok.frf L hL) hL λz=>I.ok.exfs L z hL
   exact ⟨hk,⟨L,_,hf,hn,e,hd⟩,ih (λb hb=>hs b (by unfold frs;rw[filterMap_cons,hf];exact mem_cons_of_mem _ hb)) hr⟩
 exact all X.outer (λ_ hb=>hb) I.ok.zaa
theorem Inv.stack (I:Inv X pins σ H s):s.heap.FunFrames X.base X.stack:=by
 rcases I.ok.stk with e | ⟨e,hf⟩
 ·rw[e];exact I.zaa
 ·rw[e]
  obtain ⟨m,hn,_⟩:=I.loc
  refine .cons (by rw[I.ok.kind];decide) hf hn ?_ I.zaa
  exact Heap.get?_none_of_le (Nat.le_trans I.ok.bsz I.ok.above)
theorem Inv.Uy (I:Inv X pins σ H s):∀ b∈frs X.stack,b∈X.env.locals::X.fs:=λb hb=>by
 rcases I.ok.stk with e | ⟨e,hf⟩
 ·rw[e] at hb;exact mem_cons_of_mem _ hb
 ·rw[e] at hb
  unfold frs at hb
  rw[filterMap_cons,hf] at hb
  exact hb
theorem Inv.Vv (I:Inv X pins σ H s):∀ b∈frs X.stack,H b=none:=λb hb=>by
 rcases mem_cons.mp (I.Uy b hb) with e | hb
 ·rw[e];exact I.free
 ·obtain ⟨_,o,ho,_⟩:=I.ok.zaa.mem hb
  exact I.base.free b o ho (I.ok.frf b hb) λz=>I.ok.exfs b z hb
theorem Inv.step {g' : Array GenState}{t' : Nat}{d' : Drawn}{ch:List Addr}(I:Inv X pins σ H s)
  (hch:∀ b∈ch,(b∈X.ex\/X.s₀.heap.objs.size<=b)/\b≠X.env.locals/\(∀ x c,X.env.cells.lookup x=some c->c≠b)/\∀ p∈X.pn++pins,p.1≠b)
  (keep:∀ b o,b≠X.env.locals->b∉X.fs->b∉ch->s.heap.get? b=some o->H b=none->h'.get? b=some o)
  (slot:∀ b o,b≠X.env.locals->b∈X.fs->b∉ch->s.heap.get? b=some o->H b=none->∃ sl,h'.get? b=some { o with slots:=sl }) (free:∀ b o,b∉ch->s.heap.get? b=some o->H b=none->H' b=none)
  (there:∀ b o,b∉ch->s.heap.get? b=some o->∃ o',h'.get? b=some o')
  (tups:∀ b xs,H b=some (.tup xs)->H' b=some (.tup xs)) (frzs:∀ b o u,H b=some (.frz o u)->H' b=some (.frz o u)) (tbls:∀ b cr,H b=some (.tbl cr)->H' b=some (.tbl cr))
  (ns:∀ m,s.heap.Ns X.env.locals m->h'.Ns X.env.locals m) (hok:HOk X.prog X.w H' h') (hg:AllBare g'):
  Inv X pins σ H' { s with heap:=h',gens:=g',drawn:=d',toks:=t' }:=by
 have neL:∀ b o,X.s₀.heap.get? b=some o->b≠X.env.locals:=λb o e=>ne_of_lt (Nat.lt_of_lt_of_le (lt_size e) I.ok.above)
 have neC:∀ b o,X.s₀.heap.get? b=some o->b∉X.ex->b∉ch:=λb o e hx hb=>by
  rcases (hch b hb).1 with z | z
  ·exact hx z
  ·exact absurd (Nat.lt_of_lt_of_le (lt_size e) z) (lt_irrefl _)
 have cellK:∀ x c,X.env.cells.lookup x=some c->∀ v,s.heap.IsCell c v->h'.IsCell c v:=λx c e v ⟨o,ho,hd⟩=>by
  have nch:c∉ch:=λz=>(hch c z).2.2.1 x c e rfl
  by_cases hc:c∈X.fs
  ·obtain ⟨sl,q⟩:=slot c o (I.cne x c e) hc nch ho (I.freeC x c e)
   exact ⟨_,q,hd⟩
  ·exact ⟨o,keep c o (I.cne x c e) hc nch ho (I.freeC x c e),hd⟩
 refine ⟨I.ok,I.os,hg,⟨λb o e n hb hx=>?_,λb o e n hb hx=>?_,λb o e n hx=>?_,λb o e hx=>?_,λb xs e=>tups b xs (I.base.tups b xs e),λb o xs e=>frzs b o xs (I.base.frzs b o xs e),λb ps e=>?_⟩,?_,λx c e=>?_,?_,λx c e=>?_,λp hp=>?_,hok,I.len⟩
 ·exact keep b o (neL b o e) hb (neC b o e hx) (I.base.keep b o e n hb hx) (I.base.free b o e n hx)
 ·obtain ⟨sl,e1⟩:=I.base.slot b o e n hb hx
  obtain ⟨sl',e2⟩:=slot b _ (neL b o e) hb (neC b o e hx) e1 (I.base.free b o e n hx)
  exact ⟨sl',e2⟩
 ·obtain ⟨o',e1⟩:=I.base.there b o e hx
  exact free b o' (neC b o e hx) e1 (I.base.free b o e n hx)
 ·obtain ⟨o',e1⟩:=I.base.there b o e hx
  exact there b o' (neC b o e hx) e1
 ·exact tbls b ps (I.base.tbls b ps e)
 ·obtain ⟨m,hn,hl⟩:=I.loc
  refine ⟨m,ns m hn,λi x v e1 e2 e3=>?_⟩
  obtain ⟨u,r,l⟩:=hl i x v e1 e2 e3
  refine ⟨u,r,?_⟩
  rcases l with l | ⟨k,c,e,z⟩
  ·exact .inl l
  ·exact .inr ⟨k,c,e,cellK x c e _ z⟩
 ·obtain ⟨v,z⟩:=I.cell x c e
  exact ⟨v,cellK x c e v z⟩
 ·obtain ⟨m,⟨o,_,_,ho,_⟩,_⟩:=I.loc
  exact free _ o (λz=>(hch _ z).2.1 rfl) ho I.free
 ·obtain ⟨v,o,ho,hd⟩:=I.cell x c e
  exact free c o (λz=>(hch c z).2.2.1 x c e rfl) ho (I.freeC x c e)
 ·obtain ⟨e,n,ne,nf,d⟩:=I.pin p hp
  have nch:p.1∉ch:=λz=>(hch p.1 z).2.2.2 p hp rfl
  exact ⟨keep p.1 p.2 ne nf nch e n,free p.1 p.2 nch e n,ne,nf,d⟩
theorem Inv.un {t' : Nat}(I:Inv X pins σ H s)(u:Un X.fs [] H H' s.heap h')(hok:HOk X.prog X.w H' h'):Inv X pins σ H' { s with heap:=h',toks:=t' }:=by
 obtain ⟨m,⟨o,es,ep,ho,r⟩,_⟩:=id I.loc
 obtain ⟨sl,hL⟩:=u.any ho I.free (by simp)
 exact I.step (g' := s.gens) (d' := s.drawn) (ch:=[]) (λ_ z=>nomatch z) (λb o _ hb _ e n=>u.keep b o e n hb (by simp)) (λb o _ hb _ e n=>u.slot b o e n hb (by simp)) (λb o _ e n=>u.free b o e n (by simp)) (λb o _ e=>u.there b o e (by simp)) u.tups u.frzs u.tbls (λm' hm=>by
  obtain ⟨o',es',ep',ho',r'⟩:=hm
  rw[ho] at ho';cases ho'
  exact ⟨_,es',ep',hL,r'⟩) hok I.bare
theorem Inv.call {g' : Array GenState}{t' : Nat}{d' : Drawn}{ch:List Addr}(I:Inv X pins σ H s)(u:Un (frs X.stack) ch H H' s.heap h')(hok:HOk X.prog X.w H' h')(hg:AllBare g')
  (hch:∀ b∈ch,(b∈X.ex\/X.s₀.heap.objs.size<=b)/\b≠X.env.locals/\(∀ x c,X.env.cells.lookup x=some c->c≠b)/\∀ p∈X.pn++pins,p.1≠b):
  Inv X pins σ H' { s with heap:=h',gens:=g',drawn:=d',toks:=t' }:=by
 obtain ⟨m,⟨o,es,ep,ho,r⟩,_⟩:=id I.loc
 obtain ⟨sl,hL⟩:=u.any ho I.free λz=>(hch _ z).2.1 rfl
 exact I.step (ch:=ch) hch (λb o hL hb hc e n=>u.keep b o e n (λz=>(mem_cons.mp (I.Uy b z)).elim hL hb) hc) (λb o _ _ hc e n=>u.any e n hc) (λb o hc e n=>u.free b o e n hc) (λb o hc e=>u.there b o e hc) u.tups u.frzs u.tbls (λm' hm=>by
  obtain ⟨o',es',ep',ho',r'⟩:=hm
  rw[ho] at ho';cases ho'
  exact ⟨_,es',ep',hL,r'⟩) hok hg
theorem Inv.turned {t' : Nat}{it:Addr}(I:Inv X pins σ H s)(k:∀ b o,b≠it->s.heap.get? b=some o->h'.get? b=some o)(hn:H it=none)(hL:it≠X.env.locals)
  (h1:it∈X.ex\/X.s₀.heap.objs.size<=it) (h2:∀ x c,X.env.cells.lookup x=some c->c≠it) (h3:∀ p∈X.pn++pins,p.1≠it):Inv X pins σ H { s with heap:=h',toks:=t' }:=by
 have nit:∀ b u,H b=some u->b≠it:=λb u e z=>by rw[z,hn] at e;cases e
 refine I.step (g' := s.gens) (d' := s.drawn) (ch:=[it]) (λb hb=>?_) (λb o _ _ hc e _=>k b o (λz=>hc (by simp[z])) e) (λb o _ _ hc e _=>⟨o.slots,k b o (λz=>hc (by simp[z])) e⟩) (λ_ _ _ _ n=>n)
  (λb o hc e=>⟨o,k b o (λz=>hc (by simp[z])) e⟩) (λ_ _ e=>e) (λ_ _ _ e=>e) (λ_ _ e=>e) (λm hm=>?_) (λb u e=>?_) I.bare
 ·have e:b=it:=by simpa using hb
  subst e
  exact ⟨h1,hL,h2,h3⟩
 ·obtain ⟨o,es,ep,ho,r⟩:=hm
  exact ⟨o,es,ep,k _ o (Ne.symm hL) ho,r⟩
 ·refine (I.hok b u e).stay (λc v hc q=>k c v ?_ q) (λ_ q=>q) (λ_ _ q=>q) λ_ _ _ q=>q
  rcases hc with z | z
  ·rw[z];exact nit b u e
  ·exact nit c _ z
theorem Inv.tok (I:Inv X pins σ H s)(t:Nat):Inv X pins σ H { s with toks:=t }:=I.un (h' := s.heap) (t' := t) Un.refl I.hok
theorem Inv.kept {t' : Nat}(I:Inv X pins σ H s)(k:∀ b u,s.heap.get? b=some u->h'.get? b=some u):Inv X pins σ H { s with heap:=h',toks:=t' }:=I.un (Un.kept k) (I.hok.kept k)
theorem Inv.laid {a:Addr}{o:HO}{t' : Nat}(I:Inv X pins σ H s)(k:∀ b u,s.heap.get? b=some u->h'.get? b=some u)(hp:s.heap.objs.size<=a)(new:Yh X.prog X.w (upd H a o) h' a o):
  Inv X pins σ (upd H a o) { s with heap:=h',toks:=t' }:=I.un (Un.laid k hp (I.hok.fresh hp)) (I.hok.laid k hp new)
theorem Inv.write {x e:Addr}{o:HO}{t' : Nat}(I:Inv X pins σ H s)(mu:Mut (H x))(he:e=x\/H e=some (.own x))(k:∀ b u,b≠e->s.heap.get? b=some u->h'.get? b=some u)(heo:∃ u,h'.get? e=some u)
  (new:Yh X.prog X.w (upd H x o) h' x o):Inv X pins σ (upd H x o) { s with heap:=h',toks:=t' }:=I.un (Un.write mu he k heo) (I.hok.write mu he k heo new)
theorem Inv.JZ {pins' : List (Addr×Obj)}(I:Inv X pins σ H s)(h:∀ p∈pins',s.heap.get? p.1=some p.2/\H p.1=none/\p.1≠X.env.locals/\p.1∉X.fs/\∀ v,p.2.data≠.cell v):Inv X pins' σ H s:=
 ⟨I.ok,I.os,I.bare,I.base,I.loc,I.cell,I.free,I.freeC,λp hp=>(mem_append.mp hp).elim (λz=>I.pin p (List.mem_append_left _ z)) (h p),I.hok,I.len⟩
theorem Ql {N:List Str}(hN:N.Nodup){i j:Nat}{x:Str}(a:N[i]?=some x)(b:N[j]?=some x):i=j:=by
 obtain ⟨h1,e1⟩:=List.getElem?_eq_some_iff.mp a
 obtain ⟨h2,e2⟩:=List.getElem?_eq_some_iff.mp b
 exact (List.getElem_inj hN).mp (e1.trans e2.symm)
theorem zbZ {M:Model}{A:Around}{E:Value->Shared->Prop}{i:Nat}{x:Str}{v:V}{u:Value}{Q:Unit->Shared->Prop}(I:Inv X pins σ H s)(hN:X.N.Nodup)(hi:X.N[i]?=some x)(hx:Loc X.env.scope x)(r:RelV v u)
  (h:∀ s',Inv X pins (σ.set i (some v)) H s' -> (∃ a,SameBut a s.heap s'.heap/\(a=X.env.locals\/X.env.cells.lookup x=some a))->Q () s') (hf:X.fn x=true\/X.env.scope.names.lookup x=some .local:=by first | exact .inl rfl | exact .inr rfl | assumption):wpAny M A (storeName X.env x u) Q E s:=by
 obtain ⟨m,hn,hl⟩:=id I.loc
 have hcls:(X.env.scope.kind == .class||(X.env.scope.kind == .module&&X.env.locals != X.env.globals))=false:=by rw[I.ok.kind];rfl
 have hiσ:i<σ.length:=by rw[I.len];exact (List.getElem?_eq_some_iff.mp hi).1
 have cne:=I.cne
 have tracked:∀ {a:Addr}{h' : Heap},(∃ o,s.heap.get? a=some o/\H a=none)->SameBut a s.heap h' -> HOk X.prog X.w H h' := λ{a h'} ha hs b ob e=>by
  obtain ⟨_,_,hfree⟩:=ha
  refine (I.hok b ob e).stay (λc w' hc q=>(hs.2 c ?_).trans q) (λ_ q=>q) (λ_ _ q=>q) λ_ _ _ q=>q
  rintro rfl
  rcases hc with rfl | hc
  ·rw[hfree] at e;cases e
  ·rw[hfree] at hc;cases hc
 rcases hx with hk | hk
 ·refine wpAny_storeName_local hk hn (λh' hn' hs=>?_) hcls
  obtain ⟨oL,_,_,hoL,_⟩:=id hn
  refine h _ ⟨I.ok,I.os,I.bare,⟨λb o e n hb hx=>?_,λb o e n hb hx=>?_,I.base.free,λb o e hx=>?_,I.base.tups,I.base.frzs,I.base.tbls⟩,⟨_,hn',λj y v' e1 e2 e3=>?_⟩,λy c e=>?_,I.free,I.freeC,λp hp=>?_,tracked ⟨oL,hoL,I.free⟩ hs,by simpa using I.len⟩ ⟨_,hs,.inl rfl⟩
  ·exact (hs.2 b (ne_of_lt (Nat.lt_of_lt_of_le (lt_size e) I.ok.above))).trans (I.base.keep b o e n hb hx)
  ·obtain ⟨sl,e1⟩:=I.base.slot b o e n hb hx
   exact ⟨sl,(hs.2 b (ne_of_lt (Nat.lt_of_lt_of_le (lt_size e) I.ok.above))).trans e1⟩
  ·obtain ⟨o',e1⟩:=I.base.there b o e hx
   exact ⟨o',(hs.2 b (ne_of_lt (Nat.lt_of_lt_of_le (lt_size e) I.ok.above))).trans e1⟩
  ·by_cases hj:j=i
   ·subst hj
    rw[hi] at e1;cases e1
    rw[getElem?_set_self hiσ] at e2
    cases e2
    exact ⟨u,r,.inl ⟨hk,by simp⟩⟩
   ·rw[getElem?_set_ne (Ne.symm hj)] at e2
    obtain ⟨u',r',q⟩:=hl j y v' e1 e2 e3
    refine ⟨u',r',?_⟩
    rcases q with ⟨k,e⟩ | ⟨k,c,e,z⟩
    ·refine .inl ⟨k,?_⟩
     have:y≠x:=λe=>hj (Ql hN e1 (e ▸ hi))
     simp[this,e]
    ·exact .inr ⟨k,c,e,z.sameBut hs (cne y c e)⟩
  ·obtain ⟨w',z⟩:=I.cell y c e
   exact ⟨w',z.sameBut hs (cne y c e)⟩
  ·obtain ⟨e,n,ne,nf,d⟩:=I.pin p hp
   exact ⟨(hs.2 p.1 ne).trans e,n,ne,nf,d⟩
 ·have hfn:X.fn x=true:=by
   rcases hf with z | z
   ·exact z
   ·rw[z] at hk;cases hk
  obtain ⟨c,hc⟩:=I.ok.has x (.inl hk)
  obtain ⟨w',z⟩:=I.cell x c hc
  refine wpAny_storeName_cell I.ok.kind hk hc z (λh' hc' hs=>?_)
  obtain ⟨oc,hoc,hocd⟩:=id z
  refine h { s with heap:=h' } ⟨I.ok,I.os,I.bare,⟨λb o e n hb hx=>?_,λb o e n hb hx=>?_,I.base.free,λb o e hx=>?_,I.base.tups,I.base.frzs,I.base.tbls⟩,⟨m,hn.sameBut hs (Ne.symm (cne x c hc)),λj y v' e1 e2 e3=>?_⟩,λy c' e=>?_,I.free,I.freeC,λp hp=>?_,tracked ⟨oc,hoc,I.freeC x c hc⟩ hs,by simpa using I.len⟩ ⟨c,hs,.inr hc⟩
  ·exact (hs.2 b (ne_of_lt (Nat.lt_of_lt_of_le (lt_size e) (I.ok.cab x c hfn hc)))).trans (I.base.keep b o e n hb hx)
  ·obtain ⟨sl,e1⟩:=I.base.slot b o e n hb hx
   exact ⟨sl,(hs.2 b (ne_of_lt (Nat.lt_of_lt_of_le (lt_size e) (I.ok.cab x c hfn hc)))).trans e1⟩
  ·obtain ⟨o',e1⟩:=I.base.there b o e hx
   exact ⟨o',(hs.2 b (ne_of_lt (Nat.lt_of_lt_of_le (lt_size e) (I.ok.cab x c hfn hc)))).trans e1⟩
  ·by_cases hj:j=i
   ·subst hj
    rw[hi] at e1;cases e1
    rw[getElem?_set_self hiσ] at e2
    cases e2
    exact ⟨u,r,.inr ⟨.inl hk,c,hc,hc'⟩⟩
   ·rw[getElem?_set_ne (Ne.symm hj)] at e2
    obtain ⟨u',r',q⟩:=hl j y v' e1 e2 e3
    refine ⟨u',r',?_⟩
    rcases q with q | ⟨k,c',e,z'⟩
    ·exact .inl q
    ·refine .inr ⟨k,c',e,z'.sameBut hs ?_⟩
     rintro rfl
     exact hj (Ql hN e1 (I.ok.inj _ _ _ e hc ▸ hi))
  ·by_cases hcc:c'=c
   ·subst hcc;exact ⟨_,hc'⟩
   ·obtain ⟨w2,z2⟩:=I.cell y c' e
    exact ⟨w2,z2.sameBut hs hcc⟩
  ·obtain ⟨e,n,ne,nf,d⟩:=I.pin p hp
   refine ⟨(hs.2 p.1 ?_).trans e,n,ne,nf,d⟩
   intro q
   rw[q,hoc] at e
   have q' : oc=p.2:=Option.some.inj e
   exact d w' (by rw[← q'];exact hocd)
theorem W3 {M:Model}{A:Around}{E:Value->Shared->Prop}{i:Nat}{x:Str}{v:V}{u:Value}{Q:Unit->Shared->Prop}(I:Inv X pins σ H s)(hN:X.N.Nodup)(hi:X.N[i]?=some x)(hx:Loc X.env.scope x)(r:RelV v u)
  (h:∀ s',Inv X pins (σ.set i (some v)) H s' -> Q () s') (hf:X.fn x=true\/X.env.scope.names.lookup x=some .local:=by first | exact .inl rfl | exact .inr rfl | assumption):wpAny M A (storeName X.env x u) Q E s:=
 zbZ I hN hi hx r (λs' I' _=>h s' I') hf
theorem Inv.call' {s' : Shared}{ch:List Addr}(I:Inv X pins σ H s)(ho:s'.os=s.os)(u:Un (frs X.stack) ch H H' s.heap s'.heap)(hok:HOk X.prog X.w H' s'.heap)(hg:AllBare s'.gens)
  (hch:∀ b∈ch,(b∈X.ex\/X.s₀.heap.objs.size<=b)/\b≠X.env.locals/\(∀ x c,X.env.cells.lookup x=some c->c≠b)/\∀ p∈X.pn++pins,p.1≠b):Inv X pins σ H' s' := by
 obtain ⟨h',g',d',t',o'⟩:=s'
 have e:o'=s.os:=ho
 subst e
 exact I.call (g' := g') (t' := t') (d' := d') u hok hg hch
end
abbrev XK:=Value->Option Addr->Hp->Prop
abbrev St:=List (Option V)
abbrev VK:=V->Hp->Prop
abbrev TE:=St->Hp->VK->Prop
abbrev TT:=St->Hp->(Bool->Hp->Prop)->Prop
abbrev TA:=St->Hp->(List V->Hp->Prop)->Prop
structure Ends where
 nx:St->Hp->Prop
 rt:VK
 bk:St->Hp->Prop:=λ_ _=>False
 ct:St->Hp->Prop:=λ_ _=>False
abbrev TS:=Ends->St->Hp->Prop
def EP (X:Cx)(pins:List (Addr×Obj))(σ:St)(Q:VK)(u:Value)(s' : Shared):Prop:=∃ v H',Inv X pins σ H' s' /\ RelV v u/\Q v H'
def TP (X:Cx)(pins:List (Addr×Obj))(σ:St)(Q:Bool->Hp->Prop)(b:Bool)(s' : Shared):Prop:=∃ H',Inv X pins σ H' s' /\ Q b H'
def AP (X:Cx)(pins:List (Addr×Obj))(σ:St)(Q:List V->Hp->Prop)(us:List Value)(s' : Shared):Prop:=∃ vs H',Inv X pins σ H' s' /\ Vals vs us/\Q vs H'
def SP (X:Cx)(pins:List (Addr×Obj))(D:Ends)(f:Flow)(s' : Shared):Prop:=
 match f with
 | .next=>∃ σ' H',Inv X pins σ' H' s' /\ D.nx σ' H'
 | .brk=>∃ σ' H',Inv X pins σ' H' s' /\ D.bk σ' H'
 | .cont=>∃ σ' H',Inv X pins σ' H' s' /\ D.ct σ' H'
 | .ret u=>∃ v σ' H',Inv X pins σ' H' s' /\ RelV v u/\D.rt v H'
def PE (X:Cx)(e:Expr)(t:TE):Prop:=
 ∀ (pins:List (Addr×Obj)) (s:Shared) (σ:St) (H:Hp) (Q:VK),Inv X pins σ H s->t σ H Q->wpAny (model X.prog X.w) X.A (eval e X.env) (EP X pins σ Q) X.xe s
def PT (X:Cx)(e:Expr)(t:TT):Prop:=
 ∀ (pins:List (Addr×Obj)) (s:Shared) (σ:St) (H:Hp) (Q:Bool->Hp->Prop),Inv X pins σ H s->t σ H Q->wpAny (model X.prog X.w) X.A (isTrue e X.env (eval e X.env)) (TP X pins σ Q) X.xe s
def PW (X:Cx)(e:Expr)(t:TT):Prop:=
 ∀ (whole:Sem Value) (pins:List (Addr×Obj)) (s:Shared) (σ:St) (H:Hp) (Q:Bool->Hp->Prop),Inv X pins σ H s->t σ H Q->wpAny (model X.prog X.w) X.A (isTrue e X.env whole) (TP X pins σ Q) X.xe s
theorem PW.pt {X:Cx}{e:Expr}{t:TT}(h:PW X e t):PT X e t:=h _
def PA (X:Cx)(es:List Expr)(t:TA):Prop:=
 ∀ (pos:Pos) (pins:List (Addr×Obj)) (s:Shared) (σ:St) (H:Hp) (Q:List V->Hp->Prop),Inv X pins σ H s->t σ H Q->wpAny (model X.prog X.w) X.A (spliced (backTo pos (starEach es X.env))) (AP X pins σ Q) X.xe s
def PS (X:Cx)(st:Stmt)(t:TS):Prop:=
 ∀ (pins:List (Addr×Obj)) (s:Shared) (σ:St) (H:Hp) (D:Ends),Inv X pins σ H s->t D σ H->wpAny (model X.prog X.w) X.A (exec st X.env) (SP X pins D) X.xe s
def PSs (X:Cx)(st:List Stmt)(t:TS):Prop:=
 ∀ (pins:List (Addr×Obj)) (s:Shared) (σ:St) (H:Hp) (D:Ends),Inv X pins σ H s->t D σ H->wpAny (model X.prog X.w) X.A (execs st X.env) (SP X pins D) X.xe s
theorem thn {α:Type}{t:Sem α}{Q Q' : α->Shared->Prop}{M:Model}{A:Around}{E:Value->Shared->Prop}{s:Shared}(h:wpAny M A t Q E s)(hQ:∀ a s,Q a s->Q' a s):wpAny M A t Q' E s:=wpAny_mono h hQ λ_ _ x=>x
section
variable {X:Cx}
def JP (i:Nat):TE:=fun σ H Q=>∃ v,σ[i]?=some (some v)/\Q v H
def tC (v:V):TE:=λ_ H Q=>Q v H
theorem zfK {i:Nat}{x:Str}{pos:Pos}(hN:X.N[i]?=some x)(hv:Vis X.env.scope x)(hd:(x==("__debug__" : Str))=false:=by decide)(hcd:(x==("__classdict__" : Str))=false:=by decide):PE X (.Name x pos) (JP i):=by
 intro pins s σ H Q I h
 obtain ⟨v,e,h⟩:=h
 obtain ⟨m,hn,hl⟩:=I.loc
 obtain ⟨u,r,l⟩:=hl i x v hN e hv
 have fin:EP X pins σ Q u s:=⟨v,H,I,r,h⟩
 rcases l with ⟨hk,hm⟩ | ⟨hk,c,hc,hcell⟩
 ·exact wpAny_Name (wpAny_loadName_local I.ok.kind hk hn hm fin) hd
 ·rcases hk with hk | hk
  ·exact wpAny_Name (wpAny_loadName_cell I.ok.kind hk hc hcell fin) hd
  ·exact wpAny_Name (wpAny_loadName_free I.ok.kind hk hc hcell fin hcd) hd
theorem Zo {i j pos}:PE X (.Constant (.int i) j pos) (tC (.int i)):=λ_ _ _ H _ I h=>wpAny_Constant_int ⟨.int i,H,I.tok _,⟨_,rfl⟩,h⟩
theorem zcJ {b j pos}:PE X (.Constant (.bool b) j pos) (tC (.bl b)):=λ_ _ _ H _ I h=>Constant_bool ⟨.bl b,H,I,rfl,h⟩
theorem zf9 {j pos}:PE X (.Constant .none j pos) (tC .non):=λ_ _ _ H _ I h=>Constant_none ⟨.non,H,I,rfl,h⟩
theorem JN {x j pos}:PE X (.Constant (.str x) j pos) (tC (.str x)):=λ_ _ _ H _ I h=>Calls.Constant_str ⟨.str x,H,I.tok _,⟨_,rfl⟩,h⟩
def Gl (X:Cx)(x:Str):Prop:=X.env.kindOf x=some .globalImplicit
theorem Ja {E:Value->Shared->Prop}{pins:List (Addr×Obj)}{s:Shared}{σ:St}{H:Hp}{x:Str}{u:Value}{pos:Pos}{Q:Value->Shared->Prop}(I:Inv X pins σ H s)(hg:Gl X x)(hm:X.mg x=some u)(h:Q u s)
  (hd:(x==("__debug__" : Str))=false:=by decide):wpAny (model X.prog X.w) X.A (eval (.Name x pos) X.env) Q E s:=
 Calls.Name_function_global I.ok.kind hg (Calls.loadGlobal_global (by rw[I.ok.glob];exact I.mod.glob.keeps I.bk) hm h) hd
theorem Wf {E:Value->Shared->Prop}{pins:List (Addr×Obj)}{s:Shared}{σ:St}{H:Hp}{x:Str}{u:Value}{pos:Pos}{Q:Value->Shared->Prop}(I:Inv X pins σ H s)(hg:Gl X x)(hm:X.mg x=none)(hv:bootBuiltins x=some u)(h:Q u s)
  (hn:x≠ "__name__" := by decide) (hd:(x==("__debug__" : Str))=false:=by decide):wpAny (model X.prog X.w) X.A (eval (.Name x pos) X.env) Q E s:=by
 obtain ⟨mb,h1,h2⟩:=I.mod.blt
 exact Calls.Name_function_global I.ok.kind hg (Calls.loadGlobal_builtin (by rw[I.ok.glob];exact I.mod.glob.keeps I.bk) hm (by rw[I.ok.blt];exact h1.keeps I.bk) ((h2 x hn).trans hv) h) hd
theorem Xe {x:Str}{v:V}{u:Value}{pos:Pos}(hg:Gl X x)(hm:X.mg x=some u)(r:RelV v u)(hd:(x==("__debug__" : Str))=false:=by decide):PE X (.Name x pos) (tC v):=
 λ_ _ _ H _ I h=>Ja I hg hm ⟨v,H,I,r,h⟩ hd
theorem za0 {x:Str}{v:V}{u:Value}{pos:Pos}(hg:Gl X x)(hm:X.mg x=none)(hv:bootBuiltins x=some u)(r:RelV v u)(hn:x≠ "__name__" := by decide)(hd:(x==("__debug__" : Str))=false:=by decide):PE X (.Name x pos) (tC v):=
 λ_ _ _ H _ I h=>Wf I hg hm hv ⟨v,H,I,r,h⟩ hn hd
variable {a b:Expr}{ta tb:TE}{pos:Pos}
def tB (t:TE):TT:=fun σ H Q=>t σ H λx H1=>∃ c,x = .bl c/\Q c H1
theorem zaW {e:Expr}{t:TE}(h:PE X e t)(he:∀ whole,isTrue e X.env whole=(do let v ← whole;standAt e.pos;holding [v] (truthy v)):=by intro _;rfl):PT X e (tB t):=by
 intro pins s σ H Q I hw
 refine isTrue_plain (thn (h pins s σ H _ I hw) λv s1 ⟨x,H1,I1,r1,q1⟩=>?_) (he _)
 obtain ⟨d,rfl,q⟩:=q1
 cases r1
 exact wpAny_truthy_bool ⟨H1,I1,q⟩
variable {tA tB' : TT}{rest:List Expr}
def zhv (t u:TT):TT:=fun σ H Q=>t σ H λc H1=>if c=true then u σ H1 Q else Q false H1
def tOr (t u:TT):TT:=fun σ H Q=>t σ H λc H1=>if c=true then Q true H1 else u σ H1 Q
def zhe (t:TT):TT:=fun σ H Q=>t σ H λc H1=>Q (!c) H1
theorem pw_and1 (ha:PT X a tA):PW X (.BoolOp .And [a] pos) tA:=by
 intro wh pins s σ H Q I h
 refine isTrue_and (thn (ha pins s σ H Q I h) λc s1 e=>?_)
 cases c with
 | true=>exact isTrue_and_nil e
 | false=>exact e
theorem pw_or1 (ha:PT X a tA):PW X (.BoolOp .Or [a] pos) tA:=by
 intro wh pins s σ H Q I h
 refine isTrue_or (thn (ha pins s σ H Q I h) λc s1 e=>?_)
 cases c with
 | false=>exact isTrue_or_nil e
 | true=>exact e
theorem pw_and (ha:PT X a tA)(hb:PW X (.BoolOp .And (b::rest) pos) tB'):PW X (.BoolOp .And (a::b::rest) pos) (zhv tA tB'):=by
 intro wh pins s σ H Q I h
 refine isTrue_and (thn (ha pins s σ H _ I h) λc s1 ⟨H1,I1,q1⟩=>?_)
 cases c with
 | true=>exact hb wh pins s1 σ H1 Q I1 q1
 | false=>exact ⟨H1,I1,q1⟩
theorem pw_or (ha:PT X a tA)(hb:PW X (.BoolOp .Or (b::rest) pos) tB'):PW X (.BoolOp .Or (a::b::rest) pos) (tOr tA tB'):=by
 intro wh pins s σ H Q I h
 refine isTrue_or (thn (ha pins s σ H _ I h) λc s1 ⟨H1,I1,q1⟩=>?_)
 cases c with
 | true=>exact ⟨H1,I1,q1⟩
 | false=>exact hb wh pins s1 σ H1 Q I1 q1
theorem zgh (ha:PT X a tA):PT X (.UnaryOp .Not a pos) (zhe tA):=by
 intro pins s σ H Q I h
 exact isTrue_not (ha pins s σ H (λc H1=>Q (!c) H1) I h)
def zd9 (ta tb:TE):TE:=fun σ H Q=>ta σ H λx H1=>∃ c,x = .bl c/\if c=true then tb σ H1 Q else Q (.bl false) H1
theorem ze7 {op}{t:TE}(h:PE X a t):PE X (.BoolOp op [a] pos) t:=λpins s σ H Q I hw=>BoolOp_one (h pins s σ H Q I hw)
theorem zgl (ha:PE X a ta)(hb:PE X (.BoolOp .And (b::rest) pos) tb):PE X (.BoolOp .And (a::b::rest) pos) (zd9 ta tb):=by
 intro pins s σ H Q I h
 refine BoolOp_and (thn (ha pins s σ H _ I h) λv s1 ⟨x,H1,I1,r1,q1⟩=>?_)
 obtain ⟨c,rfl,q1⟩:=q1
 cases r1
 refine wpAny_truthy_bool ?_
 cases c with
 | true=>exact hb pins s1 σ H1 Q I1 q1
 | false=>exact ⟨.bl false,H1,I1,rfl,q1⟩
def tIf (t:TT)(ta tb:TE):TE:=fun σ H Q=>t σ H λc H1=>if c=true then ta σ H1 Q else tb σ H1 Q
theorem zcb {c:Expr}(hc:PT X c tA)(ha:PE X a ta)(hb:PE X b tb):PE X (.IfExp c a b pos) (tIf tA ta tb):=by
 intro pins s σ H Q I h
 refine wpAny_IfExp (thn (hc pins s σ H _ I h) λd s1 ⟨H1,I1,q1⟩=>?_)
 cases d with
 | true=>exact ha pins s1 σ H1 Q I1 q1
 | false=>exact hb pins s1 σ H1 Q I1 q1
end
def SqL (K:PySem.W.Frag)(H:Hp)(a:Addr)(xs:List V):Prop:=
 Rd H a (.lst xs)\/
  ∃ (o:Obj) (its:Array Value) (n:Nat),K.lookup a=some o/\o.cls = .type "list" /\ o.dict=none/\o.data = .seq its n/\its.size<=sizeLine/\Vals xs its.toList
def SqT (K:PySem.W.Frag)(H:Hp)(a:Addr)(xs:List V):Prop:=
 Rd H a (.tup xs)\/
  ∃ (o:Obj) (its:Array Value) (n:Nat),K.lookup a=some o/\o.cls = .type "tuple" /\ o.data = .seq its n/\its.size<=sizeLine/\Vals xs its.toList
noncomputable def zh6:Value->Option V
 | .none=>some .non
 | .bool b=>some (.bl b)
 | .int i _=>some (.int i)
 | .str x _=>some (.str x)
 | .bytes b _=>some (.byt b)
 | .float b _=>some (.flt b)
 | .ref a=>some (.ref a)
 | .type n=>some (.ty n)
 | _=>none
theorem RelV.abs {x:V}{u:Value}(r:RelV x u):zh6 u=some x:=by
 cases x with
 | non=>cases r;rfl
 | bl _=>cases r;rfl
 | int _=>obtain ⟨t,rfl⟩:=r;rfl
 | str _=>obtain ⟨t,rfl⟩:=r;rfl
 | byt _=>obtain ⟨t,rfl⟩:=r;rfl
 | flt _=>obtain ⟨t,rfl⟩:=r;rfl
 | ref _=>cases r;rfl
 | ty _=>cases r;rfl
theorem RelV.inj {x y:V}{u:Value}(r:RelV x u)(q:RelV y u):x=y:=Option.some.inj (r.abs.symm.trans q.abs)
theorem Vals.inj:∀ {xs ys:List V}{us:List Value},Vals xs us->Vals ys us->xs=ys
 | _,_,_,.nil,.nil=>rfl
 | _,_,_,.cons r t,.cons r' t' => by rw[r.inj r',Vals.inj t t']
section
variable {X:Cx}{pins:List (Addr×Obj)}{σ:St}{H:Hp}{s:Shared}{a:Addr}{xs ys:List V}
theorem SqL.of {K:PySem.W.Frag}(h:H a=some (.lst xs)):SqL K H a xs:=.inl (.inl h)
theorem SqT.of {K:PySem.W.Frag}(h:H a=some (.tup xs)):SqT K H a xs:=.inl (.inl h)
theorem Inv.list (I:Inv X pins σ H s)(h:SqL X.K H a xs):∃ its:List Value,Vals xs its/\PlainL s.heap a its.toArray/\xs.length<=sizeLine:=by
 rcases h with h | ⟨o,its,n,hk,hc,hd,hs,hz,r⟩
 ·obtain ⟨z,its,n,r,e⟩:=h.ok I.hok
  exact ⟨its,r,⟨_,n,e,rfl,rfl,rfl⟩,z⟩
 ·refine ⟨its.toList,r,⟨o,n,I.kIn a o hk,hc,hd,by simpa using hs⟩,?_⟩
  have e:=r.length
  simp only[length_toList] at e
  omega
theorem Inv.tuple (I:Inv X pins σ H s)(h:SqT X.K H a xs):∃ its:List Value,Vals xs its/\IsTup s.heap a its.toArray/\xs.length<=sizeLine:=by
 rcases h with h | ⟨o,its,n,hk,hc,hs,hz,r⟩
 ·obtain ⟨z,its,r,p,_⟩:=h.ok I.hok
  exact ⟨its,r,p,z⟩
 ·refine ⟨its.toList,r,⟨o,I.kIn a o hk,hc,n,by simpa using hs⟩,?_⟩
  have e:=r.length
  simp only[length_toList] at e
  omega
theorem Inv.zcc (I:Inv X pins σ H s)(h:SqL X.K H a xs)(h' : SqL X.K H a ys):xs=ys:=by
 obtain ⟨its,r,⟨o,n,e,_,_,d⟩,_⟩:=I.list h
 obtain ⟨its',r',⟨o',n',e',_,_,d'⟩,_⟩:=I.list h'
 rw[e] at e';cases e'
 rw[d] at d'
 injection d' with d1 _
 have:its=its' := by simpa using congrArg Array.toList d1
 subst this
 exact r.inj r'
theorem Inv.Vc (I:Inv X pins σ H s)(h:SqT X.K H a xs)(h' : SqT X.K H a ys):xs=ys:=by
 obtain ⟨its,r,⟨o,e,_,n,d⟩,_⟩:=I.tuple h
 obtain ⟨its',r',⟨o',e',_,n',d'⟩,_⟩:=I.tuple h'
 rw[e] at e';cases e'
 rw[d] at d'
 injection d' with d1 _
 have:its=its' := by simpa using congrArg Array.toList d1
 subst this
 exact r.inj r'
end
abbrev Cx.wish (X:Cx)(E:Value->Shared->Prop):Cx:={ X with xe:=E }
abbrev Cx.nox (X:Cx):Cx:=X.wish λ_ _=>False
theorem Cx.Ok.wish {X:Cx}(ok:X.Ok)(E:Value->Shared->Prop):(X.wish E).Ok:=
 ⟨ok.mod,ok.kind,ok.glob,ok.blt,ok.above,ok.inj,ok.has,ok.cab,ok.hd,ok.frames,ok.stk,ok.exf,ok.bs,ok.bsz,ok.noex,ok.exfs,ok.zaa,ok.frf⟩
theorem Cx.Ok.X7 {X:Cx}{E:Value->Shared->Prop}(ok:(X.wish E).Ok):X.Ok:=
 ⟨ok.mod,ok.kind,ok.glob,ok.blt,ok.above,ok.inj,ok.has,ok.cab,ok.hd,ok.frames,ok.stk,ok.exf,ok.bs,ok.bsz,ok.noex,ok.exfs,ok.zaa,ok.frf⟩
section
variable {X:Cx}{pins:List (Addr×Obj)}{σ:St}{H:Hp}{s:Shared}{E:Value->Shared->Prop}
theorem Inv.wish (I:Inv X pins σ H s)(E:Value->Shared->Prop):Inv (X.wish E) pins σ H s:=⟨I.ok.wish E,I.os,I.bare,I.base,I.loc,I.cell,I.free,I.freeC,I.pin,I.hok,I.len⟩
theorem Inv.X7 (I:Inv (X.wish E) pins σ H s):Inv X pins σ H s:=⟨I.ok.X7,I.os,I.bare,I.base,I.loc,I.cell,I.free,I.freeC,I.pin,I.hok,I.len⟩
theorem SP.X7 {D:Ends}{f:Flow}{s' : Shared}(h:SP (X.wish E) pins D f s'):SP X pins D f s' := by
 cases f with
 | next=>obtain ⟨σ',H',I,q⟩:=h;exact ⟨σ',H',I.X7,q⟩
 | brk=>obtain ⟨σ',H',I,q⟩:=h;exact ⟨σ',H',I.X7,q⟩
 | cont=>obtain ⟨σ',H',I,q⟩:=h;exact ⟨σ',H',I.X7,q⟩
 | ret u=>obtain ⟨v,σ',H',I,r,q⟩:=h;exact ⟨v,σ',H',I.X7,r,q⟩
theorem PSs.nox {st:List Stmt}{t:TS}(h:PSs X.nox st t):PSs X st t:=λpins s σ H D I hw=>
 wpAny_mono (h pins s σ H D (I.wish _) hw) (λ_ _ q=>q.X7) λ_ _ z=>False.elim z
end
section
variable {X:Cx}{st:Stmt}{rest:List Stmt}{t u:TS}{e:Expr}{te:TE}{pos:Pos}
def zgC:TS:=λD σ H=>D.nx σ H
def zfT (t u:TS):TS:=λD σ H=>t { D with nx:=u D } σ H
theorem Y7:PSs X [] zgC:=λ_ _ σ H _ I h=>wpAny_execs_nil ⟨σ,H,I,h⟩
theorem Zg (h1:PS X st t)(h2:PSs X rest u):PSs X (st::rest) (zfT t u):=by
 intro pins s σ H D I h
 refine wpAny_execs_cons (thn (h1 pins s σ H { D with nx:=u D } I h) λf s1 q=>?_)
 cases f with
 | next=>
  obtain ⟨σ',H',I',q⟩:=q
  exact h2 pins s1 σ' H' D I' q
 | ret v=>exact q
 | brk=>exact q
 | cont=>exact q
theorem Zq (h1:PS X st t):PSs X [st] t:=by
 intro pins s σ H D I h
 refine wpAny_execs_cons (thn (h1 pins s σ H D I h) λf s1 q=>?_)
 cases f with
 | next=>exact wpAny_execs_nil q
 | ret v=>exact q
 | brk=>exact q
 | cont=>exact q
theorem Inv.quiet {pins:List (Addr×Obj)}{σ:St}{H:Hp}{s:Shared}(I:Inv X pins σ H s):interactive X.env=false:=by simp[interactive,I.ok.kind]
def zc5 (te:TE):TS:=λD σ H=>te σ H λ_ H1=>D.nx σ H1
theorem J8 (he:PE X e te)(hs:swapsWith e none pos.line X.env=pure false:=by rfl):PS X (.Expr e pos) (zc5 te):=by
 intro pins s σ H D I h
 exact wpAny_Expr_any (thn (he pins s σ H _ I h) λv s1 ⟨x,H1,I1,r1,q1⟩=>⟨σ,H1,I1,q1⟩) I.quiet hs
def zgY (te:TE):TS:=λD σ H=>te σ H D.rt
theorem Yu (he:PE X e te):PS X (.Return (some e) pos) (zgY te):=by
 intro pins s σ H D I h
 exact wpAny_Return_some (thn (he pins s σ H _ I h) λv s1 ⟨x,H1,I1,r1,q1⟩=>⟨x,σ,H1,I1,r1,q1⟩)
def ze4 (c:TT)(t u:TS):TS:=λD σ H=>c σ H λb H1=>if b=true then t D σ H1 else u D σ H1
theorem Qf {c:Expr}{a b:List Stmt}{tc:TT}(hc:PT X c tc)(ha:PSs X a t)(hb:PSs X b u):PS X (.If c a b pos) (ze4 tc t u):=by
 intro pins s σ H D I h
 refine wpAny_If (thn (hc pins s σ H _ I h) λd s1 ⟨H1,I1,q1⟩=>?_)
 cases d with
 | true=>exact ha pins s1 σ H1 D I1 q1
 | false=>exact hb pins s1 σ H1 D I1 q1
end
abbrev TG:=V->St->Hp->(St->Hp->Prop)->Prop
abbrev TGs:=List V->St->Hp->(St->Hp->Prop)->Prop
def PG (X:Cx)(target:Expr)(t:TG):Prop:=
 ∀ (pins:List (Addr×Obj)) (s:Shared) (σ:St) (H:Hp) (v:V) (u:Value) (Q:St->Hp->Prop),Inv X pins σ H s->RelV v u->t v σ H Q->
  wpAny (model X.prog X.w) X.A (assign target X.env u) (λ_ s' => ∃ σ' H',Inv X pins σ' H' s' /\ Q σ' H') X.xe s
def PGs (X:Cx)(ts:List Expr)(t:TGs):Prop:=
 ∀ (pins:List (Addr×Obj)) (s:Shared) (σ:St) (H:Hp) (vs:List V) (us:List Value) (Q:St->Hp->Prop),Inv X pins σ H s->Vals vs us->t vs σ H Q->
  wpAny (model X.prog X.w) X.A (assignInOrder ((assignEach ts X.env).map (·.2)) us) (λ_ s' => ∃ σ' H',Inv X pins σ' H' s' /\ Q σ' H') X.xe s
abbrev J7:=V->V->V->Hp->(Hp->Prop)->Prop
def zhP (X:Cx)(t:J7):Prop:=
 ∀ (pins:List (Addr×Obj)) (s:Shared) (σ:St) (H:Hp) (o i v:V) (ov iv u:Value) (Q:Hp->Prop),Inv X pins σ H s->RelV o ov->RelV i iv->RelV v u->t o i v H Q->
  wpAny (model X.prog X.w) X.A (setItem ov iv u) (λ_ s' => ∃ H',Inv X pins σ H' s' /\ Q H') X.xe s
section
variable {X:Cx}{pos:Pos}
def WQ (i:Nat):TG:=λv σ H Q=>Q (σ.set i (some v)) H
theorem Z5 {i:Nat}{x:Str}(hN:X.N.Nodup)(hi:X.N[i]?=some x)(hx:Loc X.env.scope x)(hf:X.fn x=true\/X.env.scope.names.lookup x=some .local:=by first | exact .inl rfl | exact .inr rfl | assumption):PG X (.Name x pos) (WQ i):=by
 intro pins s σ H v u Q I r h
 exact wpAny_assign_Name (W3 I hN hi hx r (λs' I' => ⟨_,H,I',h⟩) hf)
def zgU:TGs:=λvs σ H Q=>vs=[]/\Q σ H
def Vk (t:TG)(u:TGs):TGs:=λvs σ H Q=>∃ v r,vs=v::r/\t v σ H fun σ' H' => u r σ' H' Q
theorem Jh:PGs X [] zgU:=by
 intro pins s σ H vs us Q I r h
 obtain ⟨e,h⟩:=h
 subst e
 cases r
 exact assignInOrder_nil ⟨σ,H,I,h⟩
theorem Yk {e:Expr}{es:List Expr}{t:TG}{u:TGs}(h1:PG X e t)(h2:PGs X es u)
  (hs:(assignEach (e::es) X.env).map (·.2)=assign e X.env::(assignEach es X.env).map (·.2):=by rfl):PGs X (e::es) (Vk t u):=by
 intro pins s σ H vs us Q I r h
 obtain ⟨v,vr,e1,h⟩:=h
 subst e1
 cases r with
 | cons r rr=>
  rw[hs]
  refine assignInOrder_cons (thn (h1 pins s σ H _ _ _ I r h) λ_ s1 ⟨σ1,H1,I1,q1⟩=>?_)
  exact h2 pins s1 σ1 H1 _ _ Q I1 rr q1
def zgO (K:PySem.W.Frag)(n:Nat)(t:TGs):TG:=λv σ H Q=>∃ a xs,v = .ref a/\SqT K H a xs/\xs.length=n/\t xs σ H Q
theorem Qu {es:List Expr}{k:Nat}{t:TGs}{n:Nat}(hc:X.calm=true)(h:PGs X es t)
  (hn:(assignEach es X.env).length=n:=by rfl) (hst:(assignEach es X.env).findIdx? (·.1)=none:=by rfl):PG X (.Tuple es k pos) (zgO X.K n t):=by
 intro pins s σ H v u Q I r hw
 obtain ⟨a,xs,e1,hq,hl,hw⟩:=hw
 subst e1
 cases r
 obtain ⟨its,rv,ht,hz⟩:=I.tuple hq
 refine assign_Tuple_tuple (I.ok.hd hc) ht (by simp[hn,← hl,rv.length]) hst λh' hx=>?_
 have I1:Inv X pins σ H { s with heap:=h' }:=I.kept (t' := s.toks) λb o e=>hx b o (ne_of_lt (lt_size e)) e
 exact h pins _ σ H xs _ Q I1 (by simpa using rv) hw
def zhW (to ti:TE)(t:J7):TG:=λv σ H Q=>to σ H λo H1=>ti σ H1 λi H2=>t o i v H2 λH3=>Q σ H3
theorem zfd {o i:Expr}{to ti:TE}{t:J7}(ho:PE X o to)(hi:PE X i ti)(hs:zhP X t)
  (ha:∀ v,assign (.Subscript o i pos) X.env v=(do
   let ov ← holding [v] (eval o X.env)
   let iv ← holding [v,ov] (eval i X.env)
   standAt pos
   holding [v,ov,iv] (setItem ov iv v)
   release [v,ov,iv] []):=by intro _;rfl):PG X (.Subscript o i pos) (zhW to ti t):=by
 intro pins s σ H v u Q I r h
 rw[ha]
 refine wpAny_bind (wpAny_holding (thn (ho pins s σ H _ I h) λov s1 ⟨x,H1,I1,r1,q1⟩=>?_))
 refine wpAny_bind (wpAny_holding (thn (hi pins s1 σ H1 _ I1 q1) λiv s2 ⟨y,H2,I2,r2,q2⟩=>?_))
 refine wpAny_bind (wpAny_standAt (wpAny_bind (wpAny_holding (thn (hs pins s2 σ H2 x y v ov iv u _ I2 r1 r2 r q2) λ_ s3 ⟨H3,I3,q3⟩=>?_))))
 exact wpAny_release ⟨σ,H3,I3,q3⟩
def zgX (te:TE)(g:TG):TS:=λD σ H=>te σ H λx H1=>g x σ H1 D.nx
theorem zgp {tg e:Expr}{te:TE}{g:TG}(he:PE X e te)(hg:PG X tg g)(hs:swapsWithSole [tg] e pos.line X.env=pure false:=by rfl)(hw:swappedStores [tg] e X.env=pure none:=by rfl)
  (h1:(assignEach [tg] X.env).map (·.2)=[assign tg X.env]:=by rfl):PS X (.Assign [tg] e pos) (zgX te g):=by
 intro pins s σ H D I h
 refine wpAny_Assign_stores (thn (he pins s σ H _ I h) λv s1 ⟨x,H1,I1,r1,q1⟩=>?_) hs hw
 rw[h1]
 exact thn (hg pins s1 σ H1 x v _ I1 r1 q1) λ_ s2 q=>q
theorem ZJ {i:Nat}{x:Str}{e:Expr}{te:TE}{pos' : Pos}(hN:X.N.Nodup)(hi:X.N[i]?=some x)(hx:Loc X.env.scope x)(he:PE X e te)(hs:swapsWith e (some (.Name x pos')) pos.line X.env=pure false:=by rfl)(hf:X.fn x=true\/X.env.scope.names.lookup x=some .local:=by first | exact .inl rfl | exact .inr rfl | assumption):
  PS X (.Assign [.Name x pos'] e pos) (zgX te (WQ i)):=by
 intro pins s σ H D I h
 refine wpAny_Assign_Name (thn (he pins s σ H _ I h) λv s1 ⟨y,H1,I1,r1,q1⟩=>?_) hs
 exact W3 I1 hN hi hx r1 (λs2 I2=>⟨_,H1,I2,q1⟩) hf
def zdx (c:TT)(tb:TS):TS:=λD σ H=>∃ W:Nat->St->Hp->Prop,(∃ m,W m σ H)/\∀ m σ H,W m σ H->
 c σ H λb H1=>if b=true then ∃ N:St->Hp->Prop,(∀ σ' H',N σ' H' -> ∃ m',m'<m/\W m' σ' H')/\tb { D with nx:=N,ct:=N,bk:=D.nx } σ H1 else D.nx σ H1
theorem U3 {c:Expr}{body:List Stmt}{tc:TT}{tb:TS}(hp:PassesOwn (model X.prog X.w) X.A X.env X.xe)(hc:PT X c tc)(hb:PSs X body tb):PS X (.While c body [] pos) (zdx tc tb):=by
 intro pins s σ H D I h
 obtain ⟨W,⟨m0,w0⟩,turn⟩:=h
 refine wpAny_While (codeAny_whileLoop (λn s' => ∃ σ' H',Inv X pins σ' H' s' /\ W n σ' H') ?_ m0 ⟨σ,H,I,w0⟩)
 rintro n s1 ⟨σ1,H1,I1,w1⟩
 refine wpAny_passesOwn hp (thn (hc pins s1 σ1 H1 _ I1 (turn n σ1 H1 w1)) λb s2 ⟨H2,I2,q2⟩=>?_)
 cases b with
 | true=>
  obtain ⟨N,hN,q2⟩:=q2
  rw[if_pos rfl]
  refine wpAny_passesOwn hp (thn (hb pins s2 σ1 H2 _ I2 q2) λf s3 q3=>?_)
  cases f with
  | next=>
   obtain ⟨σ3,H3,I3,n3⟩:=q3
   obtain ⟨m',hm,w3⟩:=hN σ3 H3 n3
   exact ⟨m',hm,σ3,H3,I3,w3⟩
  | cont=>
   obtain ⟨σ3,H3,I3,n3⟩:=q3
   obtain ⟨m',hm,w3⟩:=hN σ3 H3 n3
   exact ⟨m',hm,σ3,H3,I3,w3⟩
  | brk=>exact q3
  | ret v=>exact q3
 | false=>
  rw[if_neg Bool.false_ne_true]
  exact wpAny_execs_nil ⟨σ1,H2,I2,q2⟩
end
structure It where
 go:Nat->Hp->Prop
 yld:Nat->Hp->V->Hp->Prop
 stop:Nat->Hp->Prop
def zau (X:Cx)(pins:List (Addr×Obj))(H:Hp)(b:Addr):Prop:=
 H b=none/\b≠X.env.locals/\b∉X.fs/\(b∈X.ex\/X.s₀.heap.objs.size<=b)/\(∀ x c,X.env.cells.lookup x=some c->c≠b)/\∀ p∈X.pn++pins,p.1≠b
theorem Inv.zgW {X:Cx}{pins:List (Addr×Obj)}{σ:St}{H H' : Hp}{s:Shared}{b:Addr}(I:Inv X pins σ H s)(hb:s.heap.objs.size<=b)(hn:H' b=none):zau X pins H' b:=by
 refine ⟨hn,Nat.ne_of_gt (Nat.lt_of_lt_of_le I.lt hb),I.zij hb,.inr (Nat.le_trans I.sz hb),λx c e z=>?_,λp hp z=>?_⟩
 ·obtain ⟨v,q⟩:=I.cell x c e
  exact absurd (Nat.lt_of_lt_of_le q.lt (by rw[z];exact hb)) (lt_irrefl _)
 ·exact absurd (Nat.lt_of_lt_of_le (lt_size (I.pin p hp).1) (by rw[z];exact hb)) (lt_irrefl _)
structure zfF (Φ:Cx->Prop)(P:Program)(w:World)(K:PySem.W.Frag)(tg:Expr)(J:It)(fp:List Addr)(it:Addr)(tn:Nat->Heap->Prop):Prop where
 mem:it∈fp
 obj:∀ i h,tn i h->∀ b∈fp,∃ o,h.get? b=some o/\∀ v,o.data≠.cell v
 keep:∀ i h h',tn i h->(∀ b∈fp,∀ o,h.get? b=some o->h'.get? b=some o)->tn i h'
 item:∀ (X:Cx),X.prog=P->X.w=w->X.K=K->Φ X->∀ (i:Nat) (pins:List (Addr×Obj)) (s:Shared) (σ:St) (H:Hp) (E:Value->Shared->Prop),Inv X pins σ H s->(∀ b∈fp,zau X pins H b)->tn i s.heap->J.go i H->
  wpAny (model P w) X.A (pyNext (.ref it)) (λr s1=>∃ u,r=some u/\
   wpAny (model P w) X.A (letOwnedTupleGo tg (.ref it) u) (λ_ s2=>∃ x H',Inv X pins σ H' s2/\RelV x u/\J.yld i H x H' /\ tn (i+1) s2.heap/\∀ b∈fp,H' b=none) E s1) E s
 done:∀ (X:Cx),X.prog=P->X.w=w->X.K=K->Φ X->∀ (i:Nat) (pins:List (Addr×Obj)) (s:Shared) (σ:St) (H:Hp) (E:Value->Shared->Prop),Inv X pins σ H s->(∀ b∈fp,zau X pins H b)->tn i s.heap->J.stop i H->
  wpAny (model P w) X.A (pyNext (.ref it)) (λr s1=>r=none/\Inv X pins σ H s1) E s
 self:∀ (A:Around) (i:Nat) (s:Shared) (Q:Value->Shared->Prop) (E:Value->Shared->Prop),tn i s.heap->Q (.ref it) s->wpAny (model P w) A (pyIter (.ref it)) Q E s
abbrev Turn:=zfF λX=>X.calm=true
abbrev TI:=St->Hp->(It->Hp->Prop)->Prop
def PIE (X:Cx)(pins:List (Addr×Obj))(σ:St)(tg:Expr)(R:It->Hp->Prop)(itv:Value)(s2:Shared):Prop:=
 ∃ (it:Addr) (fp:List Addr) (tn:Nat->Heap->Prop) (J:It) (H' : Hp),itv = .ref it/\Inv X pins σ H' s2/\Turn X.prog X.w X.K tg J fp it tn/\tn 0 s2.heap/\(∀ b∈fp,zau X pins H' b)/\R J H'
def PI (X:Cx)(tg iter:Expr)(wi:TI):Prop:=
 ∀ (pins:List (Addr×Obj)) (s:Shared) (σ:St) (H:Hp) (R:It->Hp->Prop),Inv X pins σ H s->wi σ H R->
  wpAny (model X.prog X.w) X.A (eval iter X.env) (λv s1=>wpAny (model X.prog X.w) X.A (pyIter v) (PIE X pins σ tg R) X.xe s1) X.xe s
theorem zdI {M:Model}{A:Around}{E:Value->Shared->Prop}{s:Shared}{tg:Expr}{it:Addr}{u:Value}{o:Obj}{n:String}{vs:Array Value}{Q:Unit->Shared->Prop}(ho:s.heap.get? it=some o)(hc:o.cls = .type n)(hd:o.data = .fields vs)
  (hn:["enumerate", "zip", "dict_itemiterator", "dict_reverseitemiterator", "odict_iterator", "itertools.zip_longest", "itertools.pairwise"].contains n=false) (hQ:Q () s):wpAny M A (letOwnedTupleGo tg (.ref it) u) Q E s:=by
 unfold letOwnedTupleGo
 cases tg <;> first
  | exact wpAny_pure hQ
  | (cases u <;> first
    | exact wpAny_pure hQ
    | (refine wpAny_bind (wpAny_load ho ?_);rw[hc,hd];show wpAny M A (if (["enumerate", "zip", "dict_itemiterator", "dict_reverseitemiterator", "odict_iterator", "itertools.zip_longest", "itertools.pairwise"].contains n&&vs[0]?==some (rawInt _))=true then _ else _) Q E s;rw[if_neg (by intro h;rw[hn,Bool.false_and] at h;cases h)];exact wpAny_pure hQ))
noncomputable def Itl (K:PySem.W.Frag) (a:Addr):It:=
 ⟨λi H=>∃ xs x,SqL K H a xs/\xs[i]?=some x,λi H x H' => H'=H/\∀ xs,SqL K H a xs->xs[i]?=some x,λi H=>∃ xs,SqL K H a xs/\xs.length<=i⟩
noncomputable def Itt (K:PySem.W.Frag) (a:Addr):It:=
 ⟨λi H=>∃ xs x,SqT K H a xs/\xs[i]?=some x,λi H x H' => H'=H/\∀ xs,SqT K H a xs->xs[i]?=some x,λi H=>∃ xs,SqT K H a xs/\xs.length<=i⟩
noncomputable def Itr (lo:Int) (n:Nat):It:=⟨λi _=>i<n,λi H x H' => H'=H/\x = .int (lo+i),λi _=>n<=i⟩
theorem zaN {P:Program}{w:World}{K:PySem.W.Frag}{tg:Expr}(a it:Addr):Turn P w K tg (Itl K a) [it] it (λi h=>h.IsListIter it a i) where
 mem:=by simp
 obj:=λi h st b hb=>by
  have e:b=it:=by simpa using hb
  subst e
  obtain ⟨o,e,c,d⟩:=st
  exact ⟨o,e,λv z=>by rw[d] at z;cases z⟩
 keep:=λi h h' st k=>st.at λo e=>k it (by simp) o e
 item:=by
  intro X hP hw hK hc i pins s σ H E I hf st hg
  subst hP hw hK
  obtain ⟨xs,x,hq,hx⟩:=hg
  obtain ⟨its,rv,p,hz⟩:=I.list hq
  obtain ⟨u,hu,ru⟩:=rv.get hx
  obtain ⟨f0,f1,f2,f3,f4,f5⟩:=hf it (by simp)
  refine wpAny_pyNext_list_item st p.isList (x:=u) (by simpa using hu) λh' st' sb=>?_
  have I1:Inv X pins σ H { s with heap:=h' }:=I.turned (t' := s.toks) (λb o hb e=>(sb.2 b hb).trans e) f0 f1 f3 f4 f5
  obtain ⟨o,e,c,d⟩:=id st'
  exact ⟨u,rfl,zdI (s:={ s with heap:=h' }) e c d (by decide) ⟨x,H,I1,ru,⟨rfl,λys hy=>by rw[I.zcc hy hq];exact hx⟩,st',λb hb=>(hf b hb).1⟩⟩
 done:=by
  intro X hP hw hK hc i pins s σ H E I hf st hg
  subst hP hw hK
  obtain ⟨xs,hq,hx⟩:=hg
  obtain ⟨its,rv,p,hz⟩:=I.list hq
  obtain ⟨f0,f1,f2,f3,f4,f5⟩:=hf it (by simp)
  have hl:=rv.length
  exact wpAny_pyNext_list_end (I.ok.hd hc) st p.isList (by simp;omega) λh' eb=>⟨rfl,I.turned (t' := s.toks) (λb o hb e=>eb b o hb e) f0 f1 f3 f4 f5⟩
 self:=λ_ _ _ _ _ st h=>wpAny_pyIter_listiter st h
theorem zan {P:Program}{w:World}{K:PySem.W.Frag}{tg:Expr}(a it:Addr):Turn P w K tg (Itt K a) [it] it (λi h=>h.IsTupleIter it a i) where
 mem:=by simp
 obj:=λi h st b hb=>by
  have e:b=it:=by simpa using hb
  subst e
  obtain ⟨o,e,c,d⟩:=st
  exact ⟨o,e,λv z=>by rw[d] at z;cases z⟩
 keep:=λi h h' st k=>st.at λo e=>k it (by simp) o e
 item:=by
  intro X hP hw hK hc i pins s σ H E I hf st hg
  subst hP hw hK
  obtain ⟨xs,x,hq,hx⟩:=hg
  obtain ⟨its,rv,p,hz⟩:=I.tuple hq
  obtain ⟨u,hu,ru⟩:=rv.get hx
  obtain ⟨f0,f1,f2,f3,f4,f5⟩:=hf it (by simp)
  refine wpAny_pyNext_tuple_item st (show s.heap.IsTuple a its.toArray from p) (x:=u) (by simpa using hu) λh' st' sb=>?_
  have I1:Inv X pins σ H { s with heap:=h' }:=I.turned (t' := s.toks) (λb o hb e=>(sb.2 b hb).trans e) f0 f1 f3 f4 f5
  obtain ⟨o,e,c,d⟩:=id st'
  exact ⟨u,rfl,zdI (s:={ s with heap:=h' }) e c d (by decide) ⟨x,H,I1,ru,⟨rfl,λys hy=>by rw[I.Vc hy hq];exact hx⟩,st',λb hb=>(hf b hb).1⟩⟩
 done:=by
  intro X hP hw hK hc i pins s σ H E I hf st hg
  subst hP hw hK
  obtain ⟨xs,hq,hx⟩:=hg
  obtain ⟨its,rv,p,hz⟩:=I.tuple hq
  obtain ⟨f0,f1,f2,f3,f4,f5⟩:=hf it (by simp)
  have hl:=rv.length
  exact wpAny_pyNext_tuple_end (I.ok.hd hc) st (show s.heap.IsTuple a its.toArray from p) (by simp;omega) λh' eb=>⟨rfl,I.turned (t' := s.toks) (λb o hb e=>eb b o hb e) f0 f1 f3 f4 f5⟩
 self:=λ_ _ _ _ _ st h=>wpAny_pyIter_tupleiter st h
theorem U6 {P:Program}{w:World}{K:PySem.W.Frag}{tg:Expr}(it:Addr)(lo:Int)(n:Nat):Turn P w K tg (Itr lo n) [it] it (λi h=>IsRangeIter h it (lo+(i:Nat)*1) ((n:Int)-(i:Nat)) 1) where
 mem:=by simp
 obj:=λi h st b hb=>by
  have e:b=it:=by simpa using hb
  subst e
  exact ⟨_,st,λv z=>by
   have z' : Data.fields _=Data.cell v:=z
   cases z'⟩
 keep:=λi h h' st k=>k it (by simp) _ st
 item:=by
  intro X hP hw hK hc i pins s σ H E I hf st hg
  subst hP hw hK
  obtain ⟨f0,f1,f2,f3,f4,f5⟩:=hf it (by simp)
  have W:=Walks.range (prog:=X.prog) (w:=X.w) (I.ok.hd hc) it lo 1 n
  refine W.item i s _ _ hg st λv h' tk hv st' kk=>?_
  obtain ⟨t,rfl⟩:=hv
  have I1:Inv X pins σ H { s with heap:=h',toks:=tk }:=I.turned (λb o hb e=>kk b o (by simpa using hb) e) f0 f1 f3 f4 f5
  refine ⟨_,rfl,zdI (s:={ s with heap:=h',toks:=tk }) (n:= "range_iterator") st' rfl rfl (by decide) ⟨.int (lo+i),H,I1,⟨t,?_⟩,⟨rfl,rfl⟩,st',λb hb=>(hf b hb).1⟩⟩
  rw[Int.mul_one]
 done:=by
  intro X hP hw hK hc i pins s σ H E I hf st hg
  subst hP hw hK
  obtain ⟨f0,f1,f2,f3,f4,f5⟩:=hf it (by simp)
  exact wpAny_pyNext_range_end (I.ok.hd hc) st (by have:n<=i:=hg;omega) λh' eb=>⟨rfl,I.turned (t' := s.toks) (λb o hb e=>eb b o hb e) f0 f1 f3 f4 f5⟩
 self:=λ_ _ _ _ _ st h=>wpAny_pyIter_rangeiter st h
section
variable {X:Cx}{tg:Expr}
def zft (K:PySem.W.Frag)(tl:TE):TI:=fun σ H R=>tl σ H λx H1=>∃ a,x = .ref a/\(∃ xs,SqL K H1 a xs)/\R (Itl K a) H1
def zh3 (K:PySem.W.Frag)(tl:TE):TI:=fun σ H R=>tl σ H λx H1=>∃ a,x = .ref a/\(∃ xs,SqT K H1 a xs)/\R (Itt K a) H1
theorem Vq {l:Expr}{tl:TE}(hl:PE X l tl):PI X tg l (zft X.K tl):=by
 intro pins s σ H R I h
 refine thn (hl pins s σ H _ I h) λv s1 ⟨x,H1,I1,r1,q1⟩=>?_
 obtain ⟨a,e,⟨xs,hq⟩,q⟩:=q1
 subst e
 cases r1
 obtain ⟨its,rv,p,hz⟩:=I1.list hq
 refine wpAny_pyIter_list p.isList ?_
 refine ⟨s1.heap.objs.size,[s1.heap.objs.size],_,_,H1,rfl,I1.kept (t' := s1.toks) λb o e=>get?_push_of_some _ e,zaN a _,⟨_,get?_push_size _ rfl,rfl,rfl⟩,λb hb=>?_,q⟩
 have e:b=s1.heap.objs.size:=by simpa using hb
 subst e
 exact I1.zgW (Nat.le_refl _) (I1.hok.fresh (Nat.le_refl _))
theorem zdp {l:Expr}{tl:TE}(hl:PE X l tl):PI X tg l (zh3 X.K tl):=by
 intro pins s σ H R I h
 refine thn (hl pins s σ H _ I h) λv s1 ⟨x,H1,I1,r1,q1⟩=>?_
 obtain ⟨a,e,⟨xs,hq⟩,q⟩:=q1
 subst e
 cases r1
 obtain ⟨its,rv,p,hz⟩:=I1.tuple hq
 refine wpAny_pyIter_tuple (show s1.heap.IsTuple a its.toArray from p) ?_
 refine ⟨s1.heap.objs.size,[s1.heap.objs.size],_,_,H1,rfl,I1.kept (t' := s1.toks) λb o e=>get?_push_of_some _ e,zan a _,⟨_,get?_push_size _ rfl,rfl,rfl⟩,λb hb=>?_,q⟩
 have e:b=s1.heap.objs.size:=by simpa using hb
 subst e
 exact I1.zgW (Nat.le_refl _) (I1.hok.fresh (Nat.le_refl _))
theorem zcY {pins:List (Addr×Obj)}{σ:St}{H:Hp}{s:Shared}{R:It->Hp->Prop}{E:Value->Shared->Prop}{lo hi:Int}{t u v:Tok}{tk:Nat}(I:Inv X pins σ H s)(h1:-(2 ^ 62)<=lo)(h2:lo<2 ^ 62)(h3:-(2 ^ 62)<=hi)(h4:hi<2 ^ 62)
  (q:R (Itr lo (hi-lo).toNat) H):wpAny (model X.prog X.w) X.A (pyIter (.ref s.heap.objs.size)) (PIE X pins σ tg R) E { s with heap:=s.heap.push { cls:=.type "range",data:=.fields #[.int lo t,.int hi u,.int 1 v] },toks:=tk }:=by
 refine wpAny_pyIter_range (IsRange.new ..) (small_one h1 h2 h3 h4) ?_
 have I1:Inv X pins σ H { s with heap:=s.heap.push { cls:=.type "range",data:=.fields #[.int lo t,.int hi u,.int 1 v] },toks:=tk }:=I.kept λb o e=>get?_push_of_some _ e
 refine ⟨(s.heap.push { cls:=.type "range",data:=.fields #[.int lo t,.int hi u,.int 1 v] }).objs.size,[(s.heap.push { cls:=.type "range",data:=.fields #[.int lo t,.int hi u,.int 1 v] }).objs.size],_,_,H,rfl,
  I1.kept (t' := tk) λb o e=>get?_push_of_some _ e,U6 _ lo (hi-lo).toNat,?_,λb hb=>?_,q⟩
 ·have e1:lo+((0:Nat):Int)*1=lo:=by simp
  have e2:(((hi-lo).toNat:Nat):Int)-((0:Nat):Int)=Builtin.Range.rangeSize lo hi 1:=by rw[rangeSize_one];split <;> omega
  show IsRangeIter _ _ (lo+((0:Nat):Int)*1) ((((hi-lo).toNat:Nat):Int)-((0:Nat):Int)) 1
  rw[e1,e2]
  exact get?_push_size _ rfl
 ·have e:b=(s.heap.push { cls:=.type "range",data:=.fields #[.int lo t,.int hi u,.int 1 v] }).objs.size:=by simpa using hb
  subst e
  exact I1.zgW (Nat.le_refl _) (I1.hok.fresh (Nat.le_refl _))
def zcQ (ta:TA):TI:=fun σ H R=>ta σ H λvs H1=>∃ j:Int,vs=[.int j]/\-(2 ^ 62)<=j/\j<2 ^ 62/\R (Itr 0 j.toNat) H1
theorem Wl {a:Expr}{ta:TA}{p pos:Pos}(hg:Gl X "range")(hm:X.mg "range" = none)(ha:PA X [a] ta)(hs:starEach [a] X.env=[(false,eval a X.env)]:=by rfl):PI X tg (.Call (.Name "range" p) [a] [] pos) (zcQ ta):=by
 intro pins s σ H R I h
 refine Call_ (Wf I hg hm boot_range (PyProof.Rows.callWith_type1 (thn (ha pos pins s σ H _ I h) λus s1 ⟨vs,H1,I1,r1,q1⟩=>?_) hs rfl))
 obtain ⟨j,e,q1,q2,q⟩:=q1
 subst e
 cases r1 with
 | cons r rr=>
  cases rr
  obtain ⟨t,rfl⟩:=r
  exact call_range_1 (zcY I1 (by omega) (by omega) q1 q2 (by simpa using q))
def zgV (wi:TI)(g:TG)(tb:TS):TS:=λD σ H=>wi σ H λJ H1=>∃ W:Nat->Nat->St->Hp->Prop,(∃ m,W 0 m σ H1)/\∀ i m σ H,W i m σ H->
 (J.stop i H/\D.nx σ H)\/(J.go i H/\∃ N:St->Hp->Prop,(∀ σ' H',N σ' H' -> ∃ m',m'<m/\W (i+1) m' σ' H')/\∀ x H',J.yld i H x H' -> g x σ H' fun σ2 H2=>tb { D with nx:=N,ct:=N,bk:=D.nx } σ2 H2)
noncomputable def Wz (fp:List Addr) (h:Heap):List (Addr×Obj):=fp.filterMap λb=>(h.get? b).map λo=>(b,o)
theorem Wr {fp:List Addr}{h:Heap}{b:Addr}{o:Obj}(hb:b∈fp)(e:h.get? b=some o):(b,o)∈Wz fp h:=mem_filterMap.mpr ⟨b,hb,by rw[e];rfl⟩
theorem Vh {fp:List Addr}{h:Heap}{p:Addr×Obj}(hp:p∈Wz fp h):p.1∈fp/\h.get? p.1=some p.2:=by
 obtain ⟨b,hb,e⟩:=mem_filterMap.mp hp
 cases q:h.get? b with
 | none=>rw[q] at e;cases e
 | some o=>
  rw[q] at e
  have e' : (b,o)=p:=Option.some.inj e
  subst e'
  exact ⟨hb,q⟩
theorem Inv.pinned {pins:List (Addr×Obj)}{σ:St}{H:Hp}{s:Shared}{fp:List Addr}(I:Inv X pins σ H s)(hf:∀ b∈fp,zau X pins H b)(ho:∀ b∈fp,∃ o,s.heap.get? b=some o/\∀ v,o.data≠.cell v):Inv X (pins++Wz fp s.heap) σ H s:=
 I.JZ λp hp=>(mem_append.mp hp).elim (λz=>I.pin p (mem_append_right _ z)) λz=>by
  obtain ⟨hb,e⟩:=Vh z
  obtain ⟨f0,f1,f2,_⟩:=hf p.1 hb
  obtain ⟨o,e',d⟩:=ho p.1 hb
  rw[e] at e';cases e'
  exact ⟨e,f0,f1,f2,d⟩
theorem Inv.WY {pins pl:List (Addr×Obj)}{σ:St}{H:Hp}{s:Shared}(I:Inv X (pins++pl) σ H s):Inv X pins σ H s:=I.JZ λp hp=>I.pin p (mem_append_right _ (List.mem_append_left _ hp))
theorem WM {iter:Expr}{body:List Stmt}{wi:TI}{g:TG}{tb:TS}{pos:Pos}(hp:PassesOwn (model X.prog X.w) X.A X.env X.xe)(hc:X.calm=true)(hi:PI X tg iter wi)(hg:PG X tg g)(hb:PSs X body tb)
  (hs:∀ x,foldedSetIterable iter X.env x=pure x:=by intro _;rfl):PS X (.For tg iter body [] pos) (zgV wi g tb):=by
 intro pins s σ H D I h
 refine wpAny_For (thn (hi pins s σ H _ I h) λv s1 h1=>thn h1 λitv s2 h2=>?_) hs
 obtain ⟨it,fp,tn,J,H2,e,I2,T,st2,f2,W,⟨m0,w0⟩,turn⟩:=h2
 subst e
 have stat:∀ {H' : Hp},(∀ b∈fp,H' b=none)->∀ b∈fp,zau X pins H' b:=λhn b hb=>⟨hn b hb,(f2 b hb).2⟩
 refine codeAny_forLoop_any (λn s' => ∃ i σ' H',Inv X pins σ' H' s' /\ tn i s'.heap/\(∀ b∈fp,H' b=none)/\W i n σ' H') ?_ m0 ⟨0,σ,H2,I2,st2,λb hb=>(f2 b hb).1,w0⟩
 rintro n s3 ⟨i,σ3,H3,I3,st3,fr3,w3⟩
 rcases turn i n σ3 H3 w3 with ⟨stop,qn⟩ | ⟨go,N,hN,step⟩
 ·refine wpAny_passesOwn hp (thn (T.done X rfl rfl rfl hc i pins s3 σ3 H3 X.xe I3 (stat fr3) st3 stop) λr s4 ⟨hr,I4⟩=>?_)
  subst hr
  exact wpAny_execs_nil ⟨σ3,H3,I4,qn⟩
 ·refine wpAny_passesOwn hp (thn (T.item X rfl rfl rfl hc i pins s3 σ3 H3 X.xe I3 (stat fr3) st3 go) λr s4 ⟨u,hr,h4⟩=>?_)
  subst hr
  refine wpAny_passesOwn hp (thn h4 λ_ s5 ⟨x,H5,I5,r5,y5,st5,fr5⟩=>?_)
  have I5' := I5.pinned (stat fr5) (T.obj _ _ st5)
  refine wpAny_passesOwn hp (thn (hg _ s5 σ3 H5 x u _ I5' r5 (step x H5 y5)) λ_ s6 ⟨σ6,H6,I6,q6⟩=>?_)
  refine wpAny_passesOwn hp (thn (hb _ s6 σ6 H6 _ I6 q6) λf s7 q7=>?_)
  have again:∀ {σ7:St}{H7:Hp},Inv X (pins++Wz fp s5.heap) σ7 H7 s7->N σ7 H7->∃ m,m<n/\∃ i σ' H',Inv X pins σ' H' s7/\tn i s7.heap/\(∀ b∈fp,H' b=none)/\W i m σ' H' := λ{σ7 H7} I7 n7=>by
   obtain ⟨m',hm,w7⟩:=hN σ7 H7 n7
   refine ⟨m',hm,i+1,σ7,H7,I7.WY,T.keep _ _ _ st5 λb hb o e=>(I7.pin (b,o) (mem_append_right _ (mem_append_right _ (Wr hb e)))).1,λb hb=>?_,w7⟩
   obtain ⟨o,e,d⟩:=T.obj _ _ st5 b hb
   exact (I7.pin (b,o) (mem_append_right _ (mem_append_right _ (Wr hb e)))).2.1
  cases f with
  | next=>obtain ⟨σ7,H7,I7,n7⟩:=q7;exact again I7 n7
  | cont=>obtain ⟨σ7,H7,I7,n7⟩:=q7;exact again I7 n7
  | brk=>obtain ⟨σ7,H7,I7,q7⟩:=q7;exact ⟨σ7,H7,I7.WY,q7⟩
  | ret v=>obtain ⟨x7,σ7,H7,I7,r7,q7⟩:=q7;exact ⟨x7,σ7,H7,I7.WY,r7,q7⟩
end
abbrev R2:=V->V->Hp->VK->Prop
def OpR (X:Cx)(f:Value->Value->Sem Value)(r:R2):Prop:=
 ∀ (pins:List (Addr×Obj)) (s:Shared) (σ:St) (H:Hp) (x y:V) (v u:Value) (Q:VK),Inv X pins σ H s->RelV x v->RelV y u->r x y H Q->
  wpAny (model X.prog X.w) X.A (f v u) (EP X pins σ Q) X.xe s
def UnR (X:Cx)(f:Value->Sem Value)(r:V->Hp->VK->Prop):Prop:=
 ∀ (pins:List (Addr×Obj)) (s:Shared) (σ:St) (H:Hp) (x:V) (v:Value) (Q:VK),Inv X pins σ H s->RelV x v->r x H Q->
  wpAny (model X.prog X.w) X.A (f v) (EP X pins σ Q) X.xe s
def Jb (X:Cx)(f:Value)(r:List V->Hp->VK->Prop):Prop:=
 ∀ (pins:List (Addr×Obj)) (s:Shared) (σ:St) (H:Hp) (xs:List V) (us:List Value) (Q:VK),Inv X pins σ H s->Vals xs us->r xs H Q->
  wpAny (model X.prog X.w) X.A (call f us) (EP X pins σ Q) X.xe s
def tOp (r:R2)(ta tb:TE):TE:=fun σ H Q=>ta σ H λx H1=>tb σ H1 λy H2=>r x y H2 Q
def tUn (r:V->Hp->VK->Prop)(ta:TE):TE:=fun σ H Q=>ta σ H λx H1=>r x H1 Q
def rI (C:Int->Int->Prop)(g:Int->Int->V):R2:=λx y H Q=>∃ i j,x = .int i/\y = .int j/\C i j/\Q (g i j) H
def rI0 (g:Int->Int->V):R2:=λx y H Q=>∃ i j,x = .int i/\y = .int j/\Q (g i j) H
def rU (g:Int->V):V->Hp->VK->Prop:=λx H Q=>∃ i,x = .int i/\Q (g i) H
section
variable {X:Cx}{a b c:Expr}{ta tb tc:TE}{pos:Pos}
theorem zhn (ha:PE X a ta)(hb:PE X b tb){pins:List (Addr×Obj)}{s:Shared}{σ:St}{H:Hp}{R:V->V->Hp->Prop}(I:Inv X pins σ H s)
  (h:ta σ H λx H1=>tb σ H1 λy H2=>R x y H2) {Q:Value->Shared->Prop}{f:Value->Value->Sem Value}
  (hf:∀ v u s2 x y H2,Inv X pins σ H2 s2->RelV x v->RelV y u->R x y H2->wpAny (model X.prog X.w) X.A (f v u) Q X.xe s2):
  wpAny (model X.prog X.w) X.A (eval a X.env) (λv s₁=>wpAny (model X.prog X.w) X.A (eval b X.env) (λu s₂=>wpAny (model X.prog X.w) X.A (f v u) Q X.xe s₂) X.xe s₁) X.xe s:=by
 refine thn (ha pins s σ H _ I h) λv s1 ⟨x,H1,I1,r1,q1⟩=>?_
 refine thn (hb pins s1 σ H1 _ I1 q1) λu s2 ⟨y,H2,I2,r2,q2⟩=>?_
 exact hf v u s2 x y H2 I2 r1 r2 q2
theorem ZF {op:Operator}{r:R2}(ho:OpR X (binaryOp op) r)(ha:PE X a ta)(hb:PE X b tb):PE X (.BinOp a op b pos) (tOp r ta tb):=by
 intro pins s σ H Q I h
 exact wpAny_BinOp (zhn ha hb I h λv u s2 x y H2 I2 rx ry q=>ho pins s2 σ H2 x y v u Q I2 rx ry q)
theorem zhq {op:UnaryOp}{r:V->Hp->VK->Prop}(ho:UnR X (unaryOp op) r)(ha:PE X a ta):PE X (.UnaryOp op a pos) (tUn r ta):=by
 intro pins s σ H Q I h
 exact UnaryOp_ (thn (ha pins s σ H _ I h) λv s1 ⟨x,H1,I1,r1,q1⟩=>ho pins s1 σ H1 x v Q I1 r1 q1)
theorem opI {f:Value->Value->Sem Value}{C:Int->Int->Prop}{g:Int->Int->Int}
  (rule:∀ (i j:Int) (t u:Tok) (s:Shared) (Q:Value->Shared->Prop) (E:Value->Shared->Prop),C i j->Q (.int (g i j) s.toks) { s with toks:=s.toks+1 }->wpAny (model X.prog X.w) X.A (f (.int i t) (.int j u)) Q E s):
  OpR X f (rI C λi j=>.int (g i j)):=by
 intro pins s σ H x y v u Q I rx ry h
 obtain ⟨i,j,rfl,rfl,hc,q⟩:=h
 obtain ⟨t,rfl⟩:=rx
 obtain ⟨t',rfl⟩:=ry
 exact rule i j t t' s _ _ hc ⟨.int (g i j),H,I.tok _,⟨_,rfl⟩,q⟩
theorem zgT {f:Value->Value->Sem Value}{g:Int->Int->Int}
  (rule:∀ (i j:Int) (t u:Tok) (s:Shared) (Q:Value->Shared->Prop) (E:Value->Shared->Prop),Q (.int (g i j) s.toks) { s with toks:=s.toks+1 }->wpAny (model X.prog X.w) X.A (f (.int i t) (.int j u)) Q E s):
  OpR X f (rI0 λi j=>.int (g i j)):=by
 intro pins s σ H x y v u Q I rx ry h
 obtain ⟨i,j,rfl,rfl,q⟩:=h
 obtain ⟨t,rfl⟩:=rx
 obtain ⟨t',rfl⟩:=ry
 exact rule i j t t' s _ _ ⟨.int (g i j),H,I.tok _,⟨_,rfl⟩,q⟩
theorem zh4 {f:Value->Value->Sem Value}{g:Int->Int->Bool}
  (rule:∀ (i j:Int) (t u:Tok) (s:Shared) (Q:Value->Shared->Prop) (E:Value->Shared->Prop),Q (.bool (g i j)) s->wpAny (model X.prog X.w) X.A (f (.int i t) (.int j u)) Q E s):
  OpR X f (rI0 λi j=>.bl (g i j)):=by
 intro pins s σ H x y v u Q I rx ry h
 obtain ⟨i,j,rfl,rfl,q⟩:=h
 obtain ⟨t,rfl⟩:=rx
 obtain ⟨t',rfl⟩:=ry
 exact rule i j t t' s _ _ ⟨.bl (g i j),H,I,rfl,q⟩
def zhD (i j:Int):Prop:=0<=j/\j<=1000000/\i.natAbs<2 ^ 64
theorem zak (k:Nat):(0:Int)<=2 ^ k:=by
 rw[two_pow_cast]
 exact Int.natCast_nonneg _
theorem Jd:OpR X (binaryOp .Add) (rI0 λi j=>.int (i+j)):=zgT λ_ _ _ _ _ _ _ q=>add_int q
theorem zdu:OpR X (binaryOp .Sub) (rI0 λi j=>.int (i-j)):=zgT λ_ _ _ _ _ _ _ q=>sub_int q
theorem YC:OpR X (binaryOp .Mod) (rI (λ_ j=>0<j) λi j=>.int (i % j)):=opI λi j _ _ _ _ _ hc q=>by
 have h1:(0:Int)<j:=hc
 exact mod_int' (by omega) (by rw[Int.fmod_eq_emod_of_nonneg i (by omega)];exact q)
theorem zfi:OpR X (binaryOp .LShift) (rI zhD λi j=>.int (i*2 ^ j.toNat)):=opI λ_ _ _ _ _ _ _ hc q=>lshift_int_small hc.1 hc.2.1 hc.2.2 q
theorem za5:OpR X (binaryOp .RShift) (rI (λ_ j=>0<=j) λi j=>.int (i / 2 ^ j.toNat)):=opI λi j _ _ _ _ _ hc q=>
 rshift_int hc (by rw[Int.fdiv_eq_ediv_of_nonneg i (zak _)];exact q)
theorem zbA:OpR X (binaryOp .BitAnd) (rI0 λi j=>.int (Builtin.bitAnd i j)):=zgT λ_ _ _ _ _ _ _ q=>and_int q
theorem zgj:OpR X (binaryOp .BitOr) (rI0 λi j=>.int (Builtin.bitOr i j)):=zgT λ_ _ _ _ _ _ _ q=>or_int q
theorem unI {f:Value->Sem Value}{g:Int->Int}
  (rule:∀ (i:Int) (t:Tok) (s:Shared) (Q:Value->Shared->Prop) (E:Value->Shared->Prop),Q (.int (g i) s.toks) { s with toks:=s.toks+1 }->wpAny (model X.prog X.w) X.A (f (.int i t)) Q E s):
  UnR X f (rU λi=>.int (g i)):=by
 intro pins s σ H x v Q I rx h
 obtain ⟨i,rfl,q⟩:=h
 obtain ⟨t,rfl⟩:=rx
 exact rule i t s _ _ ⟨.int (g i),H,I.tok _,⟨_,rfl⟩,q⟩
theorem zfc:UnR X (unaryOp .USub) (rU λi=>.int (-i)):=unI λ_ _ _ _ _ q=>neg_int q
end
noncomputable def zhQ:V->V->Bool
 | .non,.non=>true | .non,.int _=>true | .int _,.non=>true | .non,.bl _=>true | .bl _,.non=>true | .non,.str _=>true | .str _,.non=>true
 | .int _,.int _=>true | .bl _,.bl _=>true | .str _,.str _=>true | .byt _,.byt _=>true
 | .int _,.str _=>true | .str _,.int _=>true | .bl _,.str _=>true | .str _,.bl _=>true
 | _,_=>false
def rEq:R2:=λx y H Q=>zhQ x y=true/\Q (.bl (decide (x=y))) H
def rNe:R2:=λx y H Q=>zhQ x y=true/\Q (.bl (!decide (x=y))) H
theorem zbl {i j:Int}:decide (V.int i=V.int j)=(i==j):=by
 rw[Bool.eq_iff_iff]
 simp
theorem zdE {i j:Bool}:decide (V.bl i=V.bl j)=(i==j):=by
 rw[Bool.eq_iff_iff]
 simp
theorem zbF {i j:Str}:decide (V.str i=V.str j)=(i==j):=by
 rw[Bool.eq_iff_iff]
 simp
theorem zbi {i j:Array UInt8}:decide (V.byt i=V.byt j)=(i.toList==j.toList):=by
 rw[Bool.eq_iff_iff]
 cases i
 cases j
 simp
section
variable {X:Cx}{a b c:Expr}{ta tb tc:TE}{pos:Pos}
theorem ZG {pins:List (Addr×Obj)}{σ:St}{H:Hp}{s:Shared}{Q:VK}{k k' : Bool}(I:Inv X pins σ H s)(q:Q (.bl k) H)(e:k=k'):EP X pins σ Q (.bool k') s:=by
 subst e
 exact ⟨.bl k,H,I,rfl,q⟩
theorem zaR:OpR X (compareOp .Eq) rEq:=by
 intro pins s σ H x y v u Q I rx ry h
 obtain ⟨hs,q⟩:=h
 cases x with
 | non=>
  cases rx
  cases y with
  | non=>cases ry;exact PySem.EqNone.eq_none_none (ZG I q (by simp))
  | bl j=>cases ry;exact PySem.EqNone.eq_none_bool (ZG I q (by simp))
  | int j=>obtain ⟨t',rfl⟩:=ry;exact PySem.EqNone.eq_none_int (ZG I q (by simp))
  | str j=>obtain ⟨t',rfl⟩:=ry;exact PySem.EqNone.eq_none_str (ZG I q (by simp))
  | _=>exact absurd (show false=true from hs) Bool.false_ne_true
 | bl i=>
  cases rx
  cases y with
  | non=>cases ry;exact PySem.EqNone.eq_bool_none (ZG I q (by simp))
  | bl j=>cases ry;exact eq_bool (ZG I q zdE)
  | str j=>obtain ⟨t',rfl⟩:=ry;exact PySem.EqMixed.eq_bool_str (ZG I q (by simp))
  | _=>exact absurd (show false=true from hs) Bool.false_ne_true
 | int i=>
  obtain ⟨t,rfl⟩:=rx
  cases y with
  | non=>cases ry;exact PySem.EqNone.eq_int_none (ZG I q (by simp))
  | int j=>obtain ⟨t',rfl⟩:=ry;exact eq_int (ZG I q zbl)
  | str j=>obtain ⟨t',rfl⟩:=ry;exact PySem.EqMixed.eq_int_str (ZG I q (by simp))
  | _=>exact absurd (show false=true from hs) Bool.false_ne_true
 | str i=>
  obtain ⟨t,rfl⟩:=rx
  cases y with
  | non=>cases ry;exact PySem.EqNone.eq_str_none (ZG I q (by simp))
  | bl j=>cases ry;exact PySem.EqMixed.eq_str_bool (ZG I q (by simp))
  | int j=>obtain ⟨t',rfl⟩:=ry;exact PySem.EqMixed.eq_str_int (ZG I q (by simp))
  | str j=>obtain ⟨t',rfl⟩:=ry;exact eq_str (ZG I q zbF)
  | _=>exact absurd (show false=true from hs) Bool.false_ne_true
 | byt i=>
  obtain ⟨t,rfl⟩:=rx
  cases y with
  | byt j=>obtain ⟨t',rfl⟩:=ry;exact PySem.W.eq_bytes (ZG I q zbi)
  | _=>exact absurd (show false=true from hs) Bool.false_ne_true
 | _=>cases y <;> exact absurd (show false=true from hs) Bool.false_ne_true
theorem zhj:OpR X (compareOp .NotEq) rNe:=by
 intro pins s σ H x y v u Q I rx ry h
 obtain ⟨hs,q⟩:=h
 cases x with
 | non=>
  cases rx
  cases y with
  | non=>cases ry;exact PySem.EqNone.ne_none_none (ZG I q (by simp))
  | bl j=>cases ry;exact PySem.EqNone.ne_none_bool (ZG I q (by simp))
  | int j=>obtain ⟨t',rfl⟩:=ry;exact PySem.EqNone.ne_none_int (ZG I q (by simp))
  | str j=>obtain ⟨t',rfl⟩:=ry;exact PySem.EqNone.ne_none_str (ZG I q (by simp))
  | _=>exact absurd (show false=true from hs) Bool.false_ne_true
 | bl i=>
  cases rx
  cases y with
  | non=>cases ry;exact PySem.EqNone.ne_bool_none (ZG I q (by simp))
  | bl j=>cases ry;exact ne_bool (ZG I q (congrArg not zdE))
  | str j=>obtain ⟨t',rfl⟩:=ry;exact PySem.EqMixed.ne_bool_str (ZG I q (by simp))
  | _=>exact absurd (show false=true from hs) Bool.false_ne_true
 | int i=>
  obtain ⟨t,rfl⟩:=rx
  cases y with
  | non=>cases ry;exact PySem.EqNone.ne_int_none (ZG I q (by simp))
  | int j=>obtain ⟨t',rfl⟩:=ry;exact ne_int (ZG I q (congrArg not zbl))
  | str j=>obtain ⟨t',rfl⟩:=ry;exact PySem.EqMixed.ne_int_str (ZG I q (by simp))
  | _=>exact absurd (show false=true from hs) Bool.false_ne_true
 | str i=>
  obtain ⟨t,rfl⟩:=rx
  cases y with
  | non=>cases ry;exact PySem.EqNone.ne_str_none (ZG I q (by simp))
  | bl j=>cases ry;exact PySem.EqMixed.ne_str_bool (ZG I q (by simp))
  | int j=>obtain ⟨t',rfl⟩:=ry;exact PySem.EqMixed.ne_str_int (ZG I q (by simp))
  | str j=>obtain ⟨t',rfl⟩:=ry;exact ne_str (ZG I q (congrArg not zbF))
  | _=>exact absurd (show false=true from hs) Bool.false_ne_true
 | byt i=>
  obtain ⟨t,rfl⟩:=rx
  cases y with
  | byt j=>obtain ⟨t',rfl⟩:=ry;exact PySem.W.ne_bytes (ZG I q (congrArg not zbi))
  | _=>exact absurd (show false=true from hs) Bool.false_ne_true
 | _=>cases y <;> exact absurd (show false=true from hs) Bool.false_ne_true
theorem zhK:OpR X (compareOp .Lt) (rI0 λi j=>.bl (decide (i<j))):=zh4 λ_ _ _ _ _ _ _ q=>lt_int q
theorem zfh:OpR X (compareOp .Gt) (rI0 λi j=>.bl (decide (j<i))):=zh4 λ_ _ _ _ _ _ _ q=>gt_int q
theorem Yv (b:Expr){op:CmpOp}(h:op≠.In:=by decide)(h2:op≠.NotIn:=by decide):behindInMarks op b=false:=by
 have e1:(op==CmpOp.In)=false:=by cases op <;> first | rfl | exact absurd rfl h
 have e2:(op==CmpOp.NotIn)=false:=by cases op <;> first | rfl | exact absurd rfl h2
 cases b <;> simp[behindInMarks,e1,e2]
theorem Qg {op:CmpOp}{r:R2}(ho:OpR X (compareOp op) r)(ha:PE X a ta)(hb:PE X b tb)(hm:behindInMarks op b=false):PE X (.Compare a [op] [b] pos) (tOp r ta tb):=by
 intro pins s σ H Q I h
 exact wpAny_Compare1 (zhn ha hb I h λv u s2 x y H2 I2 rx ry q=>ho pins s2 σ H2 x y v u Q I2 rx ry q) hm
def zcw (t:TE):TT:=fun σ H Q=>t σ H λx H' => ∃ k,x = .bl k/\Q k H'
theorem Yi {op:CmpOp}{r:R2}(ho:OpR X (compareOp op) r)(ha:PE X a ta)(hb:PE X b tb)(hm:behindInMarks op b=false):PT X (.Compare a [op] [b] pos) (zcw (tOp r ta tb)):=by
 intro pins s σ H Q I h
 refine wpAny_isTrue_Compare1 (thn (ha pins s σ H _ I h) λv s1 ⟨x,H1,I1,r1,q1⟩=>thn (hb pins s1 σ H1 _ I1 q1) λu s2 ⟨y,H2,I2,r2,q2⟩=>
  thn (ho pins s2 σ H2 x y v u _ I2 r1 r2 q2) λc s3 ⟨z,H3,I3,r3,k,e,q3⟩=>?_) hm
 subst e
 cases r3
 exact wpAny_truthy_bool ⟨H3,I3,q3⟩
theorem Um:(sizeLine:Nat)<2 ^ 63:=by rw[sizeLine_eq];decide
theorem vals1 {x:V}{us:List Value}(r:Vals [x] us):∃ u,us=[u]/\RelV x u:=by
 cases r with
 | cons r1 r2=>cases r2;exact ⟨_,rfl,r1⟩
theorem vals2 {x y:V}{us:List Value}(r:Vals [x,y] us):∃ u w',us=[u,w']/\RelV x u/\RelV y w' := by
 cases r with
 | cons r1 r2=>
  cases r2 with
  | cons r3 r4=>cases r4;exact ⟨_,_,rfl,r1,r3⟩
theorem Qv:Jb X (.type "int") (λxs H Q=>(∃ i,xs=[.int i]/\Q (.int i) H)\/∃ k,xs=[.bl k]/\Q (.int (if k then 1 else 0)) H):=by
 intro pins s σ H xs us Q I r h
 rcases h with ⟨i,rfl,q⟩ | ⟨k,rfl,q⟩
 ·obtain ⟨u,rfl,t,rfl⟩:=vals1 r
  exact call_int_int ⟨.int i,H,I,⟨_,rfl⟩,q⟩
 ·obtain ⟨u,rfl,r1⟩:=vals1 r
  cases r1
  exact call_int_bool ⟨.int (if k then 1 else 0),H,I.tok _,⟨_,rfl⟩,q⟩
end
structure zhb (h:Heap)(x dx C:Addr)(mA:Str->Option Value):Prop where
 obj:h.get? x=some (instObj C dx)
 ns:h.Ns1 dx mA
 ne:dx≠x
theorem zbH {h:Heap}{dx:Addr}{mA:Str->Option Value}(n:h.Ns1 dx mA):∃ od,h.get? dx=some od/\∀ name,lookIn name od=some (mA name):=by
 obtain ⟨o,es,ep,ho,hd,hk,_,hm⟩:=n
 refine ⟨o,ho,λname=>?_⟩
 have e:=hm name
 unfold nsFind findBy at e
 rw[← Array.find?_toList] at e
 unfold lookIn
 rw[hd]
 dsimp only
 split
 ·rename_i y q
  rw[q] at e
  exact congrArg some e
 ·rename_i q
  rw[q] at e
  have a:es.toList.any (·.refKey)=false:=by
   rw[List.any_eq_false]
   intro y hy
   obtain ⟨z,t,hkey⟩:=hk y (Array.mem_toList_iff.mp hy)
   simp[DictEntry.refKey,hkey]
  have a' : ¬ es.toList.any (·.refKey)=true:=by rw[a];exact Bool.false_ne_true
  rw[if_neg a']
  exact congrArg some e
theorem zhb.look {h:Heap}{x dx C:Addr}{mA:Str->Option Value}(I:zhb h x dx C mA):∃ od,PySem.W.InstAt h x (instObj C dx) C (some od)/\∀ name,lookIn name od=some (mA name):=
 let ⟨od,ho,hl⟩:=zbH I.ns
 ⟨od,⟨I.obj,rfl,rfl,ho⟩,hl⟩
section
variable {P:Program}{w:World}{H H' : Hp}{h h' : Heap}{a C dx:Addr}{fs fs' : List (Str×V)}
theorem zeV (hok:HOk P w H h)(e:H a=some (.ins C dx fs)):∃ mA,zhb h a dx C mA/\(∀ f,zhi (fs.lookup f) (mA f))/\PySem.Within mA (fs.map (·.1))/\fs.length<=1000/\H dx=some (.own a):=by
 obtain ⟨d,z,ne,ob,mA,n,r,q⟩:=(show Yh P w H h a (.ins C dx fs) from hok a _ e)
 exact ⟨mA,⟨ob,n,ne⟩,r,q,z,d⟩
end
structure Cls (K:PySem.W.Frag)(C:Addr):Prop where
 pg:plainGet K C Str.empty=true
 hd:PySem.W.hasDictIn K C=true
 po:PySem.W.plainOver K C=true
 sa:findIn K (.ref C) "__setattr__" = some (some (.builtin "object.__setattr__"))
theorem Cls.get {K:PySem.W.Frag}{C:Addr}(c:Cls K C)(f:Str):plainGet K C f=true:=c.pg
section
variable {X:Cx}{pins:List (Addr×Obj)}{σ:St}{H:Hp}{s:Shared}{A:Around}{E:Value->Shared->Prop}{Q:Value->Shared->Prop}{c:Value}{b:Bool}
inductive zar (K:PySem.W.Frag) (H:Hp):V->Value->Prop where
 | non:zar K H .non (.type "NoneType")
 | bl (x:Bool):zar K H (.bl x) (.type "bool")
 | int (i:Int):zar K H (.int i) (.type "int")
 | str (x:Str):zar K H (.str x) (.type "str")
 | flt (x:UInt64):zar K H (.flt x) (.type "float")
 | lst {a:Addr}{xs:List V}(e:H a=some (.lst xs)):zar K H (.ref a) (.type "list")
 | frz {a:Addr}{o:Obj}{xs:List V}(e:H a=some (.frz o (.lst xs))):zar K H (.ref a) (.type "list")
 | tup {a:Addr}{xs:List V}(e:H a=some (.tup xs)):zar K H (.ref a) (.type "tuple")
 | dK {a:Addr}{kvs:List (Key×V)}(e:H a=some (.dK kvs)):zar K H (.ref a) (.type "dict")
 | dT {a:Addr}{kvs:List (List Key×V)}(e:H a=some (.dT kvs)):zar K H (.ref a) (.type "dict")
 | ins {a C dx:Addr}{fs:List (Str×V)}(e:H a=some (.ins C dx fs)) (cl:Cls K C) (ha:findIn K (.ref C) "__class__" = some (some (.builtin "object.__class__")))
   (hn:PySem.W.specialIn K (.builtin "object.__class__") "__get__" = some (some (.builtin "getset_descriptor.__get__"))) (htk:PySem.W.takesIn K (.builtin "object.__class__")=some true)
   (hm:PySem.W.mroIn K C (.type "object")=some true):zar K H (.ref a) (.ref C)
theorem X8 {x:V}{u t:Value}(I:Inv X pins σ H s)(rx:RelV x u)(ty:zar X.K H x t)(e:kitOne X.K t c=some b)(h:∀ tk,Q (.bool b) { s with toks:=tk }):
  wpAny (model X.prog X.w) A (call (.builtin "isinstance") [u,c]) Q E s:=by
 cases ty with
 | non=>cases (show u=Value.none from rx);exact kia_one kitx_none I.kIn True.intro e (λz=>nomatch z) h
 | bl y=>cases (show u=Value.bool y from rx);exact kia_one PySem.W.kitx_bool I.kIn True.intro e (λz=>nomatch z) h
 | int i=>obtain ⟨t,q⟩:=(show ∃ t,u=Value.int i t from rx);cases q;exact kia_one PySem.W.kitx_int I.kIn True.intro e (λz=>nomatch z) h
 | str y=>obtain ⟨t,q⟩:=(show ∃ t,u=Value.str y t from rx);cases q;exact kia_one PySem.W.kitx_str I.kIn True.intro e (λz=>nomatch z) h
 | flt y=>obtain ⟨t,q⟩:=(show ∃ t,u=Value.float y t from rx);cases q;exact kia_one PySem.W.kitx_float I.kIn True.intro e (λz=>nomatch z) h
 | @lst a xs ea=>
  cases (show u=Value.ref a from rx)
  obtain ⟨_,_,n,_,h1⟩:=(show Yh X.prog X.w H s.heap a (.lst xs) from I.hok a _ ea)
  exact kia_one kitx_list I.kIn ⟨_,h1,rfl⟩ e (λz=>nomatch z) h
 | @frz a ob xs ea=>
  cases (show u=Value.ref a from rx)
  obtain ⟨_,_,_,n,_,h1⟩:=(show Yh X.prog X.w H s.heap a (.frz ob (.lst xs)) from I.hok a _ ea)
  exact kia_one kitx_list I.kIn ⟨_,h1,rfl⟩ e (λz=>nomatch z) h
 | @tup a xs ea=>
  cases (show u=Value.ref a from rx)
  obtain ⟨_,_,_,p,_⟩:=(show Yh X.prog X.w H s.heap a (.tup xs) from I.hok a _ ea)
  obtain ⟨o,h1,h2,_⟩:=p
  exact kia_one kitx_tuple I.kIn ⟨o,h1,h2⟩ e (λz=>nomatch z) h
 | @dK a kvs ea=>
  cases (show u=Value.ref a from rx)
  obtain ⟨_,_,vs,_,p⟩:=(show Yh X.prog X.w H s.heap a (.dK kvs) from I.hok a _ ea)
  obtain ⟨o,es,ep,h1,h2,_⟩:=p
  exact kia_one kitx_dict I.kIn ⟨o,h1,h2.1⟩ e (λz=>nomatch z) h
 | @dT a kvs ea=>
  cases (show u=Value.ref a from rx)
  obtain ⟨_,_,xs,_,o,es,ep,h1,h2,_⟩:=(show Yh X.prog X.w H s.heap a (.dT kvs) from I.hok a _ ea)
  exact kia_one kitx_dict I.kIn ⟨o,h1,h2.1⟩ e (λz=>nomatch z) h
 | @ins a C dx fs ea cl ha hn htk hm=>
  cases (show u=Value.ref a from rx)
  obtain ⟨mA,O,_⟩:=zeV I.hok ea
  obtain ⟨od,J,_⟩:=O.look
  exact kia_one (PySem.W.kitx_own (cl.get _) cl.hd ha hn htk hm) I.kIn J e (λz=>nomatch z) h
end
structure Wu (k:Nat)(A:Around):Prop where
 hd:A.handled=none
 dp:A.depth+2*k+5<recursionLimit
 un:A.units+16*k+200<cLine
theorem Wu.mono {j k:Nat}{A:Around}(r:Wu k A)(h:j<=k):Wu j A:=⟨r.hd,by have:=r.dp;omega,by have:=r.un;omega⟩
theorem Wu.deeper {k:Nat}{A:Around}(r:Wu (k+1) A)(env:Env):Wu k (A.deeper env):=
 ⟨r.hd,by have:=r.dp;show A.depth+1+2*k+5<_;omega,by have:=r.un;show A.units+3+16*k+200<_;omega⟩
theorem Wu.depth {k:Nat}{A:Around}(r:Wu k A):A.depth<recursionLimit:=by have:=r.dp;omega
theorem Wu.units {k:Nat}{A:Around}(r:Wu k A):A.units+64<cLine:=by have:=r.un;omega
def Ud:TA:=λ_ H Q=>Q [] H
def YD (ta:TE)(tr:TA):TA:=fun σ H Q=>ta σ H λx H1=>tr σ H1 λxs H2=>Q (x::xs) H2
section
variable {X:Cx}{e:Expr}{es:List Expr}{te:TE}{t:TA}{pos:Pos}
theorem Zf:PA X [] Ud:=λ_ _ _ _ H Q I h=>spliced_nil ⟨[],H,I,.nil,h⟩
theorem Za (ha:PE X e te)(hr:PA X es t)(hs:starEach (e::es) X.env=(false,eval e X.env)::starEach es X.env:=by rfl):PA X (e::es) (YD te t):=by
 intro pos pins s σ H Q I h
 rw[hs]
 show wpAny _ _ (spliced ((false,eval e X.env)::backTo pos (starEach es X.env))) _ _ s
 refine spliced_cons (thn (ha pins s σ H _ I h) λu s1 ⟨x,H1,I1,r1,q1⟩=>?_)
 exact thn (hr pos pins s1 σ H1 _ I1 q1) λus s2 ⟨xs,H2,I2,r2,q2⟩=>⟨x::xs,H2,I2,.cons r1 r2,q2⟩
def zgQ (t:TA):TE:=fun σ H Q=>t σ H λxs H1=>xs.length<=sizeLine/\∀ p,H1 p=none->Q (.ref p) (upd H1 p (.tup xs))
def zg4 (t:TA):TE:=fun σ H Q=>t σ H λxs H1=>xs.length<=sizeLine/\∀ p,H1 p=none->Q (.ref p) (upd H1 p (.lst xs))
theorem Jg {x1}(h:PA X es t):PE X (.Tuple es x1 pos) (zgQ t):=by
 intro pins s σ H Q I hq
 refine wpAny_Tuple_spliced (thn (h pos pins s σ H _ I hq) λus s1 ⟨xs,H1,I1,r,z,q⟩=>⟨by rw[← r.length];exact z,?_⟩)
 have hf:H1 s1.heap.objs.size=none:=I1.hok.fresh (Nat.le_refl _)
 refine ⟨.ref s1.heap.objs.size,upd H1 s1.heap.objs.size (.tup xs),I1.laid (t' := s1.toks) (λb u e=>get?_push_of_some _ e) (Nat.le_refl _) ?_,rfl,q _ hf⟩
 exact ⟨z,us,r,⟨_,get?_push_size _ rfl,rfl,_,rfl⟩,_,get?_push_size _ rfl,rfl⟩
theorem Xh (h:PA X es t):PE X (.List es pos) (zg4 t):=by
 intro pins s σ H Q I hq
 refine wpAny_List_spliced (thn (h pos pins s σ H _ I hq) λus s1 ⟨xs,H1,I1,r,z,q⟩=>⟨by rw[← r.length];exact z,?_⟩)
 have hf:H1 s1.heap.objs.size=none:=I1.hok.fresh (Nat.le_refl _)
 refine ⟨.ref s1.heap.objs.size,upd H1 s1.heap.objs.size (.lst xs),I1.laid (t' := s1.toks) (λb u e=>get?_push_of_some _ e) (Nat.le_refl _) ?_,rfl,q _ hf⟩
 exact ⟨z,us,0,r,get?_push_size _ rfl⟩
end
abbrev Sp:=List V->Hp->VK->XK->Prop
abbrev CXT:=List Env->Hp->Shared->XK->Value->Shared->Prop
structure zgS (P:Program)(w:World)(K:PySem.W.Frag)(mg:Str->Option Value)(base:Heap)(A:Around)(outer:List Env)(s:Shared)(H:Hp):Prop where
 frames:A.frames=some outer
 mod:Mod K mg base
 bs:∀ b o,base.get? b=some o->s.heap.get? b=some o/\H b=none
 bsz:base.objs.size<=s.heap.objs.size
 zaa:s.heap.FunFrames base outer
 frf:∀ b∈frs outer,H b=none
 hok:HOk P w H s.heap
 bare:AllBare s.gens
def CE (outer:List Env)(P:Program)(w:World)(H:Hp)(s:Shared)(Q:VK)(u:Value)(s' : Shared):Prop:=
 ∃ v H',s'.os=s.os/\AllBare s'.gens/\Un (frs outer) [] H H' s.heap s'.heap/\HOk P w H' s'.heap/\RelV v u/\Q v H'
def CR (CX:CXT)(outer:List Env)(P:Program)(w:World)(H:Hp)(s:Shared)(Q:VK)(E:XK)(r:Result)(s' : Shared):Prop:=
 match r with
 | .ok (.ret u)=>CE outer P w H s Q u s'
 | .ok _=>False
 | .error e=>CX outer H s E e s'
structure Xy (P:Program)(w:World)(K:PySem.W.Frag)(mg:Str->Option Value)(base:Heap)(CX:CXT)(k:Nat)(f:Addr)(fd:FuncData)(ps:List Str)(sp:Sp):Prop where
 len:∀ vs H Q E,sp vs H Q E->vs.length=ps.length
 run:∀ (A:Around) (outer:List Env) (s:Shared) (H:Hp) (args:Args) (us:List Value) (vs:List V) (Q:VK) (E:XK),Wu k A->zgS P w K mg base A outer s H->BindsTo s fd args (ps.zip us)->Vals vs us->sp vs H Q E->
  codeAny (model P w) A (.call (.ref f) args) (CR CX outer P w H s Q E) s
theorem Xy.mono {P:Program}{w:World}{K:PySem.W.Frag}{mg:Str->Option Value}{base:Heap}{CX:CXT}{j k:Nat}{f:Addr}{fd:FuncData}{ps:List Str}{sp:Sp}(F:Xy P w K mg base CX j f fd ps sp)(h:j<=k):
  Xy P w K mg base CX k f fd ps sp:=⟨F.len,λA outer s H args us vs Q E hr=>F.run A outer s H args us vs Q E (hr.mono h)⟩
theorem Xy.imp {P:Program}{w:World}{K:PySem.W.Frag}{mg:Str->Option Value}{base:Heap}{CX:CXT}{k:Nat}{f:Addr}{fd:FuncData}{ps:List Str}{sp sp' : Sp}(F:Xy P w K mg base CX k f fd ps sp)
  (h:∀ vs H Q E,sp' vs H Q E->sp vs H Q E):Xy P w K mg base CX k f fd ps sp' :=
 ⟨λvs H Q E q=>F.len vs H Q E (h _ _ _ _ q),λA outer s H args us vs Q E hr he hb hv hs=>F.run A outer s H args us vs Q E hr he hb hv (h _ _ _ _ hs)⟩
section
variable {X:Cx}{pins:List (Addr×Obj)}{σ:St}{H:Hp}{s s' : Shared}
theorem Inv.env0 (I:Inv X pins σ H s):zgS X.prog X.w X.K X.mg X.base X.A X.stack s H:=
 ⟨I.ok.frames,I.ok.mod,I.bs,Nat.le_trans I.ok.bsz I.sz,I.stack,I.Vv,I.hok,I.bare⟩
theorem Inv.after {Q:VK}{u:Value}(I:Inv X pins σ H s)(h:CE X.stack X.prog X.w H s Q u s'):EP X pins σ Q u s' := by
 obtain ⟨v,H',os,bare,un,hok,r,q⟩:=h
 obtain ⟨hh,g,d,t,os'⟩:=s'
 obtain rfl:os'=s.os:=os
 exact ⟨v,H',I.call (h' := hh) (g' := g) (d' := d) (t' := t) (ch:=[]) un hok bare (λb z=>absurd z (by simp)),r,q⟩
end
def WP (sp:Sp)(dvs:List V)(E:XK)(t:TA):TE:=fun σ H Q=>t σ H λvs H1=>sp (vs++dvs) H1 Q E
def Binds (K:PySem.W.Frag)(fd:FuncData)(ps:List Str)(ds:List Value):Prop:=
 ∀ (s:Shared) (us:List Value),K.In s.heap->(us++ds).length=ps.length->BindsTo s fd ⟨us,[]⟩ (ps.zip (us++ds))
theorem Binds.all {K:PySem.W.Frag}{fd:FuncData}{ps:List Str}(h:∀ us:List Value,us.length=ps.length->bindArgs fd ⟨us,[]⟩=pure (ps.zip us)):Binds K fd ps []:=λs us _ hl=>by
 rw[append_nil] at hl ⊢
 exact .of_eq (h us hl)
def UJ (CX:CXT)(X:Cx)(E:XK):Prop:=∀ (pins:List (Addr×Obj)) (σ:St) (H:Hp) (s:Shared) (e:Value) (s' : Shared),Inv X pins σ H s->CX X.stack H s E e s' -> X.xe e s'
section
variable {X:Cx}{CX:CXT}{k:Nat}{f C:Addr}{fd:FuncData}{ps:List Str}{sp:Sp}{dvs:List V}{ds:List Value}{E:XK}{x m:Str}{p pos apos:Pos}{e o:Expr}{es:List Expr}{ta:TE}{t:TA}
theorem zf8 {pins:List (Addr×Obj)}{σ:St}{H:Hp}{s:Shared}{Q:VK}{us:List Value}{vs:List V}(F:Xy X.prog X.w X.K X.mg X.base CX k f fd ps sp)(hr:Wu k X.A)(hb:Binds X.K fd ps ds)(hd:Vals dvs ds)(hx:UJ CX X E)
  (I:Inv X pins σ H s) (r:Vals vs us) (h:sp (vs++dvs) H Q E):wpAny (model X.prog X.w) X.A (call (.ref f) us) (EP X pins σ Q) X.xe s:=by
 have r2:Vals (vs++dvs) (us++ds):=r.append hd
 have hl:(us++ds).length=ps.length:=by rw[← r2.length];exact F.len _ _ _ _ h
 refine wpAny_call (codeAny_mono (F.run X.A X.stack s H ⟨us,[]⟩ (us++ds) (vs++dvs) Q E hr I.env0 (hb s us I.kIn hl) r2 h) λr s' hq=>?_)
 cases r with
 | error e=>exact hx pins σ H s e s' I hq
 | ok fl=>
  cases fl with
  | ret u=>exact I.after hq
  | next=>exact False.elim hq
  | brk=>exact False.elim hq
  | cont=>exact False.elim hq
theorem zbt (F:Xy X.prog X.w X.K X.mg X.base CX k f fd ps sp)(hr:Wu k X.A)(hg:Gl X x)(hm:X.mg x=some (.ref f))(hk:keepIn X.K (.ref f)=true)(hb:Binds X.K fd ps ds)(hd:Vals dvs ds)(hx:UJ CX X E)
  (ha:PA X (e::es) t) (hdb:(x==("__debug__" : Str))=false:=by decide) (he:starEach (e::es) X.env=(false,eval e X.env)::starEach es X.env:=by rfl) (hpl:(backTo pos (starEach es X.env)).any (·.1)=false:=by rfl):
  PE X (.Call (.Name x p) (e::es) [] pos) (WP sp dvs E t):=by
 intro pins s σ H Q I h
 refine wpAny_Call_Name_kw (Ja I hg hm ?_ hdb)
 refine callWith_K (h₀:=X.base) I.ok.mod.kin hk (thn (ha pos pins s σ H _ I h) λus s1 ⟨vs,H1,I1,r,q⟩=>⟨I1.kIn,?_⟩) he hpl
 exact zf8 F hr hb hd hx I1 r q
end
structure ZK (N P:List Str)(sc:Scope):Prop where
 kind:sc.kind = .function
 co:sc.isCoroutine=false
 gen:sc.isGenerator=false
 nd:N.Nodup
 pre:N.take P.length=P
 par:∀ x∈P,sc.names.lookup x=some .local\/sc.names.lookup x=some .cell
 nofree:∀ y∈sc.names,y.2≠.free
theorem QX {kindOf:Str->Option NameKind}{x:Str}:∀ {binds:List (Str×Value)}{m:Str->Option Value},(∀ v,(x,v)∉binds)->bindL kindOf binds m x=m x
 | [],_,_=>rfl
 | (n,v)::r,m,h=>by
  unfold bindL
  rw[QX λw hw=>h w (mem_cons_of_mem _ hw)]
  split
  ·have:x≠n:=by rintro rfl;exact h v mem_cons_self
   simp[this]
  ·rfl
theorem QT {kindOf:Str->Option NameKind}{x:Str}:∀ {binds:List (Str×Value)}{m:Str->Option Value},(∀ v,(x,v)∉binds)->bindC kindOf binds m x=m x
 | [],_,_=>rfl
 | (n,v)::r,m,h=>by
  unfold bindC
  rw[QT λw hw=>h w (mem_cons_of_mem _ hw)]
  split
  ·rfl
  ·have:x≠n:=by rintro rfl;exact h v mem_cons_self
   simp[this]
theorem Q8 {kindOf:Str->Option NameKind}{x:Str}{v:Value}:∀ {P:List Str}{vs:List Value}{i:Nat}{m:Str->Option Value},P.Nodup->P[i]?=some x->vs[i]?=some v->kindOf x=some .local->
  bindL kindOf (P.zip vs) m x=some v
 | [],_,_,_,_,h,_,_=>by simp at h
 | _::_,[],_,_,_,_,h,_=>by simp at h
 | p::P,w::vs,0,m,nd,h1,h2,hk=>by
  simp at h1 h2;subst h1;subst h2
  show bindL kindOf ((p,w)::P.zip vs) m p=_
  unfold bindL
  rw[QX λv hv=>(nodup_cons.mp nd).1 (List.of_mem_zip hv).1,if_pos hk]
  simp
 | p::P,w::vs,i+1,m,nd,h1,h2,hk=>by
  show bindL kindOf ((p,w)::P.zip vs) m x=_
  unfold bindL
  exact Q8 (i:=i) (nodup_cons.mp nd).2 (by simpa using h1) (by simpa using h2) hk
theorem Vb {kindOf:Str->Option NameKind}{x:Str}{v:Value}:∀ {P:List Str}{vs:List Value}{i:Nat}{m:Str->Option Value},P.Nodup->P[i]?=some x->vs[i]?=some v->kindOf x≠some .local->
  bindC kindOf (P.zip vs) m x=some v
 | [],_,_,_,_,h,_,_=>by simp at h
 | _::_,[],_,_,_,_,h,_=>by simp at h
 | p::P,w::vs,0,m,nd,h1,h2,hk=>by
  simp at h1 h2;subst h1;subst h2
  show bindC kindOf ((p,w)::P.zip vs) m p=_
  unfold bindC
  rw[QT λv hv=>(nodup_cons.mp nd).1 (List.of_mem_zip hv).1,if_neg hk]
  simp
 | p::P,w::vs,i+1,m,nd,h1,h2,hk=>by
  show bindC kindOf ((p,w)::P.zip vs) m x=_
  unfold bindC
  exact Vb (i:=i) (nodup_cons.mp nd).2 (by simpa using h1) (by simpa using h2) hk
noncomputable def start (N:List Str) (vs:List V):St:=vs.map some++List.replicate (N.length-vs.length) none
noncomputable def WR (CX:CXT) (P:Program) (w:World) (K:PySem.W.Frag) (mg:Str->Option Value) (base:Heap) (N:List Str) (qual:Str) (scope:Scope) (f:Addr) (cd:Value) (A:Around) (outer:List Env) (s:Shared) (H:Hp) (E:XK):Cx where
 prog:=P
 w:=w
 K:=K
 mg:=mg
 base:=base
 A:=A.deeper (envOfC qual scope s.heap.objs.size f cd)
 N:=N
 s₀:=s
 H₀:=H
 env:=envOfC qual scope s.heap.objs.size f cd
 outer:=outer
 stack:=envOfC qual scope s.heap.objs.size f cd::outer
 ex:=[]
 calm:=true
 fn:=λ_=>true
 pn:=[]
 xe:=λe s' => wpAny (model P w) (A.deeper (envOfC qual scope s.heap.objs.size f cd)) (leaving (envOfC qual scope s.heap.objs.size f cd) e) (λ_ s'' => CX outer H s E e s'') (λe' s'' => CX outer H s E e' s'') s'
theorem VN {sc:Scope}{n:Nat}{x:Str}(h:sc.names.lookup x=some .cell):∃ c,(cellsFrom n sc.names []).lookup x=some c:=by
 have q:=PySem.W.cellsFrom_some sc.names n [] (.inl h)
 exact Option.isSome_iff_exists.mp q
theorem zbJ {CX:CXT}{P:Program}{w:World}{K:PySem.W.Frag}{mg:Str->Option Value}{base:Heap}{N ps:List Str}{qual:Str}{scope:Scope}{f:Addr}{cd:Value}{A:Around}{outer:List Env}{s s1:Shared}{H:Hp}{E:XK}{us:List Value}{vs:List V}
  (S:ZK N ps scope) (hd:A.handled=none) (e0:zgS P w K mg base A outer s H) (hl:vs.length=ps.length) (r:Vals vs us)
  (x:InCallC s s.heap.objs.size (bindL (envOfC qual scope s.heap.objs.size f cd).kindOf (ps.zip us) λ_=>none) (cellsFrom (s.heap.objs.size+1) scope.names []) (bindC (envOfC qual scope s.heap.objs.size f cd).kindOf (ps.zip us) λ_=>none) s1):
  Inv (WR CX P w K mg base N qual scope f cd A outer s H E) [] (start N vs) H s1:=by
 have hpl:ps.length<=N.length:=by have:=congrArg List.length S.pre;rw[length_take] at this;omega
 obtain ⟨h1,tk,rfl,hk⟩:=x.done
 have noA:∀ b:Addr,b∉(WR CX P w K mg base N qual scope f cd A outer s H E).ex:=λb z=>absurd (show b∈([]:List Addr) from z) (by simp)
 refine ⟨⟨e0.mod,S.kind,rfl,rfl,Nat.le_refl _,λy z c h1 h2=>?_,λy hy=>?_,λy c _ h=>?_,λ_=>hd,Around.frames_deeper e0.frames,.inr ⟨rfl,rfl⟩,λb z=>absurd z (noA b),e0.bs,e0.bsz,λb _ _=>noA b,λb z=>absurd z (noA b),e0.zaa,e0.frf⟩,
  rfl,e0.bare,Un.kept hk,⟨_,x.toInCall.ns,λi y v h1 h2 h3=>?_⟩,λy c h=>⟨_,x.cell y c h⟩,e0.hok.fresh (Nat.le_refl _),λy c h=>?_,λp hp=>absurd (show p∈([]:List (Addr×Obj)) from hp) (by simp),e0.hok.kept hk,?_⟩
 ·exact name_of_addr x.apart (PySem.mem_of_lookup h1) (PySem.mem_of_lookup h2)
 ·have hy:scope.names.lookup y=some .cell\/scope.names.lookup y=some .free:=hy
  rcases hy with hy | hy
  ·exact VN hy
  ·exact absurd rfl (S.nofree _ (PySem.mem_of_lookup hy))
 ·exact le_of_lt (x.above y c (PySem.mem_of_lookup h))
 ·have hi:i<vs.length:=by
   unfold start at h2
   by_cases hi:i<vs.length
   ·exact hi
   ·rw[getElem?_append_right (by simpa using hi)] at h2
    rw[List.getElem?_replicate] at h2
    split at h2 <;> cases h2
  have ha:vs[i]?=some v:=by
   unfold start at h2
   rw[getElem?_append_left (by simpa using hi),getElem?_map] at h2
   cases e:vs[i]? with
   | none=>rw[e] at h2;cases h2
   | some a=>rw[e] at h2;cases h2;rfl
  obtain ⟨u,hu,rv⟩:=r.get ha
  have hp:ps[i]?=some y:=by
   rw[← S.pre,List.getElem?_take_of_lt (by omega)];exact h1
  have ndP:ps.Nodup:=by rw[← S.pre];exact S.nd.sublist (List.take_sublist _ _)
  refine ⟨u,rv,?_⟩
  rcases S.par y (mem_of_getElem? hp) with k | k
  ·exact .inl ⟨k,Q8 ndP hp hu k⟩
  ·obtain ⟨c,e⟩:=VN (n:=s.heap.objs.size+1) k
   refine .inr ⟨.inl k,c,e,?_⟩
   have q:=x.cell y c e
   rw[Vb ndP hp hu (by show scope.names.lookup y≠_;rw[k];decide)] at q
   exact q
 ·exact e0.hok.fresh (le_of_lt (x.above y c (PySem.mem_of_lookup h)))
 ·unfold start
  show _=N.length
  rw[length_append,length_map,length_replicate]
  omega
theorem zf0 {CX:CXT}{P:Program}{w:World}{K:PySem.W.Frag}{mg:Str->Option Value}{base:Heap}{k:Nat}{f:Addr}{name qual:Str}{params:Arguments}{body:List Stmt}{scope:Scope}{dV kV doc pm cdv ct oc:Value}{an od:Option Addr}
  {osl:Array (Option Value)}{N ps:List Str}{sp:Sp}(lk:K.lookup f=some ⟨oc,od,.func (PySem.W.fnOf name qual params body scope dV kV doc pm an cdv ct),osl⟩) (hcd:codeIn K cdv qual=true) (S:ZK N ps scope)
  (len:∀ vs H Q E,sp vs H Q E->vs.length=ps.length)
  (hbody:∀ (A:Around) (outer:List Env) (s:Shared) (H:Hp) (vs:List V) (Q:VK) (E:XK),Wu k (A.deeper (envOfC qual scope s.heap.objs.size f cdv))->sp vs H Q E->
   ∃ t,PSs (WR CX P w K mg base N qual scope f cdv A outer s H E) body t/\t { nx:=λ_ H' => Q .non H',rt:=Q } (start N vs) H):
  Xy P w K mg base CX (k+1) f (PySem.W.fnOf name qual params body scope dV kV doc pm an cdv ct) ps sp:=by
 refine ⟨len,λA outer s H args us vs Q E hr e0 hb r hsp=>?_⟩
 have hl:=len _ _ _ _ hsp
 have KX:K.In s.heap:=e0.mod.kin.keeps λb o e=>(e0.bs b o e).1
 have lim:s.heap.NoLimit:=e0.mod.nolimit.keeps λb o e=>(e0.bs b o e).1
 have hkind:∀ y∈ps.zip us,scope.names.lookup y.1=some .local\/(scope.names.lookup y.1=some .cell/\((cellsFrom (s.heap.objs.size+1) scope.names []).lookup y.1).isSome=true):=λ⟨n,v⟩ hy=>by
  rcases S.par n (List.of_mem_zip hy).1 with q | q
  ·exact .inl q
  ·exact .inr ⟨q,PySem.W.cellsFrom_some _ _ _ (.inl q)⟩
 refine codeAny_call_function hr.depth (KX _ _ lk) rfl S.co S.gen rfl (PySem.W.codeRec_of KX hcd) (hb _ _ _ _ ?_)
 refine wpAny_newFunctionEnv_cells S.kind hkind λenv he s1 x=>?_
 subst he
 refine ⟨lim.keeps x.toInCall.keep,codeAny_func ?_⟩
 obtain ⟨t,ht,hq⟩:=hbody A outer s H vs Q E (hr.deeper _) hsp
 have I:Inv (WR CX P w K mg base N qual scope f cdv A outer s H E) [] (start N vs) H s1:=zbJ S hr.hd e0 hl r x
 refine wpAny_mono (ht [] s1 (start N vs) H _ I hq) (λfl s' hs=>?_) λe s' hs=>hs
 have fin:∀ {σ' : St} {H' : Hp} {v:V}{u:Value},Inv (WR CX P w K mg base N qual scope f cdv A outer s H E) [] σ' H' s' -> RelV v u->Q v H' -> CE outer P w H s Q u s' :=
  λ{σ' H' v u} J rv q=>⟨v,H',J.os,J.bare,J.base,J.hok,rv,q⟩
 cases fl with
 | ret u=>
  obtain ⟨v,σ',H',J,rv,q⟩:=hs
  exact fin J rv q
 | next=>
  obtain ⟨σ',H',J,q⟩:=hs
  exact fin (v:=V.non) (u:=Value.none) J rfl q
 | brk=>
  obtain ⟨_,_,_,q⟩:=hs
  exact False.elim q
 | cont=>
  obtain ⟨_,_,_,q⟩:=hs
  exact False.elim q
section
variable {X:Cx}{x:Str}{p pos:Pos}{e:Expr}{es:List Expr}{t:TA}{id T:String}{r:List V->Hp->VK->Prop}
def tCB (r:List V->Hp->VK->Prop)(t:TA):TE:=fun σ H Q=>t σ H λvs H1=>r vs H1 Q
theorem Yj (hc:Jb X (.builtin id) r)(hg:Gl X x)(hm:X.mg x=none)(hv:bootBuiltins x=some (.builtin id))(ha:PA X (e::es) t)(hn:x≠ "__name__" := by decide)(hdb:(x==("__debug__" : Str))=false:=by decide)
  (he:starEach (e::es) X.env=(false,eval e X.env)::starEach es X.env:=by rfl) (hpl:(backTo pos (starEach es X.env)).any (·.1)=false:=by rfl):PE X (.Call (.Name x p) (e::es) [] pos) (tCB r t):=by
 intro pins s σ H Q I h
 refine wpAny_Call_Name_kw (Wf I hg hm hv ?_ hn hdb)
 exact PyProof.Rows.callWith_builtin1 (thn (ha pos pins s σ H _ I h) λus s1 ⟨vs,H1,I1,r1,q1⟩=>hc pins s1 σ H1 vs us Q I1 r1 q1) he hpl
theorem Yb (hc:Jb X (.type T) r)(hg:Gl X x)(hm:X.mg x=none)(hv:bootBuiltins x=some (.type T))(ha:PA X (e::es) t)(hn:x≠ "__name__" := by decide)(hdb:(x==("__debug__" : Str))=false:=by decide)
  (he:starEach (e::es) X.env=(false,eval e X.env)::starEach es X.env:=by rfl) (hpl:(backTo pos (starEach es X.env)).any (·.1)=false:=by rfl):PE X (.Call (.Name x p) (e::es) [] pos) (tCB r t):=by
 intro pins s σ H Q I h
 refine wpAny_Call_Name_kw (Wf I hg hm hv ?_ hn hdb)
 exact PyProof.Rows.callWith_type1 (thn (ha pos pins s σ H _ I h) λus s1 ⟨vs,H1,I1,r1,q1⟩=>hc pins s1 σ H1 vs us Q I1 r1 q1) he hpl
end
end L2
namespace HT
open PySem PyProof.Rows
section
variable {prog:Program}{w:World}{A:Around}{E:Value->Shared->Prop}{s:Shared}
noncomputable def sIx (n d:Nat):Option Int->Nat
 | none=>d
 | some v=>if v<0 then (v+(n:Int)).toNat else min v.toNat n
end
end HT
namespace L2
open PySem PySem.Spec PyProof.Rows
abbrev TO:=St->Hp->(Option Int->Hp->Prop)->Prop
def PO (X:Cx)(e:Option Expr)(t:TO):Prop:=
 ∀ (pins:List (Addr×Obj)) (s:Shared) (σ:St) (H:Hp) (Q:Option Int->Hp->Prop),Inv X pins σ H s->t σ H Q->
  wpAny (model X.prog X.w) X.A (evalPart e X.env) (λu s' => ∃ o H',Inv X pins σ H' s' /\ IsPart u o/\Q o H') X.xe s
def Qq:TO:=λ_ H Q=>Q none H
def zdZ (t:TE):TO:=fun σ H Q=>t σ H λx H1=>∃ i,x = .int i/\Q (some i) H1
section
variable {X:Cx}{e:Expr}{te:TE}{lo hi:Option Expr}{tl th:TO}{pos p2:Pos}
theorem Qd:PO X none Qq:=by
 intro pins s σ H Q I h
 rw[evalPart_none]
 exact wpAny_pure ⟨none,H,I,.none,h⟩
theorem Vw (h:PE X e te):PO X (some e) (zdZ te):=by
 intro pins s σ H Q I hw
 rw[evalPart_some]
 refine thn (h pins s σ H _ I hw) λu s1 ⟨x,H1,I1,r1,q1⟩=>?_
 obtain ⟨i,rfl,q⟩:=q1
 obtain ⟨t,rfl⟩:=r1
 exact ⟨some i,H1,I1,.int i t,q⟩
def SlR (X:Cx)(r:V->Option Int->Option Int->Hp->VK->Prop):Prop:=
 ∀ (pins:List (Addr×Obj)) (s:Shared) (σ:St) (H:Hp) (x:V) (v vl vu:Value) (lo hi:Option Int) (sl:Addr) (Q:VK),Inv X pins σ H s->RelV x v->s.heap.IsSliceOf sl vl vu .none->IsPart vl lo->IsPart vu hi->r x lo hi H Q->
  ∃ T id,typeLookup (.type T) "__getitem__" = pure (some (.builtin id))/\s.TypeIs v T/\wpAny (model X.prog X.w) X.A (getItem v (.ref sl)) (EP X pins σ Q) X.xe s
def tSl (r:V->Option Int->Option Int->Hp->VK->Prop)(te:TE)(tl th:TO):TE:=fun σ H Q=>te σ H λx H1=>tl σ H1 λl H2=>th σ H2 λu H3=>r x l u H3 Q
theorem Uw {r:V->Option Int->Option Int->Hp->VK->Prop}(hr:SlR X r)(he:PE X e te)(hl:PO X lo tl)(hu:PO X hi th):PE X (.Subscript e (.Slice lo hi none p2) pos) (tSl r te tl th):=by
 intro pins s σ H Q I h
 refine Subscript_ (thn (he pins s σ H _ I h) λv s1 ⟨x,H1,I1,r1,q1⟩=>?_)
 refine wpAny_Slice (thn (hl pins s1 σ H1 _ I1 q1) λvl s2 ⟨l,H2,I2,pl,q2⟩=>thn (hu pins s2 σ H2 _ I2 q2) λvu s3 ⟨u,H3,I3,pu,q3⟩=>?_)
 rw[evalPart_none]
 refine wpAny_pure ?_
 have I4:Inv X pins σ H3 { s3 with heap:=s3.heap.push { cls:=.type "slice",data:=.fields #[vl,vu,.none] } }:=I3.kept (t' := s3.toks) λb ob q=>get?_push_of_some _ q
 obtain ⟨T,id,hT,ht,hg⟩:=hr pins { s3 with heap:=s3.heap.push { cls:=.type "slice",data:=.fields #[vl,vu,.none] } } σ H3 x v vl vu l u s3.heap.objs.size Q I4 r1 (Heap.IsSliceOf.new ..) pl pu q3
 show wpAny (model X.prog X.w) X.A (subscriptTail e (.Slice lo hi none p2) v (.ref s3.heap.objs.size)) (EP X pins σ Q) X.xe { s3 with heap:=s3.heap.push { cls:=.type "slice",data:=.fields #[vl,vu,.none] } }
 exact tail_any (ops:=[.ref s3.heap.objs.size,v]) ht hT hg (by with_unfolding_all rfl)
noncomputable def zde (xs:List V) (lo hi:Option Int):List V:=(xs.drop (HT.sIx xs.length 0 lo)).take (HT.sIx xs.length xs.length hi-HT.sIx xs.length 0 lo)
theorem Vj (xs:List V)(lo hi:Option Int):(zde xs lo hi).length<=xs.length:=by
 unfold zde
 rw[length_take,length_drop]
 omega
theorem Vals.zd2 {xs:List V}{us:List Value}(r:Vals xs us):us=[]↔xs=[]:=by
 cases r with
 | nil=>simp
 | cons _ _=>simp
end
noncomputable def ixN (n:Nat) (i:Int):Option Nat:=if 0<=i then (if i<n then some i.toNat else none) else if -(n:Int)<=i then some (i+n).toNat else none
noncomputable def atI {α:Type}(xs:List α) (i:Int):Option α:=(ixN xs.length i).bind λj=>xs[j]?
theorem Vo {n:Nat}{i:Int}{j:Nat}(h:ixN n i=some j):seqIndex? i n=some j/\j<n/\-(n:Int)<=i/\i<n:=by
 unfold ixN at h
 by_cases h0:0<=i
 ·rw[if_pos h0] at h
  by_cases h1:i<n
  ·rw[if_pos h1] at h
   have e:i.toNat=j:=Option.some.inj h
   exact ⟨by rw[seqIndex_of h0 h1,e],by omega,by omega,h1⟩
  ·rw[if_neg h1] at h;cases h
 ·rw[if_neg h0] at h
  by_cases h1:-(n:Int)<=i
  ·rw[if_pos h1] at h
   have e:(i+n).toNat=j:=Option.some.inj h
   exact ⟨by rw[seqIndex_neg (by omega) h1,e],by omega,h1,by omega⟩
  ·rw[if_neg h1] at h;cases h
theorem zbV {α:Type}{xs:List α}{i:Int}{v:α}(h:atI xs i=some v):∃ j,seqIndex? i xs.length=some j/\xs[j]?=some v/\j<xs.length/\-(xs.length:Int)<=i/\i<xs.length:=by
 unfold atI at h
 cases e:ixN xs.length i with
 | none=>rw[e] at h;cases h
 | some j=>
  rw[e] at h
  obtain ⟨h1,h2,h3,h4⟩:=Vo e
  exact ⟨j,h1,h,h2,h3,h4⟩
def zeC (b:Expr):Prop:=∀ o i,subscripted b false o i=operate [o,i] (getItem o i)
def IxR (X:Cx)(r:R2):Prop:=
 ∀ (value slice:Expr) (pins:List (Addr×Obj)) (s:Shared) (σ:St) (H:Hp) (x y:V) (v u:Value) (Q:VK),Inv X pins σ H s->RelV x v->RelV y u->r x y H Q->
  subscripted slice false v u=operate [v,u] (getItem v u)->wpAny (model X.prog X.w) X.A (subscriptTail value slice v u) (EP X pins σ Q) X.xe s
def MtR (X:Cx)(id:String)(r:V->List V->Hp->VK->Prop):Prop:=
 ∀ (pins:List (Addr×Obj)) (s:Shared) (σ:St) (H:Hp) (x:V) (xs:List V) (v:Value) (us:List Value) (Q:VK),Inv X pins σ H s->RelV x v->Vals xs us->r x xs H Q->
  wpAny (model X.prog X.w) X.A (call (.builtin id) (v::us)) (EP X pins σ Q) X.xe s
section
variable {X:Cx}{a b:Expr}{ta tb:TE}{pos:Pos}
theorem WN {r:R2}(hr:IxR X r)(ha:PE X a ta)(hb:PE X b tb)(hs:zeC b):PE X (.Subscript a b pos) (tOp r ta tb):=by
 intro pins s σ H Q I h
 exact Subscript_ (zhn ha hb I h λv u s2 x y H2 I2 rx ry q=>hr a b pins s2 σ H2 x y v u Q I2 rx ry q (hs _ _))
def zfb (K:PySem.W.Frag):R2:=λx y H Q=>∃ p xs i v,x = .ref p/\y = .int i/\SqL K H p xs/\atI xs i=some v/\Q v H
def zg3 (K:PySem.W.Frag):R2:=λx y H Q=>∃ p xs i v,x = .ref p/\y = .int i/\SqT K H p xs/\atI xs i=some v/\Q v H
theorem zd3:IxR X (zfb X.K):=by
 intro value slice pins s σ H x y v u Q I rx ry h hs
 obtain ⟨p,xs,i,z,rfl,rfl,hq,he,q⟩:=h
 cases rx
 obtain ⟨t,rfl⟩:=ry
 obtain ⟨its,r,pl,hz⟩:=I.list hq
 obtain ⟨j,h1,h2,h3,h4,h5⟩:=zbV he
 obtain ⟨w,ew,rw'⟩:=r.get h2
 have hl:=r.length
 have hn:=Um
 have fin:EP X pins σ Q w s:=⟨z,H,I,rw',q⟩
 by_cases h0:0<=i
 ·have hj:i.toNat=j:=by
   rw[seqIndex_of h0 h5] at h1
   exact Option.some.inj h1
  exact item_listR pl.isList h0 (by omega) (by rw[hj];simpa using ew) fin hs
 ·have hj:(i+(its.toArray.size:Int)).toNat=j:=by
   rw[seqIndex_neg (by omega) h4] at h1
   rw[size_toArray,← hl]
   exact Option.some.inj h1
  exact subscriptTail_builtinR (x:=w) pl.isList.typeIs slot_list_getitem.lookup
   (wpAny_getItem_list_neg (Q:=λr s' => r=w/\EP X pins σ Q r s') pl.isList (by omega) (by rw[size_toArray] <;> omega) (by omega) (by rw[hj];simpa using ew) ⟨rfl,fin⟩) hs
theorem zgI:IxR X (zg3 X.K):=by
 intro value slice pins s σ H x y v u Q I rx ry h hs
 obtain ⟨p,xs,i,z,rfl,rfl,hq,he,q⟩:=h
 cases rx
 obtain ⟨t,rfl⟩:=ry
 obtain ⟨its,r,pl,hz⟩:=I.tuple hq
 obtain ⟨j,h1,h2,h3,h4,h5⟩:=zbV he
 obtain ⟨w,ew,rw'⟩:=r.get h2
 have hl:=r.length
 have hn:=Um
 have fin:EP X pins σ Q w s:=⟨z,H,I,rw',q⟩
 exact subscriptTail_builtinR (x:=w) pl.typeIs slot_tuple_getitem.lookup
  (getItem_tuple (j:=j) (Q:=λr s' => r=w/\EP X pins σ Q r s') pl (by omega) (by omega) (by rw[size_toArray,← hl];exact h1) (by simpa using ew) ⟨rfl,fin⟩) hs
theorem zal (its:List Value)(n j:Nat)(u:Value):Obj.mapSeq (·.setIfInBounds j u) { cls:=.type "list",data:=.seq its.toArray n }={ cls:=.type "list",data:=.seq (its.set j u).toArray n }:=by
 simp[Obj.mapSeq]
theorem Inv.lst {pins:List (Addr×Obj)}{σ:St}{H:Hp}{s:Shared}{p:Addr}{xs:List V}(I:Inv X pins σ H s)(h:H p=some (.lst xs)):
  ∃ (its:List Value) (n:Nat),Vals xs its/\s.heap.get? p=some { cls:=.type "list",data:=.seq its.toArray n }/\xs.length<=sizeLine:=by
 obtain ⟨z,its,n,r,e⟩:=I.hok p _ h
 exact ⟨its,n,r,e,z⟩
theorem Inv.zgm {pins:List (Addr×Obj)}{σ:St}{H:Hp}{s:Shared}{p:Addr}{xs ys:List V}{its its' : List Value}{n n' : Nat}{f:Obj->Obj}(I:Inv X pins σ H s)(h:H p=some (.lst xs))
  (ho:s.heap.get? p=some { cls:=.type "list",data:=.seq its.toArray n }) (hf:f { cls:=.type "list",data:=.seq its.toArray n }={ cls:=.type "list",data:=.seq its'.toArray n' }) (r:Vals ys its') (hz:ys.length<=sizeLine) (t:Nat):
  Inv X pins σ (upd H p (.lst ys)) { s with heap:=s.heap.update p f,toks:=t }:=by
 have e:(s.heap.update p f).get? p=some { cls:=.type "list",data:=.seq its'.toArray n' }:=by
  rw[get?_update_self f ho (by rw[hf] <;> rfl),hf]
 refine I.write (x:=p) (e:=p) (by rw[h];trivial) (.inl rfl) (λb u hb q=>(get?_update_other _ _ (Ne.symm hb)).trans q) ⟨_,e⟩ ?_
 exact ⟨hz,its',n',r,e⟩
def zgq:V->V->V->Hp->(Hp->Prop)->Prop:=λo i v H Q=>∃ p xs k j,o = .ref p/\i = .int k/\H p=some (.lst xs)/\ixN xs.length k=some j/\Q (upd H p (.lst (xs.set j v)))
theorem set_list:zhP X zgq:=by
 intro pins s σ H o i v ov iv u Q I ro ri rv h
 obtain ⟨p,xs,k,j,rfl,rfl,hp,hj,q⟩:=h
 cases ro
 obtain ⟨t,rfl⟩:=ri
 obtain ⟨its,n,r,ho,hz⟩:=I.lst hp
 obtain ⟨h1,h2,h3,h4⟩:=Vo hj
 have hl:=r.length
 have hn:=Um
 have I' : Inv X pins σ (upd H p (.lst (xs.set j v))) { s with heap:=s.heap.update p (Obj.mapSeq (·.setIfInBounds j u)) }:=
  I.zgm hp ho (zal its n j u) (r.set rv j) (by rw[length_set];exact hz) s.toks
 by_cases h0:0<=k
 ·have hk:k.toNat=j:=by
   rw[seqIndex_of h0 h4] at h1
   exact Option.some.inj h1
  exact PySem.W.ki_setAt ho h0 (by omega) (by rw[size_toArray,← hl];exact h4) (by rw[hk];exact ⟨_,I',q⟩)
 ·have hk:(k+(its.toArray.size:Int)).toNat=j:=by
   rw[seqIndex_neg (by omega) h3] at h1
   rw[size_toArray,← hl]
   exact Option.some.inj h1
  exact PySem.W.ki_setBack ho (by omega) (by rw[size_toArray,← hl];exact h3) (by omega) (by rw[hk];exact ⟨_,I',q⟩)
theorem Vg (lo hi:Option Int)(n:Nat):(sliceBounds lo hi none n).1=((HT.sIx n 0 lo:Nat):Int)/\(sliceBounds lo hi none n).2.1=((HT.sIx n n hi:Nat):Int)/\(sliceBounds lo hi none n).2.2=1:=by
 refine ⟨?_,?_,rfl⟩
 ·cases lo with
  | none=>simp[sliceBounds,HT.sIx]
  | some i=>
   simp only[sliceBounds,HT.sIx,Option.getD_none,show (1:Int)>0 by decide,if_true]
   by_cases h:i<0
   ·simp only[h,if_true] <;> omega
   ·simp only[h,if_false] <;> omega
 ·cases hi with
  | none=>simp[sliceBounds,HT.sIx]
  | some i=>
   simp only[sliceBounds,HT.sIx,Option.getD_none,show (1:Int)>0 by decide,if_true]
   by_cases h:i<0
   ·simp only[h,if_true] <;> omega
   ·simp only[h,if_false] <;> omega
theorem J1 (its:List Value)(lo hi:Option Int):slicePick its.toArray lo hi none=((its.drop (HT.sIx its.length 0 lo)).take (HT.sIx its.length its.length hi-HT.sIx its.length 0 lo)).toArray:=by
 obtain ⟨h1,h2,h3⟩:=Vg lo hi its.toArray.size
 unfold slicePick
 rw[h1,h2,h3]
 simp only[sliceRange_one,pick_run,size_toArray] <;> rfl
def zgv (K:PySem.W.Frag):V->Option Int->Option Int->Hp->VK->Prop:=λx lo hi H Q=>∃ a xs,x = .ref a/\SqL K H a xs/\∀ p,H p=none->Q (.ref p) (upd H p (.lst (zde xs lo hi)))
theorem zdX:SlR X (zgv X.K):=by
 intro pins s σ H x v vl vu lo hi sl Q I rx hs pl pu h
 obtain ⟨a,xs,rfl,hx,q⟩:=h
 cases rx
 obtain ⟨its,r,ht,hz⟩:=I.list hx
 have hlen:=r.length
 refine ⟨"list",_,slot_list_getitem.lookup,ht.isList.typeIs,?_⟩
 refine wpAny_getItem_list_slice ht.isList hs pl pu .none (by simp) ?_ (by rw[size_toArray] <;> omega)
 rw[J1,← hlen]
 refine ⟨.ref s.heap.objs.size,_,I.laid (t' := s.toks) (o:=.lst (zde xs lo hi)) (λb ob q=>get?_push_of_some _ q) (Nat.le_refl _) ?_,rfl,q _ (I.hok.fresh (Nat.le_refl _))⟩
 exact ⟨Nat.le_trans (Vj xs lo hi) hz,_,0,(r.drop (HT.sIx xs.length 0 lo)).take (HT.sIx xs.length xs.length hi-HT.sIx xs.length 0 lo),get?_push_size _ rfl⟩
theorem QL:Jb X (.builtin "len") (λxs H Q=>∃ p ys,xs=[.ref p]/\(SqL X.K H p ys\/SqT X.K H p ys)/\Q (.int ys.length) H):=by
 intro pins s σ H xs us Q I r h
 obtain ⟨p,ys,rfl,hq,q⟩:=h
 obtain ⟨u,rfl,rx⟩:=vals1 r
 cases rx
 have hn:=Um
 rcases hq with hq | hq
 ·obtain ⟨its,r',pl,hz⟩:=I.list hq
  have hlen:=r'.length
  exact Calls.call_len_list pl.isList (by simp only[size_toArray] <;> omega) ⟨.int ys.length,H,I.tok _,⟨s.toks+1,by rw[size_toArray,hlen]⟩,q⟩
 ·obtain ⟨its,r',pl,hz⟩:=I.tuple hq
  have hlen:=r'.length
  exact len_tuple pl (by simp only[size_toArray] <;> omega) ⟨.int ys.length,H,I.tok _,⟨s.toks+1,by rw[size_toArray,hlen]⟩,q⟩
theorem QB:Jb X (.type "list") (λxs H Q=>∃ p ys,xs=[.ref p]/\(SqL X.K H p ys\/SqT X.K H p ys)/\∀ l,H l=none->Q (.ref l) (upd H l (.lst ys))):=by
 intro pins s σ H xs us Q I r h
 obtain ⟨p,ys,rfl,hq,q⟩:=h
 obtain ⟨u,rfl,rx⟩:=vals1 r
 cases rx
 have fin:∀ (its:List Value),Vals ys its->ys.length<=sizeLine->∀ (h' : Heap) (c' : Nat),(∀ b o',s.heap.get? b=some o' -> h'.get? b=some o')->
   h'.get? s.heap.objs.size=some { cls:=.type "list",dict:=none,data:=.seq its.toArray c',slots:=#[] }->EP X pins σ Q (.ref s.heap.objs.size) { s with heap:=h' }:=λits r' hz h' c' kp e=>
  ⟨.ref s.heap.objs.size,_,I.laid (t' := s.toks) kp (Nat.le_refl _) (show Yh X.prog X.w _ h' _ (.lst ys) from ⟨hz,its,c',r',e⟩),rfl,q _ (I.hok.fresh (Nat.le_refl _))⟩
 rcases hq with hq | hq
 ·obtain ⟨its,r',pl,hz⟩:=I.list hq
  have hlen:=r'.length
  obtain ⟨o,ho,hc,n,hd⟩:=pl.isList
  exact call_list_seq p (.inl rfl) ho hc hd (λh' c' kp e=>fin its r' hz h' c' kp e) (by simp only[size_toArray] <;> omega)
 ·obtain ⟨its,r',pl,hz⟩:=I.tuple hq
  have hlen:=r'.length
  obtain ⟨o,ho,hc,n,hd⟩:=pl
  exact call_list_seq p (.inr rfl) ho hc hd (λh' c' kp e=>fin its r' hz h' c' kp e) (by simp only[size_toArray] <;> omega)
theorem J5:Jb X (.type "tuple") (λxs H Q=>∃ p ys,xs=[.ref p]/\((SqL X.K H p ys/\∀ l,H l=none->Q (.ref l) (upd H l (.tup ys)))\/(SqT X.K H p ys/\Q (.ref p) H))):=by
 intro pins s σ H xs us Q I r h
 obtain ⟨p,ys,rfl,h⟩:=h
 obtain ⟨u,rfl,rx⟩:=vals1 r
 cases rx
 rcases h with ⟨hq,q⟩ | ⟨hq,q⟩
 ·obtain ⟨its,r',pl,hz⟩:=I.list hq
  have hlen:=r'.length
  refine call_tuple_list pl.isList (λh' kp=>?_) (by simp only[size_toArray] <;> omega)
  have I1:Inv X pins σ H { s with heap:=h' }:=I.kept (t' := s.toks) kp
  have I2:Inv X pins σ (upd H h'.objs.size (.tup ys)) { s with heap:=h'.push { cls:=.type "tuple",data:=.seq its.toArray } }:=
   I1.laid (t' := s.toks) (λb o e=>get?_push_of_some _ e) (Nat.le_refl _) (show Yh X.prog X.w _ _ _ (.tup ys) from ⟨hz,its,r',IsTup.new _ _,_,get?_push_size _ rfl,rfl⟩)
  exact ⟨.ref h'.objs.size,_,I2,rfl,q _ (I1.hok.fresh (Nat.le_refl _))⟩
 ·obtain ⟨its,r',pl,hz⟩:=I.tuple hq
  exact call_tuple_same pl ⟨.ref p,H,I,rfl,q⟩
def tyV (K:PySem.W.Frag)(T:String)(x:V)(H:Hp):Prop:=match x with
 | .str _=>T = "str"
 | .int _=>T = "int"
 | .ref p=>(T = "list" /\ ∃ xs,SqL K H p xs)\/(T = "tuple" /\ ∃ o,K.lookup p=some o/\o.cls = .type "tuple" /\ o.dict=none)\/
   (T = "dict" /\ ((∃ kvs,H p=some (.dK kvs))\/∃ kvs,H p=some (.dT kvs)))\/(T = "set" /\ ∃ S n,H p=some (.set S n))
 | _=>False
theorem zgg {pins:List (Addr×Obj)}{σ:St}{H:Hp}{s:Shared}{T:String}{x:V}{v:Value}(I:Inv X pins σ H s)(r:RelV x v)(ty:tyV X.K T x H):
  s.TypeIs v T/\∀ a,v = .ref a->∃ ob,s.heap.get? a=some ob/\ob.dict=none:=by
 cases x with
 | str z=>
  obtain ⟨t,rfl⟩:=r
  cases (show T = "str" from ty)
  exact ⟨typeIs_str s z t,λ_ e=>nomatch e⟩
 | int i=>
  obtain ⟨t,rfl⟩:=r
  cases (show T = "int" from ty)
  exact ⟨typeIs_int s i t,λ_ e=>nomatch e⟩
 | ref p=>
  cases r
  rcases ty with ⟨rfl,xs,hq⟩ | ⟨rfl,o,hk,hc,hd⟩ | ⟨rfl,hk⟩ | ⟨rfl,S,n,hk⟩
  ·obtain ⟨its,_,pl,_⟩:=I.list hq
   refine ⟨pl.isList.typeIs,λa e=>?_⟩
   cases e
   obtain ⟨o,n,e,c,hd,_⟩:=pl
   exact ⟨o,e,hd⟩
  ·refine ⟨⟨o,I.kIn p o hk,hc⟩,λa e=>?_⟩
   cases e
   exact ⟨o,I.kIn _ o hk,hd⟩
  ·have z:∃ o,s.heap.get? p=some o/\o.ExactDict:=by
    rcases hk with ⟨kvs,hk⟩ | ⟨kvs,hk⟩
    ·obtain ⟨_,_,_,_,o,_,_,e,ex,_⟩:=I.hok p _ hk
     exact ⟨o,e,ex⟩
    ·obtain ⟨_,_,_,_,o,_,_,e,ex,_⟩:=I.hok p _ hk
     exact ⟨o,e,ex⟩
   obtain ⟨o,e,ex⟩:=z
   refine ⟨⟨o,e,ex.1⟩,λa e2=>?_⟩
   cases e2
   exact ⟨o,e,ex.2.1⟩
  ·obtain ⟨o,_,_,_,e,ex,_⟩:=I.hok p _ hk
   refine ⟨⟨o,e,ex.1⟩,λa e2=>?_⟩
   cases e2
   exact ⟨o,e,ex.2.1⟩
 | _=>exact False.elim ty
def tBM (K:PySem.W.Frag)(T:String)(r:V->List V->Hp->VK->Prop)(to:TE)(t:TA):TE:=fun σ H Q=>to σ H λx H1=>tyV K T x H1/\t σ H1 λxs H2=>r x xs H2 Q
variable {o e:Expr}{es:List Expr}{to:TE}{t:TA}{name:Str}{apos cpos:Pos}{T id:String}{r:V->List V->Hp->VK->Prop}
theorem zay (pa:PlainAttrs T)(slot:Slot T name id)(hty:typeOf (.builtin id)=pure (.type "method_descriptor"))(hm:MtR X id r)(ho:PE X o to)(ha:PA X (e::es) t)
  (hbase:attributeBase o name X.env (eval o X.env)=eval o X.env:=by rfl)
  (hfew:((backTo cpos (starEach (e::es) X.env)).all (λx=>!x.1)&&(backToKw cpos (keywordEach [] X.env)).all (λx=>x.1.isSome)
   && decide ((e::es).length+([]:List Keyword).length+(if ([]:List Keyword).isEmpty then 0 else 1)<30))=true:=by rfl)
  (hline:(apos.endLine==cpos.line)=true:=by rfl) (hs:starEach (e::es) X.env=(false,eval e X.env)::starEach es X.env:=by rfl) (hplain:(backTo cpos (starEach es X.env)).any (·.1)=false:=by rfl):
  PE X (.Call (.Attribute o name apos) (e::es) [] cpos) (tBM X.K T r to t):=by
 intro pins s σ H Q I h
 refine wpAny_Call_method_late hbase hfew hline rfl (thn (ho pins s σ H _ I h) λv s1 ⟨x,H1,I1,r1,ty,q1⟩=>?_)
 obtain ⟨h1,h2⟩:=zgg I1 r1 ty
 refine ⟨T,id,pa,slot,hty,h1,h2,?_⟩
 have hA:=ha cpos pins s1 σ H1 _ I1 q1
 rw[hs] at hA ⊢
 refine Calls.callWith_builtin (by show (false||(backTo cpos (starEach es X.env)).any (·.1))=false;rw[hplain] <;> rfl) (Calls.evalArgs_plain ?_)
 exact thn hA λus s2 ⟨vs,H2,I2,r2,q2⟩=>hm pins s2 σ H2 x vs v us Q I2 r1 r2 q2
end
def MtM (X:Cx)(id:String)(r:V->List V->Hp->VK->Prop):Prop:=
 ∀ (pins:List (Addr×Obj)) (s:Shared) (σ:St) (H:Hp) (x:V) (xs:List V) (v:Value) (us:List Value) (Q:VK),Inv X pins σ H s->RelV x v->Vals xs us->r x xs H Q->
  wpAny (model X.prog X.w) X.A (call (.builtin id) (v::us)) (EP X pins σ Q) X.xe s
theorem Vals.one:∀ {x:V}{us:List Value},Vals [x] us->∃ u,us=[u]/\RelV x u
 | _,_,.cons r .nil=>⟨_,rfl,r⟩
theorem Vals.two:∀ {x y:V}{us:List Value},Vals [x,y] us->∃ u v,us=[u,v]/\RelV x u/\RelV y v
 | _,_,_,.cons r (.cons q .nil)=>⟨_,_,rfl,r,q⟩
theorem Vals.eraseIdx:∀ {xs:List V}{us:List Value}(i:Nat),Vals xs us->Vals (xs.eraseIdx i) (us.eraseIdx i)
 | _,_,_,.nil=>.nil
 | _,_,0,.cons _ t=>t
 | _,_,i+1,.cons r t=>.cons r (Vals.eraseIdx i t)
theorem Vals.rep {xs:List V}{us:List Value}(h:Vals xs us):∀ k:Nat,Vals (List.replicate k xs).flatten (List.replicate k us).flatten
 | 0=>.nil
 | k+1=>by
  rw[replicate_succ,replicate_succ,flatten_cons,flatten_cons]
  exact Vals.append h (Vals.rep h k)
theorem QJ {α:Type}:∀ (l:List α) (i:Nat),(l.eraseIdx i).length<=l.length
 | [],_=>Nat.le_refl _
 | _::_,0=>le_succ _
 | _::r,i+1=>Nat.succ_le_succ (QJ r i)
theorem foldl_rep (its:List Value):∀ (k:Nat) (acc:List Value),
  List.foldl (λx1 x2=>x1++x2) acc.toArray (List.replicate k its.toArray)=(acc++(List.replicate k its).flatten).toArray
 | 0,acc=>by simp
 | k+1,acc=>by
  have e:acc.toArray++its.toArray=(acc++its).toArray:=by simp
  have e2:(acc++its)++(List.replicate k its).flatten=acc++(List.replicate (k+1) its).flatten:=by
   rw[replicate_succ,flatten_cons,append_assoc]
  rw[← e2,← foldl_rep its k (acc++its),← e,replicate_succ,foldl_cons]
section
variable {X:Cx}{pins:List (Addr×Obj)}{σ:St}{H:Hp}{s:Shared}{l b:Addr}{xs ys zs:List V}
theorem Inv.zgN {its its' : List Value}{n:Nat}{f:Array Value->Array Value}{t' : Nat}(I:Inv X pins σ H s)(hH:H l=some (.lst xs))
  (e:s.heap.get? l=some { cls:=.type "list",data:=.seq its.toArray n }) (hf:f its.toArray=its'.toArray) (hv:Vals ys its') (hz:ys.length<=sizeLine):
  Inv X pins σ (upd H l (.lst ys)) { s with heap:=s.heap.update l (Obj.mapSeq f),toks:=t' }:=by
 have q:=PySem.IsL.update e f
 rw[hf] at q
 refine I.write (x:=l) (e:=l) (by rw[hH];exact trivial) (.inl rfl) (λb' u hb hu=>(get?_update_other s.heap (Obj.mapSeq f) (Ne.symm hb)).trans hu) ⟨_,q⟩ ?_
 exact ⟨hz,its',_,hv,q⟩
theorem Inv.zif {its:List Value}{t' : Nat}(I:Inv X pins σ H s)(hv:Vals ys its)(hz:ys.length<=sizeLine):
  Inv X pins σ (upd H s.heap.objs.size (.lst ys)) { s with heap:=s.heap.push { cls:=.type "list",data:=.seq its.toArray },toks:=t' }:=
 I.laid (λ_ _ q=>get?_push_of_some _ q) (Nat.le_refl _) ⟨hz,its,0,hv,get?_push_size _ rfl⟩
theorem Inv.fresh (I:Inv X pins σ H s):H s.heap.objs.size=none:=I.hok.fresh (Nat.le_refl _)
theorem Inv.zeW (I:Inv X pins σ H s)(hH:H l=some (.lst xs)):xs.length<=sizeLine/\∃ (its:List Value) (n:Nat),Vals xs its/\xs.length=its.length/\s.heap.get? l=some { cls:=.type "list",data:=.seq its.toArray n }:=by
 obtain ⟨z,its,n,r,e⟩:=I.hok l _ hH
 exact ⟨z,its,n,r,r.length,e⟩
theorem zcS {n:Nat}(h:n<=sizeLine):Builtin.List.listTooLong n=false:=by
 unfold Builtin.List.listTooLong
 exact decide_eq_false (by omega)
end
section
variable {X:Cx}
def za9:V->List V->Hp->VK->Prop:=λx vs H Q=>∃ l xs y,x = .ref l/\vs=[y]/\H l=some (.lst xs)/\xs.length<sizeLine/\Q .non (upd H l (.lst (xs++[y])))
theorem QR:MtM X "list.append" za9:=by
 intro pins s σ H x vs v us Q I rx rv h
 obtain ⟨l,xs,y,rfl,rfl,hH,hz,q⟩:=h
 cases rx
 obtain ⟨u,rfl,ru⟩:=rv.one
 obtain ⟨z,its,n,r,hl,e⟩:=I.zeW hH
 refine call_meets F.slot_list_append ⟨_,e,rfl⟩ F.entry_list_append (F.args_list_append_2 _ _) (PySem.list_append l its.toArray n u (by rw[size_toArray];omega)) ⟨e,?_⟩
 refine ⟨.non,_,I.zgN (its' := its++[u]) hH e (by simp) (r.append (.cons ru .nil)) ?_,rfl,q⟩
 rw[length_append,List.length_singleton]
 omega
def za8:V->List V->Hp->VK->Prop:=λx vs H Q=>∃ l b xs zs,x = .ref l/\vs=[.ref b]/\H l=some (.lst xs)/\H b=some (.lst zs)/\xs.length+zs.length<=sizeLine/\Q .non (upd H l (.lst (xs++zs)))
theorem zb2:MtM X "list.extend" za8:=by
 intro pins s σ H x vs v us Q I rx rv h
 obtain ⟨l,b,xs,zs,rfl,rfl,hH,hB,hz,q⟩:=h
 cases rx
 obtain ⟨u,rfl,ru⟩:=rv.one
 cases ru
 obtain ⟨z,its,n,r,hl,e⟩:=I.zeW hH
 obtain ⟨z2,its2,n2,r2,hl2,e2⟩:=I.zeW hB
 have hsz:its.toArray.size+its2.toArray.size<=sizeLine:=by rw[size_toArray,size_toArray];omega
 have hlong:¬ (!its.toArray.isEmpty&&Builtin.List.listTooLong (its.toArray.size+its2.toArray.size))=true:=by
  rw[zcS hsz,Bool.and_false]
  exact Bool.false_ne_true
 refine call_meets F.slot_list_extend ⟨_,e,rfl⟩ F.entry_list_extend (F.args_list_extend_2 _ _)
  (AutoSeq1.list_extend_list_list_0 l its.toArray n b its2.toArray n2 hlong (by rw[size_toArray];omega) (by omega)) ⟨e,e2,?_⟩
 refine ⟨.non,_,I.zgN (its' := its++its2) hH e (by simp) (r.append r2) ?_,rfl,q⟩
 rw[length_append]
 omega
def zdg:V->List V->Hp->VK->Prop:=λx vs H Q=>∃ l xs i k y,x = .ref l/\vs=[.int i]/\H l=some (.lst xs)/\-(2 ^ 63)<=i/\i<2 ^ 63/\seqIndex? i xs.length=some k/\xs[k]?=some y/\Q y (upd H l (.lst (xs.eraseIdx k)))
theorem zc1:MtM X "list.pop" zdg:=by
 intro pins s σ H x vs v us Q I rx rv h
 obtain ⟨l,xs,i,k,y,rfl,rfl,hH,h1,h2,hk,hy,q⟩:=h
 cases rx
 obtain ⟨u,rfl,ru⟩:=rv.one
 obtain ⟨t,rfl⟩:=ru
 obtain ⟨z,its,n,r,hl,e⟩:=I.zeW hH
 obtain ⟨w,hw,rw'⟩:=r.get hy
 refine call_meets F.slot_list_pop ⟨_,e,rfl⟩ F.entry_list_pop (F.args_list_pop_2 _ _)
  (MeetsSeq.list_pop_at l its.toArray n i t k w (fitsIndex_both h1 h2) (by rw[size_toArray,← hl];exact hk) (by rw[← getElem?_toList];exact hw) (by rw[size_toArray];omega)) ⟨e,?_⟩
 refine ⟨y,_,I.zgN (its' := its.eraseIdx k) hH e ?_ (r.eraseIdx k) ?_,rw',q⟩
 ·show its.toArray.eraseIdxIfInBounds k=(its.eraseIdx k).toArray
  rw[List.eraseIdxIfInBounds_toArray]
 ·have:=QJ xs k
  omega
def zhh:R2:=λx y H Q=>∃ l b xs zs,x = .ref l/\y = .ref b/\H l=some (.lst xs)/\H b=some (.lst zs)/\xs.length+zs.length<=sizeLine/\∀ p,H p=none->Q (.ref p) (upd H p (.lst (xs++zs)))
theorem zaI:OpR X (binaryOp .Add) zhh:=by
 intro pins s σ H x y v u Q I rx ry h
 obtain ⟨l,b,xs,zs,rfl,rfl,hH,hB,hz,q⟩:=h
 cases rx
 cases ry
 obtain ⟨z,its,n,r,hl,e⟩:=I.zeW hH
 obtain ⟨z2,its2,n2,r2,hl2,e2⟩:=I.zeW hB
 refine PySem.P.add_list e e2 ?_ (by rw[size_toArray,size_toArray];omega)
 have ea:its.toArray++its2.toArray=(its++its2).toArray:=by simp
 rw[ea]
 exact ⟨.ref _,_,I.zif (t' := s.toks) (r.append r2) (by rw[length_append];omega),rfl,q _ I.fresh⟩
theorem len_rep {α:Type}(xs:List α)(k:Nat):(List.replicate k xs).flatten.length=k*xs.length:=by
 induction k with
 | zero=>simp
 | succ k ih=>rw[replicate_succ,flatten_cons,length_append,ih,Nat.succ_mul,Nat.add_comm]
end
section
variable {prog:Program}{w:World}{A:Around}{E:Value->Shared->Prop}{s:Shared}
set_option maxRecDepth 100000 in
end
end L2
namespace Att
open PySem PySem.W PySem.Calls PyProof.Rows
theorem Jc {P:Params}{h:Heap}:∀ (ns:List Int) (vs:List Value),WellAll P h vs (ns.map WData.int)->IntsAre vs ns:=by
 intro ns
 induction ns with
 | nil=>
  intro vs w
  rw[List.map_nil] at w
  cases w
  exact .nil
 | cons n ns ih=>
  intro vs w
  rw[map_cons] at w
  cases w with
  | cons a b=>
   cases a
   exact .cons _ _ (ih _ b)
theorem zbf {l:OpenLaw}{n:Nat}(hn:l.most=some n){P:Params}{h:Heap}{args:List WData}{vals:List Value}
  (hpre:l.row.toRowW.claim.pre args=true) (hwl:WellAll P h vals args):
  ∃ a vs ns,vals=[Value.ref a]/\args=[WData.list (ns.map WData.int)]/\h.get? a=some { cls:=.type "list",data:=.seq vs.toArray }/\IntsAre vs ns/\ns.length<=n:=by
 have hsh:WShape.hasAll [] args [.list .int]=true:=(pre_splitW hpre).1
 have hc:l.pre.holds [] { args:=args }=true:=(pre_splitW hpre).2
 obtain ⟨d,r,rfl,h1,h2⟩:=hasAllW_cons hsh
 obtain rfl:=hasAllW_nil h2
 obtain ⟨xs,rfl,h3⟩:=hasW_list h1
 obtain ⟨ns,rfl⟩:=items_int h3
 have hlen:ns.length<=n:=by
  unfold OpenLaw.pre at hc
  have h4:(WTm.not (.lt (.lit (.int (n:Int))) (.len (.arg 0)))).holds [] { args:=[.list (ns.map .int)] }=true:=by
   have h4:=(holds_andW hc).1
   rw[hn] at h4
   exact h4
  have h5:=condW_of h4 (w_not (w_lt w_lit (w_len_list (w_arg rfl))))
  rw[length_map] at h5
  refine Nat.le_of_not_lt λq=>?_
  have q' : (n:Int)<((ns.length:Nat):Int):=by omega
  first
   | (rw[decide_eq_true q'] at h5;exact absurd h5 (by decide))
   | (simp at h5;omega)
 cases hwl with
 | cons w1 w2=>
  cases w2
  cases w1 with
  | list ho hall=>exact ⟨_,_,ns,rfl,rfl,ho,Jc ns _ hall,hlen⟩
theorem zbc (l:OpenLaw)(args:List WData):l.row.toRowW.claim.post args (.bool true) args=true:=
 postW_of (r:=l.row.toRowW) (X:=(true==true))
  (show WShape.has [] (.bool true) .bool=true by first | rfl | decide | simp[WShape.has,WShape.arms,WShape.armsAll])
  (show (WTm.eq .res (.lit (.bool true))).value [] { args:=args,res:=some (.bool true),after:=args }=some (.bool (true==true)) from w_eq_bool (w_res rfl) w_lit) rfl
theorem Vt {l:OpenLaw}{n:Nat}{q:Program}{loose:List Str}{XP:(Str->Option Value)->Heap->Prop}{YP:World->Heap->Prop}{d:DefRec}
  (hn:l.most=some n) (hdf:d.params.defaults=[])
  (call:∀ (w:World) (s₀ s₁:Shared) (mg mb:Str->Option Value) (fa:Addr) (o:Obj) (pm cd doc:Value) (a:Addr) (vs:List Value) (ns:List Int),
   Ground q loose [] XP w s₀ mg mb s₁.heap->YP w s₁.heap->
   s₁.heap.get? fa=some o->o.data = .func (docDef d.name d.params d.body d.scope pm cd doc)->s₁.heap.CodeRec cd d.name->mg d.name=some (.ref fa)->
   s₁.heap.get? a=some { cls:=.type "list",data:=.seq vs.toArray }->IntsAre vs ns->ns.length<=n->s₁.gens = #[]->
   codeAny (model l.prog w) callerA (.call (.ref fa) ⟨[.ref a],[]⟩) (λr s' => r = .ok (.ret (.bool true))/\OldK s₁.heap s'.heap/\s'.os=s₁.os/\AllBare s'.gens) s₁):
  WalkO q loose XP YP l.row.toRowW d [] (λf vs=>PySem.call f vs):=by
 intro w s₀ s₁ mg mb G Y fa o pm cd doc dV kV ho hd hcd hD hmg hg args vals as hpre hlay hrd hwl hlo
 obtain rfl:dV = .none:=Dflts.none hD hdf
 obtain rfl:kV = .none:=Dflts.noKw hD
 obtain ⟨a,vs,ns,rfl,rfl,hobj,hints,hlen⟩:=zbf hn hpre hwl
 refine enter_call (codeAny_mono (call w s₀ s₁ mg mb fa o pm cd doc a vs ns G Y ho (fd_plain hd) hcd hmg hobj hints hlen hg) λr s' hq=>?_)
 obtain ⟨rfl,h2,h3,h4⟩:=hq
 exact ⟨.inl ⟨.bool true,.bool true,[],rfl,λ_=>rfl,.bool true,zbc l _,λ_=>⟨List.Pairwise.nil,λ_ hm=>(nomatch hm)⟩⟩,h2,h3,h4⟩
end Att
namespace L2
open PySem PySem.Spec PyProof.Rows
theorem Qw:∀ {vs:List Value}{ns:List Int},IntsAre vs ns->Vals (ns.map V.int) vs
 | _,_,.nil=>.nil
 | _,_,.cons n t h=>.cons ⟨t,rfl⟩ (Qw h)
def Only (H:Hp):Prop:=∀ b,H b=none\/∃ o xs,H b=some (.frz o (.lst xs))
theorem zcE {P:Program}{w:World}{K:PySem.W.Frag}{mg mb:Str->Option Value}{CX:CXT}{k:Nat}{fa a:Addr}{fd:FuncData}{x:Str}{sp:Sp}{s₁:Shared}{vs:List Value}{ns:List Int}
  (KX:K.In s₁.heap) (hns:s₁.heap.Ns mainGlobals mg) (hb:s₁.heap.Ns builtinsNs mb) (hbb:∀ x:Str,x≠ "__name__" -> mb x=bootBuiltins x) (hlim:s₁.heap.NoLimit) (hg:s₁.gens = #[])
  (ha:s₁.heap.get? a=some { cls:=.type "list",data:=.seq vs.toArray }) (hi:IntsAre vs ns) (hl:ns.length<=sizeLine) (hr:Wu k callerA)
  (F:∀ base:Heap,K.In base->base.Ns mainGlobals mg->Xy P w K mg base CX k fa fd [x] sp) (hbind:∀ (s:Shared) (u:Value),BindsTo s fd ⟨[u],[]⟩ [(x,u)])
  (hsp:∀ H:Hp,Only H->SqL K H a (ns.map V.int)->sp [.ref a] H (λv _=>v = .bl true) λ_ _ _=>False)
  (hCX:∀ H e s',CX [] H s₁ (λ_ _ _=>False) e s' -> False):
  codeAny (model P w) callerA (.call (.ref fa) ⟨[.ref a],[]⟩) (λr s' => r = .ok (.ret (.bool true))/\OldK s₁.heap s'.heap/\s'.os=s₁.os/\AllBare s'.gens) s₁:=by
 have rv:=Qw hi
 have lenV:=hi.length
 have core:∀ H:Hp,Only H->SqL K H a (ns.map V.int)->HOk P w H s₁.heap->(∀ b,H b≠none->b=a)->(H a≠none->K.lookup a=none)->
   codeAny (model P w) callerA (.call (.ref fa) ⟨[.ref a],[]⟩) (λr s' => r = .ok (.ret (.bool true))/\OldK s₁.heap s'.heap/\s'.os=s₁.os/\AllBare s'.gens) s₁:=by
  intro H hO hS hok hA hK
  have base_of:∀ {b:Addr}{o:Obj},s₁.heap.get? b=some o->H b=none->(zcy s₁.heap H).get? b=some o:=λe n=>zcs e n
  have noA:∀ {b:Addr}{o:Obj}{es:Array DictEntry}{ep:Nat},s₁.heap.get? b=some o->o.data = .dict es ep->H b=none:=λ{b o es ep} e d=>by
   cases q:H b with
   | none=>rfl
   | some u=>
    have e' : b=a:=hA b (by rw[q];simp)
    subst e'
    rw[ha] at e;cases e
    have d' : Data.seq vs.toArray _=Data.dict es ep:=d
    cases d'
  have nsK:∀ {b:Addr}{m:Str->Option Value},s₁.heap.Ns b m->(zcy s₁.heap H).Ns b m:=λ{b m} ⟨o,es,ep,e,d,r⟩=>⟨o,es,ep,base_of e (noA e d),d,r⟩
  have hKb:K.In (zcy s₁.heap H):=λb o e=>base_of (KX b o e) (by
   cases q:H b with
   | none=>rfl
   | some u=>
    have e' : b=a:=hA b (by rw[q];simp)
    subst e'
    rw[hK (by rw[q];simp)] at e;cases e)
  have hM:Mod K mg (zcy s₁.heap H):=⟨hKb,nsK hns,⟨mb,nsK hb,hbb⟩,let ⟨mc,h1,h2⟩:=hlim;⟨mc,nsK h1,h2⟩⟩
  have e0:zgS P w K mg (zcy s₁.heap H) callerA [] s₁ H:=⟨rfl,hM,λb o e=>zeF e,le_of_eq (zbX _ _),trivial,λb hb=>absurd (show b∈([]:List Addr) from hb) (by simp),hok,.of_eq hg⟩
  refine codeAny_mono ((F _ hKb (nsK hns)).run callerA [] s₁ H ⟨[.ref a],[]⟩ [.ref a] [.ref a] _ _ hr e0 (hbind s₁ (.ref a)) (.cons rfl .nil) (hsp H hO hS)) λr s' h=>?_
  cases r with
  | error e=>exact (hCX H e s' h).elim
  | ok fl=>
   cases fl with
   | next=>exact False.elim h
   | brk=>exact False.elim h
   | cont=>exact False.elim h
   | ret u=>
    obtain ⟨v,H',os,bare,un,hok',r',q⟩:=h
    have q' : v = .bl true:=q
    subst q'
    obtain rfl:u=Value.bool true:=r'
    refine ⟨rfl,OldK.of_keep λb o e=>?_,os,bare⟩
    cases q:H b with
    | none=>exact un.keep b o e q (by intro z;exact absurd (show b∈([]:List Addr) from z) (by simp)) (by simp)
    | some u=>
     rcases hO b with z | ⟨ob,xs,z⟩
     ·rw[q] at z;cases z
     ·have z2:=un.frzs b ob _ z
      obtain ⟨e1,_⟩:=hok b _ z
      obtain ⟨e2,_⟩:=hok' b _ z2
      rw[e] at e1;cases e1
      exact e2
 cases hk:K.lookup a with
 | some o=>
  have e:=KX a o hk
  rw[ha] at e
  cases e
  refine core (λ_=>none) (λ_=>.inl rfl) (.inr ⟨_,vs.toArray,_,hk,rfl,rfl,rfl,by rw[size_toArray,lenV];exact hl,by simpa using rv⟩) (λb u z=>by have z' : (none:Option HO)=some u:=z;cases z') (λb z=>absurd rfl z) λz=>absurd rfl z
 | none=>
  refine core (λb=>if b=a then some (.frz { cls:=.type "list",data:=.seq vs.toArray } (.lst (ns.map V.int))) else none) (λb=>?_) (.inl (.inr ⟨{ cls:=.type "list",data:=.seq vs.toArray },if_pos rfl⟩)) (λb u z=>?_) (λb z=>?_) λ_=>hk
  ·by_cases hb:b=a
   ·exact .inr ⟨_,_,if_pos hb⟩
   ·exact .inl (if_neg hb)
  ·by_cases hb:b=a
   ·have z' := (if_pos hb).symm.trans z
    cases z'
    subst hb
    exact ⟨ha,by rw[length_map];exact hl,vs,_,rv,ha⟩
   ·have z' := (if_neg hb).symm.trans z
    cases z'
  ·by_cases hb:b=a
   ·exact hb
   ·exact absurd (if_neg hb) z
theorem zem {l:PySem.W.OpenLaw}{n k:Nat}{q:Program}{loose:List Str}{XP:(Str->Option Value)->Heap->Prop}{YP:World->Heap->Prop}{d:DefRec}{K:Params->PySem.W.Frag}{CX:World->CXT}{sp:World->Sp}{x:Str}
  (hn:l.most=some n) (hn2:n<=sizeLine) (hdf:d.params.defaults=[]) (hr:Wu k callerA)
  (hY:∀ (w:World) (h:Heap),YP w h->(K w.params).In h)
  (F:∀ (w:World) (mg:Str->Option Value) (fa:Addr) (h:Heap),(K w.params).In h->h.Ns mainGlobals mg->mg d.name=some (.ref fa)->
   ∃ fd:FuncData,(∀ (s:Shared) (u:Value),BindsTo s fd ⟨[u],[]⟩ [(x,u)])/\
    ∀ base:Heap,(K w.params).In base->base.Ns mainGlobals mg->Xy l.prog w (K w.params) mg base (CX w) k fa fd [x] (sp w))
  (hsp:∀ (w:World) (H:Hp) (a:Addr) (ns:List Int),ns.length<=n->Only H->SqL (K w.params) H a (ns.map V.int)->sp w [.ref a] H (λv _=>v = .bl true) λ_ _ _=>False)
  (hCX:∀ (w:World) (H:Hp) (s:Shared) (e:Value) (s' : Shared),CX w [] H s (λ_ _ _=>False) e s' -> False):
  PySem.W.WalkO q loose XP YP l.row.toRowW d [] (λf vs=>PySem.call f vs):=by
 refine Att.Vt hn hdf λw s₀ s₁ mg mb fa o pm cd doc a vs ns G Y ho hd hcd hmg hobj hints hlen hg=>?_
 have KX:=hY w _ Y
 obtain ⟨fd,hb,hF⟩:=F w mg fa _ KX G.T.g hmg
 exact zcE KX G.T.g G.T.b G.T.builtins G.T.nolimit hg hobj hints (Nat.le_trans hlen hn2) hr hF hb (λH hO hS=>hsp w H a ns hlen hO hS) λH e s' => hCX w H s₁ e s'
noncomputable def YM (s:Stmt):Arguments:=match s with
 | .FunctionDef _ a _ _ _ _ _ _ _ _=>a
 | _=>{ posonlyargs:=[],args:=[],vararg:=none,kwonlyargs:=[],kw_defaults:=[],kwarg:=none,defaults:=[] }
noncomputable def ZR (s:Stmt):List Stmt:=match s with
 | .FunctionDef _ _ b _ _ _ _ _ _ _=>b
 | _=>[]
noncomputable def Zd (s:Stmt):Scope:=match s with
 | .FunctionDef _ _ _ _ _ _ sc _ _ _=>sc
 | _=>{ kind:=.function,names:=[],isGenerator:=false,isCoroutine:=false }
abbrev CX0:CXT:=λ_ _ _ _ _ _=>False
abbrev E0:XK:=λ_ _ _=>False
theorem zg6 {X:Cx}:UJ CX0 X E0:=λ_ _ _ _ _ _ _ h=>h.elim
structure Fun (K:PySem.W.Frag)(x qual:Str)(st:Stmt)(f:Addr)(fd:FuncData):Prop where
 ex:∃ (oc:Value) (od:Option Addr) (kV doc pm:Value) (an:Option Addr) (cdv ct:Value) (osl:Array (Option Value)),
  fd=PySem.W.fnOf x qual (YM st) (ZR st) (Zd st) .none kV doc pm an cdv ct/\K.lookup f=some ⟨oc,od,.func fd,osl⟩/\codeIn K cdv qual=true
 kp:keepIn K (.ref f)=true
section
variable {P:Program}{w:World}{K:PySem.W.Frag}{mg:Str->Option Value}{base:Heap}
theorem Fun.ok {x qual:Str}{st:Stmt}{f:Addr}{fd:FuncData}{N ps:List Str}{k:Nat}{sp:Sp}(F:Fun K x qual st f fd)(S:ZK N ps (Zd st))(len:∀ vs H Q E,sp vs H Q E->vs.length=ps.length)
  (hbody:∀ (cdv:Value) (A:Around) (outer:List Env) (s:Shared) (H:Hp) (vs:List V) (Q:VK) (E:XK),Wu k (A.deeper (envOfC qual (Zd st) s.heap.objs.size f cdv))->sp vs H Q E->
   ∃ t,PSs (WR CX0 P w K mg base N qual (Zd st) f cdv A outer s H E).nox (ZR st) t/\t { nx:=λ_ H' => Q .non H',rt:=Q } (start N vs) H):Xy P w K mg base CX0 (k+1) f fd ps sp:=by
 obtain ⟨oc,od,kV,doc,pm,an,cdv,ct,osl,rfl,lk,hcd⟩:=F.ex
 refine zf0 lk hcd S len λA outer s H vs Q E hr hsp=>?_
 obtain ⟨t,h,q⟩:=hbody cdv A outer s H vs Q E hr hsp
 exact ⟨t,h.nox,q⟩
theorem Fun.binds {x qual:Str}{st:Stmt}{f:Addr}{fd:FuncData}{ps:List Str}(F:Fun K x qual st f fd)
  (h:∀ (kV doc pm:Value) (an:Option Addr) (cdv ct:Value) (us:List Value),us.length=ps.length->bindArgs (PySem.W.fnOf x qual (YM st) (ZR st) (Zd st) .none kV doc pm an cdv ct) ⟨us,[]⟩=pure (ps.zip us)):Binds K fd ps []:=by
 obtain ⟨oc,od,kV,doc,pm,an,cdv,ct,osl,rfl,lk,hcd⟩:=F.ex
 exact .all (h kV doc pm an cdv ct)
theorem zbO {x qual:Str}{st:Stmt}{f:Addr}{oc:Value}{od an:Option Addr}{osl:Array (Option Value)}{kV doc pm cdv ct:Value}(l:K.lookup f=some ⟨oc,od,.func (PySem.W.fnOf x qual (YM st) (ZR st) (Zd st) .none kV doc pm an cdv ct),osl⟩)
  (c:codeIn K cdv qual=true) (k:keepIn K (.ref f)=true):Fun K x qual st f (PySem.W.fnOf x qual (YM st) (ZR st) (Zd st) .none kV doc pm an cdv ct):=⟨⟨oc,od,kV,doc,pm,an,cdv,ct,osl,rfl,l,c⟩,k⟩
end
section
variable {X:Cx}
theorem pv (i:Nat){x:Str}{pos:Pos}(hN:X.N[i]?=some x:=by rfl)(hv:Vis X.env.scope x:=by first | exact Or.inl rfl | exact Or.inr (Or.inl rfl) | exact Or.inr (Or.inr rfl))(hd:(x==("__debug__" : Str))=false:=by decide)
  (hcd:(x==("__classdict__" : Str))=false:=by decide):PE X (.Name x pos) (JP i):=zfK hN hv hd hcd
end
def Zm (H H' : Hp):Prop:=∀ b o,H b=some o->H' b=some o
theorem Zm.refl (H:Hp):Zm H H:=λ_ _ h=>h
theorem Zm.trans {H H1 H2:Hp}(a:Zm H H1)(b:Zm H1 H2):Zm H H2:=λc o h=>b c o (a c o h)
theorem Zm.free {H H' : Hp}(e:Zm H H'){l:Addr}(h:H' l=Option.none):H l=Option.none:=by
 cases q:H l with
 | none=>rfl
 | some o=>
  rw[e l o q] at h
  cases h
theorem Zm.seq {K:PySem.W.Frag}{H H' : Hp}{a:Addr}{xs:List V}(e:Zm H H')(h:SqL K H a xs):SqL K H' a xs:=by
 rcases h with (h | ⟨o,h⟩) | h
 ·exact .inl (.inl (e _ _ h))
 ·exact .inl (.inr ⟨o,e _ _ h⟩)
 ·exact .inr h
section
variable {X:Cx}
def zcC (i j:Int):Prop:=i.natAbs<2 ^ 4000/\j.natAbs<2 ^ 4000
theorem zcC.ok {i j:Int}(h:zcC i j):IntMulOk i j:=
 IntMulOk.of_le (m:=4000) (n:=4000) (intBits_le_iff.mpr h.1) (intBits_le_iff.mpr h.2) (by decide)
theorem Wo:OpR X (binaryOp .Mult) (rI zcC λi j=>.int (i*j)):=opI λ_ _ _ _ _ _ _ hc q=>mul_int q hc.ok
def zhI (i j:Int):Prop:=j≠0/\j.natAbs<2 ^ 4000
theorem zib {i j:Int}(h:zhI i j):Builtin.divisionGoesByPylong i j=false:=by
 refine PyProof.noPylong_of_log2 ?_
 have h0:j.natAbs≠0:=by have:=h.1;omega
 have:=(Nat.log2_lt h0).mpr h.2
 omega
def zhz (i j:Int):Prop:=0<j/\j.natAbs<2 ^ 4000
theorem WW:OpR X (binaryOp .FloorDiv) (rI zhz λi j=>.int (i / j)):=opI λi j _ _ _ _ _ hc q=>by
 refine floordiv_int (by have:=hc.1;omega) ?_ (.inl (zib ⟨by have:=hc.1;omega,hc.2⟩))
 rw[Int.fdiv_eq_ediv_of_nonneg i (by have:=hc.1;omega)]
 exact q
end
noncomputable def zat (env:Env):List (Str×NameKind)->List (Str×Addr)->List (Str×Addr)
 | [],acc=>acc
 | (n,k)::r,acc=>zat env r (if (k==NameKind.free)=true then (n,(env.cells.lookup n).getD 0)::acc else acc)
theorem U4 {env:Env}:∀ (names:List (Str×NameKind)) (acc:List (Str×Addr)),(∀ p∈names,p.2 = .free->∃ c,env.cells.lookup p.1=some c)->
  (forIn names acc λ(x:Str×NameKind) (cs:List (Str×Addr))=>(match x with
   | (name,kind)=>if (kind==NameKind.free)=true then (do let __do_lift ← cellOf env name;pure (ForInStep.yield ((name,__do_lift)::cs))) else pure (ForInStep.yield cs):Sem (ForInStep (List (Str×Addr)))))=pure (zat env names acc):=by
 intro names
 induction names with
 | nil=>intro acc _;rfl
 | cons p r ih=>
  intro acc h
  obtain ⟨n,k⟩:=p
  rw[List.forIn_cons]
  have hr:=λacc=>ih acc λq hq=>h q (mem_cons_of_mem _ hq)
  by_cases hk:k = .free
  ·subst hk
   obtain ⟨c,hc⟩:=h (n,.free) mem_cons_self rfl
   have e:cellOf env n=pure c:=by unfold cellOf;rw[hc]
   simp only[beq_self_eq_true,if_true,e,pure_bind]
   rw[hr]
   simp only[zat,beq_self_eq_true,if_true,hc,Option.getD_some]
  ·have hb:(k==NameKind.free)=false:=by simpa using hk
   simp only[hb,false_eq_true,if_false,pure_bind]
   rw[hr]
   simp only[zat,hb,false_eq_true,if_false]
theorem Wc {env:Env}{scope:Scope}(h:∀ p∈scope.names,p.2 = .free->∃ c,env.cells.lookup p.1=some c):closureFor scope env=pure (zat env scope.names []):=by
 unfold closureFor
 have e:=U4 (env:=env) scope.names [] h
 simp only[e,pure_bind]
theorem Ua {env:Env}{y:Str}{c:Addr}:∀ {names:List (Str×NameKind)}{acc:List (Str×Addr)},(∀ p∈names,p.2 = .free->∃ c,env.cells.lookup p.1=some c)->(∀ y c,acc.lookup y=some c->env.cells.lookup y=some c)->
  (zat env names acc).lookup y=some c->env.cells.lookup y=some c
 | [],_,_,ha,e=>ha _ _ e
 | (n,k)::r,acc,h,ha,e=>by
  refine Ua (names:=r) (λp hp=>h p (mem_cons_of_mem _ hp)) (λy c q=>?_) e
  by_cases hk:(k==NameKind.free)=true
  ·rw[if_pos hk] at q
   obtain ⟨c',hc'⟩:=h (n,k) mem_cons_self (by simpa using hk)
   rw[List.lookup_cons] at q
   cases hy:y==n with
   | true=>
    rw[hy] at q
    have hy' : y=n:=by simpa using hy
    subst hy'
    rw[hc'] at q
    cases q
    exact hc'
   | false=>
    rw[hy] at q
    exact ha y c q
  ·rw[if_neg hk] at q
   exact ha y c q
theorem Ur {env:Env}{y:Str}:∀ {names:List (Str×NameKind)}{acc:List (Str×Addr)},(acc.lookup y).isSome=true->((zat env names acc).lookup y).isSome=true
 | [],_,h=>h
 | (n,k)::r,acc,h=>by
  refine Ur (names:=r) ?_
  split
  ·rw[List.lookup_cons]
   split
   ·rfl
   ·exact h
  ·exact h
theorem Qm {env:Env}{y:Str}:∀ {names:List (Str×NameKind)}{acc:List (Str×Addr)},(y,NameKind.free)∈names->((zat env names acc).lookup y).isSome=true
 | (n,k)::r,acc,h=>by
  rcases mem_cons.mp h with e | h
  ·cases e
   refine Ur (names:=r) ?_
   rw[if_pos (by simp),List.lookup_cons]
   simp
  ·exact Qm (names:=r) h
abbrev Z0 (X:Cx)(scope:Scope)(Nc:List Str)(C:Addr)(s0:Shared)(H0:Hp)(ex:List Addr):Cx:=
 { X with N:=Nc,s₀:=s0,H₀:=H0,env:=compEnvC scope (zat X.env scope.names []) C X.env,outer:=X.stack,ex:=ex,fn:=λ_=>false,pn:=[],xe:=λ_ _=>False }
structure ZV (fr sc:Scope)(xs cap:List Str):Prop where
 kind:sc.kind = .function
 cell:∀ p∈sc.names,p.2≠.cell
 names:∀ p∈sc.names,p.2 = .local->sc.names.lookup p.1=some .local
 free:∀ p∈sc.names,p.2 = .free->fr.names.lookup p.1=some .cell
 caps:∀ y∈cap,(y,NameKind.free)∈sc.names
 noboth:∀ y∈cap,sc.names.lookup y≠some .local
structure Xq (fr sc:Scope)(x:Str)(cap:List Str):Prop where
 kind:sc.kind = .function
 cell:∀ p∈sc.names,p.2≠.cell
 names:∀ p∈sc.names,p.2 = .local->sc.names.lookup p.1=some .local
 tgt:sc.names.lookup x=some .local
 free:∀ p∈sc.names,p.2 = .free->fr.names.lookup p.1=some .cell
 caps:∀ y∈cap,(y,NameKind.free)∈sc.names
 nd:(x::cap).Nodup
 noboth:∀ y∈cap,sc.names.lookup y≠some .local
theorem W5 {sc:Scope}{env:Env}{y:Str}{k:NameKind}(h:(y,k)∈(relabel sc env).names):∃ k',(y,k')∈sc.names/\(k=k' \/ (k' = .free/\k = .cell)):=by
 unfold relabel at h
 obtain ⟨⟨n,k'⟩,hm,e⟩:=mem_map.mp h
 by_cases hc:(k'==NameKind.free&&env.scope.kind == .function&&env.kindOf n==some .cell)=true
 ·have e:(n,NameKind.cell)=(y,k):=by simpa [hc] using e
  cases e
  refine ⟨k',hm,.inr ⟨?_,rfl⟩⟩
  rw[and_eq_true,and_eq_true] at hc
  simpa using hc.1.1
 ·have e:(n,k')=(y,k):=by simpa [hc] using e
  cases e
  exact ⟨k,hm,.inl rfl⟩
section
variable {X:Cx}{pins:List (Addr×Obj)}{σ:St}{H:Hp}{s:Shared}{sc:Scope}{xs cap:List Str}
theorem ZV.cells (S:ZV X.env.scope sc xs cap)(ok:X.Ok):∀ p∈sc.names,p.2 = .free->∃ c,X.env.cells.lookup p.1=some c:=
 λp hp e=>ok.has p.1 (.inl (S.free p hp e))
theorem ZV.sub (S:ZV X.env.scope sc xs cap)(ok:X.Ok){y:Str}{c:Addr}(h:(zat X.env sc.names []).lookup y=some c):X.env.cells.lookup y=some c:=
 Ua (S.cells ok) (λ_ _ z=>by simp at z) h
theorem zci {a b:Addr}(h:a<b):a≠b:=ne_of_lt h
noncomputable def Ju (σ:St) (js:List Nat):St:=js.map λj=>(σ[j]?).join
theorem za2 (S:ZV X.env.scope sc xs cap){js:List Nat}(hjs:js.map (λj=>X.N[j]?)=cap.map some)(I:Inv X pins σ H s){fp:List Addr}(hf:∀ b∈fp,zau X pins H b)(hlt:∀ b∈fp,b<s.heap.objs.size)
  {h1:Heap}{tk:Nat}{D C:Addr}{oD:Obj}{m:Str->Option Value}(hD:D=s.heap.objs.size) (hC:C=s.heap.objs.size+1) (keep:∀ b o,s.heap.get? b=some o->h1.get? b=some o) (hoD:h1.get? D=some oD) (hnc:∀ v,oD.data≠.cell v) (hns:h1.Ns C m):
  Inv (Z0 X sc (xs++cap) C s H fp) [(D,oD)] (xs.map (λ_=>none)++Ju σ js) H { s with heap:=h1,toks:=tk }:=by
 subst hD hC
 have lenJ:js.length=cap.length:=by have:=congrArg List.length hjs;simpa using this
 have ok:=I.ok
 refine ⟨⟨ok.mod,S.kind,ok.glob,ok.blt,?_,λy z c h1 h2=>ok.inj y z c (S.sub ok h1) (S.sub ok h2),λy hy=>?_,(λy c h=>Bool.noConfusion h),ok.hd,ok.frames,.inl rfl,λb hb=>⟨?_,λy c e=>(hf b hb).2.2.2.2.1 y c (S.sub ok e)⟩,I.bs,Nat.le_trans ok.bsz I.sz,λb o e hb=>?_,λb hb hb' => ?_,I.stack,I.Vv⟩,
  rfl,I.bare,Un.kept keep,⟨m,hns,λi y v e1 e2 e3=>?_⟩,λy c e=>?_,I.hok.fresh (le_succ _),λy c e=>I.freeC y c (S.sub ok e),λp hp=>?_,I.hok.kept keep,?_⟩
 ·exact le_succ _
 ·have hy' : ∃ k,(y,k)∈(relabel sc X.env).names/\(k = .cell\/k = .free):=by
   rcases hy with hy | hy
   ·exact ⟨_,PySem.mem_of_lookup hy,.inl rfl⟩
   ·exact ⟨_,PySem.mem_of_lookup hy,.inr rfl⟩
  obtain ⟨k,hm,hk⟩:=hy'
  obtain ⟨k',hm',hk'⟩:=W5 hm
  have hfree:k' = .free:=by
   rcases hk' with e | ⟨e,_⟩
   ·subst e
    rcases hk with e | e
    ·exact absurd e (S.cell _ hm')
    ·exact e
   ·exact e
  subst hfree
  exact Option.isSome_iff_exists.mp (Qm hm')
 ·exact zci (lt_succ_of_lt (hlt b hb))
 ·obtain ⟨_,_,_,z,_⟩:=hf b hb
  rcases z with z | z
  ·exact ok.noex b o e z
  ·have:=lt_size (ok.bs b o e).1
   exact absurd (Nat.lt_of_lt_of_le this z) (lt_irrefl _)
 ·obtain ⟨_,z1,z2,_⟩:=hf b hb
  rcases mem_cons.mp (I.Uy b hb') with z | z
  ·exact z1 z
  ·exact z2 z
 ·have e2:(xs.map (λ_=>(none:Option V))++Ju σ js)[i]?=some (some v):=e2
  have e1:(xs++cap)[i]?=some y:=e1
  by_cases hi:i<xs.length
  ·rw[getElem?_append_left (by rw[length_map];exact hi),getElem?_map,List.getElem?_eq_getElem hi] at e2
   cases e2
  ·obtain ⟨i,rfl⟩:∃ i',i=xs.length+i' := ⟨i-xs.length,by omega⟩
   rw[getElem?_append_right (by rw[length_map];omega),length_map,add_sub_cancel_left] at e2
   rw[getElem?_append_right (by omega),add_sub_cancel_left] at e1
   have e1' := e1
   have e2' := e2
   have hy:y∈cap:=mem_of_getElem? e1'
   unfold Ju at e2'
   rw[getElem?_map] at e2'
   cases ej:js[i]? with
   | none=>rw[ej] at e2';cases e2'
   | some j=>
    rw[ej] at e2'
    have e2'' : (σ[j]?).join=some v:=Option.some.inj e2'
    have eN:X.N[j]?=some y:=by
     have:=congrArg (λl=>l[i]?) hjs
     simp only[getElem?_map,ej,e1',Option.map_some] at this
     exact Option.some.inj this
    have eσ:σ[j]?=some (some v):=by
     cases q:σ[j]? with
     | none=>rw[q] at e2'';cases e2''
     | some w' =>
      rw[q] at e2''
      have:w'=some v:=by simpa using e2''
      rw[this]
    have kc:X.env.scope.names.lookup y=some .cell:=S.free (y,.free) (S.caps y hy) rfl
    obtain ⟨m0,hn0,hl0⟩:=I.loc
    obtain ⟨u,ru,lk⟩:=hl0 j y v eN eσ (.inr (.inl kc))
    refine ⟨u,ru,?_⟩
    rcases lk with ⟨k,_⟩ | ⟨_,c,ec,hc⟩
    ·have k' : X.env.scope.names.lookup y=some .local:=k
     rw[kc] at k';cases k'
    ·obtain ⟨c',hc'⟩:=Option.isSome_iff_exists.mp (Qm (env:=X.env) (acc:=[]) (S.caps y hy))
     have hcc:c'=c:=Option.some.inj ((S.sub ok hc').symm.trans ec)
     subst hcc
     refine .inr ⟨?_,c',hc',?_⟩
     ·rcases e3 with e3 | e3 | e3
      ·exfalso
       have hm:=PySem.mem_of_lookup e3
       obtain ⟨k',hm',hk'⟩:=W5 hm
       rcases hk' with e | ⟨_,e⟩
       ·subst e
        exact S.noboth y hy (S.names _ hm' rfl)
       ·cases e
      ·exact .inl e3
      ·exact .inr e3
     ·obtain ⟨o,ho,hd⟩:=hc
      exact ⟨o,keep _ o ho,hd⟩
 ·obtain ⟨v,o,ho,hd⟩:=I.cell y c (S.sub ok e)
  exact ⟨v,o,keep _ o ho,hd⟩
 ·have hp' : p=(s.heap.objs.size,oD):=by simpa using hp
  subst hp'
  refine ⟨hoD,I.hok.fresh (Nat.le_refl _),zci (Nat.lt_succ_self _),λhb=>?_,hnc⟩
  obtain ⟨_,o,ho,_⟩:=I.stack.mem hb
  exact lt_irrefl _ (lt_size ho)
 ·show (xs.map (λ_=>(none:Option V))++Ju σ js).length=(xs++cap).length
  unfold Ju
  simp[lenJ]
theorem Qx (S:ZV X.env.scope sc xs cap)(I:Inv X pins σ H s){fp:List Addr}(hf:∀ b∈fp,zau X pins H b){D C:Addr}{pn' : List (Addr×Obj)}{σ' : St}{H' : Hp}{s' : Shared}{ys:List V}{its:List Value}{k:Nat}{h' : Heap}
  (hD:D=s.heap.objs.size) (hC:C=s.heap.objs.size+1) (J:Inv (Z0 X sc (xs++cap) C s H fp) pn' σ' H' s') (hnD:H' D=none) (hoD:s'.heap.get? D=some { cls:=.type "list",data:=.seq its.toArray k }) (rv:Vals ys its) (hz:ys.length<=sizeLine)
  (hs:SameBut C s'.heap h'):Inv X pins σ (upd H' D (.lst ys)) { s' with heap:=h' }:=by
 subst hD hC
 have base:Un (frs X.stack) fp H H' s.heap s'.heap:=J.base
 have hnC:H' (s.heap.objs.size+1)=none:=J.free
 have neC:∀ {b:Addr}{o:Obj},s.heap.get? b=some o->b≠s.heap.objs.size+1:=λe=>zci (lt_succ_of_lt (lt_size e))
 have neD:∀ {b:Addr}{o:Obj},s.heap.get? b=some o->b≠s.heap.objs.size:=λe=>zci (lt_size e)
 have neDH:∀ {b:Addr}{o:HO},H b=some o->b≠s.heap.objs.size:=λe=>zci (I.hok.lt e)
 refine I.call' (s' := { s' with heap:=h' }) (ch:=fp) J.os ⟨λb o e n hb hx=>?_,λb o e n hb hx=>?_,λb o e n hx=>?_,λb o e hx=>?_,λb xs e=>?_,λb o u e=>?_,λb ps e=>?_⟩ (λb u e=>?_) J.bare λb hb=>?_
 ·exact (hs.2 b (neC e)).trans (base.keep b o e n hb hx)
 ·obtain ⟨sl,q⟩:=base.slot b o e n hb hx
  exact ⟨sl,(hs.2 b (neC e)).trans q⟩
 ·rw[Zk (neD e)];exact base.free b o e n hx
 ·obtain ⟨o',q⟩:=base.there b o e hx
  exact ⟨o',(hs.2 b (neC e)).trans q⟩
 ·rw[Zk (neDH e)];exact base.tups b xs e
 ·rw[Zk (neDH e)];exact base.frzs b o u e
 ·rw[Zk (neDH e)];exact base.tbls b ps e
 ·by_cases hb:b=s.heap.objs.size
  ·subst hb
   rw[Zn] at e
   cases e
   exact ⟨hz,its,k,rv,(hs.2 _ (zci (Nat.lt_succ_self _))).trans hoD⟩
  ·rw[Zk hb] at e
   have J' : Yh X.prog X.w H' s'.heap b u:=J.hok b u e
   refine J'.stay (λc v hc q=>(hs.2 c ?_).trans q) (λc q=>?_) (λc xs q=>?_) λc o u q=>?_
   ·rintro rfl
    rcases hc with rfl | hc
    ·rw[hnC] at e;cases e
    ·rw[hnC] at hc;cases hc
   ·rw[Zk (Zx q hnD)];exact q
   ·rw[Zk (Zx q hnD)];exact q
   ·rw[Zk (Zx q hnD)];exact q
 ·obtain ⟨_,z1,_,z3,z4,z5⟩:=hf b hb
  exact ⟨z3,z1,z4,z5⟩
end
section
variable {X:Cx}{pins:List (Addr×Obj)}{σ:St}{H:Hp}{s:Shared}{sc:Scope}{x:Str}{cap:List Str}
def PIf (X:Cx)(ifs:List Expr)(t:TT):Prop:=
 ∀ (pins:List (Addr×Obj)) (s:Shared) (σ:St) (H:Hp) (Q:Bool->Hp->Prop),Inv X pins σ H s->t σ H Q->
  wpAny (model X.prog X.w) X.A (forIn ifs true λc r=>if r=true then do let ok ← isTrue c X.env (eval c X.env);pure (ForInStep.yield ok) else pure (ForInStep.yield r)) (TP X pins σ Q) X.xe s
def zd0:TT:=λ_ H Q=>Q true H
theorem zdM {X:Cx}:PIf X [] zd0:=λ_ _ _ H _ I h=>wpAny_tests_nil ⟨H,I,h⟩
theorem Vu {X:Cx}{c:Expr}{t:TT}(h:PT X c t):PIf X [c] t:=λpins s σ H Q I q=>wpAny_tests_one (h pins s σ H Q I q)
end
section
variable {prog:Program}{w:World}{A:Around}{R:Result->Shared->Prop}{s:Shared}
theorem zah {elt target iter:Expr}{ifs:List Expr}{scope:Scope}{pos:Pos}{it acc:Value}{env:Env}(J:Nat->Shared->Prop)
  (turn:∀ n s,J n s->wpAny (model prog w) A (pyNext it) (λr s₁=>match r with
   | none=>R (.ok .next) s₁
   | some v=>wpAny (model prog w) A (letOwnedTupleGo target it v) (λ_ s₂=>wpAny (model prog w) A (assign target env v) (λ_ s₃=>
     wpAny (model prog w) A (forIn ifs true λc r=>if r=true then do let ok ← isTrue c env (eval c env);pure (ForInStep.yield ok) else pure (ForInStep.yield r)) (λok s₄=>
      if ok=true then wpAny (model prog w) A (eval elt env) (λx s₅=>
       wpAny (model prog w) A (call (.builtin "list.append") [acc,x]) (λ_ s₆=>∃ m,m<n/\J m s₆) (λ_ _=>False) s₅) (λ_ _=>False) s₄
      else ∃ m,m<n/\J m s₄) (λ_ _=>False) s₃) (λ_ _=>False) s₂) (λ_ _=>False) s₁) (λ_ _=>False) s)
  (n:Nat) (h:J n s):codeAny (model prog w) A (.compLoop (.ListComp elt [⟨target,iter,ifs,0⟩] scope pos) 0 it acc env) R s:=by
 refine codeAny_loop rfl J (λn s hJ=>?_) n h
 show wpAny _ A ((compTurn (.ListComp elt [⟨target,iter,ifs,0⟩] scope pos) 0 it acc env).onRaise (λx=>do noteFrame x env;theTreesLotGoes x)) _ _ s
 refine wpAny_noted ?_
 rw[compTurn_list]
 refine wpAny_bind (wpAny_standAt (wpAny_bind (wpAny_mono (turn n s hJ) (λr s₁ h₁=>?_) λ_ _ z=>z.elim)))
 cases r with
 | none=>exact wpAny_pure h₁
 | some v=>
  refine wpAny_bind (wpAny_mono h₁ (λ_ s₂ h₂=>?_) λ_ _ z=>z.elim)
  refine wpAny_bind (wpAny_mono h₂ (λ_ s₃ h₃=>wpAny_bind (wpAny_mono h₃ (λok s₄ h₄=>?_) λ_ _ z=>z.elim)) λ_ _ z=>z.elim)
  cases ok with
  | false=>exact wpAny_pure ⟨rfl,h₄⟩
  | true=>
   exact wpAny_bind (wpAny_bind (wpAny_mono h₄ (λx s₅ h₅=>wpAny_bind (wpAny_mono h₅ (λ_ s₆ h₆=>wpAny_pure (wpAny_pure ⟨rfl,h₆⟩)) λ_ _ z=>z.elim)) λ_ _ z=>z.elim))
end
section
variable {X:Cx}{pins:List (Addr×Obj)}{σ:St}{H:Hp}{s:Shared}{sc:Scope}{x:Str}{cap:List Str}
def LCw (J:It)(js:List Nat)(σ:St)(tt:TT)(te:TE)(Q:VK)(W:Nat->Nat->List V->Hp->Prop):Prop:=
 ∀ i m ys H,W i m ys H->ys.length<sizeLine/\
  ((J.stop i H/\∀ p,H p=none->Q (.ref p) (upd H p (.lst ys)))\/
   (J.go i H/\∀ x H',J.yld i H x H' -> tt (some x::Ju σ js) H' λb H2=>if b=true then te (some x::Ju σ js) H2 λv H3=>∃ m',m'<m/\W (i+1) m' (ys++[v]) H3 else ∃ m',m'<m/\W (i+1) m' ys H2))
def tLC (wi:TI)(js:List Nat)(tt:TT)(te:TE):TE:=fun σ H Q=>wi σ H λJ H1=>∃ W:Nat->Nat->List V->Hp->Prop,(∃ m,W 0 m [] H1)/\LCw J js σ tt te Q W
def zhd (n:Nat)(J:It)(js:List Nat)(σ:St)(g:TG)(tt:TT)(te:TE)(Q:VK)(W:Nat->Nat->List V->Hp->Prop):Prop:=
 ∀ i m ys H,W i m ys H->ys.length<sizeLine/\
  ((J.stop i H/\∀ p,H p=none->Q (.ref p) (upd H p (.lst ys)))\/
   (J.go i H/\∀ x H',J.yld i H x H' -> ∀ ws:List (Option V),ws.length=n->g x (ws++Ju σ js) H' fun σ2 H2=>∃ ws',σ2=ws'++Ju σ js/\ws'.length=n/\tt σ2 H2 λb H3=>if b=true then te σ2 H3 λv H4=>∃ m',m'<m/\W (i+1) m' (ys++[v]) H4 else ∃ m',m'<m/\W (i+1) m' ys H3))
end
section
variable {X:Cx}{pins:List (Addr×Obj)}{σ:St}{H:Hp}{s:Shared}{sc:Scope}{xs cap:List Str}
theorem Ve {Φ:Cx->Prop}(S:ZV X.env.scope sc xs cap){js:List Nat}(hjs:js.map (λj=>X.N[j]?)=cap.map some)(hc:∀ C s0 H0 ex,Φ (Z0 X sc (xs++cap) C s0 H0 ex)){elt iter:Expr}{ifs:List Expr}{pos:Pos}{tg:Expr}{g:TG}{tt:TT}{te:TE}(hg:∀ C s0 H0 ex,PG (Z0 X sc (xs++cap) C s0 H0 ex) tg g)
  {fp:List Addr}(hb:∀ C,PIf (Z0 X sc (xs++cap) C s H fp) ifs tt/\PE (Z0 X sc (xs++cap) C s H fp) elt te)
  (I:Inv X pins σ H s) {J:It}{it:Addr}{tn:Nat->Heap->Prop}(T:zfF Φ X.prog X.w X.K tg J fp it tn) (st:tn 0 s.heap) (hf:∀ b∈fp,zau X pins H b)
  {Q:VK}{W:Nat->Nat->List V->Hp->Prop}(w0:∃ m,W 0 m [] H) (turn:zhd xs.length J js σ g tt te Q W) {RR:Value->Addr->Result->Shared->Prop}{E:Value->Shared->Prop}
  (hR:∀ D C s' σ' H' ys its k,D=s.heap.objs.size->C=s.heap.objs.size+1->Inv (Z0 X sc (xs++cap) C s H fp) [(D,{ cls:=.type "list",data:=.seq its.toArray k })] σ' H' s' -> Vals ys its->ys.length<=sizeLine->(∀ p,H' p=none->Q (.ref p) (upd H' p (.lst ys)))->RR (.ref D) C (.ok .next) s'):
  wpAny (model X.prog X.w) X.A (newList []) (λacc s₃=>wpAny (model X.prog X.w) X.A (newFunctionEnv sc X.env.globals (zat X.env sc.names []) [] X.env.qual none .none (some X.env)) (λcenv s₄=>
   codeAny (model X.prog X.w) X.A (.compStart (.ListComp elt [⟨tg,iter,ifs,0⟩] sc pos) 0 (.ref it) acc { cenv with scope:=relabel sc X.env }) (RR acc cenv.locals) s₄) E s₃) E s:=by
 refine wpAny_newObj_type (wpAny_newFunctionEnv S.cell (by intro y hy;simp at hy) (λh₁ hns₁ hsb₁=>?_) S.kind)
 dsimp only at hns₁ hsb₁ ⊢
 have hlt:∀ b∈fp,b<s.heap.objs.size:=λb hb' => by
  obtain ⟨o,e,_⟩:=T.obj 0 _ st b hb'
  exact lt_size e
 generalize hH2:s.heap.push { cls:=.type "list",dict:=none,data:=.seq ([]:List Value).toArray }=H2 at hns₁ hsb₁ ⊢
 have hC:H2.objs.size=s.heap.objs.size+1:=by rw[← hH2,size_push]
 have old:∀ b o,s.heap.get? b=some o->h₁.get? b=some o:=λb o e=>
  hsb₁.extBut b o (by rw[hC];exact zci (lt_succ_of_lt (lt_size e))) (get?_push_of_some _ (hH2 ▸ get?_push_of_some _ e))
 have hacc:h₁.get? s.heap.objs.size=some { cls:=.type "list",data:=.seq ([]:List Value).toArray }:=
  hsb₁.extBut _ _ (by rw[hC];exact zci (Nat.lt_succ_self _)) (get?_push_of_some _ (hH2 ▸ get?_push_size _ rfl))
 have st₁:tn 0 h₁:=T.keep _ _ _ st λb _ o e=>old b o e
 obtain ⟨m0,w0⟩:=w0
 rw[hC] at hns₁ hsb₁ ⊢
 generalize hCe:s.heap.objs.size+1=C at hns₁ hsb₁ hR ⊢
 generalize hDe:s.heap.objs.size=D at hacc hR ⊢
 have hDe' := hDe.symm
 have hC' : C=s.heap.objs.size+1:=hCe.symm
 have ltD:∀ {b:Addr},b<s.heap.objs.size->b≠D:=λh=>by rw[← hDe];exact zci h
 have loop:∀ s₃:Shared,s₃={ s with heap:=h₁,toks:=s.toks+([]:List (Str×Value)).length }->
   codeAny (model X.prog X.w) X.A (.compLoop (.ListComp elt [⟨tg,iter,ifs,0⟩] sc pos) 0 (.ref it) (.ref D) (compEnvC sc (zat X.env sc.names []) C X.env)) (RR (.ref D) C) s₃:=by
  rintro s₃ rfl
  have I0:Inv (Z0 X sc (xs++cap) C s H fp) [(D,{ cls:=.type "list",data:=.seq ([]:List Value).toArray })] (xs.map (λ_=>none)++Ju σ js) H { s with heap:=h₁,toks:=s.toks+([]:List (Str×Value)).length }:=
   za2 S hjs I hf hlt hDe' hC' old hacc (λv z=>by cases z) hns₁
  have fpD:∀ b∈fp,b≠D:=λb hb' => ltD (hlt b hb')
  refine zah (λn s' => ∃ i ws H' ys its k,ws.length=xs.length/\Inv (Z0 X sc (xs++cap) C s H fp) [(D,{ cls:=.type "list",data:=.seq its.toArray k })] (ws++Ju σ js) H' s' /\ tn i s'.heap/\(∀ b∈fp,H' b=none)/\Vals ys its/\W i n ys H')
   ?_ m0 ⟨0,xs.map (λ_=>none),H,[],[],0,length_map _,I0,st₁,λb hb' => (hf b hb').1,.nil,w0⟩
  rintro n s3 ⟨i,ws,H3,ys,its,k,hws,I3,st3,fr3,rv,w3⟩
  obtain ⟨hlen,hor⟩:=turn i n ys H3 w3
  have stat:∀ {H' : Hp} {o:Obj},(∀ b∈fp,H' b=none)->∀ b∈fp,zau (Z0 X sc (xs++cap) C s H fp) [(D,o)] H' b:=λ{H' o} hn b hb' =>
   ⟨hn b hb',(I3.ok.exf b hb').1,I3.ok.exfs b hb',.inl hb',(I3.ok.exf b hb').2,λp hp=>by
    have hp' : p=(D,o):=by simpa using hp
    rw[hp']
    exact Ne.symm (fpD b hb')⟩
  rcases hor with ⟨stop,qn⟩ | ⟨go,step⟩
  ·refine thn (T.done (Z0 X sc (xs++cap) C s H fp) rfl rfl rfl (hc _ _ _ _) i _ s3 _ H3 _ I3 (stat fr3) st3 stop) λr s4 ⟨hr,I4⟩=>?_
   subst hr
   exact hR D C s4 _ H3 ys its k rfl rfl I4 rv (le_of_lt hlen) qn
  ·refine thn (T.item (Z0 X sc (xs++cap) C s H fp) rfl rfl rfl (hc _ _ _ _) i _ s3 _ H3 _ I3 (stat fr3) st3 go) λr s4 ⟨u,hr,h4⟩=>?_
   subst hr
   refine thn h4 λ_ s5 ⟨xv,H5,I5,r5,y5,st5,fr5⟩=>?_
   have I5' := I5.pinned (stat fr5) (T.obj _ _ st5)
   refine thn (hg C s H fp _ s5 _ H5 xv u _ I5' r5 (step xv H5 y5 ws hws)) λ_ s6 ⟨σ6,H6,I6,ws',e6,hws',q6⟩=>?_
   subst e6
   refine thn ((hb C).1 _ s6 _ H6 _ I6 q6) λok s7 ⟨H7,I7,q7⟩=>?_
   have fin:∀ {s8:Shared}{H8:Hp}{σ8:St},Inv (Z0 X sc (xs++cap) C s H fp) ([(D,{ cls:=.type "list",data:=.seq its.toArray k })]++Wz fp s5.heap) σ8 H8 s8->tn (i+1) s8.heap/\(∀ b∈fp,H8 b=none)/\s8.heap.get? D=some { cls:=.type "list",data:=.seq its.toArray k }/\H8 D=none/\D≠C:=λ{s8 H8 σ8} I8=>by
    have pinD:=I8.pin (D,{ cls:=.type "list",data:=.seq its.toArray k }) (mem_append_right _ (List.mem_append_left _ (mem_singleton.mpr rfl)))
    have pinF:∀ b∈fp,∀ o,s5.heap.get? b=some o->s8.heap.get? b=some o/\H8 b=none:=λb hb' o e=>
     have z:=I8.pin (b,o) (mem_append_right _ (mem_append_right _ (Wr hb' e)))
     ⟨z.1,z.2.1⟩
    refine ⟨T.keep _ _ _ st5 λb hb' o e=>(pinF b hb' o e).1,λb hb' => ?_,pinD.1,pinD.2.1,pinD.2.2.1⟩
    obtain ⟨o,e,_⟩:=T.obj _ _ st5 b hb'
    exact (pinF b hb' o e).2
   cases ok with
   | false=>
    rw[if_neg Bool.false_ne_true] at q7 ⊢
    obtain ⟨m',hm,w7⟩:=q7
    obtain ⟨f1,f2,_⟩:=fin I7
    exact ⟨m',hm,i+1,ws',H7,ys,its,k,hws',I7.WY,f1,f2,rv,w7⟩
   | true=>
    rw[if_pos rfl] at q7 ⊢
    refine thn ((hb C).2 _ s7 _ H7 _ I7 q7) λu8 s8 ⟨v,H8,I8,r8,q8⟩=>?_
    obtain ⟨f1,f2,f3,f4,f5⟩:=fin I8
    obtain ⟨m',hm,w8⟩:=q8
    have rv' : Vals (ys++[v]) (its++[u8]):=rv.append (.cons r8 .nil)
    refine wpAny_list_append_plain ⟨k,f3⟩ (λh9 hl9 hs9=>?_) (by rw[size_toArray,← rv.length];exact le_of_lt hlen)
    obtain ⟨k9,e9⟩:=hl9
    have e9' : h9.get? D=some { cls:=.type "list",data:=.seq (its++[u8]).toArray k9 }:=by rw[e9];simp
    have In:Inv (Z0 X sc (xs++cap) C s H fp) (Wz fp s5.heap) (ws'++Ju σ js) H8 s8:=I8.JZ λp hp=>I8.pin p (mem_append_right _ (mem_append_right _ hp))
    have It' : Inv (Z0 X sc (xs++cap) C s H fp) (Wz fp s5.heap) (ws'++Ju σ js) H8 { s8 with heap:=h9 }:=
     In.turned (it:=D) (h' := h9) (t' := s8.toks) (λb o hb' e=>hs9.extBut b o hb' e) f4 f5 (.inr (le_of_eq hDe)) (λy c e z=>by
      obtain ⟨v',o,ho,_⟩:=I.cell y c (S.sub I.ok e)
      exact ltD (lt_size ho) z) λp hp z=>by
      have hp' : p∈Wz fp s5.heap:=by simpa using hp
      exact fpD p.1 (Vh hp').1 z
    refine ⟨m',hm,i+1,ws',H8,ys++[v],its++[u8],k9,hws',It'.JZ λp hp=>?_,T.keep _ _ _ f1 λb hb' o e=>hs9.extBut b o (fpD b hb') e,f2,rv',w8⟩
    have hp' : p=(D,{ cls:=.type "list",data:=.seq (its++[u8]).toArray k9 }):=by simpa using hp
    subst hp'
    refine ⟨e9',f4,f5,λhb' => ?_,λv z=>by cases z⟩
    obtain ⟨_,o,ho,_⟩:=I.stack.mem hb'
    exact ltD (lt_size ho) rfl
 exact codeAny_compStart_list (loop _ rfl) (T.self X.A 0 _ _ _ st₁ (loop _ rfl))
theorem zg7 {J:It}{js:List Nat}{tt:TT}{te:TE}{Q:VK}{W:Nat->Nat->List V->Hp->Prop}(h:LCw J js σ tt te Q W):zhd 1 J js σ (WQ 0) tt te Q W:=λi m ys H w=>by
 obtain ⟨a,b⟩:=h i m ys H w
 refine ⟨a,b.imp id λ⟨go,st⟩=>⟨go,λx H' y ws hw=>?_⟩⟩
 match ws,hw with
 | [v],_=>exact ⟨[some x],rfl,rfl,st x H' y⟩
end
section
variable {X:Cx}{pins:List (Addr×Obj)}{σ:St}{H:Hp}{s:Shared}{sc:Scope}{x:Str}{cap:List Str}
theorem Xq.n {fr:Scope}(S:Xq fr sc x cap):ZV fr sc [x] cap:=⟨S.kind,S.cell,S.names,S.free,S.caps,S.noboth⟩
theorem Xq.pg (S:Xq X.env.scope sc x cap){px:Pos}(C:Addr)(s0:Shared)(H0:Hp)(ex:List Addr):PG (Z0 X sc ([x]++cap) C s0 H0 ex) (.Name x px) (WQ 0):=Z5 S.nd rfl (.inl (lookup_relabel_local S.tgt)) (.inr (lookup_relabel_local S.tgt))
theorem zgz (S:Xq X.env.scope sc x cap){js:List Nat}(hjs:js.map (λj=>X.N[j]?)=cap.map some)(hc:X.calm=true)(hxe:∀ e s,¬ X.xe e s){elt iter:Expr}{ifs:List Expr}{pos px:Pos}{wi:TI}{tt:TT}{te:TE}
  (hi:PI X (.Name x px) iter wi) (hb:∀ C s0 H0 ex,PIf (Z0 X sc (x::cap) C s0 H0 ex) ifs tt/\PE (Z0 X sc (x::cap) C s0 H0 ex) elt te)
  (hs:∀ x,foldedSetIterable iter X.env x=pure x:=by intro _;rfl):PE X (.ListComp elt [⟨.Name x px,iter,ifs,0⟩] sc pos) (tLC wi js tt te):=by
 intro pins s σ H Q I h
 rw[eval_ListComp]
 refine wpAny_comprehension_free (use:=none) rfl hs (Wc (S.n.cells I.ok)) S.kind S.names (thn (hi pins s σ H _ I h) λxv s₁ h₁=>thn h₁ λitv s₂ h₂=>?_)
 obtain ⟨it,fp,tn,J,H2,e,I2,T,st2,f2,W,w0,turn⟩:=h₂
 subst e
 refine Ve (xs:=[x]) (Q:=Q) (RR:=λacc C=>compPost (model X.prog X.w) X.A X.xe none (EP X pins σ Q) acc C) S.n hjs (λ_ _ _ _=>hc) S.pg (λC=>hb C _ _ _) I2 T st2 f2 w0 (zg7 turn) ?_
 intro D C s' σ' H' ys its k hD hC J' rv hz q
 obtain ⟨m,hn,_⟩:=J'.loc
 have pinD:=J'.pin (D,{ cls:=.type "list",data:=.seq its.toArray k }) (mem_append_right _ (mem_singleton.mpr rfl))
 exact ⟨m,hn,λh' hs' => ⟨.ref D,_,Qx (xs:=[x]) S.n I2 f2 hD hC J' pinD.2.1 pinD.1 rv hz hs',rfl,q D pinD.2.1⟩⟩
end
mutual
def Dat (K:PySem.W.Frag)(G:Hp):V->PyData->Prop
 | v,.none=>v = .non
 | v,.bool b=>v = .bl b
 | v,.int i=>v = .int i
 | v,.str x=>v = .str x
 | v,.list ds=>∃ p xs,v = .ref p/\G p=some (.lst xs)/\Zz K G xs ds
 | v,.tuple ds=>∃ p xs,v = .ref p/\SqT K G p xs/\Zz K G xs ds
 | _,.dict _=>False
def Zz (K:PySem.W.Frag)(G:Hp):List V->List PyData->Prop
 | xs,[]=>xs=[]
 | xs,d::ds=>∃ y ys,xs=y::ys/\Dat K G y d/\Zz K G ys ds
end
theorem Zm.tup {K:PySem.W.Frag}{H H' : Hp}{a:Addr}{xs:List V}(e:Zm H H')(h:SqT K H a xs):SqT K H' a xs:=by
 rcases h with (h | ⟨o,h⟩) | h
 ·exact .inl (.inl (e _ _ h))
 ·exact .inl (.inr ⟨o,e _ _ h⟩)
 ·exact .inr h
section
variable {K:PySem.W.Frag}{G G' : Hp}
theorem Zj (i:Int):Dat K G (.int i) (.int i):=by unfold Dat;rfl
theorem J6 (x:Str):Dat K G (.str x) (.str x):=by unfold Dat;rfl
theorem YH (b:Bool):Dat K G (.bl b) (.bool b):=by unfold Dat;rfl
theorem XH:Dat K G .non .none:=by unfold Dat;rfl
theorem Ww {p:Addr}{xs:List V}{ds:List PyData}(h:SqT K G p xs)(r:Zz K G xs ds):Dat K G (.ref p) (.tuple ds):=by unfold Dat;exact ⟨p,xs,rfl,h,r⟩
theorem Ys {p:Addr}{xs:List V}{ds:List PyData}(h:G p=some (.lst xs))(r:Zz K G xs ds):Dat K G (.ref p) (.list ds):=by unfold Dat;exact ⟨p,xs,rfl,h,r⟩
theorem ZL:Zz K G [] []:=by unfold Zz;rfl
theorem ZD {x:V}{xs:List V}{d:PyData}{ds:List PyData}(h:Dat K G x d)(r:Zz K G xs ds):Zz K G (x::xs) (d::ds):=by
 unfold Zz;exact ⟨x,xs,rfl,h,r⟩
theorem Dat.int {v:V}{i:Int}(h:Dat K G v (.int i)):v = .int i:=by unfold Dat at h;exact h
theorem Dat.str {v:V}{x:Str}(h:Dat K G v (.str x)):v = .str x:=by unfold Dat at h;exact h
theorem Dat.bl {v:V}{x:Bool}(h:Dat K G v (.bool x)):v = .bl x:=by unfold Dat at h;exact h
theorem Dat.non {v:V}(h:Dat K G v .none):v = .non:=by unfold Dat at h;exact h
theorem Dat.tup {v:V}{ds:List PyData}(h:Dat K G v (.tuple ds)):∃ p xs,v = .ref p/\SqT K G p xs/\Zz K G xs ds:=by unfold Dat at h;exact h
theorem Dat.lst {v:V}{ds:List PyData}(h:Dat K G v (.list ds)):∃ p xs,v = .ref p/\G p=some (.lst xs)/\Zz K G xs ds:=by unfold Dat at h;exact h
theorem Zz.nil {xs:List V}(h:Zz K G xs []):xs=[]:=by unfold Zz at h;exact h
theorem Zz.cons {xs:List V}{d:PyData}{ds:List PyData}(h:Zz K G xs (d::ds)):∃ y ys,xs=y::ys/\Dat K G y d/\Zz K G ys ds:=by unfold Zz at h;exact h
theorem Zz.length:∀ {ds:List PyData}{xs:List V},Zz K G xs ds->xs.length=ds.length
 | [],_,h=>by rw[h.nil];rfl
 | d::ds,_,h=>by
  obtain ⟨y,ys,rfl,_,r⟩:=h.cons
  show ys.length+1=ds.length+1
  rw[r.length]
theorem Zz.get:∀ {ds:List PyData}{xs:List V}{i:Nat}{d:PyData},Zz K G xs ds->ds[i]?=some d->∃ x,xs[i]?=some x/\Dat K G x d
 | [],_,_,_,_,e=>by simp at e
 | d::ds,_,0,_,h,e=>by
  obtain ⟨y,ys,rfl,hd,r⟩:=h.cons
  simp at e;subst e;exact ⟨y,rfl,hd⟩
 | d::ds,_,i+1,d',h,e=>by
  obtain ⟨y,ys,rfl,hd,r⟩:=h.cons
  obtain ⟨x,h1,h2⟩:=Zz.get (i:=i) (d:=d') r (by simpa using e)
  exact ⟨x,by simpa using h1,h2⟩
theorem Ye:∀ {ds es:List PyData}{xs ys:List V},Zz K G xs ds->Zz K G ys es->Zz K G (xs++ys) (ds++es)
 | [],_,_,_,h,r=>by rw[h.nil];exact r
 | d::ds,_,_,_,h,r=>by
  obtain ⟨y,ys,rfl,hd,r'⟩:=h.cons
  exact ZD hd (Ye r' r)
theorem Wg {ds:List PyData}{d:PyData}{xs:List V}{x:V}(h:Zz K G xs ds)(r:Dat K G x d):Zz K G (xs++[x]) (ds++[d]):=Ye h (ZD r ZL)
theorem Wb:∀ {ds:List PyData}{xs:List V}(n:Nat),Zz K G xs ds->Zz K G (xs.take n) (ds.take n)
 | _,_,0,_=>ZL
 | [],_,n+1,h=>by rw[h.nil];exact ZL
 | d::ds,_,n+1,h=>by
  obtain ⟨y,ys,rfl,hd,r⟩:=h.cons
  exact ZD hd (Wb n r)
theorem Wi:∀ {ds:List PyData}{xs:List V}(n:Nat),Zz K G xs ds->Zz K G (xs.drop n) (ds.drop n)
 | _,_,0,h=>h
 | [],_,n+1,h=>by rw[h.nil];exact ZL
 | d::ds,_,n+1,h=>by
  obtain ⟨y,ys,rfl,hd,r⟩:=h.cons
  exact Wi n r
theorem Uu:∀ {ds:List PyData}{xs:List V}{x:V}{d:PyData}(n:Nat),Zz K G xs ds->Dat K G x d->Zz K G (xs.set n x) (ds.set n d)
 | [],_,_,_,_,h,_=>by rw[h.nil];exact ZL
 | d::ds,_,_,_,0,h,e=>by
  obtain ⟨y,ys,rfl,hd,r⟩:=h.cons
  exact ZD e r
 | d::ds,_,_,_,n+1,h,e=>by
  obtain ⟨y,ys,rfl,hd,r⟩:=h.cons
  exact ZD hd (Uu n r e)
theorem JF:∀ {ds:List PyData}{xs:List V}(n:Nat),Zz K G xs ds->Zz K G (xs.eraseIdx n) (ds.eraseIdx n)
 | [],_,_,h=>by rw[h.nil];exact ZL
 | d::ds,_,0,h=>by
  obtain ⟨y,ys,rfl,hd,r⟩:=h.cons
  exact r
 | d::ds,_,n+1,h=>by
  obtain ⟨y,ys,rfl,hd,r⟩:=h.cons
  exact ZD hd (JF n r)
theorem Uk:∀ {ds:List PyData}{xs:List V},Zz K G xs ds->Zz K G xs.reverse ds.reverse
 | [],_,h=>by rw[h.nil];exact ZL
 | d::ds,_,h=>by
  obtain ⟨y,ys,rfl,hd,r⟩:=h.cons
  rw[List.reverse_cons,List.reverse_cons]
  exact Wg (Uk r) hd
theorem QK:∀ ns:List Int,Zz K G (ns.map V.int) (ns.map PyData.int)
 | []=>ZL
 | n::ns=>ZD (Zj n) (QK ns)
end
mutual
theorem Dat.same {K:PySem.W.Frag}{G G' : Hp}(e:Zm G G'):∀ {d:PyData}{v:V},Dat K G v d->Dat K G' v d
 | .none,_,h=>by rw[h.non];exact XH
 | .bool b,_,h=>by rw[h.bl];exact YH b
 | .int i,_,h=>by rw[h.int];exact Zj i
 | .str x,_,h=>by rw[h.str];exact J6 x
 | .list ds,_,h=>by
  obtain ⟨p,xs,rfl,h1,h2⟩:=h.lst
  exact Ys (e _ _ h1) (Zz.same e h2)
 | .tuple ds,_,h=>by
  obtain ⟨p,xs,rfl,h1,h2⟩:=h.tup
  exact Ww (e.tup h1) (Zz.same e h2)
 | .dict _,_,h=>by unfold Dat at h;exact h.elim
theorem Zz.same {K:PySem.W.Frag}{G G' : Hp}(e:Zm G G'):∀ {ds:List PyData}{xs:List V},Zz K G xs ds->Zz K G' xs ds
 | [],_,h=>by rw[h.nil];exact ZL
 | d::ds,_,h=>by
  obtain ⟨y,ys,rfl,hd,r⟩:=h.cons
  exact ZD (Dat.same e hd) (Zz.same e r)
end
section
variable {X:Cx}{pins:List (Addr×Obj)}{σ:St}{H G:Hp}{s:Shared}
mutual
theorem Dat.reads (I:Inv X pins σ H s)(e:Zm G H):∀ {d:PyData}{v:V}{u:Value},Dat X.K G v d->RelV v u->∃ as,Reads s.heap u d as
 | .none,_,u,h,r=>by
  rw[h.non] at r
  cases (show u=Value.none from r)
  exact ⟨_,.none⟩
 | .bool b,_,u,h,r=>by
  rw[h.bl] at r
  cases (show u=Value.bool b from r)
  exact ⟨_,.bool b⟩
 | .int i,_,u,h,r=>by
  rw[h.int] at r
  obtain ⟨t,q⟩:=(show ∃ t,u=Value.int i t from r)
  subst q
  exact ⟨_,.int i t⟩
 | .str x,_,u,h,r=>by
  rw[h.str] at r
  obtain ⟨t,q⟩:=(show ∃ t,u=Value.str x t from r)
  subst q
  exact ⟨_,.str x t⟩
 | .list ds,_,u,h,r=>by
  obtain ⟨p,xs,rfl,h1,h2⟩:=h.lst
  cases (show u=Value.ref p from r)
  obtain ⟨its,rv,⟨o,n,e1,c,_,d1⟩,_⟩:=I.list (SqL.of (e _ _ h1))
  obtain ⟨as,ra⟩:=Zz.reads I e h2 rv
  exact ⟨_,Reads.list e1 c d1 (by simpa using ra)⟩
 | .tuple ds,_,u,h,r=>by
  obtain ⟨p,xs,rfl,h1,h2⟩:=h.tup
  cases (show u=Value.ref p from r)
  obtain ⟨its,rv,⟨o,e1,c,n,d1⟩,_⟩:=I.tuple (e.tup h1)
  obtain ⟨as,ra⟩:=Zz.reads I e h2 rv
  exact ⟨_,Reads.tuple e1 c d1 (by simpa using ra)⟩
 | .dict _,_,_,h,_=>by unfold Dat at h;exact h.elim
theorem Zz.reads (I:Inv X pins σ H s)(e:Zm G H):∀ {ds:List PyData}{xs:List V}{us:List Value},Zz X.K G xs ds->Vals xs us->∃ as,ReadsAll s.heap us ds as
 | [],_,us,h,r=>by
  rw[h.nil] at r
  cases r
  exact ⟨_,.nil⟩
 | d::ds,_,us,h,r=>by
  obtain ⟨y,ys,rfl,hd,hr⟩:=h.cons
  cases r with
  | cons r1 r2=>
   obtain ⟨as,ra⟩:=Dat.reads I e hd r1
   obtain ⟨bs,rb⟩:=Zz.reads I e hr r2
   exact ⟨_,.cons ra rb⟩
end
end
mutual
noncomputable def noBool:PyData->Bool
 | .bool _=>false
 | .dict _=>false
 | .list xs=>YB xs
 | .tuple xs=>YB xs
 | .none | .int _ | .str _=>true
noncomputable def YB:List PyData->Bool
 | []=>true
 | x::xs=>noBool x&&YB xs
end
mutual
theorem Uh:∀ a b:PyData,noBool a=true->noBool b=true->SeqAt.noMix a b=true
 | .list xs,.list ys,h,k=>by rw[SeqAt.noMix];exact Jf xs ys (by simpa [noBool] using h) (by simpa [noBool] using k)
 | .tuple xs,.tuple ys,h,k=>by rw[SeqAt.noMix];exact Jf xs ys (by simpa [noBool] using h) (by simpa [noBool] using k)
 | .bool _,_,h,_=>by simp[noBool] at h
 | .dict _,_,h,_=>by simp[noBool] at h
 | .none,.bool _,_,k | .int _,.bool _,_,k | .str _,.bool _,_,k | .list _,.bool _,_,k | .tuple _,.bool _,_,k=>by simp[noBool] at k
 | .none,.dict _,_,k | .int _,.dict _,_,k | .str _,.dict _,_,k | .list _,.dict _,_,k | .tuple _,.dict _,_,k=>by simp[noBool] at k
 | .none,.none,_,_ | .none,.int _,_,_ | .none,.str _,_,_ | .none,.list _,_,_ | .none,.tuple _,_,_=>by simp[SeqAt.noMix]
 | .int _,.none,_,_ | .int _,.int _,_,_ | .int _,.str _,_,_ | .int _,.list _,_,_ | .int _,.tuple _,_,_=>by simp[SeqAt.noMix]
 | .str _,.none,_,_ | .str _,.int _,_,_ | .str _,.str _,_,_ | .str _,.list _,_,_ | .str _,.tuple _,_,_=>by simp[SeqAt.noMix]
 | .list _,.none,_,_ | .list _,.int _,_,_ | .list _,.str _,_,_ | .list _,.tuple _,_,_=>by simp[SeqAt.noMix]
 | .tuple _,.none,_,_ | .tuple _,.int _,_,_ | .tuple _,.str _,_,_ | .tuple _,.list _,_,_=>by simp[SeqAt.noMix]
theorem Jf:∀ a b:List PyData,YB a=true->YB b=true->SeqAt.noMixAll a b=true
 | [],[],_,_ | [],_::_,_,_ | _::_,[],_,_=>by simp[SeqAt.noMixAll]
 | x::xs,y::ys,h,k=>by
  have h' : noBool x=true/\YB xs=true:=by simpa [YB] using h
  have k' : noBool y=true/\YB ys=true:=by simpa [YB] using k
  rw[SeqAt.noMixAll,Uh x y h'.1 k'.1,Jf xs ys h'.2 k'.2];rfl
end
structure Pl (n:Nat)(d:PyData):Prop where
 lay:d.canLay0=true
 dep:d.depth<=n
 nb:noBool d=true
theorem Pl.shaped {n:Nat}{d:PyData}(h:Pl n d)(k:n<=64):SeqAt.shaped d=true:=by
 show (PyData.canLay0 d&&decide (PyData.depth d<=64))=true
 rw[and_eq_true]
 exact ⟨h.lay,decide_eq_true (Nat.le_trans h.dep k)⟩
theorem Pl.mix {n:Nat}{a b:PyData}(h:Pl n a)(k:Pl n b):SeqAt.noMix a b=true:=Uh a b h.nb k.nb
mutual
theorem J3:∀ {a b:PyData},PySem.Spec.same a b=true->a=b
 | .none,b,h=>by cases b <;> first | rfl | simp[PySem.Spec.same] at h
 | .bool x,b,h=>by cases b <;> simp[PySem.Spec.same] at h <;> rw[h]
 | .int x,b,h=>by cases b <;> simp[PySem.Spec.same] at h <;> rw[h]
 | .str x,b,h=>by cases b <;> simp[PySem.Spec.same] at h <;> rw[h]
 | .list x,b,h=>by
  cases b <;> simp[PySem.Spec.same] at h
  rw[Wx h]
 | .tuple x,b,h=>by
  cases b <;> simp[PySem.Spec.same] at h
  rw[Wx h]
 | .dict x,b,h=>by
  cases b <;> simp[PySem.Spec.same] at h
  rw[Wy h]
theorem Wx:∀ {a b:List PyData},sameAll a b=true->a=b
 | [],[],_=>rfl
 | [],_::_,h=>by simp[sameAll] at h
 | _::_,[],h=>by simp[sameAll] at h
 | x::xs,y::ys,h=>by
  have h' : PySem.Spec.same x y=true/\sameAll xs ys=true:=by simpa [sameAll] using h
  rw[J3 h'.1,Wx h'.2]
theorem Wy:∀ {a b:List (PyData×PyData)},samePairs a b=true->a=b
 | [],[],_=>rfl
 | [],_::_,h=>by simp[samePairs] at h
 | _::_,[],h=>by simp[samePairs] at h
 | (x,z)::xs,(y,w)::ys,h=>by
  have h' : (PySem.Spec.same x y=true/\PySem.Spec.same z w=true)/\samePairs xs ys=true:=by simpa [samePairs] using h
  rw[J3 h'.1.1,J3 h'.1.2,Wy h'.2]
end
theorem zeB {a b:PyData}(h:a≠b):PySem.Spec.same a b=false:=by
 cases e:PySem.Spec.same a b with
 | false=>rfl
 | true=>exact absurd (J3 e) h
section
variable {X:Cx}
def ze5 (K:PySem.W.Frag)(g:Bool->Bool):R2:=λx y H Q=>∃ (G:Hp) (a b:PyData),Zm G H/\Dat K G x a/\Dat K G y b/\(SeqAt.shaped a=true/\SeqAt.shaped b=true/\SeqAt.noMix a b=true)/\Q (.bl (g (PySem.Spec.same a b))) H
theorem zgK (hu:X.A.units+64<cLine):OpR X (compareOp .Eq) (ze5 X.K λb=>b):=by
 intro pins s σ H x y v u Q I rx ry h
 obtain ⟨G,a,b,e,ha,hb,⟨sa,sb,nm⟩,q⟩:=h
 obtain ⟨as,ra⟩:=Dat.reads I e ha rx
 obtain ⟨bs,rb⟩:=Dat.reads I e hb ry
 exact eq_dataH_same ra rb sa sb hu nm ⟨.bl (PySem.Spec.same a b),H,I,rfl,q⟩
theorem zfq (hu:X.A.units+64<cLine):OpR X (compareOp .NotEq) (ze5 X.K λb=>!b):=by
 intro pins s σ H x y v u Q I rx ry h
 obtain ⟨G,a,b,e,ha,hb,⟨sa,sb,nm⟩,q⟩:=h
 obtain ⟨as,ra⟩:=Dat.reads I e ha rx
 obtain ⟨bs,rb⟩:=Dat.reads I e hb ry
 exact ne_dataH_same ra rb sa sb hu nm ⟨.bl (!PySem.Spec.same a b),H,I,rfl,q⟩
end
theorem zbC (i:Int){n:Nat}:Pl n (.int i):=⟨by unfold PyData.canLay0;rfl,by unfold PyData.depth;omega,by unfold noBool;rfl⟩
theorem Xd:∀ {ds:List PyData},(∀ d∈ds,d.canLay0=true)->PyData.canLayAll0 ds=true
 | [],_=>rfl
 | d::ds,h=>by
  unfold PyData.canLayAll0
  rw[h d (by simp),Xd λe he=>h e (by simp[he])];rfl
theorem XS:∀ {ds:List PyData}{n:Nat},(∀ d∈ds,d.depth<=n)->PyData.depthAll ds<=n
 | [],_,_=>by unfold PyData.depthAll;omega
 | d::ds,n,h=>by
  have h1:=h d (by simp)
  have h2:=XS (ds:=ds) (n:=n) λe he=>h e (by simp[he])
  unfold PyData.depthAll
  omega
theorem Wm:∀ {ds:List PyData},(∀ d∈ds,noBool d=true)->YB ds=true
 | [],_=>rfl
 | d::ds,h=>by
  unfold YB
  rw[h d (by simp),Wm λe he=>h e (by simp[he])];rfl
theorem zdd {n:Nat}{ds:List PyData}(h:∀ d∈ds,Pl n d):Pl (n+1) (.tuple ds):=by
 refine ⟨?_,?_,?_⟩
 ·unfold PyData.canLay0;exact Xd λd hd=>(h d hd).lay
 ·have:=XS λd hd=>(h d hd).dep
  unfold PyData.depth;omega
 ·unfold noBool;exact Wm λd hd=>(h d hd).nb
theorem JB {n:Nat}{ds:List PyData}(h:∀ d∈ds,Pl n d):Pl (n+1) (.list ds):=by
 refine ⟨?_,?_,?_⟩
 ·unfold PyData.canLay0;exact Xd λd hd=>(h d hd).lay
 ·have:=XS λd hd=>(h d hd).dep
  unfold PyData.depth;omega
 ·unfold noBool;exact Wm λd hd=>(h d hd).nb
structure Yr (G H G' H' : Hp):Prop where
 gg:Zm G G'
 gh:Zm G' H'
 hh:Zm H H'
 fr:∀ b o,G' b=some o->G b=some o\/H b=none
theorem Yr.refl {G H:Hp}(s:Zm G H):Yr G H G H:=⟨Zm.refl _,s,Zm.refl _,λ_ _ h=>.inl h⟩
theorem Yr.trans {G H G1 H1 G2 H2:Hp}(a:Yr G H G1 H1)(b:Yr G1 H1 G2 H2):Yr G H G2 H2:=
 ⟨a.gg.trans b.gg,b.gh,a.hh.trans b.hh,λx o h=>by
  rcases b.fr x o h with h | h
  ·exact a.fr x o h
  ·exact .inr (a.hh.free h)⟩
theorem Z4 {G H:Hp}{p:Addr}{o:HO}(s:Zm G H)(hp:H p=none):Yr G H (upd G p o) (upd H p o):=by
 have hg:G p=none:=s.free hp
 refine ⟨λb u e=>?_,λb u e=>?_,λb u e=>?_,λb u e=>?_⟩
 ·rw[Zk (Zx e hg)];exact e
 ·by_cases h:b=p
  ·subst h;rw[Zn] at e ⊢;exact e
  ·rw[Zk h] at e ⊢;exact s b u e
 ·rw[Zk (Zx e hp)];exact e
 ·by_cases h:b=p
  ·subst h;exact .inr hp
  ·rw[Zk h] at e;exact .inl e
theorem X6 {G H H' : Hp}(s:Zm G H)(h:Zm H H'):Yr G H G H' := ⟨Zm.refl _,s.trans h,h,λ_ _ e=>.inl e⟩
theorem Yr.out {G H G' H' : Hp}(a:Yr G H G' H'){p:Addr}{o:HO}(hp:H p=some o)(hg:G p=none):G' p=none:=by
 cases e:G' p with
 | none=>rfl
 | some u=>
  rcases a.fr p u e with h | h
  ·rw[hg] at h;cases h
  ·rw[hp] at h;cases h
def Ev (K:PySem.W.Frag)(t:TE)(σ:St)(G:Hp)(d:PyData):Prop:=
 ∀ G1 H,Zm G G1->Zm G1 H->∀ Q:VK,(∀ v G' H',Yr G1 H G' H' -> Dat K G' v d->Q v H')->t σ H Q
def EvT (t:TT)(σ:St)(G:Hp)(b:Bool):Prop:=
 ∀ G1 H,Zm G G1->Zm G1 H->∀ Q:Bool->Hp->Prop,(∀ G' H',Yr G1 H G' H' -> Q b H')->t σ H Q
def EvA (K:PySem.W.Frag)(t:TA)(σ:St)(G:Hp)(ds:List PyData):Prop:=
 ∀ G1 H,Zm G G1->Zm G1 H->∀ Q:List V->Hp->Prop,(∀ vs G' H',Yr G1 H G' H' -> Zz K G' vs ds->Q vs H')->t σ H Q
section
variable {K:PySem.W.Frag}{σ:St}{G:Hp}{ta tb tc:TE}{a b d:PyData}
theorem zds {i:Nat}{v:V}(h:σ[i]?=some (some v))(hd:Dat K G v d):Ev K (JP i) σ G d:=λG1 H s1 s2 Q k=>⟨v,h,k v G1 H (Yr.refl s2) (hd.same s1)⟩
theorem zaq {v:V}(hd:Dat K G v d):Ev K (tC v) σ G d:=λG1 H s1 s2 Q k=>k v G1 H (Yr.refl s2) (hd.same s1)
theorem zge {i:Int}:Ev K (tC (.int i)) σ G (.int i):=zaq (Zj i)
theorem zfe {x:Str}:Ev K (tC (.str x)) σ G (.str x):=zaq (J6 x)
theorem zhg {x:Bool}:Ev K (tC (.bl x)) σ G (.bool x):=zaq (YH x)
theorem zfa:Ev K (tC .non) σ G .none:=zaq XH
theorem Jz {r:R2}(ha:Ev K ta σ G a)(hb:Ev K tb σ G b)(hr:∀ G1 H x y (Q:VK),Zm G G1->Zm G1 H->Dat K G1 x a->Dat K G1 y b->(∀ v G' H',Yr G1 H G' H' -> Dat K G' v d->Q v H')->r x y H Q):Ev K (tOp r ta tb) σ G d:=
 λG1 H s1 s2 Q k=>ha G1 H s1 s2 _ λx G2 H2 g2 hx=>hb G2 H2 (s1.trans g2.gg) g2.gh _ λy G3 H3 g3 hy=>
  hr G3 H3 x y Q ((s1.trans g2.gg).trans g3.gg) g3.gh (hx.same g3.gg) hy λv G' H' g hv=>k v G' H' ((g2.trans g3).trans g) hv
theorem zhw {g:Int->Int->V}{i j:Int}(ha:Ev K ta σ G (.int i))(hb:Ev K tb σ G (.int j))(hg:Dat K G (g i j) d):Ev K (tOp (rI0 g) ta tb) σ G d:=
 Jz ha hb λG1 H x y Q s1 s2 hx hy k=>by
  rw[hx.int,hy.int]
  exact ⟨i,j,rfl,rfl,k _ G1 H (Yr.refl s2) (hg.same s1)⟩
theorem zej {C:Int->Int->Prop}{g:Int->Int->V}{i j:Int}(ha:Ev K ta σ G (.int i))(hb:Ev K tb σ G (.int j))(hc:C i j)(hg:Dat K G (g i j) d):Ev K (tOp (rI C g) ta tb) σ G d:=
 Jz ha hb λG1 H x y Q s1 s2 hx hy k=>by
  rw[hx.int,hy.int]
  exact ⟨i,j,rfl,rfl,hc,k _ G1 H (Yr.refl s2) (hg.same s1)⟩
theorem zfU {ds:List PyData}{i:Int}{n:Nat}(ha:Ev K ta σ G (.tuple ds))(hb:Ev K tb σ G (.int i))(hn:ixN ds.length i=some n)(hd:ds[n]?=some d):Ev K (tOp (zg3 K) ta tb) σ G d:=
 Jz ha hb λG1 H x y Q s1 s2 hx hy k=>by
  obtain ⟨p,xs,rfl,hp,hxs⟩:=hx.tup
  obtain ⟨z,hz,hzd⟩:=hxs.get hd
  rw[hy.int]
  exact ⟨p,xs,i,z,rfl,rfl,s2.tup hp,by unfold atI;rw[hxs.length,hn];exact hz,k z G1 H (Yr.refl s2) hzd⟩
theorem zdb {ds:List PyData}{i:Int}{n:Nat}(ha:Ev K ta σ G (.list ds))(hb:Ev K tb σ G (.int i))(hn:ixN ds.length i=some n)(hd:ds[n]?=some d):Ev K (tOp (zfb K) ta tb) σ G d:=
 Jz ha hb λG1 H x y Q s1 s2 hx hy k=>by
  obtain ⟨p,xs,rfl,hp,hxs⟩:=hx.lst
  obtain ⟨z,hz,hzd⟩:=hxs.get hd
  rw[hy.int]
  exact ⟨p,xs,i,z,rfl,rfl,SqL.of (s2 _ _ hp),by unfold atI;rw[hxs.length,hn];exact hz,k z G1 H (Yr.refl s2) hzd⟩
theorem zfP {g:Bool->Bool}{n:Nat}(ha:Ev K ta σ G a)(hb:Ev K tb σ G b)(pa:Pl n a)(pb:Pl n b)(hn:n<=64):Ev K (tOp (ze5 K g) ta tb) σ G (.bool (g (PySem.Spec.same a b))):=
 Jz ha hb λG1 H x y Q s1 s2 hx hy k=>⟨G1,a,b,s2,hx,hy,⟨pa.shaped hn,pb.shaped hn,pa.mix pb⟩,k _ G1 H (Yr.refl s2) (YH _)⟩
theorem zeD:EvA K Ud σ G []:=λG1 H s1 s2 Q k=>k [] G1 H (Yr.refl s2) ZL
theorem zcI {t:TA}{ds:List PyData}(ha:Ev K ta σ G a)(hb:EvA K t σ G ds):EvA K (YD ta t) σ G (a::ds):=
 λG1 H s1 s2 Q k=>ha G1 H s1 s2 _ λx G2 H2 g2 hx=>hb G2 H2 (s1.trans g2.gg) g2.gh _ λys G3 H3 g3 hy=>k (x::ys) G3 H3 (g2.trans g3) (ZD (hx.same g3.gg) hy)
theorem zff {t:TA}{ds:List PyData}(h:EvA K t σ G ds)(hl:ds.length<=sizeLine):Ev K (zgQ t) σ G (.tuple ds):=
 λG1 H s1 s2 Q k=>h G1 H s1 s2 _ λvs G2 H2 g2 hv=>⟨by rw[hv.length];exact hl,λp hp=>by
  have g:=Z4 (o:=.tup vs) g2.gh hp
  exact k _ _ _ (g2.trans g) (Ww (SqT.of Zn) (hv.same g.gg))⟩
theorem ze6 {t:TA}{ds:List PyData}(h:EvA K t σ G ds)(hl:ds.length<=sizeLine):Ev K (zg4 t) σ G (.list ds):=
 λG1 H s1 s2 Q k=>h G1 H s1 s2 _ λvs G2 H2 g2 hv=>⟨by rw[hv.length];exact hl,λp hp=>by
  have g:=Z4 (o:=.lst vs) g2.gh hp
  exact k _ _ _ (g2.trans g) (Ys Zn (hv.same g.gg))⟩
theorem zch {r:List V->Hp->VK->Prop}{t:TA}{ds:List PyData}(h:EvA K t σ G ds)(hr:∀ G1 H xs (Q:VK),Zm G G1->Zm G1 H->Zz K G1 xs ds->(∀ v G' H',Yr G1 H G' H' -> Dat K G' v d->Q v H')->r xs H Q):Ev K (tCB r t) σ G d:=
 λG1 H s1 s2 Q k=>h G1 H s1 s2 _ λvs G2 H2 g2 hv=>hr G2 H2 vs Q (s1.trans g2.gg) g2.gh hv λv G' H' g hd=>k v G' H' (g2.trans g) hd
theorem zes {t:TA}{ds:List PyData}(h:EvA K t σ G [.list ds]):Ev K (tCB (λxs H Q=>∃ p ys,xs=[.ref p]/\(SqL K H p ys\/SqT K H p ys)/\Q (.int ys.length) H) t) σ G (.int ds.length):=
 zch h λG1 H xs Q s1 s2 hx k=>by
  obtain ⟨y,ys,rfl,hy,r⟩:=hx.cons
  rw[r.nil]
  obtain ⟨p,zs,rfl,hp,hz⟩:=hy.lst
  refine ⟨p,zs,rfl,.inl (SqL.of (s2 _ _ hp)),?_⟩
  rw[hz.length]
  exact k _ G1 H (Yr.refl s2) (Zj _)
theorem zd8 {t:TA}{ds:List PyData}(h:EvA K t σ G [.tuple ds]):Ev K (tCB (λxs H Q=>∃ p ys,xs=[.ref p]/\(SqL K H p ys\/SqT K H p ys)/\Q (.int ys.length) H) t) σ G (.int ds.length):=
 zch h λG1 H xs Q s1 s2 hx k=>by
  obtain ⟨y,ys,rfl,hy,r⟩:=hx.cons
  rw[r.nil]
  obtain ⟨p,zs,rfl,hp,hz⟩:=hy.tup
  refine ⟨p,zs,rfl,.inr (s2.tup hp),?_⟩
  rw[hz.length]
  exact k _ G1 H (Yr.refl s2) (Zj _)
theorem zbk {t:TA}{ds:List PyData}(h:EvA K t σ G [.list ds]):Ev K (tCB (λxs H Q=>∃ p ys,xs=[.ref p]/\((SqL K H p ys/\∀ l,H l=none->Q (.ref l) (upd H l (.tup ys)))\/(SqT K H p ys/\Q (.ref p) H))) t) σ G (.tuple ds):=
 zch h λG1 H xs Q s1 s2 hx k=>by
  obtain ⟨y,ys,rfl,hy,r⟩:=hx.cons
  rw[r.nil]
  obtain ⟨p,zs,rfl,hp,hz⟩:=hy.lst
  refine ⟨p,zs,rfl,.inl ⟨SqL.of (s2 _ _ hp),λl hl=>?_⟩⟩
  have g:=Z4 (o:=.tup zs) s2 hl
  exact k _ _ _ g (Ww (SqT.of Zn) (hz.same g.gg))
theorem zcv {t:TE}{c:Bool}(h:Ev K t σ G (.bool c)):EvT (zcw t) σ G c:=λG1 H s1 s2 Q k=>h G1 H s1 s2 _ λv G' H' g hv=>⟨c,hv.bl,k G' H' g⟩
theorem zhL {t:TE}{c:Bool}(h:Ev K t σ G (.bool c)):EvT (tB t) σ G c:=λG1 H s1 s2 Q k=>h G1 H s1 s2 _ λv G' H' g hv=>⟨c,hv.bl,k G' H' g⟩
theorem zd5 {t:TT}{c:Bool}(h:EvT t σ G c):EvT (zhe t) σ G (!c):=λG1 H s1 s2 Q k=>h G1 H s1 s2 _ λG' H' g=>k G' H' g
theorem zf3 {t u:TT}{c e:Bool}(h:EvT t σ G c)(h' : c=false->EvT u σ G e):EvT (tOr t u) σ G (c||e):=λG1 H s1 s2 Q k=>h G1 H s1 s2 _ λG' H' g=>by
 cases c with
 | true=>rw[if_pos rfl];exact k G' H' g
 | false=>
  rw[if_neg Bool.false_ne_true]
  exact h' rfl G' H' (s1.trans g.gg) g.gh _ λG2 H2 g2=>k G2 H2 (g.trans g2)
theorem zd1 {t u:TT}{c e:Bool}(h:EvT t σ G c)(h' : c=true->EvT u σ G e):EvT (zhv t u) σ G (c&&e):=λG1 H s1 s2 Q k=>h G1 H s1 s2 _ λG' H' g=>by
 cases c with
 | false=>rw[if_neg Bool.false_ne_true];exact k G' H' g
 | true=>
  rw[if_pos rfl]
  exact h' rfl G' H' (s1.trans g.gg) g.gh _ λG2 H2 g2=>k G2 H2 (g.trans g2)
theorem zic {t:TE}{e:PyData}(h:Ev K t σ G d)(q:d=e):Ev K t σ G e:=q ▸ h
theorem zgb {t:TT}{c:Bool}(h:EvT t σ G c)(h1:c=true->Ev K ta σ G d)(h2:c=false->Ev K tb σ G d):Ev K (tIf t ta tb) σ G d:=λG1 H s1 s2 Q k=>h G1 H s1 s2 _ λG' H' g=>by
 cases c with
 | true=>rw[if_pos rfl];exact h1 rfl G' H' (s1.trans g.gg) g.gh _ λv G2 H2 g2 hv=>k v G2 H2 (g.trans g2) hv
 | false=>rw[if_neg Bool.false_ne_true];exact h2 rfl G' H' (s1.trans g.gg) g.gh _ λv G2 H2 g2 hv=>k v G2 H2 (g.trans g2) hv
theorem zfJ {c e:Bool}(h:Ev K ta σ G (.bool c))(h' : c=true->Ev K tb σ G (.bool e)):Ev K (zd9 ta tb) σ G (.bool (c&&e)):=λG1 H s1 s2 Q k=>h G1 H s1 s2 _ λv G' H' g hv=>⟨c,hv.bl,by
 cases c with
 | false=>rw[if_neg Bool.false_ne_true];exact k _ G' H' g (YH _)
 | true=>rw[if_pos rfl];exact h' rfl G' H' (s1.trans g.gg) g.gh _ λw G2 H2 g2 hw=>k w G2 H2 (g.trans g2) hw⟩
def spP (K:PySem.W.Frag)(R:List PyData->PyData->Prop):Sp:=λvs H Q _=>∃ (G:Hp) (ds:List PyData) (d:PyData),Zm G H/\Zz K G vs ds/\R ds d/\∀ v G' H',Yr G H G' H' -> Dat K G' v d->Q v H'
theorem zet {R:List PyData->PyData->Prop}{E:XK}{t:TA}{ds:List PyData}(h:EvA K t σ G ds)(hR:R ds d):Ev K (WP (spP K R) [] E t) σ G d:=
 λG1 H s1 s2 Q k=>h G1 H s1 s2 _ λvs G2 H2 g2 hv=>by
  refine ⟨G2,ds,d,g2.gh,?_,hR,λv G' H' g hd=>k v G' H' (g2.trans g) hd⟩
  rw[append_nil];exact hv
theorem zc4:EvT zd0 σ G true:=λG1 H s1 s2 Q k=>k G1 H (Yr.refl s2)
end
section
variable {K:PySem.W.Frag}{σ:St}{G H:Hp}{te:TE}{d:PyData}{D:Ends}
theorem zaQ {α β:Type}(f:α->β):∀ l:List α,l.filterMap (λx=>some (f x))=l.map f
 | []=>rfl
 | x::l=>by rw[filterMap_cons,map_cons,zaQ f l]
theorem X4 {n i:Nat}(h:i<n):ixN n (i:Int)=some i:=by unfold ixN;rw[if_pos (by omega),if_pos (by omega)];simp
end
section
variable {K:PySem.W.Frag}{σ:St}{G H:Hp}{ta tb:TE}
theorem zdk {i j:Int}(ha:Ev K ta σ G (.int i))(hb:Ev K tb σ G (.int j)):Ev K (tOp rEq ta tb) σ G (.bool (decide (i=j))):=
 Jz ha hb λG1 H x y Q s1 s2 hx hy k=>by
  rw[hx.int,hy.int]
  refine ⟨rfl,?_⟩
  have e:decide (V.int i=V.int j)=decide (i=j):=by
   by_cases h:i=j
   ·rw[decide_eq_true h,decide_eq_true (by rw[h])]
   ·rw[decide_eq_false h,decide_eq_false λz=>h (by injection z)]
  rw[e]
  exact k _ G1 H (Yr.refl s2) (YH _)
theorem zcA {d:Addr}{o:HO}(s:Zm G H)(n:G d=none):Zm G (upd H d o):=λb u e=>by
 rw[Zk (Zx e n)];exact s b u e
end
section
variable {X:Cx}{pins:List (Addr×Obj)}{σ:St}{H:Hp}{s:Shared}{h' : Heap}
theorem Inv.zcm {t' : Nat}{fp:List Addr}{T:Addr}{o:HO}(I:Inv X pins σ H s)(k:∀ b u,b∉fp->s.heap.get? b=some u->h'.get? b=some u)(hf:∀ b∈fp,zau X pins H b)
  (hT:s.heap.objs.size<=T) (new:Yh X.prog X.w (upd H T o) h' T o):Inv X pins σ (upd H T o) { s with heap:=h',toks:=t' }:=by
 have nfp:∀ b u,H b=some u->b∉fp:=λb u e z=>by rw[(hf b z).1] at e;cases e
 have nT:∀ b u,H b=some u->b≠T:=λb u e=>ne_of_lt (Nat.lt_of_lt_of_le (I.hok.lt e) hT)
 have nT' : ∀ b u,s.heap.get? b=some u->b≠T:=λb u e=>ne_of_lt (Nat.lt_of_lt_of_le (lt_size e) hT)
 refine I.step (g' := s.gens) (d' := s.drawn) (ch:=fp) (λb hb=>?_) (λb u _ _ hc e _=>k b u hc e) (λb u _ _ hc e _=>⟨u.slots,k b u hc e⟩) (λb u _ e n=>by rw[Zk (nT' b u e)];exact n)
  (λb u hc e=>⟨u,k b u hc e⟩) (λb xs e=>by rw[Zk (nT b _ e)];exact e) (λb u v e=>by rw[Zk (nT b _ e)];exact e) (λb cr e=>by rw[Zk (nT b _ e)];exact e) (λm hm=>?_) (λb u e=>?_) I.bare
 ·obtain ⟨f0,f1,f2,f3,f4,f5⟩:=hf b hb
  exact ⟨f3,f1,f4,f5⟩
 ·obtain ⟨ob,es,ep,ho,r⟩:=hm
  exact ⟨ob,es,ep,k _ ob (λz=>(hf _ z).2.1 rfl) ho,r⟩
 ·by_cases hb:b=T
  ·subst hb;rw[Zn] at e;cases e;exact new
  ·rw[Zk hb] at e
   refine (I.hok b u e).stay (λc v hc q=>k c v ?_ q) (λc q=>by rw[Zk (nT c _ q)];exact q) (λc xs q=>by rw[Zk (nT c _ q)];exact q) λc o u q=>by rw[Zk (nT c _ q)];exact q
   rcases hc with z | z
   ·rw[z];exact nfp b u e
   ·exact nfp c _ z
theorem Inv.turns {t' : Nat}{fp:List Addr}(I:Inv X pins σ H s)(k:∀ b u,b∉fp->s.heap.get? b=some u->h'.get? b=some u)(hf:∀ b∈fp,zau X pins H b):Inv X pins σ H { s with heap:=h',toks:=t' }:=by
 have nfp:∀ b u,H b=some u->b∉fp:=λb u e z=>by rw[(hf b z).1] at e;cases e
 refine I.step (g' := s.gens) (d' := s.drawn) (ch:=fp) (λb hb=>?_) (λb u _ _ hc e _=>k b u hc e) (λb u _ _ hc e _=>⟨u.slots,k b u hc e⟩) (λb u _ e n=>n)
  (λb u hc e=>⟨u,k b u hc e⟩) (λb xs e=>e) (λb u v e=>e) (λ_ _ e=>e) (λm hm=>?_) (λb u e=>?_) I.bare
 ·obtain ⟨f0,f1,f2,f3,f4,f5⟩:=hf b hb
  exact ⟨f3,f1,f4,f5⟩
 ·obtain ⟨ob,es,ep,ho,r⟩:=hm
  exact ⟨ob,es,ep,k _ ob (λz=>(hf _ z).2.1 rfl) ho,r⟩
 ·refine (I.hok b u e).stay (λc v hc q=>k c v ?_ q) (λc q=>q) (λc xs q=>q) λc o u q=>q
  rcases hc with z | z
  ·rw[z];exact nfp b u e
  ·exact nfp c _ z
end
section
variable {prog:Program}{w:World}{A:Around}{E:Value->Shared->Prop}{s:Shared}
theorem zae {it t:Addr}{i:Nat}{items:Array Value}{x:Value}{Q:Value->Shared->Prop}(q1:s.heap.IsTupleIter it t i)(q2:s.heap.IsTuple t items)(q3:items[i]?=some x)
  (k:∀ h',h'.IsTupleIter it t (i+1)->SameBut it s.heap h' -> Q x { s with heap:=h' }):wpAny (model prog w) A (Builtin.SmallTypes.nextOf (.ref it)) Q E s:=by
 obtain ⟨oi,e1,e2,e3⟩:=id q1
 obtain ⟨ot,e4,_,nt,e5⟩:=q2
 unfold Builtin.SmallTypes.nextOf
 refine wpAny_bind (wpAny_callSpecial?_slot (name:=Str.ofString "__next__") q1.typeIs F.slot_tuple_iterator_next (wpAny_call_entry F.slot_tuple_iterator_next q1.typeIs F.entry_tuple_iterator_next ?_ (F.args_tuple_iterator_next_1 _)))
 show wpAny (model prog w) _ (field (.ref it) 0 >>= _) _ _ s
 refine wpAny_bind (wpAny_field e1 e3 (x:=.ref t) rfl ?_)
 rw[if_neg (show ¬ ((Value.ref t==Value.none)=true) from Bool.false_ne_true)]
 refine wpAny_bind (wpAny_field e1 e3 (x:=.int i 0) rfl ?_)
 refine wpAny_bind (wpAny_seqItems e4 e5 ?_)
 simp only[toNat_natCast,q3]
 refine wpAny_bind (wpAny_setField e1 e3 (by simp) (wpAny_pure ⟨x,rfl,wpAny_pure (k _ ⟨_,get?_update_self _ e1 (Obj.isFreed_of_fields (Obj.data_mapFields e3 _)),(Obj.cls_mapFields ..).trans e2,by rw[Obj.data_mapFields e3];simp[rawInt]⟩ (SameBut.update ..))⟩))
theorem XD {it t:Addr}{i:Nat}{items:Array Value}{Q:Value->Shared->Prop}(q0:A.handled=none)(q1:s.heap.IsTupleIter it t i)(q2:s.heap.IsTuple t items)(q3:items[i]?=none)
  (k:∀ h' e,Heap.ExtBut it s.heap h' -> (∃ o,h'.get? e=some o/\o.cls = .type "StopIteration")->E (.ref e) { s with heap:=h' }):wpAny (model prog w) A (Builtin.SmallTypes.nextOf (.ref it)) Q E s:=by
 obtain ⟨oi,e1,e2,e3⟩:=id q1
 obtain ⟨ot,e4,_,nt,e5⟩:=q2
 unfold Builtin.SmallTypes.nextOf
 refine wpAny_bind (wpAny_callSpecial?_slot (name:=Str.ofString "__next__") q1.typeIs F.slot_tuple_iterator_next (wpAny_call_entry F.slot_tuple_iterator_next q1.typeIs F.entry_tuple_iterator_next ?_ (F.args_tuple_iterator_next_1 _)))
 show wpAny (model prog w) _ (field (.ref it) 0 >>= _) _ _ s
 refine wpAny_bind (wpAny_field e1 e3 (x:=.ref t) rfl ?_)
 rw[if_neg (show ¬ ((Value.ref t==Value.none)=true) from Bool.false_ne_true)]
 refine wpAny_bind (wpAny_field e1 e3 (x:=.int i 0) rfl ?_)
 refine wpAny_bind (wpAny_seqItems e4 e5 ?_)
 simp only[toNat_natCast,q3]
 refine wpAny_bind (wpAny_rule (wpAny_bind (wpAny_setField e1 e3 (by simp) (wpAny_bind ?_))))
 simp only[newExc,newTuple]
 refine wpAny_bind (wpAny_newObj_type (wpAny_bind (m:=firstArgMember _ _) (wpAny_of_eq (a:=Value.none) (by first | rfl | (simp only[firstArgMember];rfl)) (wpAny_newObj_type ?_ (by size_fits)))) (by size_fits))
 simp only[raiseNew]
 refine wpAny_bind (wpAny_handled (?_:wpAny _ _ _ _ _ _))
 first | rw[show A.in1.handled=none from q0] | rw[q0]
 exact wpAny_bind (wpAny_pure (wpAny_throw (k _ _ (((SameBut.update ..).extBut.push _).push _) ⟨_,get?_push_size _ rfl,rfl⟩)))
theorem zbu (hh:A.handled=none)(it l:Addr)(hne:l≠it)(items:Array Value):
  Draws prog w A it [it,l] items.size (λi v=>items[i]?=some v) (λi h=>h.IsTupleIter it l i/\h.IsTuple l items) where
 live:=λ_ _ st=>let ⟨o,ho,_⟩:=st.1;⟨o,ho⟩
 frame:=λ_ _ _ st hk=>⟨let ⟨o,ho,r⟩:=st.1;⟨o,hk it (by simp) o ho,r⟩,let ⟨o,ho,r⟩:=st.2;⟨o,hk l (by simp) o ho,r⟩⟩
 item:=λi s Q E hi st hQ=>zae st.1 st.2 (x:=items[i]) (by simp[hi]) λh' hit' hs' => hQ _ h' s.toks (by simp[hi]) ⟨hit',let ⟨o,ho,r⟩:=st.2;⟨o,(hs'.2 l hne).trans ho,r⟩⟩ hs'
 done:=λs Q E st hE=>XD hh st.1 st.2 (by simp) hE
end
noncomputable def zhR (K:PySem.W.Frag) (a:Addr):It:=
 ⟨λi H=>∃ xs x,SqT K H a xs/\xs[i]?=some x,λi H v H' => ∃ p x,H p=none/\v = .ref p/\H'=upd H p (.tup [.int i,x])/\∀ xs,SqT K H a xs->xs[i]?=some x,λi H=>∃ xs,SqT K H a xs/\xs.length<=i⟩
theorem V6 {h:Heap}{a b:Addr}{o u:Obj}(e:h.get? a=some o)(e' : h.get? b=some u)(n:o.cls≠u.cls):a≠b:=by
 rintro rfl;rw[e] at e';cases e';exact n rfl
theorem zaf {P:Program}{w:World}{K:PySem.W.Frag}{elts:List Expr}{tk:Nat}{tpos:Pos}(a e it:Addr):Turn P w K (.Tuple elts tk tpos) (zhR K a) [e,it] e (λi h=>(∃ old,IsEnum h e it i old)/\h.IsTupleIter it a i) where
 mem:=by simp
 obj:=λi h st b hb=>by
  obtain ⟨⟨old,he⟩,o,ho,hc,hd⟩:=st
  rcases mem_cons.mp hb with rfl | hb
  ·exact ⟨_,he,λv z=>by cases z⟩
  ·have eb:b=it:=by simpa using hb
   subst eb
   exact ⟨o,ho,λv z=>by rw[hd] at z;cases z⟩
 keep:=λi h h' st k=>by
  obtain ⟨⟨old,he⟩,o,ho,r⟩:=st
  exact ⟨⟨old,k e (by simp) _ he⟩,o,k it (by simp) o ho,r⟩
 item:=by
  intro X hP hw hK hc i pins s σ H E I hf st hg
  subst hP hw hK
  obtain ⟨xs,x,hq,hx⟩:=hg
  obtain ⟨its,rv,p,hz⟩:=I.tuple hq
  obtain ⟨u,hu,ru⟩:=rv.get hx
  obtain ⟨⟨old,he⟩,hit⟩:=st
  obtain ⟨oi,hoi,hci,hdi⟩:=id hit
  obtain ⟨ot,hot,hct,nt,hdt⟩:=id p
  have hei:e≠it:=V6 he hoi (by rw[hci];show Value.type "enumerate" ≠ Value.type "tuple_iterator";decide)
  have hea:e≠a:=V6 he hot (by rw[hct];show Value.type "enumerate" ≠ Value.type "tuple";decide)
  have hai:a≠it:=V6 hot hoi (by rw[hci,hct];decide)
  have hlt:i<its.toArray.size:=by
   have:=(List.getElem?_eq_some_iff.mp hu).1
   simpa using this
  refine wpAny_pyNext_enum_itemD (zbu (show X.A.in1.handled=none from I.ok.hd hc) it a hai its.toArray) he ⟨hit,p⟩ hlt hei (by simp[hei,hea]) λx' h' tk' hP ho hs' hT hsz hk=>?_
  have ex:x'=u:=by
   have hP' : its.toArray[i]?=some x' := hP
   have:its[i]?=some x' := by simpa using hP'
   rw[hu] at this;exact (Option.some.inj this).symm
  subst ex
  refine ⟨_,rfl,wpAny_letOwnedTupleGo_enum ho λh2 he2 hs2=>?_⟩
  have het:e≠s.heap.objs.size:=ne_of_lt (lt_size he)
  have new:Yh X.prog X.w (upd H s.heap.objs.size (.tup [.int i,x])) h2 s.heap.objs.size (.tup [.int i,x]):=
   ⟨by show 2<=sizeLine;decide,[.int i tk',x'],.cons ⟨tk',rfl⟩ (.cons ru .nil),⟨_,(hs2.2 _ (Ne.symm het)).trans hT,rfl,_,rfl⟩,_,(hs2.2 _ (Ne.symm het)).trans hT,rfl⟩
  have kk:∀ b o,b∉[e,it]->s.heap.get? b=some o->h2.get? b=some o:=λb o hb q=>by
   have h1:b≠e:=λz=>hb (by simp[z])
   have h2' : b≠it:=λz=>hb (by simp[z])
   exact (hs2.2 b h1).trans (hk b o h1 h2' q)
  have fresh:=I.hok.fresh (Nat.le_refl s.heap.objs.size)
  refine ⟨.ref s.heap.objs.size,_,I.zcm (t' := tk'+1) kk hf (Nat.le_refl _) new,rfl,⟨_,x,fresh,rfl,rfl,λys hy=>by rw[I.Vc hy hq];exact hx⟩,⟨⟨_,he2⟩,?_⟩,λb hb=>?_⟩
  ·obtain ⟨o3,g1,g2,g3⟩:=hs'.1
   exact ⟨o3,(hs2.2 it (Ne.symm hei)).trans g1,g2,g3⟩
  ·have hb' : b≠s.heap.objs.size:=by
    rcases mem_cons.mp hb with rfl | hb
    ·exact het
    ·rw[mem_singleton.mp hb];exact ne_of_lt (lt_size hoi)
   rw[Zk hb'];exact (hf b hb).1
 done:=by
  intro X hP hw hK hc i pins s σ H E I hf st hg
  subst hP hw hK
  obtain ⟨xs,hq,hx⟩:=hg
  obtain ⟨its,rv,p,hz⟩:=I.tuple hq
  obtain ⟨⟨old,he⟩,hit⟩:=st
  obtain ⟨oi,hoi,hci,hdi⟩:=id hit
  obtain ⟨ot,hot,hct,nt,hdt⟩:=id p
  have hai:a≠it:=V6 hot hoi (by rw[hci,hct];decide)
  have hl:=rv.length
  unfold pyNext
  have hTy:s.TypeIs (.ref e) "enumerate" := ⟨_,he,rfl⟩
  refine wpAny_bind (wpAny_attempt (wpAny_callSpecial?_slot (name:=Str.ofString "__next__") hTy F.slot_enumerate_next (wpAny_call_entry F.slot_enumerate_next hTy F.entry_enumerate_next ?_ (F.args_enumerate_next_1 _))))
  show wpAny (model X.prog X.w) X.A.in1 (field (.ref e) 2 >>= _) _ _ s
  refine wpAny_bind (wpAny_field he rfl (x:=.ref it) rfl (wpAny_bind (XD (I.ok.hd hc) hit p (by simp;omega) λh' y g1 g2=>?_)))
  obtain ⟨o,ho,hcl⟩:=g2
  refine wpAny_bind (wpAny_isInstance (T:= "StopIteration") (b:=true) ⟨o,ho,hcl⟩ isSubtype_stop (wpAny_pure ?_))
  exact ⟨rfl,I.turns (t' := s.toks) (λb u hb q=>g1 b u (λz=>hb (by simp[z])) q) hf⟩
 self:=λ_ _ _ _ _ st h=>by
  obtain ⟨⟨old,he⟩,_⟩:=st
  exact wpAny_pyIter_enum he h
theorem zbM (l:Addr)(items:Array Value)(n:Nat)(dct:Option Addr)(sl:Array (Option Value)):
  Meets (Builtin.«enumerate.__new__» ⟨[.type "enumerate",.ref l],[]⟩) (λ_ R s=>s.heap.get? l=some { cls:=.type "tuple",dict:=dct,data:=.seq items n,slots:=sl }/\
   R (.ok (.ret (.ref (s.heap.push { cls:=.type "tuple_iterator",data:=.fields #[.ref l,.int 0 0] }).objs.size)))
    { s with heap:=(s.heap.push { cls:=.type "tuple_iterator",data:=.fields #[.ref l,.int 0 0] }).push { cls:=.type "enumerate",data:=.fields #[.none,.bool false,.ref s.heap.objs.size,rawInt 0,.none,.none] } }):=
 .of_wp λprog w A R s h=>by
  obtain ⟨hp,g,d,tk,os⟩:=s;obtain ⟨q1,h⟩:=h
  have q0:=sub_enumerate
  have q2:Heap.IsTuple (Shared.heap ⟨hp,g,d,tk,os⟩) l items:=⟨_,q1,rfl,n,rfl⟩
  wp_walk using AutoSeq1.wpAny_loadPart' q1
  refine wpAny_stack_any λst0=>wpAny_pure ?_
  split
  ·rename_i c0 _ _ _ _ _
   cases (c0==Value.type "enumerate") <;> (wp_walk using AutoSeq1.wpAny_loadPart' q1,wpAny_pyIter_tuple q2;exact ⟨_,rfl,h⟩)
  ·wp_walk using AutoSeq1.wpAny_loadPart' q1,wpAny_pyIter_tuple q2
   exact ⟨_,rfl,h⟩
section
variable {prog:Program}{w:World}{A:Around}{E:Value->Shared->Prop}{s:Shared}
theorem zao {l:Addr}{items:Array Value}{Q:Value->Shared->Prop}(q2:s.heap.IsTuple l items)
  (h:∀ h',IsEnum h' (s.heap.objs.size+1) s.heap.objs.size 0 .none->h'.IsTupleIter s.heap.objs.size l 0->(∀ b o,s.heap.get? b=some o->h'.get? b=some o)->Q (.ref (s.heap.objs.size+1)) { s with heap:=h' }):
  wpAny (model prog w) A (call (.type "enumerate") [.ref l]) Q E s:=by
 obtain ⟨⟨c,dct,dt,sl⟩,q1,e1,n,e2⟩:=q2
 replace e1:c = .type "tuple" := e1
 replace e2:dt = .seq items n:=e2
 subst e1 e2
 refine callType_new F.called_enumerate (by decide) (F.typeCall_enumerate_1 _) (F.newCall_enumerate_1 _) (λobj=>F.args_object_init_2 obj _) F.entry_enumerate_new (zbM l items n dct sl) ⟨q1,?_⟩
 have z1:(s.heap.push { cls:=.type "tuple_iterator",data:=.fields #[.ref l,.int 0 0] }).objs.size=s.heap.objs.size+1:=size_push ..
 show _/\_
 rw[z1]
 have q3:IsEnum ((s.heap.push { cls:=.type "tuple_iterator",data:=.fields #[.ref l,.int 0 0] }).push { cls:=.type "enumerate",data:=.fields #[.none,.bool false,.ref s.heap.objs.size,rawInt 0,.none,.none] }) (s.heap.objs.size+1) s.heap.objs.size 0 .none:=by
  have:=get?_push_size (s.heap.push { cls:=.type "tuple_iterator",data:=.fields #[.ref l,.int 0 0] }) (o:={ cls:=.type "enumerate",data:=.fields #[.none,.bool false,.ref s.heap.objs.size,rawInt 0,.none,.none] }) rfl
  rw[z1] at this;exact this
 exact ⟨⟨_,q3,rfl⟩,h _ q3 ⟨_,get?_push_of_some _ (get?_push_size _ rfl),rfl,rfl⟩ λb o x=>get?_push_of_some _ (get?_push_of_some _ x)⟩
end
section
variable {X:Cx}
def zhU (K:PySem.W.Frag)(ta:TA):TI:=fun σ H R=>ta σ H λvs H1=>∃ a,vs=[.ref a]/\(∃ xs,SqT K H1 a xs)/\R (zhR K a) H1
theorem zbm:bootBuiltins "enumerate" = some (.type "enumerate"):=by decide +kernel
theorem Qh {a:Expr}{ta:TA}{p pos:Pos}{elts:List Expr}{tk:Nat}{tpos:Pos}(hg:Gl X "enumerate")(hm:X.mg "enumerate" = none)(ha:PA X [a] ta)(hs:starEach [a] X.env=[(false,eval a X.env)]:=by rfl):PI X (.Tuple elts tk tpos) (.Call (.Name "enumerate" p) [a] [] pos) (zhU X.K ta):=by
 intro pins s σ H R I h
 refine Call_ (Wf I hg hm zbm (PyProof.Rows.callWith_type1 (thn (ha pos pins s σ H _ I h) λus s1 ⟨vs,H1,I1,r1,q1⟩=>?_) hs rfl))
 obtain ⟨l,e,⟨xs,hq⟩,q⟩:=q1
 subst e
 obtain ⟨u,rfl,r⟩:=Vals.one r1
 cases (show u=Value.ref l from r)
 obtain ⟨its,rv,pt,hz⟩:=I1.tuple hq
 refine zao (show s1.heap.IsTuple l its.toArray from pt) λh' he hi hk=>?_
 refine wpAny_pyIter_enum he ⟨s1.heap.objs.size+1,[s1.heap.objs.size+1,s1.heap.objs.size],_,_,H1,rfl,I1.kept (t' := s1.toks) hk,zaf l _ _,⟨⟨_,he⟩,hi⟩,λb hb=>?_,q⟩
 have hb' : s1.heap.objs.size<=b:=by
  rcases mem_cons.mp hb with rfl | hb
  ·exact le_succ _
  ·rw[mem_singleton.mp hb];exact Nat.le_refl _
 exact I1.zgW hb' (I1.hok.fresh hb')
theorem VV:bootBuiltins "list" = some (.type "list"):=by decide +kernel
end
section
variable {X:Cx}{K:PySem.W.Frag}
theorem VL (e:X.K=K):IxR X (zg3 K):=by subst e;exact zgI
theorem Yy (e:X.K=K):IxR X (zfb K):=by subst e;exact zd3
theorem Us (e:X.K=K):SlR X (zgv K):=by subst e;exact zdX
theorem zdO (e:X.K=K)(hu:X.A.units+64<cLine):OpR X (compareOp .Eq) (ze5 K λb=>b):=by subst e;exact zgK hu
theorem Wt (e:X.K=K)(hu:X.A.units+64<cLine):OpR X (compareOp .NotEq) (ze5 K λb=>!b):=by subst e;exact zfq hu
theorem YZ (e:X.K=K):Jb X (.builtin "len") (λxs H Q=>∃ p ys,xs=[.ref p]/\(SqL K H p ys\/SqT K H p ys)/\Q (.int ys.length) H):=by subst e;exact QL
theorem Yg (e:X.K=K):Jb X (.type "tuple") (λxs H Q=>∃ p ys,xs=[.ref p]/\((SqL K H p ys/\∀ l,H l=none->Q (.ref l) (upd H l (.tup ys)))\/(SqT K H p ys/\Q (.ref p) H))):=by subst e;exact J5
end
theorem zaK {op:BoolOp}{vs:List Expr}{p:Pos}{es:List Expr}{env:Env}:starEach (.BoolOp op vs p::es) env=(false,eval (.BoolOp op vs p) env)::starEach es env:=rfl
theorem Yz {a:Expr}{op:Operator}{b:Expr}{p:Pos}{es:List Expr}{env:Env}:starEach (.BinOp a op b p::es) env=(false,eval (.BinOp a op b p) env)::starEach es env:=rfl
theorem W8 {a:Expr}{g:List Comprehension}{sc:Scope}{p:Pos}{es:List Expr}{env:Env}:starEach (.ListComp a g sc p::es) env=(false,eval (.ListComp a g sc p) env)::starEach es env:=rfl
theorem zai {a:Expr}{ops:List CmpOp}{cs:List Expr}{p:Pos}{es:List Expr}{env:Env}:starEach (.Compare a ops cs p::es) env=(false,eval (.Compare a ops cs p) env)::starEach es env:=rfl
theorem Wv {f:Expr}{as:List Expr}{kw:List Keyword}{p:Pos}{es:List Expr}{env:Env}:starEach (.Call f as kw p::es) env=(false,eval (.Call f as kw p) env)::starEach es env:=rfl
theorem ZQ {c:Const}{k:Nat}{p:Pos}{es:List Expr}{env:Env}:starEach (.Constant c k p::es) env=(false,eval (.Constant c k p) env)::starEach es env:=rfl
theorem Yn {a b:Expr}{p:Pos}{es:List Expr}{env:Env}:starEach (.Subscript a b p::es) env=(false,eval (.Subscript a b p) env)::starEach es env:=rfl
theorem Ze {n:Str}{p:Pos}{es:List Expr}{env:Env}:starEach (.Name n p::es) env=(false,eval (.Name n p) env)::starEach es env:=rfl
theorem VM {as:List Expr}{k:Nat}{p:Pos}{es:List Expr}{env:Env}:starEach (.Tuple as k p::es) env=(false,eval (.Tuple as k p) env)::starEach es env:=rfl
theorem Vd {as:List Expr}{p:Pos}{es:List Expr}{env:Env}:starEach (.JoinedStr as p::es) env=(false,eval (.JoinedStr as p) env)::starEach es env:=rfl
section
variable {X:Cx}
def zfu (ta:TA):TE:=fun σ H Q=>ta σ H λvs H1=>∃ j:Int,vs=[.int j]/\0<=j/\j.toNat<=2 ^ 24/\∀ l,H1 l=none->Q (.ref l) (upd H1 l (.lst ((List.range j.toNat).map λ(i:Nat)=>V.int i)))
theorem zbS {a:Expr}{ta:TA}{p1 p2 q1 q2:Pos}(hc:X.calm=true)(hg1:Gl X "list")(hm1:X.mg "list" = none)(hg2:Gl X "range")(hm2:X.mg "range" = none)(ha:PA X [a] ta)
  (hs1:starEach [.Call (.Name "range" p2) [a] [] q2] X.env=[(false,eval (.Call (.Name "range" p2) [a] [] q2) X.env)]:=by rfl) (hs2:starEach [a] X.env=[(false,eval a X.env)]:=by rfl):
  PE X (.Call (.Name "list" p1) [.Call (.Name "range" p2) [a] [] q2] [] q1) (zfu ta):=by
 intro pins s σ H Q I h
 refine wpAny_Call_Name_kw (Wf I hg1 hm1 VV (PyProof.Rows.callWith_type1 ?_ hs1 rfl))
 rw[hs1]
 show wpAny _ _ (spliced [(false,eval (.Call (.Name "range" p2) [a] [] q2) X.env)]) _ _ s
 refine spliced_cons (wpAny_Call_Name_kw (Wf I hg2 hm2 boot_range (PyProof.Rows.callWith_type1 (thn (ha q2 pins s σ H _ I h) λus s1 ⟨vs,H1,I1,r1,q1⟩=>?_) hs2 rfl)))
 obtain ⟨j,e,j0,j1,q⟩:=q1
 subst e
 obtain ⟨u,rfl,r⟩:=Vals.one r1
 obtain ⟨t,rfl⟩:=r
 refine call_range_1 (spliced_nil ?_)
 have hsz:∀ o:Obj,(s1.heap.push o).objs.size=s1.heap.objs.size+1:=λo=>size_push ..
 refine call_list_range (n:=j.toNat) (I.ok.hd hc) (IsRange.new ..) (small_one (by omega) (by omega) (by omega) (by omega)) (by rw[rangeSize_one];split <;> omega) j1 λh' tk acc c' hk hS hacc=>?_
 dsimp only at hk hS
 rw[hsz] at hS ⊢
 have hold:∀ b o,s1.heap.get? b=some o->h'.get? b=some o:=λb o e=>hk b o (get?_push_of_some _ e)
 have hv:Vals ((List.range j.toNat).map λ(i:Nat)=>V.int i) acc.toList:=by
  obtain ⟨z1,z2⟩:=hacc
  have key:∀ (n:Nat) (l:List Value),l.length=n->(∀ i v,l[i]?=some v->∃ t,v=Value.int (i:Nat) t)->Vals ((List.range n).map λ(i:Nat)=>V.int i) l:=by
   intro n
   induction n with
   | zero=>intro l hl _;cases l with
    | nil=>exact .nil
    | cons _ _=>cases hl
   | succ n ih=>
    intro l hl hi
    have e1:l=l.dropLast++[l[n]'(by omega)]:=by
     have hne:l≠[]:=by intro z;subst z;cases hl
     have:=(List.dropLast_concat_getLast hne).symm
     rw[List.getLast_eq_getElem] at this
     simpa [hl] using this
    rw[e1,range_succ,map_append]
    refine Vals.append (ih l.dropLast (by simp[hl]) λi v hv=>?_) ?_
    ·refine hi i v ?_
     have hlt:=(List.getElem?_eq_some_iff.mp hv).1
     rw[List.getElem?_dropLast] at hv
     split at hv
     ·exact hv
     ·cases hv
    ·obtain ⟨t,e⟩:=hi n (l[n]'(by omega)) (List.getElem?_eq_getElem (by omega))
     exact .cons ⟨t,e⟩ .nil
  refine key j.toNat acc.toList (by simp[z1]) λi v hv=>?_
  obtain ⟨t,e⟩:=z2 i v (by simpa using hv)
  exact ⟨t,by rw[e];simp⟩
 have hn:=I1.hok.fresh (le_succ s1.heap.objs.size)
 have z24:(2:Nat) ^ 24<=sizeLine:=by decide
 exact ⟨.ref (s1.heap.objs.size+1),_,I1.laid (h' := h') (t' := tk) (o:=.lst ((List.range j.toNat).map λ(i:Nat)=>V.int i)) hold (le_succ _) ⟨by simp;omega,acc.toList,c',hv,hS⟩,rfl,q _ hn⟩
end
noncomputable def tyN:PyData->String
 | .none=> "NoneType"
 | .bool _=> "bool"
 | .int _=> "int"
 | .str _=> "str"
 | .list _=> "list"
 | .tuple _=> "tuple"
 | .dict _=> "dict"
def zgZ (K:PySem.W.Frag):List V->Hp->VK->Prop:=λxs H Q=>∃ G x d n b,xs=[x,.ty n]/\Zm G H/\Dat K G x d/\kitOne K (.type (tyN d)) (.type n)=some b/\Q (.bl b) H
theorem zcz {X:Cx}{K:PySem.W.Frag}(eK:X.K=K):Jb X (.builtin "isinstance") (zgZ K):=by
 subst eK
 intro pins s σ H xs us Q I r h
 obtain ⟨G,x,d,n,b,rfl,sg,hd,e,q⟩:=h
 obtain ⟨u,w',rfl,rx,ry⟩:=vals2 r
 cases (show w'=Value.type n from ry)
 have fin:∀ tk,EP X pins σ Q (.bool b) { s with toks:=tk }:=λtk=>⟨.bl b,H,I.tok _,rfl,q⟩
 cases d with
 | none=>rw[hd.non] at rx;exact X8 I rx .non e fin
 | bool y=>rw[hd.bl] at rx;exact X8 I rx (.bl y) e fin
 | int i=>rw[hd.int] at rx;exact X8 I rx (.int i) e fin
 | str y=>rw[hd.str] at rx;exact X8 I rx (.str y) e fin
 | list ds=>
  obtain ⟨p,ys,rfl,hp,_⟩:=hd.lst
  cases (show u=Value.ref p from rx)
  obtain ⟨its,_,⟨o,n',e1,c,_⟩,_⟩:=I.list (SqL.of (sg _ _ hp))
  exact kia_one kitx_list I.kIn ⟨o,e1,c⟩ e (λz=>nomatch z) fin
 | tuple ds=>
  obtain ⟨p,ys,rfl,hp,_⟩:=hd.tup
  cases (show u=Value.ref p from rx)
  obtain ⟨its,_,⟨o,e1,c,_⟩,_⟩:=I.tuple (sg.tup hp)
  exact kia_one kitx_tuple I.kIn ⟨o,e1,c⟩ e (λz=>nomatch z) fin
 | dict _=>unfold Dat at hd;exact hd.elim
theorem zfS {K:PySem.W.Frag}{σ:St}{G:Hp}{ta:TE}{d:PyData}{n:String}{b:Bool}(ha:Ev K ta σ G d)(e:kitOne K (.type (tyN d)) (.type n)=some b):Ev K (tCB (zgZ K) (YD ta (YD (tC (.ty n)) Ud))) σ G (.bool b):=
 λG1 H s1 s2 Q k=>ha G1 H s1 s2 _ λx G2 H2 g2 hx=>⟨G2,x,d,n,b,rfl,g2.gh,hx,e,k _ G2 H2 g2 (YH b)⟩
theorem Vl:fillsNumberSlot (.type "tuple") "mul" = pure false:=
 PySem.fillsNumberSlot_seq (id:= "tuple.__mul__") (r:=some (.builtin "tuple.__rmul__")) F.slot_tuple_mul.lookup (by decide +kernel) F.slot_tuple_rmul.lookup (by decide +kernel)
theorem zen:seqRepeat? (.type "tuple")=pure (some (.builtin "tuple.__mul__")):=by
 unfold seqRepeat?
 rw[PySem.seqSlot_of (T:= "tuple") (name:= "__mul__") (id:= "tuple.__mul__") F.slot_tuple_mul.lookup (by decide +kernel),PySem.seqSlot_of (T:= "tuple") (name:= "__rmul__") (id:= "tuple.__rmul__") F.slot_tuple_rmul.lookup (by decide +kernel)]
 rfl
theorem QS (a:Int)(t:Tok)(l:Addr)(items:Array Value)(n:Nat)(dct:Option Addr)(sl:Array (Option Value)):
  Meets (Builtin.«int.__rmul__» ⟨[.int a t,.ref l],[]⟩) (λ_ R s=>s.heap.get? l=some { cls:=.type "tuple",dict:=dct,data:=.seq items n,slots:=sl }/\R (.ok (.ret Value.notImplemented)) s):=
 .of_wp λprog w A R s h=>by obtain ⟨hp,g,d,tk,os⟩:=s;obtain ⟨q1,h⟩:=h;wp_walk;exact ⟨_,rfl,h⟩
theorem zaP (l:Addr)(items:Array Value)(n:Nat)(t:Tok)(dct:Option Addr)(sl:Array (Option Value)):
  Meets (Builtin.«tuple.__mul__» ⟨[.ref l,.int 1 t],[]⟩) (λ_ R s=>s.heap.get? l=some { cls:=.type "tuple",dict:=dct,data:=.seq items n,slots:=sl }/\R (.ok (.ret (Value.ref l))) s):=
 .of_wp λprog w A R s h=>by
  obtain ⟨hp,g,d,tk,os⟩:=s;obtain ⟨q1,h⟩:=h
  wp_walk using AutoSeq1.wpAny_loadPart' q1
  exact ⟨_,rfl,h⟩
theorem Qz (a:Array Value):∀ (k:Nat) (acc:Array Value),(List.foldl (λx1 x2=>x1++x2) acc (List.replicate k a)).size=acc.size+k*a.size
 | 0,acc=>by simp
 | k+1,acc=>by rw[replicate_succ,foldl_cons,Qz a k,Array.size_append,Nat.succ_mul];omega
theorem zaV (l:Addr)(items:Array Value)(n:Nat)(x:Int)(t:Tok)(dct:Option Addr)(sl:Array (Option Value))(h2:2<=x)(h3:x<=1000)(he:items.isEmpty=false)(hz:items.size<=1000):
  Meets (Builtin.«tuple.__mul__» ⟨[.ref l,.int x t],[]⟩) (λ_ R s=>s.heap.get? l=some { cls:=.type "tuple",dict:=dct,data:=.seq items n,slots:=sl }/\
   R (.ok (.ret (Value.ref s.heap.objs.size))) { s with heap:=s.heap.push { cls:=.type "tuple",data:=.seq ((List.replicate x.toNat items).foldl (· ++ ·) #[]) } }):=
 .of_wp λprog w A R s h=>by
  obtain ⟨hp,g,d,tk,os⟩:=s;obtain ⟨q1,h⟩:=h
  have b1:(decide (x < -(2 ^ 63))||decide (x ≥ 2 ^ 63))=false:=by
   rw[decide_eq_false (by omega),decide_eq_false (by omega)];rfl
  have b2:(items.isEmpty||x==1)=false:=by rw[he,Bool.false_or];exact beq_eq_false_iff_ne.mpr (by omega)
  have b3:(decide (x<=0)||items.isEmpty)=false:=by rw[he,decide_eq_false (by omega)];rfl
  have hs:items.size*x.toNat<=1000*1000:=mul_le_mul hz (by omega)
  have hs' : ((items.size:Nat):Int)*x=((items.size*x.toNat:Nat):Int):=by
   rw[Int.natCast_mul];congr 1;omega
  have b4:decide (((items.size:Nat):Int)*x>(2 ^ 63-1) / 8)=false:=decide_eq_false (by rw[hs'];omega)
  wp_walk using AutoSeq1.wpAny_loadPart' q1
  rw[if_neg (by rw[b1];exact Bool.false_ne_true)]
  wp_walk using AutoSeq1.wpAny_loadPart' q1
  rw[if_neg (by rw[b2];exact Bool.false_ne_true)]
  wp_walk using AutoSeq1.wpAny_loadPart' q1
  rw[if_neg (by rw[b3];exact Bool.false_ne_true)]
  wp_walk using AutoSeq1.wpAny_loadPart' q1
  rw[if_neg (of_decide_eq_false b4)]
  wp_walk using AutoSeq1.wpAny_loadPart' q1
  have zl:(1000:Nat)*1000<=sizeLine:=by decide
  have b5:Builtin.Tuple.tupleTooMany (((items.size:Nat):Int)*x)=false:=by
   unfold Builtin.Tuple.tupleTooMany
   exact decide_eq_false (by rw[hs'];omega)
  rw[if_neg (by rw[b5];exact Bool.false_ne_true)]
  wp_walk using AutoSeq1.wpAny_loadPart' q1
  rw[if_neg (show ¬ (List.foldl (λx1 x2=>x1++x2) #[] (List.replicate x.toNat items)).size>sizeLine by rw[Qz];simp;rw[Nat.mul_comm];omega)]
  wp_walk
  exact ⟨_,rfl,h⟩
open PySem PySem.Spec PyProof.Rows StbG
section
variable {prog:Program}{w:World}{A:Around}{E:Value->Shared->Prop}{s:Shared}
def ZM (h:Heap)(v:Value)(a b:Int):Prop:=∃ p o t u n,v = .ref p/\h.get? p=some o/\o.cls = .type "tuple" /\ o.data = .seq #[.int a t,.int b u] n
theorem zbW {x y:Value}{a b c d:Int}{Q:Bool->Shared->Prop}(hx:ZM s.heap x a b)(hy:ZM s.heap y c d)(h:Q (decide (a<c\/(a=c/\b<d))) s):wpAny (model prog w) A (keyLt' (tuples' true) x y) Q E s:=by
 obtain ⟨p,o,t,u,n,rfl,e1,_,d1⟩:=hx
 obtain ⟨p2,o2,t2,u2,n2,rfl,e2,_,d2⟩:=hy
 refine PySem.W.kat_lt e1 d1 e2 d2 ?_
 show PySem.W.KatLex prog w A true _ Q [(.int a t,.int c t2),(.int b u,.int d u2)] 0 s
 refine kat_cons (wpAny_eqBool_int (kat_go (λz=>kat_yes (kat_cons (wpAny_eqBool_int (kat_go (λz2=>kat_yes (PySem.W.kat_nil ?_)) λz2=>kat_no (PySem.W.kat_one _ _ (lt_int ?_)))))) λz=>kat_no (oneLt_int ?_)))
 ·have e1:a=c:=by simpa using z
  have e2:b=d:=by simpa using z2
  have:decide (a<c\/(a=c/\b<d))=false:=decide_eq_false (by omega)
  rw[this] at h
  exact h
 ·have e1:a=c:=by simpa using z
  have:decide (a<c\/(a=c/\b<d))=decide (b<d):=decide_eq_decide.mpr (by omega)
  rw[this] at h
  exact h
 ·have e1:a≠c:=by simpa using z
  have:decide (a<c\/(a=c/\b<d))=decide (a<c):=decide_eq_decide.mpr (by omega)
  rw[this] at h
  exact h
theorem zaO {ρ:Keyed->Int}{vs:List Value}(h:∀ p∈(vs.toArray.zip vs.toArray).toList,∃ a b,ZM s.heap p.1 a b/\0<=b/\b<1000/\ρ p=a*1000+b):Cmp prog w A E s ρ (tuples' true) (vs.toArray.zip vs.toArray):=by
 intro st i j Q hB hi hj hq
 have at_:∀ k,k<(vs.toArray.zip vs.toArray).size->∃ x q a b,(arrOf st)[k]?=some (x,q)/\ZM s.heap x a b/\0<=b/\b<1000/\R ρ (arrOf st) k=a*1000+b:=λk hk=>by
  have hk' : k<(arrOf st).size:=by rw[hB.size];exact hk
  have hm:(arrOf st)[k]∈(vs.toArray.zip vs.toArray).toList:=(perm_iff_toList_perm.mp hB.perm).mem_iff.mp (by simp)
  obtain ⟨a,b,hp,b0,b1,e⟩:=h _ hm
  have e' : (arrOf st)[k]?=some (arrOf st)[k]:=getElem?_pos _ k hk'
  exact ⟨(arrOf st)[k].1,(arrOf st)[k].2,a,b,e',hp,b0,b1,by unfold R;rw[e'];exact e⟩
 obtain ⟨x,p,a,b,ei,hx,x0,x1,ri⟩:=at_ i hi
 obtain ⟨y,q,c,d,ej,hy,y0,y1,rj⟩:=at_ j hj
 rw[ri,rj] at hq
 have e:decide (a*1000+b<c*1000+d)=decide (a<c\/(a=c/\b<d)):=decide_eq_decide.mpr (by omega)
 rw[e] at hq
 rw[ltAt'_eq]
 refine wpS_bind (wpS_get ?_)
 show wpS _ _ _ _ (do let x ← elem' (arrOf st) i;let y ← elem' (arrOf st) j;lt' x y) Q st
 rw[elem'_eq,elem'_eq,ei,ej]
 refine wpS_bind (wpS_pure (wpS_bind (wpS_pure ?_)))
 rw[lt'_eq]
 refine wpS_bind (wpS_get ?_)
 rw[hB.kind]
 exact wpS_bind (wpS_lift (wpAny_attempt (zbW hx hy ⟨rfl,wpS_pure hq⟩)))
theorem JR {vs:List Value}{Q:SortKind->Shared->Prop}(h:∀ v∈vs,∃ a b,ZM s.heap v a b)(hne:vs≠[])(hq:Q (tuples' true) s):wpAny (model prog w) A (keyKind' vs.toArray) Q E s:=by
 have key:∀ vs:List Value,(∀ v∈vs,∃ a b,ZM s.heap v a b)->∃ fs:List Value,KatTups s.heap vs fs/\fs.length=vs.length/\∀ f∈fs,∃ a t,f = .int a t:=by
  intro vs
  induction vs with
  | nil=>intro _;exact ⟨[],.nil,rfl,λf hf=>by cases hf⟩
  | cons v r ih=>
   intro h
   obtain ⟨fs,k1,k2,k3⟩:=ih λz hz=>h z (mem_cons_of_mem _ hz)
   obtain ⟨a,b,p,o,t,u,n,rfl,e1,c1,d1⟩:=h v mem_cons_self
   exact ⟨.int a t::fs,KatTups.cons e1 c1 d1 rfl k1,by rw[length_cons,length_cons,k2],λf hf=>by
    rcases mem_cons.mp hf with rfl | hf
    ·exact ⟨a,t,rfl⟩
    ·exact k3 f hf⟩
 obtain ⟨fs,k1,k2,k3⟩:=key vs h
 refine PySem.W.kat_kind (T:=.type "int") k1 (by rw[k2];cases vs with | nil=>exact absurd rfl hne | cons=>simp) (λf hf=>?_) (by decide) hq
 obtain ⟨a,t,rfl⟩:=k3 f hf
 exact Looks.of_pure rfl
noncomputable def pN (h:Heap) (v:Value):Int:=match v with
 | .ref p=>match h.get? p with
  | some o=>match o.data with
   | .seq xs _=>numOf (xs.getD 0 .none)*1000+numOf (xs.getD 1 .none)
   | _=>0
  | none=>0
 | _=>0
theorem zfY {h:Heap}{v:Value}{a b:Int}(x:ZM h v a b):pN h v=a*1000+b:=by
 obtain ⟨p,o,t,u,n,rfl,e1,_,d1⟩:=x
 unfold pN
 dsimp only
 rw[e1]
 show (match o.data with | .seq xs _=>numOf (xs.getD 0 .none)*1000+numOf (xs.getD 1 .none) | _=>0)=_
 rw[d1]
 rfl
theorem ZM.keep {h h' : Heap}{v:Value}{a b:Int}(x:ZM h v a b)(k:∀ b o,h.get? b=some o->h'.get? b=some o):ZM h' v a b:=by
 obtain ⟨p,o,t,u,n,e,e1,r⟩:=x
 exact ⟨p,o,t,u,n,e,k _ _ e1,r⟩
abbrev pz (vs:List Value):Array Keyed:=vs.toArray.zip vs.toArray
theorem Wq (vs:List Value):(pz vs).size=vs.length:=by simp[pz]
theorem zaD {vs:List Value}{p:Keyed}(h:p∈(pz vs).toList):p.1∈vs/\p.2=p.1:=by
 have e:(pz vs).toList=vs.zip vs:=by simp[pz]
 rw[e] at h
 obtain ⟨i,hi⟩:=List.getElem?_of_mem h
 rw[List.getElem?_zip_eq_some] at hi
 exact ⟨mem_of_getElem? hi.1,Option.some.inj (hi.2.symm.trans hi.1)⟩
theorem VF {a:Addr}{vs:List Value}{n:Nat}{ρ:Keyed->Int}{P:PySem.Fin->Shared->Prop}(ho:s.heap.get? a=some (seqObj "list" vs.toArray n))(hv:∀ v∈vs,∃ x y,ZM s.heap v x y/\0<=y/\y<1000/\∀ q,ρ (v,q)=x*1000+y)(z64:vs.length<64)
  (k:∀ st' : SortSt,(arrOf st').Perm (pz vs)->Up ρ (λ_=>0) (arrOf st') (pz vs).size->P (.done (.ret .none)) { s with heap:=sortedHeap s.heap a vs ((arrOf st').map (·.2)) }):wpAny (model prog w) A (Builtin.«list.sort» ⟨[.ref a],[]⟩) P E s:=by
 have la:a<s.heap.objs.size:=lt_size ho
 have zl:(64:Nat)<=sizeLine:=by decide
 obtain ⟨e1,ho1⟩:∃ e1,(s.heap.update a (Obj.mapSeq λ_=>#[])).get? a=some (seqObj "list" #[] e1):=⟨_,get?_update_seq ho λ_=>#[]⟩
 have ho6:(((s.heap.update a (Obj.mapSeq λ_=>#[])).push (seqObj "tuple" vs.toArray 0)).push (seqObj "list" #[] 0)).get? a=some (seqObj "list" #[] e1):=get?_push_of_some _ (get?_push_of_some _ ho1)
 rw[list_sort_plain]
 refine wpAny_bind (listItems_at ho rfl (wpAny_bind (listUpdate_at ho rfl ?_ (by rw[size_toArray];omega) (zero_le _))))
 refine wpAny_bind (seqEpoch_at ho1 rfl (wpAny_bind (wpAny_newTuple ?_ (by show vs.toArray.toList.length<=_;rw[List.toList_toArray];omega))))
 refine wpAny_bind (wpAny_newList (wpAny_holding ?_) (zero_le _))
 show wpAny (model prog w) A _ P E { s with heap:=((s.heap.update a (Obj.mapSeq λ_=>#[])).push (seqObj "tuple" vs.toArray 0)).push (seqObj "list" #[] 0) }
 have keep:∀ v∈vs,∀ x y,ZM s.heap v x y->ZM (((s.heap.update a (Obj.mapSeq λ_=>#[])).push (seqObj "tuple" vs.toArray 0)).push (seqObj "list" #[] 0)) v x y:=λv hv' x y pa=>by
  obtain ⟨p,o,t,u,m,e,e1',c1,d1⟩:=pa
  have npa:a≠p:=λz=>by
   subst z
   rw[ho] at e1'
   have eo:=Option.some.inj e1'
   rw[← eo] at c1
   have c2:Value.type "list" = Value.type "tuple" := c1
   injection c2 with c2
   exact absurd c2 (by decide)
  exact ⟨p,o,t,u,m,e,get?_push_of_some _ (get?_push_of_some _ ((get?_update_other s.heap _ npa).trans e1')),c1,d1⟩
 have osz:∀ st' : SortSt,(arrOf st').Perm (pz vs)->((arrOf st').map (·.2)).size<=sizeLine+1:=λst' hp=>by rw[Array.size_map,hp.size_eq,Wq];omega
 dsimp only
 by_cases h2:vs.toArray.size<2
 ·rw[if_pos h2,if_pos h2]
  refine wpAny_bind (wpAny_pure ?_)
  rw[StateT.run_pure]
  refine wpAny_bind (wpAny_pure ?_)
  dsimp only
  refine wpAny_bind (seqEpoch_at ho6 rfl (wpAny_bind (listUpdate_at ho6 rfl ?_ (zero_le _) (osz (SortSt.mk' general' (pz vs) #[] 7 none) (Array.Perm.refl _)))))
  simp only[bne_self_eq_false,false_eq_true,if_false]
  refine wpAny_pure (k (SortSt.mk' general' (pz vs) #[] 7 none) (Array.Perm.refl _) λi j hij hj=>?_)
  rw[Wq] at hj
  rw[size_toArray] at h2
  omega
 ·rw[if_neg h2,if_neg h2]
  rw[size_toArray] at h2
  refine wpAny_bind (JR (λv hv' => ?_) (λz=>by subst z;simp at h2) ?_)
  ·obtain ⟨x,y,pa,_⟩:=hv v hv'
   exact ⟨x,y,keep v hv' x y pa⟩
  refine wpAny_bind (wpAny_mono (zfZ (ρ:=ρ) (τ:=λ_=>0) (κ:=tuples' true) (a₀:=pz vs) (st:=SortSt.mk' (tuples' true) (pz vs) #[] 7 none) (Q:=λ_ st' => (arrOf st').Perm (pz vs)/\failedOf st'=none/\Up ρ (λ_=>0) (arrOf st') (pz vs).size)
   (zaO λp hp=>?_) ⟨Array.Perm.refl _,rfl,rfl,rfl⟩ (by rw[Wq];omega) (by rw[Wq];exact z64) (λi j _ _ _=>?_) λst' a1 a2 a3=>⟨a1,a2,a3⟩) ?_ λ_ _ e=>e)
  ·obtain ⟨m1,m2⟩:=zaD hp
   obtain ⟨x,y,pa,y0,y1,e⟩:=hv _ m1
   exact ⟨x,y,keep _ m1 x y pa,y0,y1,e p.2⟩
  ·unfold R
   split <;> split <;> exact Int.le_refl _
  rintro ⟨⟨⟩,st'⟩ s' ⟨rfl,hp,hf,hu⟩
  dsimp only
  refine wpAny_bind (seqEpoch_at ho6 rfl (wpAny_bind (listUpdate_at ho6 rfl ?_ (zero_le _) (osz st' hp))))
  rw[hf]
  simp only[bne_self_eq_false,false_eq_true,if_false]
  exact wpAny_pure (k st' hp hu)
end
theorem zbg {α β:Type}{f:α->β}{a b:List β}(h:a.Perm b):∀ {Z:List α},Z.map f=b->∃ Z' : List α,Z'.Perm Z/\Z'.map f=a:=by
 induction h with
 | nil=>intro Z e;exact ⟨Z,.refl _,e⟩
 | cons x h ih=>
  intro Z e
  cases Z with
  | nil=>cases e
  | cons z Z=>
   injection e with e1 e2
   obtain ⟨Z',p,e3⟩:=ih e2
   exact ⟨z::Z',p.cons z,by rw[map_cons,e1,e3]⟩
 | swap x y l=>
  intro Z e
  match Z,e with
  | z::z2::Z,e=>
   injection e with e1 e2
   injection e2 with e2 e3
   exact ⟨z2::z::Z,.swap _ _ _,by rw[map_cons,map_cons,e1,e2,e3]⟩
 | trans h1 h2 i1 i2=>
  intro Z e
  obtain ⟨Z2,p2,e2⟩:=i2 e
  obtain ⟨Z1,p1,e1⟩:=i1 e2
  exact ⟨Z1,p1.trans p2,e1⟩
abbrev dPr (p:Int×Int):PyData:=.tuple [.int p.1,.int p.2]
section
variable {X:Cx}{pins:List (Addr×Obj)}{σ:St}{H G:Hp}{s:Shared}
theorem zer (I:Inv X pins σ H s)(sg:Zm G H){v:V}{u:Value}{q:Int×Int}(r:RelV v u)(h:Dat X.K G v (dPr q)):ZM s.heap u q.1 q.2:=by
 obtain ⟨p,xs,rfl,hp,hxs⟩:=h.tup
 obtain ⟨y,ys,rfl,hy,hxs⟩:=hxs.cons
 obtain ⟨z,zs,rfl,hz,hxs⟩:=hxs.cons
 cases hxs.nil
 cases hy.int
 cases hz.int
 obtain rfl:u=Value.ref p:=r
 obtain ⟨its,rv,⟨o,e1,c1,n,d1⟩,_⟩:=I.tuple (sg.tup hp)
 cases rv with
 | cons r1 rv=>
  cases rv with
  | cons r2 rv=>
   cases rv
   obtain ⟨t,rfl⟩:=r1
   obtain ⟨t2,rfl⟩:=r2
   exact ⟨p,o,t,t2,n,rfl,e1,c1,d1⟩
theorem triples (I:Inv X pins σ H s)(sg:Zm G H):∀ {vs:List V}{its:List Value}{ps:List (Int×Int)},Vals vs its->Zz X.K G vs (ps.map dPr)->∃ Z:List (Value×V×(Int×Int)),Z.map (·.1)=its/\Z.map (·.2.2)=ps/\∀ z∈Z,RelV z.2.1 z.1/\Dat X.K G z.2.1 (dPr z.2.2)/\ZM s.heap z.1 z.2.2.1 z.2.2.2
 | _,_,[],.nil,_=>⟨[],rfl,rfl,λz hz=>by cases hz⟩
 | _,_,_::_,.nil,h=>by obtain ⟨_,_,e,_⟩:=h.cons;cases e
 | _,_,[],.cons _ _,h=>by cases h.nil
 | v0::vs0,u0::us0,q::ps,.cons r rv,h=>by
  obtain ⟨y,ys,e,hy,h'⟩:=h.cons
  cases e
  obtain ⟨Z,e1,e2,e3⟩:=triples I sg rv h'
  refine ⟨(u0,v0,q)::Z,by rw[map_cons,e1],by rw[map_cons,e2],λz hz=>?_⟩
  rcases mem_cons.mp hz with rfl | hz
  ·exact ⟨r,hy,zer I sg r hy⟩
  ·exact e3 z hz
end
end L2
namespace J7
open PySem PySem.SetTable
def Ris (xs:List Nat):Prop:=xs.Pairwise (· < ·)
theorem J2 {xs:Array Nat}(h:Ris xs.toList)(j:Nat):∀ (fuel lo hi:Nat),hi<=lo+fuel->lo<=hi->hi<=xs.size->(∀ i,i<lo->xs.getD i j<j)->(∀ i,hi<=i->i<xs.size->j<=xs.getD i j)->
  lo<=below.go xs j fuel lo hi/\below.go xs j fuel lo hi<=xs.size/\(∀ i,i<below.go xs j fuel lo hi->xs.getD i j<j)/\∀ i,below.go xs j fuel lo hi<=i->i<xs.size->j<=xs.getD i j
 | 0,lo,hi,h1,h2,h3,h4,h5=>by
  have e:lo=hi:=by omega
  subst e
  exact ⟨Nat.le_refl _,h3,h4,h5⟩
 | fuel+1,lo,hi,h1,h2,h3,h4,h5=>by
  unfold below.go
  by_cases hl:lo<hi
  ·rw[if_pos hl]
   have mono:∀ a b,a<b->b<xs.size->xs.getD a j<xs.getD b j:=λa b hab hb=>by
    have:=List.pairwise_iff_getElem.mp h a b (by simpa using (by omega:a<xs.size)) (by simpa using hb) hab
    rw[getD_eq_getD_getElem?,getD_eq_getD_getElem?,Array.getElem?_eq_getElem (by omega),Array.getElem?_eq_getElem hb]
    simpa using this
   dsimp only
   by_cases hm:xs.getD ((lo+hi) / 2) j<j
   ·rw[if_pos hm]
    obtain ⟨a,b,c,d⟩:=J2 h j fuel ((lo+hi) / 2+1) hi (by omega) (by omega) h3 (λi hi' => by
     by_cases e:i=(lo+hi) / 2
     ·rw[e];exact hm
     ·have:=mono i ((lo+hi) / 2) (by omega) (by omega);omega) h5
    exact ⟨by omega,b,c,d⟩
   ·rw[if_neg hm]
    obtain ⟨a,b,c,d⟩:=J2 h j fuel lo ((lo+hi) / 2) (by omega) (by omega) (by omega) h4 (λi hi' hs=>by
     by_cases e:i=(lo+hi) / 2
     ·rw[e];omega
     ·have:=mono ((lo+hi) / 2) i (by omega) hs;omega)
    exact ⟨a,b,c,d⟩
  ·rw[if_neg hl]
   have e:lo=hi:=by omega
   subst e
   exact ⟨Nat.le_refl _,h3,h4,h5⟩
theorem Qo {xs:Array Nat}(h:Ris xs.toList)(j:Nat):below xs j<=xs.size/\(∀ i,i<below xs j->xs.getD i j<j)/\∀ i,below xs j<=i->i<xs.size->j<=xs.getD i j:=by
 unfold below
 exact (J2 h j xs.size 0 xs.size (by omega) (zero_le _) (Nat.le_refl _) (λi hi=>absurd hi (not_lt_zero _)) (λi h1 h2=>by omega)).2
theorem zbb {t:SetTable}(h:Ris t.place.toList){j i:Nat}(hi:t.place[i]?=some j):t.slot j = .live i:=by
 obtain ⟨b1,b2,b3⟩:=Qo h j
 have hlt:i<t.place.size:=(Array.getElem?_eq_some_iff.mp hi).1
 have gi:t.place.getD i j=j:=by rw[getD_eq_getD_getElem?,hi];rfl
 have e:below t.place j=i:=by
  rcases lt_trichotomy (below t.place j) i with l | l | l
  ·have hb:below t.place j<t.place.size:=by omega
   have h1:=b3 _ (Nat.le_refl _) hb
   have:=List.pairwise_iff_getElem.mp h (below t.place j) i (by simpa using hb) (by simpa using hlt) l
   rw[getD_eq_getD_getElem?,Array.getElem?_eq_getElem hb] at h1
   rw[getD_eq_getD_getElem?,Array.getElem?_eq_getElem hlt] at gi
   simp at h1 gi this
   omega
  ·exact l
  ·have:=b2 i l;omega
 unfold slot
 dsimp only
 rw[e,hi]
 simp
theorem zam {t:SetTable}(hd:t.dummies = #[]){j:Nat}(hj:∀ i:Nat,t.place[i]?≠some j):t.slot j = .empty:=by
 unfold slot has
 dsimp only
 rw[hd]
 have:(t.place[below t.place j]?==some j)=false:=by
  rw[eq_false_iff]
  intro h
  exact hj _ (by simpa using h)
 rw[this]
 simp[below,below.go]
noncomputable def adv (mask:Nat) (p:Probe):Probe:=if p.more>0 then { p with j:=p.j+1,more:=p.more-1 } else
 { p with j:=(leap mask p.i p.perturb).1,more:=runEnd mask (leap mask p.i p.perturb).1-(leap mask p.i p.perturb).1,i:=(leap mask p.i p.perturb).1,perturb:=(leap mask p.i p.perturb).2 }
noncomputable def sta (mask:Nat) (h:Int):Probe:={ j:=bits h % (mask+1),more:=runEnd mask (bits h % (mask+1))-bits h % (mask+1),i:=bits h % (mask+1),perturb:=bits h,dummy:=none }
noncomputable def way (mask:Nat):Nat->Probe->Probe
 | 0,p=>p
 | k+1,p=>way mask k (adv mask p)
theorem Wk (mask:Nat):∀ (k:Nat) (p:Probe),way mask (k+1) p=adv mask (way mask k p)
 | 0,p=>rfl
 | k+1,p=>Wk mask k (adv mask p)
theorem YS (mask a:Nat):∀ (b:Nat) (p:Probe),way mask (a+b) p=way mask a (way mask b p)
 | 0,p=>rfl
 | b+1,p=>by show way mask (a+b) (adv mask p)=_;exact YS mask a b (adv mask p)
structure Std (mask:Nat)(p:Probe):Prop where
 i:p.i<=mask
 ij:p.i<=p.j
 m:p.j+p.more=runEnd mask p.i
 pt:p.perturb<2 ^ 64
 d:p.dummy=none
theorem Xl {mask i:Nat}(h:i<=mask):i<=runEnd mask i/\runEnd mask i<=mask/\runEnd mask i<=i+9:=by unfold runEnd;split <;> omega
theorem Std.j {mask:Nat}{p:Probe}(s:Std mask p):p.j<=mask:=by
 have:=Xl s.i
 have:=s.m
 omega
theorem Je (mask:Nat)(h:Int):Std mask (sta mask h):=by
 have hi:bits h % (mask+1)<=mask:=Nat.le_of_lt_succ (mod_lt _ (Nat.succ_pos mask))
 have:=Xl hi
 refine ⟨hi,Nat.le_refl _,?_,?_,rfl⟩
 ·show bits h % (mask+1)+(runEnd mask (bits h % (mask+1))-bits h % (mask+1))=runEnd mask (bits h % (mask+1));omega
 ·show bits h<2 ^ 64
  unfold bits
  have h1:=emod_lt_of_pos h (show (0:Int)<2 ^ 64 by decide)
  have h2:=emod_nonneg h (show (2 ^ 64:Int)≠0 by decide)
  omega
theorem zed {mask:Nat}{p:Probe}(s:Std mask p):Std mask (adv mask p):=by
 unfold adv
 split
 ·exact ⟨s.i,Nat.le_succ_of_le s.ij,by have:=s.m;show p.j+1+(p.more-1)=runEnd mask p.i;omega,s.pt,s.d⟩
 ·have hi:(leap mask p.i p.perturb).1<=mask:=by
   show (p.i*5+1+p.perturb / 32) % (mask+1)<=mask
   exact Nat.le_of_lt_succ (mod_lt _ (Nat.succ_pos mask))
  have:=Xl hi
  refine ⟨hi,Nat.le_refl _,?_,?_,s.d⟩
  ·show (leap mask p.i p.perturb).1+(runEnd mask (leap mask p.i p.perturb).1-(leap mask p.i p.perturb).1)=runEnd mask (leap mask p.i p.perturb).1;omega
  ·show p.perturb / 32<2 ^ 64
   have:=s.pt
   omega
theorem YQ {mask:Nat}:∀ (k:Nat) {p:Probe},Std mask p->Std mask (way mask k p)
 | 0,_,s=>s
 | k+1,_,s=>YQ k (zed s)
noncomputable def lps (mask:Nat):Nat->Nat×Nat->Nat×Nat
 | 0,q=>q
 | m+1,q=>leap mask (lps mask m q).1 (lps mask m q).2
theorem zbK {mask:Nat}:∀ (m:Nat) {p:Probe},p.more=m->way mask m p={ p with j:=p.j+m,more:=0 }
 | 0,p,h=>by cases p;simp only at h;subst h;rfl
 | m+1,p,h=>by
  have e:adv mask p={ p with j:=p.j+1,more:=m }:=by unfold adv;rw[if_pos (by omega),h];rfl
  show way mask m (adv mask p)=_
  rw[e,zbK m rfl]
  show ({ p with j:=p.j+1+m,more:=0 }:Probe)=_
  rw[show p.j+1+m=p.j+(m+1) by omega]
theorem Jp {mask:Nat}:∀ (m:Nat) {p:Probe},Std mask p->∃ k,k<=10*(m+1)/\(way mask k p).j=(lps mask (m+1) (p.i,p.perturb)).1/\(way mask k p).i=(lps mask (m+1) (p.i,p.perturb)).1/\(way mask k p).perturb=(lps mask (m+1) (p.i,p.perturb)).2
 | 0,p,s=>by
  have r:=Xl s.i
  have:=s.m
  have hij:=s.ij
  refine ⟨p.more+1,by omega,?_⟩
  rw[Wk,zbK p.more rfl]
  unfold adv
  rw[if_neg (by simp)]
  exact ⟨rfl,rfl,rfl⟩
 | m+1,p,s=>by
  obtain ⟨k,hk,e1,e2,e3⟩:=Jp m s
  have s' := YQ k s
  obtain ⟨k2,hk2,f1,f2,f3⟩:=Jp 0 s'
  refine ⟨k2+k,by omega,?_⟩
  rw[YS]
  rw[e2,e3] at f1 f2 f3
  exact ⟨f1,f2,f3⟩
theorem zbo (mask:Nat):∀ (m:Nat) (q:Nat×Nat),(lps mask m q).2=q.2 / 32 ^ m
 | 0,q=>by show q.2=q.2 / 1;rw[Nat.div_one]
 | m+1,q=>by
  show (lps mask m q).2 / 32=_
  rw[zbo mask m q,Nat.div_div_eq_div_mul,Nat.pow_succ]
noncomputable def fv (mask i:Nat):Nat:=(i*5+1) % (mask+1)
noncomputable def itr (mask:Nat):Nat->Nat->Nat
 | 0,i=>i
 | k+1,i=>fv mask (itr mask k i)
theorem W6 (mask a:Nat):∀ (b i:Nat),itr mask (b+a) i=itr mask b (itr mask a i)
 | 0,i=>by rw[zero_add];rfl
 | b+1,i=>by rw[show b+1+a=(b+a)+1 by omega];show fv mask _=fv mask _;rw[W6 mask a b i]
theorem J4 (mask:Nat):∀ (k m:Nat) (q:Nat×Nat),(lps mask m q).2=0->(lps mask (m+k) q).1=itr mask k (lps mask m q).1/\(lps mask (m+k) q).2=0
 | 0,m,q,h=>⟨rfl,h⟩
 | k+1,m,q,h=>by
  obtain ⟨a,b⟩:=J4 mask k m q h
  refine ⟨?_,?_⟩
  ·show ((lps mask (m+k) q).1*5+1+(lps mask (m+k) q).2 / 32) % (mask+1)=fv mask _
   rw[a,b];rfl
  ·show (lps mask (m+k) q).2 / 32=0
   rw[b]
def Y6 (mask:Nat):Prop:=mask=7\/mask=31\/mask=127
noncomputable def Qe (mask:Nat):Nat->Nat->List Nat
 | 0,_=>[]
 | k+1,i=>i::Qe mask k (fv mask i)
theorem QH (mask:Nat):∀ (k i m:Nat),m<k->(Qe mask k i)[m]?=some (itr mask m i)
 | k+1,i,0,_=>rfl
 | k+1,i,m+1,h=>by
  show (Qe mask k (fv mask i))[m]?=_
  rw[QH mask k (fv mask i) m (by omega),W6 mask 1 m i];rfl
theorem Js (mask:Nat):∀ (k i:Nat),(Qe mask k i).length=k
 | 0,_=>rfl
 | k+1,i=>congrArg (· + 1) (Js mask k _)
theorem zh8:((List.range 8).all λj=>(Qe 7 8 0).contains j)=true/\itr 7 8 0=0:=by decide +kernel
theorem zho:((List.range 32).all λj=>(Qe 31 32 0).contains j)=true/\itr 31 32 0=0:=by decide +kernel
theorem zfw:((List.range 128).all λj=>(Qe 127 128 0).contains j)=true/\itr 127 128 0=0:=by decide +kernel
theorem orb {mask:Nat}(h:Y6 mask):(∀ j,j<=mask->∃ a,a<mask+1/\itr mask a 0=j)/\itr mask (mask+1) 0=0:=by
 have key:((List.range (mask+1)).all λj=>(Qe mask (mask+1) 0).contains j)=true/\itr mask (mask+1) 0=0:=by
  rcases h with rfl | rfl | rfl
  ·exact zh8
  ·exact zho
  ·exact zfw
 refine ⟨λj hj=>?_,key.2⟩
 have:=all_eq_true.mp key.1 j (mem_range.mpr (by omega))
 have hm:j∈Qe mask (mask+1) 0:=by simpa using this
 obtain ⟨a,ha,e⟩:=getElem_of_mem hm
 rw[Js] at ha
 have g:=QH mask (mask+1) 0 a ha
 rw[List.getElem?_eq_getElem (by rw[Js];exact ha),e] at g
 exact ⟨a,ha,(Option.some.inj g).symm⟩
theorem cyc {mask:Nat}(h:Y6 mask){s j:Nat}(hs:s<=mask)(hj:j<=mask):∃ q,q<=mask/\itr mask q s=j:=by
 obtain ⟨o1,o2⟩:=orb h
 obtain ⟨a,ha,rfl⟩:=o1 s hs
 obtain ⟨b,hb,rfl⟩:=o1 j hj
 by_cases hab:a<=b
 ·refine ⟨b-a,by omega,?_⟩
  rw[← W6];congr 1;omega
 ·refine ⟨b+(mask+1)-a,by omega,?_⟩
  rw[← W6,show b+(mask+1)-a+a=b+(mask+1) by omega,W6,o2]
theorem cover {mask:Nat}(hm:Y6 mask){p:Probe}(s:Std mask p){j:Nat}(hj:j<=mask):∃ k,k<10*turns mask/\(way mask k p).j=j:=by
 have z:(lps mask 13 (p.i,p.perturb)).2=0:=by
  rw[zbo]
  exact Nat.div_eq_of_lt (Nat.lt_of_lt_of_le s.pt (by decide))
 obtain ⟨k0,hk0,e1,e2,e3⟩:=Jp 12 s
 have hi:(lps mask 13 (p.i,p.perturb)).1<=mask:=by rw[← e2];exact (YQ k0 s).i
 obtain ⟨q,hq,eq⟩:=cyc hm hi hj
 obtain ⟨a,b⟩:=J4 mask q 13 (p.i,p.perturb) z
 obtain ⟨k,hk,f1,_,_⟩:=Jp (12+q) s
 refine ⟨k,by unfold turns;omega,?_⟩
 rw[f1,show 12+q+1=13+q by omega,a,eq]
inductive Scan (t:SetTable) (ha:Nat->Int) (h:Int):Probe->Met->Nat->Prop
 | emp {p:Probe}(_:t.slot p.j = .empty):Scan t ha h p (.empty p.j p.dummy) 0
 | cand {p:Probe}{i:Nat}(_:t.slot p.j = .live i) (_:ha i=h):Scan t ha h p (.candidate p.j i (t.advance p)) 0
 | step {p:Probe}{i k:Nat}{m:Met}(_:t.slot p.j = .live i) (_:ha i≠h) (_:Scan t ha h (t.advance p) m k):Scan t ha h p m (k+1)
theorem zeq {t:SetTable}{ha:Nat->Int}{h:Int}{p:Probe}{m:Met}{k:Nat}(s:Scan t ha h p m k):∀ fuel,k<fuel->probe.go t ha h fuel p=some m:=by
 induction s with
 | emp e=>
  intro fuel hf
  obtain ⟨f,rfl⟩:∃ f,fuel=f+1:=⟨fuel-1,by omega⟩
  unfold probe.go
  rw[e]
 | cand e hh=>
  intro fuel hf
  obtain ⟨f,rfl⟩:∃ f,fuel=f+1:=⟨fuel-1,by omega⟩
  unfold probe.go
  rw[e]
  dsimp only
  rw[if_pos (by rw[hh];exact beq_self_eq_true _)]
 | step e hh _ ih=>
  intro fuel hf
  obtain ⟨f,rfl⟩:∃ f,fuel=f+1:=⟨fuel-1,by omega⟩
  unfold probe.go
  rw[e]
  dsimp only
  rw[if_neg (by rw[beq_iff_eq];exact hh)]
  exact ih f (by omega)
structure Emp (t:SetTable)(p:Probe)(e:Nat):Prop where
 at_:t.slot (way t.mask e p).j = .empty
 bef:∀ m,m<e->∃ i,t.slot (way t.mask m p).j = .live i
theorem zbE {t:SetTable}(ha:Nat->Int)(h:Int):∀ {e:Nat}{p:Probe},p.dummy=none->Emp t p e->∃ m k,k<=e/\Scan t ha h p m k/\(∀ m',m'<k->∀ i,t.slot (way t.mask m' p).j = .live i->ha i≠h)/\((m = .empty (way t.mask e p).j none/\k=e)\/∃ i,m = .candidate (way t.mask k p).j i (way t.mask (k+1) p)/\k<e/\t.slot (way t.mask k p).j = .live i/\ha i=h)
 | 0,p,hd,E=>⟨.empty p.j p.dummy,0,Nat.le_refl _,.emp E.at_,λm' hm=>absurd hm (not_lt_zero _),.inl ⟨by rw[hd];rfl,rfl⟩⟩
 | e+1,p,hd,E=>by
  obtain ⟨i,hi⟩:=E.bef 0 (by omega)
  have hi:t.slot p.j = .live i:=hi
  by_cases hh:ha i=h
  ·exact ⟨.candidate p.j i (t.advance p),0,by omega,.cand hi hh,λm' hm=>absurd hm (not_lt_zero _),.inr ⟨i,rfl,by omega,hi,hh⟩⟩
  ·have E' : Emp t (adv t.mask p) e:=⟨E.at_,λm hm=>E.bef (m+1) (by omega)⟩
   have hd' : (adv t.mask p).dummy=none:=by unfold adv;split <;> exact hd
   obtain ⟨m,k,hk,sc,hb,hm⟩:=zbE ha h hd' E'
   refine ⟨m,k+1,by omega,.step hi hh sc,λm' hm' i' hi' => ?_,?_⟩
   ·cases m' with
    | zero=>
     have hi' : t.slot p.j = .live i' := hi'
     rw[hi] at hi'
     injection hi' with hi'
     rw[← hi'];exact hh
    | succ m' => exact hb m' (by omega) i' hi'
   ·rcases hm with ⟨e1,e2⟩ | ⟨i2,e1,e2,e3,e4⟩
    ·exact .inl ⟨e1,by omega⟩
    ·exact .inr ⟨i2,e1,by omega,e3,e4⟩
theorem WL:∀ {a b:List Nat},a.Nodup->(∀ x∈a,x∈b)->a.length<=b.length
 | [],_,_,_=>zero_le _
 | x::a,b,nd,h=>by
  obtain ⟨n1,n2⟩:=nodup_cons.mp nd
  have hx:=h x mem_cons_self
  have:=WL (b:=b.erase x) n2 λy hy=>by
   have hne:y≠x:=λe=>n1 (e ▸ hy)
   exact (List.mem_erase_of_ne hne).mpr (h y (mem_cons_of_mem _ hy))
  rw[List.length_erase_of_mem hx] at this
  have hp:0<b.length:=List.length_pos_iff.mpr λe=>by rw[e] at hx;cases hx
  rw[length_cons];omega
theorem least {p:Nat->Prop}(k:Nat)(h:p k):∃ n,n<=k/\p n/\∀ m,m<n->¬ p m:=by
 induction k using Nat.strongRecOn with
 | ind k ih=>
  by_cases q:∃ m,m<k/\p m
  ·obtain ⟨m,hm,hp⟩:=q
   obtain ⟨n,h1,h2,h3⟩:=ih m hm hp
   exact ⟨n,by omega,h2,h3⟩
  ·exact ⟨k,Nat.le_refl _,h,λm hm hp=>q ⟨m,hm,hp⟩⟩
structure TOk (t:SetTable)(ps:List (Nat×Int)):Prop where
 m:Y6 t.mask
 d:t.dummies = #[]
 p:t.place.toList=ps.map Prod.fst
 r:Ris (ps.map Prod.fst)
 b:∀ q∈ps,q.1<=t.mask
 f:ps.length<=t.mask
 w:∀ q∈ps,∃ k,(way t.mask k (sta t.mask q.2)).j=q.1/\∀ m,m<k->(way t.mask m (sta t.mask q.2)).j∈ps.map Prod.fst
theorem TOk.at_ {t:SetTable}{ps:List (Nat×Int)}(o:TOk t ps){j i:Nat}:t.place[i]?=some j↔(ps.map Prod.fst)[i]?=some j:=by rw[← o.p,getElem?_toList]
theorem TOk.zcG {t:SetTable}{ps:List (Nat×Int)}(o:TOk t ps){j i:Nat}(h:(ps.map Prod.fst)[i]?=some j):t.slot j = .live i:=zbb (by rw[o.p];exact o.r) (o.at_.mpr h)
theorem TOk.zeI {t:SetTable}{ps:List (Nat×Int)}(o:TOk t ps){j:Nat}(h:j∉ps.map Prod.fst):t.slot j = .empty:=zam o.d λi hi=>h (mem_of_getElem? (o.at_.mp hi))
theorem TOk.zfN {t:SetTable}{ps:List (Nat×Int)}(o:TOk t ps){j i:Nat}(h:t.slot j = .live i):(ps.map Prod.fst)[i]?=some j:=by
 by_cases hm:j∈ps.map Prod.fst
 ·obtain ⟨k,hk,e⟩:=getElem_of_mem hm
  have:=o.zcG (i:=k) (j:=j) (by rw[List.getElem?_eq_getElem hk,e])
  rw[h] at this
  injection this with this
  rw[this,List.getElem?_eq_getElem hk,e]
 ·rw[o.zeI hm] at h;cases h
theorem TOk.zfn {t:SetTable}{ps:List (Nat×Int)}(o:TOk t ps){j:Nat}(h:t.slot j = .empty):j∉ps.map Prod.fst:=λhm=>by
 obtain ⟨k,hk,e⟩:=getElem_of_mem hm
 have:=o.zcG (i:=k) (j:=j) (by rw[List.getElem?_eq_getElem hk,e])
 rw[h] at this;cases this
theorem room {l:List Nat}{mask:Nat}(h:l.length<=mask):∃ j,j<=mask/\j∉l:=by
 refine Classical.byContradiction λq=>?_
 have:=WL (a:=List.range (mask+1)) (b:=l) List.nodup_range λx hx=>by
  refine Classical.byContradiction λhx' => q ⟨x,?_,hx'⟩
  have:=mem_range.mp hx;omega
 rw[length_range] at this
 omega
theorem TOk.emp {t:SetTable}{ps:List (Nat×Int)}(o:TOk t ps){p:Probe}(s:Std t.mask p):∃ e,e<10*turns t.mask/\Emp t p e:=by
 obtain ⟨j,hj,hn⟩:=room (l:=ps.map Prod.fst) (by rw[length_map];exact o.f)
 obtain ⟨k,hk,ek⟩:=cover o.m s hj
 obtain ⟨n,h1,h2,h3⟩:=least (p:=λn=>t.slot (way t.mask n p).j = .empty) k (by rw[ek];exact o.zeI hn)
 refine ⟨n,by omega,h2,λm hm=>?_⟩
 by_cases hm' : (way t.mask m p).j∈ps.map Prod.fst
 ·obtain ⟨i,hi,e⟩:=getElem_of_mem hm'
  exact ⟨i,o.zcG (by rw[List.getElem?_eq_getElem hi,e])⟩
 ·exact absurd (o.zeI hm') (h3 m hm)
theorem TOk.reach {t:SetTable}{ps:List (Nat×Int)}(o:TOk t ps){i j:Nat}{h:Int}(hi:ps[i]?=some (j,h)){e:Nat}(E:Emp t (sta t.mask h) e):∃ k,k<e/\t.slot (way t.mask k (sta t.mask h)).j = .live i:=by
 obtain ⟨k,h1,h2⟩:=o.w _ (mem_of_getElem? hi)
 have h1:(way t.mask k (sta t.mask h)).j=j:=h1
 have hs:t.slot (way t.mask k (sta t.mask h)).j = .live i:=o.zcG (by rw[h1,getElem?_map,hi];rfl)
 refine ⟨k,?_,hs⟩
 rcases lt_trichotomy k e with l | l | l
 ·exact l
 ·rw[l,E.at_] at hs;cases hs
 ·exact absurd (h2 e l) (o.zfn E.at_)
theorem TOk.put {t:SetTable}{ps:List (Nat×Int)}(o:TOk t ps){h:Int}{e j k:Nat}(E:Emp t (sta t.mask h) e)(ej:(way t.mask e (sta t.mask h)).j=j)(ek:below t.place j=k)(hf:ps.length+1<=t.mask):TOk (t.put j).1 (ps.take k++(j,h)::ps.drop k):=by
 have hj:j<=t.mask:=by rw[← ej];exact (YQ e (Je t.mask h)).j
 have hn:j∉ps.map Prod.fst:=by rw[← ej];exact o.zfn E.at_
 have hbef:∀ m,m<e->(way t.mask m (sta t.mask h)).j∈ps.map Prod.fst:=λm hm=>by
  obtain ⟨i,hi⟩:=E.bef m hm
  exact mem_of_getElem? (o.zfN hi)
 have bo:=Qo (xs:=t.place) (by rw[o.p];exact o.r) j
 rw[ek] at bo
 have hsz:t.place.size=ps.length:=by rw[← length_toList,o.p,length_map]
 have hg:∀ i,t.place.getD i j=(ps.map Prod.fst).getD i j:=λi=>by
  rw[getD_eq_getD_getElem?,← getElem?_toList,o.p,getD_eq_getElem?_getD]
 have hmem:∀ q,q∈ps.take k++(j,h)::ps.drop k↔q=(j,h)\/q∈ps:=λq=>by
  rw[mem_append,mem_cons]
  constructor
  ·rintro (h | h | h)
   ·exact .inr (mem_of_mem_take h)
   ·exact .inl h
   ·exact .inr (mem_of_mem_drop h)
  ·rintro (h | hq)
   ·exact .inr (.inl h)
   ·rw[← take_append_drop k ps,mem_append] at hq
    exact hq.elim .inl λh=>.inr (.inr h)
 have hfst:∀ x,x∈ps.map Prod.fst->x∈(ps.take k++(j,h)::ps.drop k).map Prod.fst:=λx hx=>by
  obtain ⟨q,hq,rfl⟩:=mem_map.mp hx
  exact mem_map.mpr ⟨q,(hmem q).mpr (.inr hq),rfl⟩
 refine ⟨o.m,?_,?_,?_,λq hq=>?_,?_,λq hq=>?_⟩
 ·show (if has t.dummies j then _ else t.dummies) = #[]
  rw[o.d]
  simp[has,below,below.go]
 ·show (insertAt t.place (below t.place j) j).toList=_
  rw[SetTable.toList_insertAt,o.p,ek,map_append,map_cons,map_take,map_drop]
 ·unfold Ris
  rw[map_append,map_cons,map_take,map_drop]
  have r:=o.r
  unfold Ris at r
  rw[← take_append_drop k (ps.map Prod.fst)] at r
  obtain ⟨p1,p2,p3⟩:=List.pairwise_append.mp r
  refine List.pairwise_append.mpr ⟨p1,List.pairwise_cons.mpr ⟨λb hb=>?_,p2⟩,λa ha b hb=>?_⟩
  ·obtain ⟨i,hi,e1⟩:=getElem_of_mem hb
   rw[List.getElem_drop] at e1
   rw[length_drop,length_map] at hi
   have h1:=bo.2.2 (k+i) (by omega) (by omega)
   rw[hg,getD_eq_getElem?_getD,List.getElem?_eq_getElem (by rw[length_map];omega),e1] at h1
   have h1:j<=b:=h1
   have:j≠b:=λz=>hn (by rw[z];exact mem_of_mem_drop hb)
   omega
  ·have haj:a<j:=by
    obtain ⟨i,hi,e1⟩:=getElem_of_mem ha
    rw[List.getElem_take] at e1
    rw[length_take,length_map] at hi
    have h1:=bo.2.1 i (by omega)
    rw[hg,getD_eq_getElem?_getD,List.getElem?_eq_getElem (by rw[length_map];omega),e1] at h1
    exact h1
   rcases mem_cons.mp hb with rfl | hb
   ·exact haj
   ·exact p3 a ha b hb
 ·rcases (hmem q).mp hq with rfl | hq
  ·exact hj
  ·exact o.b q hq
 ·rw[length_append,length_cons,length_take,length_drop]
  show _<=t.mask
  omega
 ·show ∃ n,(way t.mask n (sta t.mask q.2)).j=q.1/\∀ m,m<n->_
  rcases (hmem q).mp hq with rfl | hq
  ·exact ⟨e,ej,λm hm=>hfst _ (hbef m hm)⟩
  ·obtain ⟨n,h1,h2⟩:=o.w q hq
   exact ⟨n,h1,λm hm=>hfst _ (h2 m hm)⟩
abbrev Own:Type:=Array (Option Nat)
def tk (ow:Own)(j:Nat):Prop:=(ow.getD j (some 0)).isNone=false
theorem Jm {mask:Nat}{p:Probe}{k:Nat}(hk:k<=p.more):way mask k p={ p with j:=p.j+k,more:=p.more-k }:=by
 induction k with
 | zero=>rfl
 | succ k ih=>
  rw[Wk,ih (by omega)]
  unfold adv
  rw[if_pos (show p.more-k>0 by omega)]
  show ({ p with j:=p.j+k+1,more:=p.more-k-1 }:Probe)=_
  rw[show p.j+k+1=p.j+(k+1) by omega,show p.more-k-1=p.more-(k+1) by omega]
structure Sta (mask:Nat)(p:Probe):Prop extends Std mask p where
 s:p.j=p.i
theorem zbY {mask:Nat}{ow:Own}:∀ {fuel:Nat}{p:Probe},Sta mask p->(∃ r,r<fuel/\¬ tk ow (lps mask r (p.i,p.perturb)).1)->∃ n,layClean.free mask ow fuel p.i p.perturb=some (way mask n p).j/\¬ tk ow (way mask n p).j/\∀ m,m<n->tk ow (way mask m p).j
 | 0,p,_,h=>by obtain ⟨r,hr,_⟩:=h;omega
 | fuel+1,p,s,h=>by
  have r:=Xl s.i
  have hm:=s.m
  have hs:=s.s
  have hlen:runEnd mask p.i+1-p.i=p.more+1:=by omega
  unfold layClean.free
  rw[hlen]
  cases hf:(List.range (p.more+1)).find? λk=>(ow.getD (p.i+k) (some 0)).isNone with
  | some k=>
   dsimp only
   obtain ⟨hp,hl⟩:=List.find?_eq_some_iff_getElem.mp hf
   obtain ⟨i,hi,e,hb⟩:=hl
   rw[length_range] at hi
   rw[List.getElem_range] at e
   subst e
   refine ⟨i,?_,?_,λm hm' => ?_⟩
   ·rw[Jm (by omega)]
    show some (p.i+i)=some (p.j+i)
    rw[hs]
   ·rw[Jm (by omega)]
    show ¬ tk ow (p.j+i)
    unfold tk
    rw[hs,hp]
    exact Bool.noConfusion
   ·rw[Jm (by omega)]
    show tk ow (p.j+m)
    have:=hb m hm'
    rw[List.getElem_range] at this
    unfold tk
    rw[hs]
    simpa using this
  | none=>
   dsimp only
   have hall:=List.find?_eq_none.mp hf
   have hrun:∀ m,m<=p.more->tk ow (p.j+m):=λm hm' => by
    have:=hall m (mem_range.mpr (by omega))
    unfold tk
    rw[hs]
    exact eq_false_iff.mpr this
   have hnext:way mask (p.more+1) p={ p with j:=(leap mask p.i p.perturb).1,more:=runEnd mask (leap mask p.i p.perturb).1-(leap mask p.i p.perturb).1,i:=(leap mask p.i p.perturb).1,perturb:=(leap mask p.i p.perturb).2 }:=by
    rw[Wk,Jm (Nat.le_refl _)]
    unfold adv
    rw[if_neg (show ¬ p.more-p.more>0 by omega)]
   have s' : Sta mask (way mask (p.more+1) p):=⟨YQ _ s.toStd,by rw[hnext]⟩
   obtain ⟨r,hr,hn⟩:=h
   have hr0:r≠0:=λz=>by
    subst z
    have:=hrun 0 (zero_le _)
    rw[hs] at this
    exact hn this
   have lp:∀ k,lps mask (k+1) (p.i,p.perturb)=lps mask k (leap mask p.i p.perturb):=by
    intro k
    induction k with
    | zero=>rfl
    | succ k ih=>show leap mask _ _=leap mask _ _;rw[ih]
   obtain ⟨n,e1,e2,e3⟩:=zbY (ow:=ow) (fuel:=fuel) s' ⟨r-1,by omega,by
    rw[hnext]
    show ¬ tk ow (lps mask (r-1) (leap mask p.i p.perturb)).1
    rw[← lp,show r-1+1=r by omega];exact hn⟩
   refine ⟨n+(p.more+1),?_,?_,λm hm' => ?_⟩
   ·rw[YS,← e1,hnext]
   ·rw[YS];exact e2
   ·by_cases hle:m<=p.more
    ·rw[Jm hle];exact hrun m hle
    ·have:=e3 (m-(p.more+1)) (by omega)
     rw[← YS,show m-(p.more+1)+(p.more+1)=m by omega] at this
     exact this
theorem QV {ow:Own}{mask:Nat}(sz:ow.size=mask+1){j:Nat}(hj:j<=mask):tk ow j↔∃ i,ow[j]?=some (some i):=by
 unfold tk
 rw[getD_eq_getD_getElem?,Array.getElem?_eq_getElem (by omega)]
 show ow[j].isNone=false↔_
 cases h:ow[j] with
 | none=>exact ⟨λz=>(by cases z),λ⟨i,z⟩=>(by cases z)⟩
 | some i=>exact ⟨λ_=>⟨i,rfl⟩,λ_=>rfl⟩
structure Lay (mask:Nat)(hs:List Int)(ow:Own):Prop where
 sz:ow.size=mask+1
 lt:∀ (j i:Nat),ow[j]?=some (some i)->i<hs.length
 ex:∀ i,i<hs.length->∃ j:Nat,ow[j]?=some (some i)
 un:∀ (j j' i:Nat),ow[j]?=some (some i)->ow[j']?=some (some i)->j=j'
 w:∀ (j i:Nat) (h:Int),ow[j]?=some (some i)->hs[i]?=some h->∃ n,(way mask n (sta mask h)).j=j/\∀ m,m<n->tk ow (way mask m (sta mask h)).j
theorem zeY (mask:Nat):Lay mask [] (Array.replicate (mask+1) none):=by
 have e:∀ j:Nat,∀ i,(Array.replicate (mask+1) (none:Option Nat))[j]?≠some (some i):=λj i h=>by
  rw[Array.getElem?_replicate] at h
  split at h
  ·injection h with h;cases h
  ·cases h
 exact ⟨by rw[Array.size_replicate],λj i h=>absurd h (e j i),λi h=>absurd h (not_lt_zero _),λj _ i h=>absurd h (e j i),λj i h q=>absurd q (e j i)⟩
theorem Lay.free {mask:Nat}{hs:List Int}{ow:Own}(l:Lay mask hs ow)(hm:hs.length<=mask):∃ j,j<=mask/\¬ tk ow j:=by
 refine Classical.byContradiction λq=>?_
 have all:∀ j,j<=mask->∃ i,ow[j]?=some (some i):=λj hj=>by
  refine (QV l.sz hj).mp (Classical.byContradiction λz=>q ⟨j,hj,z⟩)
 have key:∀ n,n<=mask+1->∃ is:List Nat,is.length=n/\is.Nodup/\∀ i∈is,∃ j,j<n/\ow[j]?=some (some i):=by
  intro n
  induction n with
  | zero=>intro _;exact ⟨[],rfl,List.nodup_nil,λi h=>(by cases h)⟩
  | succ n ih=>
   intro hn
   obtain ⟨is,h1,h2,h3⟩:=ih (by omega)
   obtain ⟨i,hi⟩:=all n (by omega)
   refine ⟨i::is,by rw[length_cons,h1],nodup_cons.mpr ⟨λhm' => ?_,h2⟩,λx hx=>?_⟩
   ·obtain ⟨j,hj,e⟩:=h3 i hm'
    have:=l.un _ _ _ e hi
    omega
   ·rcases mem_cons.mp hx with rfl | hx
    ·exact ⟨n,by omega,hi⟩
    ·obtain ⟨j,hj,e⟩:=h3 x hx
     exact ⟨j,by omega,e⟩
 obtain ⟨is,h1,h2,h3⟩:=key (mask+1) (Nat.le_refl _)
 have:=WL (b:=List.range hs.length) h2 λi hi=>by
  obtain ⟨j,_,e⟩:=h3 i hi
  exact mem_range.mpr (l.lt j i e)
 rw[h1,length_range] at this
 omega
theorem Lay.step {mask:Nat}{hs:List Int}{ow:Own}(l:Lay mask hs ow)(hm:hs.length<=mask)(hk:Y6 mask)(h:Int):∃ j,layClean.free mask ow (turns mask) (bits h % (mask+1)) (bits h)=some j/\Lay mask (hs++[h]) (ow.setIfInBounds j (some hs.length)):=by
 obtain ⟨je,hje,hne⟩:=l.free hm
 have s:Sta mask (sta mask h):=⟨Je mask h,rfl⟩
 have z:(lps mask 13 ((sta mask h).i,(sta mask h).perturb)).2=0:=by
  rw[zbo]
  exact Nat.div_eq_of_lt (Nat.lt_of_lt_of_le s.pt (by decide))
 obtain ⟨k0,hk0,e1,e2,e3⟩:=Jp 12 s.toStd
 have hi:(lps mask 13 ((sta mask h).i,(sta mask h).perturb)).1<=mask:=by rw[← e2];exact (YQ k0 s.toStd).i
 obtain ⟨q,hq,eq⟩:=cyc hk hi hje
 obtain ⟨a,b⟩:=J4 mask q 13 ((sta mask h).i,(sta mask h).perturb) z
 obtain ⟨n,f1,f2,f3⟩:=zbY (ow:=ow) (fuel:=turns mask) s ⟨13+q,by unfold turns;omega,by rw[a,eq];exact hne⟩
 have hjm:(way mask n (sta mask h)).j<=mask:=(YQ n s.toStd).j
 refine ⟨_,f1,?_⟩
 generalize ej:(way mask n (sta mask h)).j=j at f2 hjm
 have hj:j<ow.size:=by rw[l.sz];omega
 have get:∀ x:Nat,(ow.setIfInBounds j (some hs.length))[x]?=if x=j then some (some hs.length) else ow[x]?:=λx=>by
  rw[Array.getElem?_setIfInBounds]
  by_cases e:j=x
  ·subst e;rw[if_pos rfl,if_pos hj,if_pos rfl]
  ·rw[if_neg e,if_neg (λz=>e z.symm)]
 have nj:∀ i,ow[j]?≠some (some i):=λi z=>f2 ((QV l.sz hjm).mpr ⟨i,z⟩)
 have sz' : (ow.setIfInBounds j (some hs.length)).size=mask+1:=by rw[Array.size_setIfInBounds,l.sz]
 have up:∀ x,tk ow x->x<=mask->tk (ow.setIfInBounds j (some hs.length)) x:=λx hx hxm=>by
  rw[QV sz' hxm]
  obtain ⟨i,hi'⟩:=(QV l.sz hxm).mp hx
  rw[get x]
  by_cases e:x=j
  ·exact ⟨_,by rw[if_pos e]⟩
  ·exact ⟨i,by rw[if_neg e];exact hi'⟩
 refine ⟨sz',λx i hx=>?_,λi hi' => ?_,λx x' i h1 h2=>?_,λx i g h1 h2=>?_⟩
 ·rw[get x] at hx
  rw[length_append]
  show i<hs.length+1
  split at hx
  ·injection hx with hx;injection hx with hx;omega
  ·have:=l.lt x i hx;omega
 ·rw[length_append] at hi'
  have hi' : i<hs.length+1:=hi'
  by_cases e:i=hs.length
  ·exact ⟨j,by rw[get j,if_pos rfl,e]⟩
  ·obtain ⟨x,hx⟩:=l.ex i (by omega)
   exact ⟨x,by rw[get x,if_neg (λe:x=j=>nj i (by rw[← e];exact hx))];exact hx⟩
 ·rw[get x] at h1
  rw[get x'] at h2
  split at h1
  ·rename_i e
   injection h1 with h1
   injection h1 with h1
   split at h2
   ·rename_i e';rw[e,e']
   ·have:=l.lt x' i h2;omega
  ·split at h2
   ·injection h2 with h2
    injection h2 with h2
    have:=l.lt x i h1;omega
   ·exact l.un x x' i h1 h2
 ·rw[get x] at h1
  split at h1
  ·rename_i e
   injection h1 with h1
   injection h1 with h1
   rw[← h1,getElem?_append_right (Nat.le_refl _),Nat.sub_self] at h2
   have h2:some h=some g:=h2
   injection h2 with h2
   subst h2
   exact ⟨n,by rw[ej,e],λm hm' => up _ (f3 m hm') (YQ m s.toStd).j⟩
  ·have hlt:=l.lt x i h1
   rw[getElem?_append_left hlt] at h2
   obtain ⟨n',w1,w2⟩:=l.w x i g h1 h2
   exact ⟨n',w1,λm hm' => up _ (w2 m hm') (YQ m (Je mask g)).j⟩
theorem Uc {mask:Nat}(hk:Y6 mask):∀ (rest done:List Int) (ow:Own),Lay mask done ow->(done++rest).length<=mask->∃ ow',rest.foldl (λ(acc:Option (Own×Nat)) (h:Int)=>(do
  let (owner,k) ← acc
  let j ← layClean.free mask owner (turns mask) (bits h % (mask+1)) (bits h)
  pure (owner.setIfInBounds j (some k),k+1):Option (Own×Nat))) (some (ow,done.length))=some (ow',(done++rest).length)/\Lay mask (done++rest) ow'
 | [],done,ow,l,_=>⟨ow,by rw[append_nil];rfl,by rw[append_nil];exact l⟩
 | h::rest,done,ow,l,hm=>by
  rw[length_append,length_cons] at hm
  obtain ⟨j,e,l'⟩:=l.step (by omega) hk h
  obtain ⟨ow',e',l''⟩:=Uc hk rest (done++[h]) _ l' (by rw[length_append,length_append];show done.length+1+rest.length<=mask;omega)
  rw[append_assoc] at e' l''
  refine ⟨ow',?_,l''⟩
  rw[foldl_cons]
  show List.foldl _ ((layClean.free mask ow (turns mask) (bits h % (mask+1)) (bits h)).bind _) rest=_
  rw[e]
  show List.foldl _ (some (ow.setIfInBounds j (some done.length),done.length+1)) rest=_
  rw[length_append] at e'
  exact e'
theorem ze9 {mask:Nat}(hk:Y6 mask){hs:List Int}(hm:hs.length<=mask):∃ ow,layClean mask hs.toArray=some ow/\Lay mask hs ow:=by
 obtain ⟨ow,e,l⟩:=Uc hk hs [] _ (zeY mask) hm
 refine ⟨ow,?_,l⟩
 unfold layClean
 rw[List.foldl_toArray']
 ·exact congrArg (Option.map (·.1)) e
 ·rfl
noncomputable def live (mask:Nat) (ow:Own):List (Nat×Nat):=(List.range (mask+1)).filterMap λj=>(ow.getD j none).map (j,·)
theorem Xw {mask:Nat}{ow:Own}(sz:ow.size=mask+1){j i:Nat}:(j,i)∈live mask ow↔ow[j]?=some (some i):=by
 unfold live
 rw[mem_filterMap]
 constructor
 ·rintro ⟨a,ha,h⟩
  have ha:=mem_range.mp ha
  rw[getD_eq_getD_getElem?,Array.getElem?_eq_getElem (by omega)] at h
  have h:ow[a].map (a,·)=some (j,i):=h
  cases hx:ow[a] with
  | none=>rw[hx] at h;cases h
  | some x=>
   rw[hx] at h
   injection h with h
   injection h with h1 h2
   subst h1 h2
   rw[Array.getElem?_eq_getElem (by omega),hx]
 ·intro h
  have hj:j<ow.size:=(Array.getElem?_eq_some_iff.mp h).1
  refine ⟨j,mem_range.mpr (by omega),?_⟩
  rw[getD_eq_getD_getElem?,h]
  rfl
theorem V4 {mask:Nat}{ow:Own}:((live mask ow).map Prod.fst).Sublist (List.range (mask+1)):=by
 unfold live
 generalize List.range (mask+1)=l
 induction l with
 | nil=>exact List.Sublist.refl _
 | cons a l ih=>
  rw[filterMap_cons]
  cases h:(ow.getD a none) with
  | none=>exact ih.cons _
  | some x=>exact ih.cons₂ _
theorem zb4:∀ n,Ris (List.range n):=λn=>by
 unfold Ris
 exact List.pairwise_lt_range
theorem UG {mask:Nat}{ow:Own}:Ris ((live mask ow).map Prod.fst):=(zb4 _).sublist V4
theorem zd6 {mask:Nat}(hk:Y6 mask){hs:List Int}(hm:hs.length<=mask)(finger moves:Nat)(led plain:Bool):∃ (pl order:List Nat),laid mask finger moves led plain hs.toArray=some ({ mask,place:=pl.toArray,dummies:=#[],finger,led,moves,plain },order.toArray)/\order.Nodup/\(∀ i,i∈order↔i<hs.length)/\TOk { mask,place:=pl.toArray,dummies:=#[],finger,led,moves,plain } (pl.zip (order.map (hs.getD · 0)))/\pl.length=order.length:=by
 obtain ⟨ow,e,l⟩:=ze9 hk hm
 have zip:∀ (f:Nat->Int),((live mask ow).map Prod.fst).zip (((live mask ow).map Prod.snd).map f)=(live mask ow).map λq=>(q.1,f q.2):=λf=>by
  generalize live mask ow=L
  induction L with
  | nil=>rfl
  | cons a L ih=>exact congrArg ((a.1,f a.2) :: ·) ih
 have fst:((live mask ow).map λq=>(q.1,hs.getD q.2 0)).map Prod.fst=(live mask ow).map Prod.fst:=by rw[map_map];rfl
 have hmem:∀ i,i∈(live mask ow).map Prod.snd↔i<hs.length:=λi=>by
  rw[mem_map]
  constructor
  ·rintro ⟨⟨j,i'⟩,h,rfl⟩
   exact l.lt j _ ((Xw l.sz).mp h)
  ·intro h
   obtain ⟨j,hj⟩:=l.ex i h
   exact ⟨(j,i),(Xw l.sz).mpr hj,rfl⟩
 have nd:((live mask ow).map Prod.snd).Nodup:=by
  unfold List.Nodup
  rw[pairwise_map]
  have r:=UG (mask:=mask) (ow:=ow)
  unfold Ris at r
  rw[pairwise_map] at r
  refine List.Pairwise.imp_of_mem (λ{a b} ha hb h q=>?_) r
  have:=l.un a.1 b.1 a.2 ((Xw l.sz).mp ha) (by rw[q];exact (Xw l.sz).mp hb)
  omega
 refine ⟨(live mask ow).map Prod.fst,(live mask ow).map Prod.snd,?_,nd,hmem,?_,by rw[length_map,length_map]⟩
 ·unfold laid
  rw[e]
  rfl
 ·rw[zip]
  refine ⟨hk,rfl,?_,?_,?_,?_,?_⟩
  ·rw[fst]
  ·rw[fst];exact UG
  ·intro q hq
   obtain ⟨a,ha,rfl⟩:=mem_map.mp hq
   have:=V4.subset (mem_map.mpr ⟨a,ha,rfl⟩)
   have:=mem_range.mp this
   show a.1<=mask
   omega
  ·rw[length_map]
   show (live mask ow).length<=mask
   have:=WL (b:=List.range hs.length) nd λi hi=>mem_range.mpr ((hmem i).mp hi)
   rw[length_map,length_range] at this
   omega
  ·intro q hq
   obtain ⟨⟨j,i⟩,ha,rfl⟩:=mem_map.mp hq
   have hji:=(Xw l.sz).mp ha
   have hi:=l.lt j i hji
   obtain ⟨n,w1,w2⟩:=l.w j i (hs.getD i 0) hji (by rw[getD_eq_getElem?_getD,List.getElem?_eq_getElem hi];rfl)
   refine ⟨n,w1,λm hm' => ?_⟩
   rw[fst]
   obtain ⟨x,hx⟩:=(QV l.sz (YQ m (Je mask _)).j).mp (w2 m hm')
   exact mem_map.mpr ⟨(_,x),(Xw l.sz).mpr hx,rfl⟩
def SOk (t:SetTable)(es:Array (Int×Value)):Prop:=∃ ps,TOk t ps/\ps.map Prod.snd=es.toList.map Prod.fst
theorem UV {α:Type}[Inhabited α](es:Array α):∀ (order:List Nat),(∀ i∈order,i<es.size)->order.filterMap (es[·]?)=order.map (es.toList.getD · default)
 | [],_=>rfl
 | i::order,h=>by
  have hi:=h i (mem_cons_self ..)
  rw[filterMap_cons,Array.getElem?_eq_getElem hi]
  show es[i]::_=es.toList.getD i default::_
  rw[UV es order λk hk=>h k (mem_cons_of_mem _ hk),getD_eq_getElem?_getD,getElem?_toList,Array.getElem?_eq_getElem hi]
  rfl
theorem map_range {α:Type}[Inhabited α](l:List α):(List.range l.length).map (l.getD · default)=l:=by
 refine ext_getElem? λi=>?_
 rw[getElem?_map]
 by_cases h:i<l.length
 ·rw[getElem?_range h]
  show some (l.getD i default)=_
  rw[getD_eq_getElem?_getD,List.getElem?_eq_getElem h]
  rfl
 ·rw[List.getElem?_eq_none (by rw[length_range];omega),List.getElem?_eq_none (by omega)]
  rfl
theorem ze0 {a b:List Nat}(ha:a.Nodup)(hb:b.Nodup)(h:∀ i,i∈a↔i∈b):a.Perm b:=(List.perm_ext_iff_of_nodup ha hb).mpr h
instance:Inhabited (Int×Value):=⟨(0,.none)⟩
theorem zhE (t:SetTable)(es:Array (Int×Value)){wanted mask:Nat}(hw:sizeAbove wanted=mask+1)(hk:Y6 mask)(hn:es.size<=mask):∃ (t' : SetTable) (order:Array Nat),t.relaid (es.map (·.1)) wanted=some (t',order)/\SOk t' (order.filterMap (es[·]?))/\(order.filterMap (es[·]?)).toList.Perm es.toList/\t'.mask=mask/\t'.led=t.led/\t'.plain=t.plain:=by
 have el:(es.map (·.1))=(es.toList.map (·.1)).toArray:=by rw[← Array.toList_map]
 obtain ⟨pl,order,e,nd,hm,tok,hl⟩:=zd6 (mask:=mask) hk (hs:=es.toList.map (·.1)) (by rw[length_map,length_toList];exact hn) t.finger (t.movedTo mask) t.led t.plain
 have hm' : ∀ i∈order,i<es.size:=λi hi=>by have:=(hm i).mp hi;rw[length_map,length_toList] at this;exact this
 have pk:(order.toArray.filterMap (es[·]?)).toList=order.map (es.toList.getD · default):=by
  rw[Array.toList_filterMap]
  exact UV es order hm'
 refine ⟨_,order.toArray,?_,⟨_,tok,?_⟩,?_,rfl,rfl,rfl⟩
 ·unfold relaid
  rw[hw,el]
  exact e
 ·rw[pk,List.map_snd_zip (by rw[length_map];omega),map_map]
  refine map_congr_left λi hi=>?_
  have h:=hm' i hi
  show (es.toList.map (·.1)).getD i 0=(es.toList.getD i default).1
  rw[getD_eq_getElem?_getD,getD_eq_getElem?_getD,getElem?_map,getElem?_toList,Array.getElem?_eq_getElem h]
  rfl
 ·rw[pk]
  have:=(ze0 nd List.nodup_range (λi=>by rw[hm i,mem_range]):order.Perm (List.range (es.toList.map (·.1)).length)).map (es.toList.getD · default)
  rw[length_map,map_range] at this
  exact this
section
variable {prog:Program}{w:World}{A:Around}{E:Value->Shared->Prop}{s:Shared}
abbrev XX (prog:Program)(w:World)(h:Heap)(ks:List Int)(a:Addr):Prop:=IsTupleKey (intKind prog w) h ks a
abbrev hsh (prog:Program)(w:World)(ks:List Int):Int:=tupleKeyHash (intKind prog w) ks
theorem JC {ks:List Int}{a:Addr}{Q:Bool->Shared->Prop}(hk:XX prog w s.heap ks a)(h:Q false s):wpAny (model prog w) A (ofAClassStatement 8 (.ref a)) Q E s:=by
 have hT:=hk.typeIs
 obtain ⟨o,items,n,ho,_,hd,hi⟩:=hk
 unfold ofAClassStatement
 refine wpAny_bind (wpAny_typeOf hT ?_)
 dsimp only
 refine wpAny_bind ?_
 refine wpAny_pure ?_
 simp only[Bool.not_true,false_eq_true,if_false]
 refine wpAny_bind (wpAny_seqItems ho hd ?_)
 dsimp only
 refine wpAny_bind ?_
 show wpAny _ _ (forIn items _ _) _ _ s
 rw[← Array.forIn_toList]
 refine wpAny_forIn_list _ (λrest r s' => r.1=none/\s'=s/\∀ v∈rest,carriedByValue v=true) _ ?_ ?_ _ _ ⟨rfl,rfl,hi.byValue⟩
 ·rintro v rest r s' ⟨hr,rfl,hall⟩
  have e:ofAClassStatement 7 v=pure false:=by
   have:=hall v mem_cons_self
   cases v <;> first | rfl | (simp[carriedByValue] at this)
  rw[e]
  refine wpAny_bind (wpAny_pure ?_)
  simp only[false_eq_true,if_false]
  exact wpAny_pure ⟨rfl,rfl,λu hu' => hall u (mem_cons_of_mem _ hu')⟩
 ·rintro ⟨r1,r2⟩ s' ⟨hr,rfl,_⟩
  simp only at hr
  subst hr
  exact wpAny_pure h
theorem zac {ks:List Int}{a:Addr}{Q:Bool->Shared->Prop}(hk:XX prog w s.heap ks a)(h:Q true s):wpAny (model prog w) A (hashByValue 8 (.ref a)) Q E s:=by
 have hT:=hk.typeIs
 obtain ⟨o,items,n,ho,_,hd,hi⟩:=hk
 have hin:∀ v∈items.toList,∃ m t,v = .int m t:=by
  generalize items.toList=vs at hi
  induction hi with
  | nil=>intro v hv;cases hv
  | @cons k v' ks vs h1 _ ih=>
   intro v hv
   rcases mem_cons.mp hv with rfl | hv
   ·obtain ⟨t,rfl⟩:=Value.isInt_shape h1
    exact ⟨_,_,rfl⟩
   ·exact ih v hv
 unfold hashByValue
 refine wpAny_bind (wpAny_specialOf hT F.slot_tuple_hash.lookup ?_)
 show wpAny _ _ (seqItems? (.ref a) >>= _) _ _ s
 refine wpAny_bind (wpAny_seqItems ho hd ?_)
 dsimp only
 refine wpAny_bind ?_
 show wpAny _ _ (forIn items _ _) _ _ s
 rw[← Array.forIn_toList]
 refine wpAny_forIn_list _ (λrest r s' => r.1=none/\s'=s/\∀ v∈rest,∃ m t,v = .int m t) _ ?_ ?_ _ _ ⟨rfl,rfl,hin⟩
 ·rintro v rest r s' ⟨hr,rfl,hall⟩
  obtain ⟨m,t,rfl⟩:=hall v mem_cons_self
  have e:hashByValue 7 (.int m t)=pure true:=rfl
  rw[e]
  refine wpAny_bind (wpAny_pure ?_)
  simp only[Bool.not_true,false_eq_true,if_false]
  exact wpAny_pure ⟨rfl,rfl,λu hu' => hall u (mem_cons_of_mem _ hu')⟩
 ·rintro ⟨r1,r2⟩ s' ⟨hr,rfl,_⟩
  simp only at hr
  subst hr
  exact wpAny_pure h
theorem zeX {kx:List Int}{c:Addr}{ys:List Value}{Q:Bool->Shared->Prop}(hx:XX prog w s.heap kx c)(hy:∀ y∈ys,∃ b ks,y = .ref b/\XX prog w s.heap ks b)(h:Q false s):wpAny (model prog w) A (searchCouldBeSeen (.ref c) ys) Q E s:=by
 unfold searchCouldBeSeen
 refine wpAny_bind ?_
 refine wpAny_forIn_list _ (λrest r s' => r.1=none/\s'=s/\∀ y∈rest,∃ b ks,y = .ref b/\XX prog w s.heap ks b) _ ?_ ?_ _ _ ⟨rfl,rfl,hy⟩
 ·rintro v rest r s' ⟨hr,rfl,hall⟩
  obtain ⟨b,ks,rfl,hb⟩:=hall v mem_cons_self
  dsimp only
  have go:∀ u∈rest,∃ b ks,u=Value.ref b/\XX prog w s'.heap ks b:=λu hu' => hall u (mem_cons_of_mem _ hu')
  split
  ·exact wpAny_pure ⟨rfl,rfl,go⟩
  ·refine wpAny_bind (wpAny_eqIsQuiet_tuple hx ?_)
   simp only[Bool.not_true,false_eq_true,if_false]
   refine wpAny_bind (wpAny_eqIsQuiet_tuple hb ?_)
   simp only[Bool.not_true,false_eq_true,if_false]
   refine wpAny_bind (JC hx ?_)
   simp only[false_eq_true,if_false]
   refine wpAny_bind (JC hb ?_)
   simp only[false_eq_true,if_false]
   exact wpAny_pure ⟨rfl,rfl,go⟩
 ·rintro ⟨r1,r2⟩ s' ⟨hr,rfl,_⟩
  simp only at hr
  subst hr
  exact wpAny_pure h
abbrev zg1 (prog:Program)(w:World)(q:Addr×List Int):Int×Value:=(hsh prog w q.2,.ref q.1)
theorem TOk.fits {t:SetTable}{ps:List (Nat×Int)}(o:TOk t ps):t.fits ps.length=true:=by
 have h1:t.place.size=ps.length:=by rw[← length_toList,o.p,length_map]
 unfold SetTable.fits SetTable.fill
 rw[h1,o.d]
 have:=o.f
 simp[this]
theorem Y6.odd {m:Nat}(h:Y6 m):(m % 2==0)=false:=by rcases h with rfl | rfl | rfl <;> rfl
theorem SOk.len {es:Array (Int×Value)}{ps:List (Nat×Int)}(e:ps.map Prod.snd=es.toList.map Prod.fst):ps.length=es.size:=by
 have:=congrArg List.length e
 rwa [length_map,length_map,length_toList] at this
theorem Emp.shift {t:SetTable}{p:Probe}{e k:Nat}(E:Emp t p e)(hk:k<=e):Emp t (way t.mask k p) (e-k):=
 ⟨by rw[← YS,Nat.sub_add_cancel hk];exact E.at_,λm hm=>by rw[← YS];exact E.bef _ (by omega)⟩
theorem zaS {mask:Nat}{p:Probe}(h:p.dummy=none):∀ k,(way mask k p).dummy=none:=λk=>by
 induction k with
 | zero=>exact h
 | succ k ih=>rw[Wk];unfold adv;split <;> exact ih
theorem za7 {a:Addr}{o:Obj}{es:Array (Int×Value)}{ep:Nat}{t:SetTable}{ps:List (Nat×Int)}{M:List (Addr×List Int)}{kx:List Int}{c:Addr}{Q:SetFound->Shared->Prop}
  (hu:A.units<cLine) (ho:s.heap.get? a=some o) (hd:o.data = .set es ep t) (tok:TOk t ps) (hps:ps.map Prod.snd=es.toList.map Prod.fst) (hM:es.toList=M.map (zg1 prog w)) (hK:∀ q∈M,XX prog w s.heap q.2 q.1) (hx:XX prog w s.heap kx c):
  ∀ (fuel e:Nat) (p:Probe) (stand:Option Probe),stand.getD (t.probeStart (hsh prog w kx))=p->p.dummy=none->Emp t p e->e<fuel->e<10*turns t.mask->
   (∀ (i:Nat) (q:Addr×List Int),M[i]?=some q->q.2=kx->(∃ m,m<e/\t.slot (way t.mask m p).j = .live i)->Q (.there none) s)->
   ((∀ (m i:Nat),m<e->t.slot (way t.mask m p).j = .live i->∀ q,M[i]?=some q->q.2≠kx)->Q (.free (way t.mask e p).j false) s)->
   wpAny (model prog w) A (setSearchFrom a (.ref c) (hsh prog w kx) true fuel stand) Q E s:=by
 have hf:t.fits es.size=true:=by rw[← SOk.len hps];exact tok.fits
 have get:∀ (i:Nat) (q:Addr×List Int),M[i]?=some q->es[i]?=some (zg1 prog w q):=λi q h=>by
  rw[← getElem?_toList,hM,getElem?_map,h];rfl
 intro fuel
 induction fuel with
 | zero=>intro e p stand _ _ _ h;omega
 | succ fuel ih=>
  intro e p stand hst hdm em he het hY hN
  unfold setSearchFrom
  refine wpAny_bind (wpAny_setState_of ho hd hf ?_)
  dsimp only
  have hg:t.gaveWay=false:=tok.m.odd
  rw[hg]
  simp only[false_eq_true,if_false]
  rw[hst]
  unfold SetTable.probe
  obtain ⟨m,k,hk,sc,hb,hm⟩:=zbE (t:=t) (λi=>((es[i]?.map (·.1)).getD 0)) (hsh prog w kx) hdm em
  have hgo:probe.go t (λi=>((es[i]?.map (·.1)).getD 0)) (hsh prog w kx) (10*turns t.mask) p=some m:=zeq sc _ (by omega)
  have lives:∀ {j i:Nat},t.slot j = .live i->∃ q,M[i]?=some q:=λ{j i} h=>by
   have:=tok.zfN h
   have hi:i<ps.length:=by
    have:=(List.getElem?_eq_some_iff.mp this).1
    rwa [length_map] at this
   have hl:ps.length=M.length:=by
    rw[SOk.len hps,← length_toList,hM,length_map]
   exact ⟨_,List.getElem?_eq_getElem (by omega)⟩
  have hne:∀ (m' i:Nat),m'<k->t.slot (way t.mask m' p).j = .live i->∀ q,M[i]?=some q->q.2≠kx:=λm' i hm' hs q hq e=>by
   have:=hb m' hm' i hs
   rw[get i q hq] at this
   exact this (by rw[← e];rfl)
  show wpAny _ _ (match probe.go t (λi=>((es[i]?.map (·.1)).getD 0)) (hsh prog w kx) (10*turns t.mask) p with
   | some met=>_
   | _=>_) _ _ _
  rw[hgo]
  rcases hm with ⟨rfl,rfl⟩ | ⟨i,rfl,hke,hsl,hh⟩
  ·dsimp only
   exact wpAny_pure (hN hne)
  ·dsimp only
   obtain ⟨q,hq⟩:=lives hsl
   have hqm:q∈M:=mem_of_getElem? hq
   have hei:=get i q hq
   have rest:wpAny (model prog w) A (do
     let some (_,y):=es[i]? | unsupported "internal:set-entry"
     let equal ← holding [y] (eqBool y (.ref c))
     let (es',_,t') ← setState a
     if true&&equal then return .there none
     let some same:=t'.sameMemory t.moves t.mask | unsupported "set.changed-during-lookup:is-the-new-block-at-the-old-address"
     let still ← match (if same then t'.slot (way t.mask k p).j else .empty) with
      | .live i' => match es'[i']? with
       | some (_,y')=>do pure (if ← isSame y' y then some i' else none)
       | none=>pure none
      | _=>pure none
     match still with
     | none=>rule "set.search.anew";setSearchFrom a (.ref c) (hsh prog w kx) true fuel none
     | some i' => if equal then return .there (some i') else setSearchFrom a (.ref c) (hsh prog w kx) true fuel (some (way t.mask (k+1) p))) Q E s:=by
    rw[hei]
    dsimp only
    refine wpAny_bind (wpAny_holding (wpAny_eqBool_tuple hu (hK q hqm) hx ?_))
    refine wpAny_bind (wpAny_setState_of ho hd hf ?_)
    dsimp only
    by_cases e1:q.2=kx
    ·rw[decide_eq_true e1]
     exact wpAny_pure (hY i q hq e1 ⟨k,hke,hsl⟩)
    ·rw[decide_eq_false e1]
     simp only[Bool.and_false,false_eq_true,if_false]
     have hsm:t.sameMemory t.moves t.mask=some true:=by unfold SetTable.sameMemory;rw[if_pos (beq_self_eq_true _)]
     rw[hsm]
     simp only[if_true]
     rw[hsl]
     dsimp only
     rw[hei]
     dsimp only
     refine wpAny_bind (wpAny_isSame_ref_self ?_)
     refine wpAny_bind (wpAny_pure ?_)
     simp only[if_true]
     refine ih (e-(k+1)) (way t.mask (k+1) p) (some (way t.mask (k+1) p)) rfl (zaS hdm _) (em.shift (by omega)) (by omega) (by omega) ?_ ?_
     ·intro i2 q2 h1 h2 h3
      obtain ⟨m2,h4,h5⟩:=h3
      rw[← YS] at h5
      exact hY i2 q2 h1 h2 ⟨_,by omega,h5⟩
     ·intro h1
      rw[← YS,Nat.sub_add_cancel (by omega)]
      refine hN λm' i' hm' hs q' hq' => ?_
      rcases lt_trichotomy m' k with l | l | l
      ·exact hne m' i' l hs q' hq'
      ·rw[l,hsl] at hs
       injection hs with hs
       rw[← hs,hq] at hq'
       injection hq' with hq'
       rw[← hq'];exact e1
      ·refine h1 (m'-(k+1)) i' (by omega) ?_ q' hq'
       rw[← YS,Nat.sub_add_cancel (by omega)]
       exact hs
   by_cases hl:t.led=true
   ·rw[hl]
    simp only[Bool.not_true,false_eq_true,if_false]
    exact rest
   ·rw[eq_false_iff.mpr hl]
    simp only[Bool.not_false,if_true]
    refine wpAny_bind (zeX hx (λy hy=>?_) ?_)
    ·obtain ⟨e2,h2,rfl⟩:=mem_map.mp hy
     have h2:e2∈es/\e2.1=hsh prog w kx:=by simpa using h2
     have h3:e2∈es.toList:=Array.mem_toList_iff.mpr h2.1
     rw[hM] at h3
     obtain ⟨q3,h4,rfl⟩:=mem_map.mp h3
     exact ⟨_,_,rfl,hK q3 h4⟩
    ·simp only[false_eq_true,if_false]
     exact rest
theorem zcX {a:Addr}{o:Obj}{es:Array (Int×Value)}{ep:Nat}{t:SetTable}{wanted mask:Nat}{Q:Unit->Shared->Prop}(ho:s.heap.get? a=some o)(hd:o.data = .set es ep t)(hf:t.fits es.size=true)(hw:sizeAbove wanted=mask+1)(hk:Y6 mask)(hn:es.size<=mask)
  (h:∀ (t' : SetTable) (es' : Array (Int×Value)),SOk t' es' -> es'.toList.Perm es.toList->t'.mask=mask->t'.led=t.led->t'.plain=t.plain->Q () { s with heap:=s.heap.update a (Obj.putSet es' t') }):
  wpAny (model prog w) A (setRelay a wanted) Q E s:=by
 obtain ⟨t',order,e1,e2,e3,e4,e5,e6⟩:=zhE t es hw hk hn
 have hmk:mask<=127:=by rcases hk with rfl | rfl | rfl <;> omega
 have hs:¬ sizeAbove wanted>sizeLine:=by rw[hw,sizeLine_eq];omega
 have sz:(order.filterMap (es[·]?)).size=es.size:=by rw[← length_toList,e3.length_eq,length_toList]
 unfold setRelay
 refine wpAny_bind (wpAny_setState_of ho hd hf ?_)
 dsimp only
 rw[if_neg hs]
 refine wpAny_bind ?_
 rw[e1]
 show wpAny _ _ (if (order.filterMap (es[·]?)).size != es.size then (do let _ ← unsupported "internal:set-table-lost-an-element";pure (order.filterMap (es[·]?),t')) else pure (order.filterMap (es[·]?),t')) _ _ _
 rw[sz]
 simp only[bne_self_eq_false,false_eq_true,if_false]
 refine wpAny_pure ?_
 dsimp only
 exact wpAny_storeSet_of ho hd (h t' _ e2 e3 e4 e5 e6) (by rw[sz,sizeLine_eq];omega)
theorem W7 {α β:Type}{f:α->β}{l' l:List β}(p:l'.Perm l):∀ (M:List α),l=M.map f->∃ M' : List α,M'.Perm M/\l'=M'.map f:=by
 induction p with
 | nil=>intro M h;exact ⟨M,List.Perm.refl _,h⟩
 | cons x p ih=>
  intro M h
  cases M with
  | nil=>cases h
  | cons m M=>
   injection h with h1 h2
   obtain ⟨M',p',e⟩:=ih M h2
   exact ⟨m::M',p'.cons m,by rw[e,h1];rfl⟩
 | swap x y l=>
  intro M h
  match M,h with
  | m1::m2::M,h=>
   injection h with h1 h2
   injection h2 with h2 h3
   exact ⟨m2::m1::M,List.Perm.swap ..,by rw[h1,h2,h3];rfl⟩
 | trans p1 p2 ih1 ih2=>
  intro M h
  obtain ⟨M2,q2,e2⟩:=ih2 M h
  obtain ⟨M1,q1,e1⟩:=ih1 M2 e2
  exact ⟨M1,q1.trans q2,e1⟩
def TSt (prog:Program)(w:World)(h:Heap)(a:Addr)(led:Bool)(M:List (Addr×List Int)):Prop:=
 ∃ o es ep t ps,h.get? a=some o/\o.ExactSet/\o.data = .set es ep t/\TOk t ps/\ps.map Prod.snd=es.toList.map Prod.fst/\es.toList=M.map (zg1 prog w)/\(∀ q∈M,XX prog w h q.2 q.1)/\(M.map Prod.snd).Nodup/\es.size*5<t.mask*3/\t.led=led/\t.plain=true
theorem XX.keeps {h h' : Heap}{ks:List Int}{a d:Addr}{o:Obj}{es ep t}(x:XX prog w h ks a)(ho:h.get? d=some o)(hd:o.data = .set es ep t)(hs:SameBut d h h'):XX prog w h' ks a:=by
 obtain ⟨o',items,n,ho',hc,hd',hi⟩:=x
 have hne:a≠d:=by
  rintro rfl
  obtain rfl:o'=o:=Option.some.inj (ho'.symm.trans ho)
  rw[hd] at hd';exact nomatch hd'
 exact ⟨o',items,n,(hs.2 a hne).trans ho',hc,hd',hi⟩
theorem zaT {h:Heap}{a:Addr}{o:Obj}{es:Array (Int×Value)}{ep:Nat}{t:SetTable}(es' : Array (Int×Value))(t' : SetTable)(ho:h.get? a=some o)(hd:o.data = .set es ep t):(h.update a (Obj.putSet es' t')).get? a=some { o with data:=.set es' (ep+1) t' }:=by
 have:=get?_update_self (Obj.putSet es' t') ho (by rw[putSet_of es' t' hd];rfl)
 rw[putSet_of es' t' hd] at this;exact this
theorem zgB {a c:Addr}{kx:List Int}{led:Bool}{M:List (Addr×List Int)}{Q:Bool->Shared->Prop}(hu:A.units<cLine)(S:TSt prog w s.heap a led M)(hx:XX prog w s.heap kx c)(hn:kx∉M.map Prod.snd->M.length<64)
  (h:∀ (h' : Heap) (M' : List (Addr×List Int)) (b:Bool),SameBut a s.heap h' -> TSt prog w h' a led M' -> (kx∈M.map Prod.snd/\M'=M\/kx∉M.map Prod.snd/\M'.Perm ((c,kx)::M))->Q b { s with heap:=h' }):
  wpAny (model prog w) A (setAddHashed a (.ref c) (hsh prog w kx)) Q E s:=by
 have S0:=S
 obtain ⟨o,es,ep,t,ps,ho,hex,hd,tok,hps,hM,hK,nd,hfull,hled,hpl⟩:=S
 have hf:t.fits es.size=true:=by rw[← SOk.len hps];exact tok.fits
 have hml:M.length=es.size:=by rw[← length_toList,hM,length_map]
 have hpe:ps.length=es.size:=SOk.len hps
 have hmk:t.mask<=127:=by rcases tok.m with e | e | e <;> omega
 obtain ⟨e,he,em⟩:=tok.emp (Je t.mask (hsh prog w kx))
 unfold setAddHashed setAddHashedIn
 refine wpAny_holding (wpAny_bind (wpAny_setState_of ho hd hf ?_))
 dsimp only
 rw[show byScan (.ref c) es=false from rfl]
 simp only[false_eq_true,if_false]
 unfold setSearch
 refine wpAny_bind (za7 hu ho hd tok hps hM hK hx 100000 e (sta t.mask (hsh prog w kx)) none rfl rfl em (by unfold turns at he;omega) he ?_ ?_)
 ·intro i q h1 h2 _
  refine wpAny_pure ?_
  have e:s={ s with heap:=s.heap }:=by cases s;rfl
  rw[e]
  exact h s.heap M false (SameBut.refl a s.heap) S0 (.inl ⟨mem_map.mpr ⟨q,mem_of_getElem? h1,h2⟩,rfl⟩)
 ·intro hno
  have hnot:kx∉M.map Prod.snd:=λhm=>by
   obtain ⟨q,hq,e2⟩:=mem_map.mp hm
   obtain ⟨i,hi,e3⟩:=getElem_of_mem hq
   have hip:i<ps.length:=by omega
   have hsn:(ps[i]).2=hsh prog w kx:=by
    have h1:=congrArg (·[i]?) hps
    simp only[hM,getElem?_map] at h1
    rw[List.getElem?_eq_getElem hip,List.getElem?_eq_getElem hi,e3] at h1
    have h1:some (ps[i]).2=some (hsh prog w q.2):=h1
    injection h1 with h1
    rw[h1,e2]
   obtain ⟨k,hk,hsl⟩:=tok.reach (i:=i) (j:=(ps[i]).1) (h:=hsh prog w kx) (by rw[List.getElem?_eq_getElem hip,← hsn]) em
   exact hno k i hk hsl q (by rw[List.getElem?_eq_getElem hi,e3]) e2
  have hn:=hn hnot
  dsimp only
  refine wpAny_bind (wpAny_setState_of ho hd hf ?_)
  dsimp only
  generalize hj:(way t.mask e (sta t.mask (hsh prog w kx))).j=j
  generalize hp:below t.place j=p
  have hroom:ps.length+1<=t.mask:=by omega
  have tok' := tok.put em hj hp hroom
  have hput:t.put j=((t.put j).1,p):=by unfold SetTable.put;rw[hp]
  have hpl' : (t.put j).1.plain=true:=hpl
  have hled' : (t.put j).1.led=led:=hled
  have hmask' : (t.put j).1.mask=t.mask:=rfl
  rw[hput]
  generalize (t.put j).1=t1 at tok' hpl' hled' hmask'
  dsimp only
  rw[hpl']
  simp only[if_true]
  refine wpAny_bind (zac hx ?_)
  simp only[if_true]
  have hl1:(insertAt es p (hsh prog w kx,.ref c)).toList=(M.take p++(c,kx)::M.drop p).map (zg1 prog w):=by
   rw[SetTable.toList_insertAt,hM,map_append,map_cons,map_take,map_drop]
  have hps1:(ps.take p++(j,hsh prog w kx)::ps.drop p).map Prod.snd=(insertAt es p (hsh prog w kx,.ref c)).toList.map Prod.fst:=by
   rw[SetTable.toList_insertAt,map_append,map_cons,map_append,map_cons,map_take,map_drop,map_take,map_drop,hps]
  generalize hes1:insertAt es p (hsh prog w kx,.ref c)=es1 at hl1 hps1
  have pm:(M.take p++(c,kx)::M.drop p).Perm ((c,kx)::M):=by
   have:=List.perm_middle (a:=(c,kx)) (l₁:=M.take p) (l₂:=M.drop p)
   rwa [take_append_drop] at this
  generalize hM1:M.take p++(c,kx)::M.drop p=M1 at hl1 pm
  have hsz1:es1.size=es.size+1:=by rw[← length_toList,hl1,length_map,pm.length_eq,length_cons,hml]
  have sb:=SameBut.update s.heap a (Obj.putSet es1 t1)
  have g1:=zaT (h:=s.heap) es1 t1 ho hd
  have nd1:(M1.map Prod.snd).Nodup:=by
   refine ((pm.map Prod.snd).nodup_iff).mpr ?_
   exact nodup_cons.mpr ⟨hnot,nd⟩
  have hK1:∀ {h' : Heap},SameBut a s.heap h' -> ∀ q∈M1,XX prog w h' q.2 q.1:=λ{h'} sb q hq=>by
   rcases mem_cons.mp (pm.mem_iff.mp hq) with rfl | hq
   ·exact XX.keeps hx ho hd sb
   ·exact XX.keeps (hK q hq) ho hd sb
  refine wpAny_bind (wpAny_storeSet_of ho hd ?_ (by rw[hsz1,sizeLine_eq];omega))
  have hfill:t1.fill=es1.size:=by
   unfold SetTable.fill
   rw[tok'.d,← length_toList,tok'.p,length_map]
   rw[SOk.len hps1];rfl
  by_cases hfl:t1.tooFull=true
  ·rw[hfl]
   simp only[Bool.not_false,Bool.and_self,if_true]
   have hfl' : t1.mask*3<=es1.size*5:=by
    unfold SetTable.tooFull at hfl
    rw[hfill] at hfl
    simpa using hfl
   have hnew:∃ mask,sizeAbove (grown (es.size+1))=mask+1/\Y6 mask/\es1.size<=mask/\es1.size*5<mask*3:=by
    rw[hmask'] at hfl'
    rcases tok.m with e5 | e5 | e5
    ·have:es.size=4:=by omega
     rw[this,hsz1,this]
     exact ⟨31,by decide,.inr (.inl rfl),by decide,by decide⟩
    ·have:es.size=18:=by omega
     rw[this,hsz1,this]
     exact ⟨127,by decide,.inr (.inr rfl),by decide,by decide⟩
    ·omega
   obtain ⟨mask,m1,m2,m3,m4⟩:=hnew
   have hf1:t1.fits es1.size=true:=by rw[← SOk.len hps1];exact tok'.fits
   refine wpAny_bind (zcX (s:={ s with heap:=s.heap.update a (Obj.putSet es1 t1) }) g1 rfl hf1 m1 m2 m3 λt2 es2 so2 pm2 k1 k2 k3=>?_)
   refine wpAny_pure ?_
   obtain ⟨ps2,tok2,hps2⟩:=so2
   obtain ⟨M2,pmM,hM2⟩:=W7 pm2 M1 hl1
   have sb2:SameBut a s.heap ((s.heap.update a (Obj.putSet es1 t1)).update a (Obj.putSet es2 t2)):=sb.trans (SameBut.update _ a _)
   refine h _ M2 true sb2 ⟨_,es2,_,t2,ps2,zaT es2 t2 g1 rfl,hex,rfl,tok2,hps2,hM2,λq hq=>hK1 sb2 q (pmM.mem_iff.mp hq),((pmM.map Prod.snd).nodup_iff).mpr nd1,?_,by rw[k2];exact hled',by rw[k3];exact hpl'⟩ (.inr ⟨hnot,pmM.trans pm⟩)
   rw[k1,← length_toList,pm2.length_eq,length_toList]
   exact m4
  ·rw[eq_false_iff.mpr hfl]
   simp only[Bool.not_false,Bool.and_false,false_eq_true,if_false]
   refine wpAny_pure ?_
   refine h _ M1 true sb ⟨_,es1,_,t1,_,g1,hex,rfl,tok',hps1,hl1,hK1 sb,nd1,?_,hled',hpl'⟩ (.inr ⟨hnot,pm⟩)
   have:¬ (t1.mask*3<=es1.size*5):=λz=>hfl (by unfold SetTable.tooFull;rw[hfill];simpa using z)
   omega
def Met (its:Nat->Addr×List Int)(i:Nat)(M:List (Addr×List Int)):Prop:=(∀ k,k∈M.map Prod.snd↔∃ m,m<i/\(its m).2=k)/\∀ q∈M,∃ m,m<i/\q=its m
theorem Met.zero (its:Nat->Addr×List Int):Met its 0 []:=⟨λk=>⟨λh=>(by cases h),λ⟨m,h,_⟩=>absurd h (not_lt_zero _)⟩,λq h=>(by cases h)⟩
theorem Met.succ {its:Nat->Addr×List Int}{i:Nat}{M M' : List (Addr×List Int)}(h:Met its i M)(e:(its i).2∈M.map Prod.snd/\M'=M\/(its i).2∉M.map Prod.snd/\M'.Perm (((its i).1,(its i).2)::M)):Met its (i+1) M' := by
 obtain ⟨h1,h2⟩:=h
 have lt:∀ m,m<i+1↔m<i\/m=i:=λm=>by omega
 rcases e with ⟨hin,rfl⟩ | ⟨_,pm⟩
 ·refine ⟨λk=>⟨λhk=>?_,?_⟩,λq hq=>?_⟩
  ·obtain ⟨m,hm,e⟩:=(h1 k).mp hk
   exact ⟨m,by omega,e⟩
  ·rintro ⟨m,hm,rfl⟩
   rcases (lt m).mp hm with hm | rfl
   ·exact (h1 _).mpr ⟨m,hm,rfl⟩
   ·exact hin
  ·obtain ⟨m,hm,e⟩:=h2 q hq
   exact ⟨m,by omega,e⟩
 ·have pm2:=pm.map Prod.snd
  refine ⟨λk=>?_,λq hq=>?_⟩
  ·rw[pm2.mem_iff,map_cons,mem_cons,h1 k]
   constructor
   ·rintro (rfl | ⟨m,hm,e⟩)
    ·exact ⟨i,by omega,rfl⟩
    ·exact ⟨m,by omega,e⟩
   ·rintro ⟨m,hm,e⟩
    rcases (lt m).mp hm with hm | rfl
    ·exact .inr ⟨m,hm,e⟩
    ·exact .inl e.symm
  ·rcases mem_cons.mp (pm.mem_iff.mp hq) with rfl | hq
   ·exact ⟨i,by omega,rfl⟩
   ·obtain ⟨m,hm,e⟩:=h2 q hq
    exact ⟨m,by omega,e⟩
def Few (n:Nat)(its:Nat->Addr×List Int):Prop:=∀ L:List (List Int),L.Nodup->(∀ k∈L,∃ m,m<n/\(its m).2=k)->L.length<=64
theorem TSt.at {h h' : Heap}{a:Addr}{led:Bool}{M:List (Addr×List Int)}(S:TSt prog w h a led M)(g:∀ o,h.get? a=some o->h'.get? a=some o)(k:∀ q∈M,XX prog w h q.2 q.1->XX prog w h' q.2 q.1):TSt prog w h' a led M:=by
 obtain ⟨o,es,ep,t,ps,ho,hex,hd,tok,hps,hM,hK,r⟩:=S
 exact ⟨o,es,ep,t,ps,g o ho,hex,hd,tok,hps,hM,λq hq=>k q hq (hK q hq),r⟩
theorem XX.at {h h' : Heap}{a:Addr}{ks:List Int}(x:XX prog w h ks a)(g:∀ o,h.get? a=some o->h'.get? a=some o):XX prog w h' ks a:=by
 obtain ⟨o,items,n,ho,r⟩:=x
 exact ⟨o,items,n,g o ho,r⟩
end
section
variable {prog:Program}{w:World}{A:Around}{R:Result->Shared->Prop}{I:Addr}{fp wr:List Addr}{G:Array GenState->Array GenState->Prop}{n:Nat}{P:Nat->Value->Prop}{St:Nat->Shared->Prop}
theorem zhH (W:WalksS prog w A.in1 I fp wr G n P St)(hu:A.in1.units<cLine)(S:Addr)(led:Bool)(hSf:S∉fp)(its:Nat->Addr×List Int)(hval:∀ i v,P i v->v = .ref (its i).1)(hout:∀ i,i<n->(its i).1∉S::wr)(few:Few n its):
  ∀ (k i:Nat) (s:Shared) (M:List (Addr×List Int)),n-i=k->i<=n->St i s->(∀ m,m<n->XX prog w s.heap (its m).2 (its m).1)->TSt prog w s.heap S led M->Met its i M->
   (∀ s' M',Moved (S::wr) G s s' -> TSt prog w s'.heap S led M' -> Met its n M' -> R (.ok (.ret .none)) s')->
   codeAny (model prog w) A (.builtin "set.update.loop" ⟨[.ref S,.ref I],[]⟩) R s:=by
 have hSw:S∉wr:=λh=>hSf (W.sub _ h)
 have hsub:∀ b∈wr,b∈S::wr:=λb hb=>mem_cons_of_mem _ hb
 have keep:∀ {s s' : Shared} {M:List (Addr×List Int)}{i:Nat},i<=n->Met its i M->Moved wr G s s' -> TSt prog w s.heap S led M->TSt prog w s'.heap S led M:=λ{s s' M i} hi mt hm T=>
  T.at (λo e=>hm.heap S o hSw e) λq hq x=>XX.at x λo e=>by
   obtain ⟨m,hm',rfl⟩:=mt.2 q hq
   exact hm.heap _ o (λhw=>hout m (by omega) (hsub _ hw)) e
 intro k
 induction k with
 | zero=>
  intro i s M hk hi hst hT hS mt hR
  have hin:i=n:=by omega
  subst hin
  refine codeAny_builtin PyProof.Rows.F.entry_set_update_loop ?_
  rw[under_plainId PyProof.Rows.F.plain_set_update_loop _]
  show wpAny _ A.in1 (pyNext (.ref I) >>= _) _ _ s
  refine wpAny_bind (W.done s _ _ hst λs' hm=>?_)
  show wpAny _ A.in1 (ret Value.none) _ _ s'
  exact wpAny_pure (hR s' M (hm.mono hsub) (keep (Nat.le_refl _) mt hm hS) mt)
 | succ k ih=>
  intro i s M hk hi hst hT hS mt hR
  have hlt:i<n:=by omega
  refine codeAny_builtin PyProof.Rows.F.entry_set_update_loop ?_
  rw[under_plainId PyProof.Rows.F.plain_set_update_loop _]
  show wpAny _ A.in1 (pyNext (.ref I) >>= _) _ _ s
  refine wpAny_bind (W.item i s _ _ hlt hst λv s' hP hst' hm=>?_)
  have ev:=hval i v hP
  subst ev
  have hS' := keep (by omega) mt hm hS
  have hT' : ∀ m,m<n->XX prog w s'.heap (its m).2 (its m).1:=λm h=>XX.at (hT m h) λo e=>hm.heap _ o (λhw=>hout m h (hsub _ hw)) e
  show wpAny _ A.in1 (holding [Value.ref (its i).1] (setAdd S (.ref (its i).1)) >>= _) _ _ s'
  refine wpAny_bind (wpAny_holding ?_)
  unfold setAdd
  refine wpAny_holding ?_
  refine wpAny_bind (wpAny_pyHash_tuple (knd:=intKind prog w) hu (hT' i hlt) ?_)
  refine zgB (s:={ s' with toks:=s'.toks+((its i).2.length+1) }) hu hS' (hT' i hlt) (λhno=>?_) λh' M' b sb T' e=>?_
  ·have nd:(M.map Prod.snd).Nodup:=by
    obtain ⟨o,es,ep,t,ps,_,_,_,_,_,_,_,nd,_⟩:=hS
    exact nd
   have:=few ((its i).2::M.map Prod.snd) (nodup_cons.mpr ⟨hno,nd⟩) λk hk=>by
    rcases mem_cons.mp hk with rfl | hk
    ·exact ⟨i,hlt,rfl⟩
    ·obtain ⟨m,hm',e⟩:=(mt.1 k).mp hk
     exact ⟨m,by omega,e⟩
   rw[length_cons,length_map] at this
   omega
  ·have mt' := mt.succ e
   refine wpAny_pure ⟨plainId_quiet PyProof.Rows.F.plain_set_update_loop _,ih (i+1) _ M' (by omega) hlt (W.frame _ s' _ _ hst' (Nat.le_add_right _ _) λb hb o e=>?_) (λm hm' => XX.at (hT' m hm') λo e=>?_) T' mt' λs'' M'' hm'' T'' mt'' => ?_⟩
   ·rw[sb.2 b (λh:b=S=>hSf (by rw[← h];exact hb))];exact e
   ·show h'.get? _=_
    rw[sb.2 _ (λh=>hout m hm' (by rw[h];exact mem_cons_self))];exact e
   ·refine hR s'' M'' (Moved.trans W.gtrans ((hm.mono hsub).then_heap (Nat.le_add_right _ _) λb o hb e=>?_) hm'') T'' mt''
    rw[sb.2 b (λh:b=S=>hb (by rw[h];exact mem_cons_self))];exact e
end
section
variable {prog:Program}{w:World}{A:Around}{E:Value->Shared->Prop}{s:Shared}
noncomputable def ldd (w:World):Bool:=!(w.params.followText "set-order")
noncomputable def za4 (w:World):Obj:={ cls:=.type "set",dict:=none,data:=.set #[] 0 (.fresh 0 0 (ldd w)) }
theorem TSt.new (h:Heap):TSt prog w (h.push (za4 w)) h.objs.size (ldd w) []:=
 ⟨za4 w,#[],0,.fresh 0 0 (ldd w),[],get?_push_size _ rfl,⟨rfl,rfl,rfl⟩,rfl,⟨.inl rfl,rfl,rfl,List.Pairwise.nil,λq h=>(by cases h),zero_le _,λq h=>(by cases h)⟩,rfl,rfl,λq h=>(by cases h),List.nodup_nil,by show 0*5<7*3;omega,rfl,rfl⟩
theorem zdN (a:Value){Q:Value->Shared->Prop}(h:Q (.ref s.heap.objs.size) { s with heap:=s.heap.push (za4 w) }):codeAny (model prog w) A (.call (.builtin "set.__new__") ⟨[.type "set",a],[]⟩) (wants Q E) s:=by
 refine codeAny_of_tree ?_
 show wpAny _ A.in1 (checkBuiltinCall "set.__new__" ⟨[.type "set",a],[]⟩ >>= λ_=>again (.builtin "set.__new__" ⟨[.type "set",a],[]⟩)) _ _ s
 refine wpAny_bind (wpAny_of_eq (F.newCall_set_1 a) (wpAny_pure ⟨plainId_quiet F.plain_set_new _,codeAny_builtin F.entry_set_new ?_⟩))
 rw[under_plainId F.plain_set_new _]
 have hsub:=sub_set_self
 unfold Builtin.«set.__new__» Builtin.Frozenset.newClass
 obtain ⟨hp,g,d,tk,os⟩:=s
 dsimp only
 wp_walk
 refine wpAny_askSetting (wpAny_pure ?_)
 dsimp only
 simp only[newObj]
 exact wpAny_bind (wpAny_alloc (wpAny_pure (wpAny_pure h)))
end
theorem ZS:Slot "set_iterator" "__next__" "set_iterator.__next__" :=
 .of (owner:= "set_iterator") (n:= "__next__") (by rw[typeLookup_type,builtinLookup_eq_fast];kernel_rfl) (by decide +kernel) (by decide +kernel) (by decide +kernel)
  (by first | exact .inl (by decide +kernel) | exact .inr (by decide +kernel)) (by rw[isSubtype_type];kernel_rfl)
theorem Xz:entryFor table "set_iterator.__next__" = some Builtin.«set_iterator.__next__» := entryFor_of_fast (by kernel_rfl)
theorem Wh (a:Value):argsOk "set_iterator.__next__" ⟨[a],[]⟩:=by unfold argsOk;kernel_rfl
theorem Jw:entryFor table "set.__iter__" = some Builtin.«frozenset.__iter__» :=
 entryFor_alias (id' := "frozenset.__iter__") (by kernel_rfl) rfl (by decide +kernel) (by kernel_rfl)
theorem JG {α:Type}:∀ (l:List α) (i:Nat) (h:i<l.length),(l[i]::l.eraseIdx i).Perm l
 | a::l,0,h=>List.Perm.refl _
 | a::l,i+1,h=>(List.Perm.swap ..).trans ((JG l i (Nat.lt_of_succ_lt_succ h)).cons a)
theorem zbs {α:Type}(next:Nat->Nat):∀ (fuel k:Nat) (left:List α) (out:Array α),left.length=fuel->(pickOrder.go next fuel k left out).toList.Perm (out.toList++left)
 | 0,k,left,out,h=>by
  have:left=[]:=List.eq_nil_of_length_eq_zero h
  subst this
  unfold pickOrder.go
  rw[append_nil]
 | fuel+1,k,left,out,h=>by
  have hlt:next k % left.length<left.length:=mod_lt _ (by omega)
  unfold pickOrder.go
  rw[List.getElem?_eq_getElem hlt]
  dsimp only
  refine (zbs next fuel (k+1) _ _ (by rw[List.length_eraseIdx_of_lt hlt];omega)).trans ?_
  rw[toList_push,append_assoc]
  exact List.Perm.append_left _ (JG left _ hlt)
theorem zaZ {α:Type}(next:Nat->Nat)(xs:Array α):(pickOrder next xs).toList.Perm xs.toList:=by
 unfold pickOrder
 exact zbs next xs.size 0 xs.toList #[] (length_toList ..)
noncomputable def slotAt (t:SetTable):Nat->Nat
 | 0=>0
 | i+1=>t.place.getD i 0+1
theorem below_at {t:SetTable}{ps:List (Nat×Int)}(o:TOk t ps){i:Nat}(hi:i<=t.place.size):below t.place (slotAt t i)=i:=by
 have hr:Ris t.place.toList:=by rw[o.p];exact o.r
 obtain ⟨b1,b2,b3⟩:=Qo hr (slotAt t i)
 have get:∀ k,k<t.place.size->∀ d,t.place.getD k d=t.place.getD k 0:=λk hk d=>by
  rw[getD_eq_getD_getElem?,getD_eq_getD_getElem?,Array.getElem?_eq_getElem hk];rfl
 have mono:∀ a b,a<b->b<t.place.size->t.place.getD a 0<t.place.getD b 0:=λa b hab hb=>by
  have:=List.pairwise_iff_getElem.mp hr a b (by simpa using (by omega:a<t.place.size)) (by simpa using hb) hab
  rw[getD_eq_getD_getElem?,getD_eq_getD_getElem?,Array.getElem?_eq_getElem (by omega),Array.getElem?_eq_getElem hb]
  simpa using this
 rcases lt_trichotomy (below t.place (slotAt t i)) i with l | l | l
 ·have h1:=b3 _ (Nat.le_refl _) (by omega)
  rw[get _ (by omega)] at h1
  cases i with
  | zero=>omega
  | succ i=>
   have h1:t.place.getD i 0+1<=t.place.getD (below t.place (slotAt t (i+1))) 0:=h1
   by_cases e:below t.place (slotAt t (i+1))=i
   ·rw[e] at h1;omega
   ·have:=mono (below t.place (slotAt t (i+1))) i (by omega) (by omega)
    omega
 ·exact l
 ·have h1:=b2 i l
  rw[get _ (by omega)] at h1
  cases i with
  | zero=>exact absurd h1 (not_lt_zero _)
  | succ i=>
   have h1:t.place.getD (i+1) 0<t.place.getD i 0+1:=h1
   have:=mono i (i+1) (by omega) (by omega)
   omega
section
variable {prog:Program}{w:World}{A:Around}{E:Value->Shared->Prop}{s:Shared}
noncomputable def Jv (w:World) (S:Addr) (ep:Nat) (es:Array (Int×Value)):List (Int×Value):=if w.params.followText "set-order" then (pickOrder (w.params.setOrder S ep) es).toList else es.toList
theorem YX (w:World)(S:Addr)(ep:Nat)(es:Array (Int×Value)):(Jv w S ep es).Perm es.toList:=by
 unfold Jv
 split
 ·exact zaZ _ _
 ·exact List.Perm.refl _
noncomputable def slW (w:World) (t:SetTable) (i:Nat):Nat:=if w.params.followText "set-order" then 0 else slotAt t i
noncomputable def sit (S:Addr) (sl i n ep:Nat):Data:=.fields #[.int sl 0,.int i 0,.ref S,.int n 0,.int ep 0]
theorem Jk {Q:Bool->Shared->Prop}(h:Q (w.params.followText "set-order") s):wpAny (model prog w) A setsByText Q E s:=by
 unfold setsByText
 exact wpAny_bind (wpAny_askSetting (wpAny_pure h))
theorem zbP {S:Addr}{o:Obj}{es:Array (Int×Value)}{ep i:Nat}{t:SetTable}{ps:List (Nat×Int)}{Q:Option (Value×Nat)->Shared->Prop}(ho:s.heap.get? S=some o)(hd:o.data = .set es ep t)(tok:TOk t ps)(hps:ps.map Prod.snd=es.toList.map Prod.fst)(hl:t.led=ldd w)(hp:t.plain=true)(hi:i<=es.size)
  (h:Q ((Jv w S ep es)[i]?.map λe=>(e.2,slW w t (i+1))) s):wpAny (model prog w) A (setNext S (slW w t i) i ep) Q E s:=by
 have hf:t.fits es.size=true:=by rw[← SOk.len hps];exact tok.fits
 unfold setNext
 refine wpAny_bind (wpAny_setState_of ho hd hf ?_)
 dsimp only
 refine wpAny_bind (Jk ?_)
 by_cases bt:w.params.followText "set-order" = true
 ·rw[bt]
  simp only[if_true,bne_self_eq_false,false_eq_true,if_false]
  unfold setWalk
  refine wpAny_bind (wpAny_bind (wpAny_setState_of ho hd hf ?_))
  dsimp only
  refine wpAny_bind (Jk ?_)
  rw[bt]
  simp only[if_true]
  refine wpAny_bind (wpAny_askSetting ?_)
  refine wpAny_pure (wpAny_pure ?_)
  unfold Jv slW at h
  rw[bt] at h
  simp only[if_true,getElem?_toList] at h
  unfold slW
  rw[bt]
  exact h
 ·have bt:=eq_false_iff.mpr bt
  have hled:t.led=true:=by rw[hl];unfold ldd;rw[bt];rfl
  rw[bt]
  simp only[false_eq_true,if_false]
  unfold Jv slW at h
  unfold slW
  rw[bt] at h ⊢
  simp only[false_eq_true,if_false,getElem?_toList] at h ⊢
  show wpAny _ _ (if (!t.plain&&decide (es.size>1))=true then _ else _) _ _ _
  rw[hp]
  simp only[Bool.not_true,Bool.false_and,false_eq_true,if_false]
  refine wpAny_bind ?_
  show wpAny _ _ (if (!t.led && !es.isEmpty)=true then _ else _) _ _ _
  rw[hled]
  simp only[Bool.not_true,Bool.false_and,false_eq_true,if_false]
  refine wpAny_pure ?_
  have hsz:t.place.size=es.size:=by rw[← SOk.len hps,← length_toList,tok.p,length_map]
  rw[below_at tok (by omega)]
  refine wpAny_pure ?_
  by_cases e:i<es.size
  ·rw[Array.getElem?_eq_getElem e] at h ⊢
   rw[Array.getElem?_eq_getElem (xs:=t.place) (by omega)]
   have:slotAt t (i+1)=t.place[i]+1:=by
    show t.place.getD i 0+1=_
    rw[getD_eq_getD_getElem?,Array.getElem?_eq_getElem (by omega)];rfl
   rw[this] at h
   exact h
  ·rw[Array.getElem?_eq_none (by omega)] at h ⊢
   exact h
def zap (h:Heap)(I S:Addr)(sl i n ep:Nat):Prop:=∃ o,h.get? I=some o/\o.cls = .type "set_iterator" /\ o.data=sit S sl i n ep
theorem zap.typeIs {s:Shared}{I S:Addr}{sl i n ep:Nat}(x:zap s.heap I S sl i n ep):s.TypeIs (.ref I) "set_iterator" := let ⟨o,ho,hc,_⟩:=x;⟨o,ho,hc⟩
theorem zcB {S:Addr}{o:Obj}{es:Array (Int×Value)}{ep:Nat}{t:SetTable}{Q:Value->Shared->Prop}(ho:s.heap.get? S=some o)(hex:o.ExactSet)(hd:o.data = .set es ep t)(hf:t.fits es.size=true)(hp:t.plain=true)
  (h:Q (.ref s.heap.objs.size) { s with heap:=s.heap.push { cls:=.type "set_iterator",data:=sit S 0 0 es.size ep } }):
  wpAny (model prog w) A (pyIter (.ref S)) Q E s:=by
 have hT:s.TypeIs (.ref S) "set" := ⟨o,ho,hex.1⟩
 refine wpAny_pyIter_slot hT F.slot_set_iter (wpAny_call_entry F.slot_set_iter hT Jw ?_ (F.args_set_iter_1 _))
 unfold Builtin.«frozenset.__iter__»
 refine wpAny_bind (m:=Builtin.Frozenset.slot0 "__iter__" _) (wpAny_pure ?_)
 unfold Builtin.Frozenset.sizeOf
 refine wpAny_bind (wpAny_bind (wpAny_setEntries_of ho hd hf (wpAny_pure ?_)))
 unfold setDrawn
 refine wpAny_bind (wpAny_bind (wpAny_setState_of ho hd hf ?_))
 dsimp only
 refine wpAny_bind (Jk ?_)
 refine wpAny_pure ?_
 show wpAny _ _ (if (!(w.params.followText "set-order")&&(!t.plain&&decide (es.size>1)))=true then _ else _) _ _ _
 rw[hp]
 simp only[Bool.not_true,Bool.false_and,Bool.and_false,false_eq_true,if_false]
 refine wpAny_bind (wpAny_pure ?_)
 refine wpAny_bind (wpAny_setEpoch_of ho hd hf ?_)
 exact wpAny_bind (wpAny_newObj_type (wpAny_pure ⟨_,rfl, "set_iterator",_,⟨_,get?_push_size _ rfl,rfl⟩,ZS.lookup,h⟩))
theorem next_item {I S:Addr}{o:Obj}{es:Array (Int×Value)}{ep i:Nat}{t:SetTable}{ps:List (Nat×Int)}{e:Int×Value}{Q:Option Value->Shared->Prop}(hit:zap s.heap I S (slW w t i) i es.size ep)(ho:s.heap.get? S=some o)(hd:o.data = .set es ep t)(tok:TOk t ps)(hps:ps.map Prod.snd=es.toList.map Prod.fst)(hl:t.led=ldd w)(hp:t.plain=true)(hx:(Jv w S ep es)[i]?=some e)
  (hQ:∀ h',zap h' I S (slW w t (i+1)) (i+1) es.size ep->SameBut I s.heap h' -> Q (some e.2) { s with heap:=h' }):
  wpAny (model prog w) A (pyNext (.ref I)) Q E s:=by
 have hf:t.fits es.size=true:=by rw[← SOk.len hps];exact tok.fits
 have hi:i<es.size:=by
  have:=(List.getElem?_eq_some_iff.mp hx).1
  rwa [(YX w S ep es).length_eq,length_toList] at this
 obtain ⟨oi,hoi,hc,hdi⟩:=id hit
 unfold pyNext
 refine wpAny_bind (wpAny_attempt (wpAny_callSpecial?_slot (name:=Str.ofString "__next__") hit.typeIs ZS
  (wpAny_call_entry ZS hit.typeIs Xz ?_ (Wh _))))
 unfold Builtin.«set_iterator.__next__»
 refine wpAny_bind (m:=slotArgs "__next__" 0 _) (wpAny_pure ?_)
 refine wpAny_bind (wpAny_fieldsOf hoi hdi ?_)
 show wpAny _ _ (setEntries S >>= _) _ _ _
 refine wpAny_bind (wpAny_setEntries_of ho hd hf ?_)
 simp only[bne_self_eq_false,false_eq_true,if_false,toNat_natCast]
 refine wpAny_bind (zbP ho hd tok hps hl hp (by omega) ?_)
 rw[hx]
 show wpAny _ _ (setField (.ref I) 0 (rawInt _) >>= _) _ _ _
 refine wpAny_bind (wpAny_setField hoi hdi (by simp) ?_)
 have g1:=get?_update_self (Obj.mapFields (·.setIfInBounds 0 (rawInt (slW w t (i+1):Nat)))) hoi (Obj.isFreed_of_fields (Obj.data_mapFields hdi _))
 refine wpAny_bind (wpAny_setField (s:={ s with heap:=_ }) g1 (Obj.data_mapFields hdi _) (by simp) ?_)
 refine wpAny_pure ⟨e.2,rfl,wpAny_pure (hQ _ ?_ ((SameBut.update ..).trans (SameBut.update ..)))⟩
 refine ⟨_,get?_update_self _ g1 (Obj.isFreed_of_fields (Obj.data_mapFields (Obj.data_mapFields hdi _) _)),(Obj.cls_mapFields ..).trans ((Obj.cls_mapFields ..).trans hc),?_⟩
 rw[Obj.data_mapFields (Obj.data_mapFields hdi _)]
 rfl
theorem next_end {I S:Addr}{o:Obj}{es:Array (Int×Value)}{ep:Nat}{t:SetTable}{ps:List (Nat×Int)}{Q:Option Value->Shared->Prop}(hh:A.handled=none)(hit:zap s.heap I S (slW w t es.size) es.size es.size ep)(ho:s.heap.get? S=some o)(hd:o.data = .set es ep t)(tok:TOk t ps)(hps:ps.map Prod.snd=es.toList.map Prod.fst)(hl:t.led=ldd w)(hp:t.plain=true)
  (hQ:∀ h',Heap.ExtBut I s.heap h' -> Q none { s with heap:=h' }):
  wpAny (model prog w) A (pyNext (.ref I)) Q E s:=by
 have hf:t.fits es.size=true:=by rw[← SOk.len hps];exact tok.fits
 have hx:(Jv w S ep es)[es.size]?=none:=List.getElem?_eq_none (by rw[(YX w S ep es).length_eq,length_toList];exact Nat.le_refl _)
 obtain ⟨oi,hoi,hc,hdi⟩:=id hit
 unfold pyNext
 refine wpAny_bind (wpAny_attempt (wpAny_callSpecial?_slot (name:=Str.ofString "__next__") hit.typeIs ZS
  (wpAny_call_entry ZS hit.typeIs Xz ?_ (Wh _))))
 unfold Builtin.«set_iterator.__next__»
 refine wpAny_bind (m:=slotArgs "__next__" 0 _) (wpAny_pure ?_)
 refine wpAny_bind (wpAny_fieldsOf hoi hdi ?_)
 show wpAny _ _ (setEntries S >>= _) _ _ _
 refine wpAny_bind (wpAny_setEntries_of ho hd hf ?_)
 simp only[bne_self_eq_false,false_eq_true,if_false,toNat_natCast]
 refine wpAny_bind (zbP ho hd tok hps hl hp (Nat.le_refl _) ?_)
 rw[hx]
 show wpAny _ _ (setField (.ref I) 2 Value.none >>= _) _ _ _
 refine wpAny_bind (wpAny_setField hoi hdi (by simp) ?_)
 refine wpAny_bind ?_
 simp only[newExc,newTuple]
 refine wpAny_bind (wpAny_newObj_type ?_ (by size_fits))
 refine wpAny_bind (m:=firstArgMember _ _) (wpAny_of_eq (a:=Value.none) (by first | rfl | (simp only[firstArgMember];rfl)) ?_)
 refine wpAny_newObj_type ?_ (by size_fits)
 simp only[raiseNew]
 refine wpAny_bind (wpAny_handled ?_)
 rw[show A.in1.handled=none from hh]
 refine wpAny_bind (wpAny_pure (wpAny_throw ?_))
 refine wpAny_bind (wpAny_isInstance (T:= "StopIteration") (b:=true) ⟨_,get?_push_size _ rfl,rfl⟩ isSubtype_stop ?_)
 exact wpAny_pure (hQ _ (((SameBut.update ..).extBut.push _).push _))
end
theorem X5:Slot "set_iterator" "__iter__" "set_iterator.__iter__" :=
 .of (owner:= "set_iterator") (n:= "__iter__") (by rw[typeLookup_type,builtinLookup_eq_fast];kernel_rfl) (by decide +kernel) (by decide +kernel) (by decide +kernel)
  (by first | exact .inl (by decide +kernel) | exact .inr (by decide +kernel)) (by rw[isSubtype_type];kernel_rfl)
theorem Jx:entryFor table "set_iterator.__iter__" = some Builtin.«dict_keyiterator.__iter__» :=
 entryFor_alias (id' := "dict_keyiterator.__iter__") (by kernel_rfl) rfl (by decide +kernel) (by kernel_rfl)
theorem J0 (a:Value):argsOk "set_iterator.__iter__" ⟨[a],[]⟩:=by unfold argsOk;kernel_rfl
section
variable {prog:Program}{w:World}{A:Around}{E:Value->Shared->Prop}{s:Shared}
theorem zii (hh:A.handled=none){I S:Addr}(hne:S≠I){o:Obj}{es:Array (Int×Value)}{ep:Nat}{t:SetTable}{ps:List (Nat×Int)}(hd:o.data = .set es ep t)(tok:TOk t ps)(hps:ps.map Prod.snd=es.toList.map Prod.fst)(hl:t.led=ldd w)(hp:t.plain=true):
  Walks prog w A I [I,S] [I] es.size (λi v=>∃ e,(Jv w S ep es)[i]?=some e/\v=e.2) (λi h=>zap h I S (slW w t i) i es.size ep/\h.get? S=some o) where
 sub:=λb hb=>by rw[mem_singleton] at hb;rw[hb];exact mem_cons_self
 frame:=λi h h' st hk=>by
  obtain ⟨⟨oi,g,c,d⟩,g2⟩:=st
  exact ⟨⟨oi,hk I mem_cons_self oi g,c,d⟩,hk S (mem_cons_of_mem _ mem_cons_self) o g2⟩
 item:=λi s Q E hi st hQ=>by
  have hlt:i<(Jv w S ep es).length:=by rw[(YX w S ep es).length_eq,length_toList];exact hi
  refine next_item st.1 st.2 hd tok hps hl hp (List.getElem?_eq_getElem hlt) λh' it sb=>?_
  exact hQ _ h' s.toks ⟨_,List.getElem?_eq_getElem hlt,rfl⟩ ⟨it,(sb.2 S hne).trans st.2⟩ λb o hb e=>(sb.2 b λz=>hb (by rw[z];exact mem_cons_self)).trans e
 done:=λs Q E st hQ=>next_end hh st.1 st.2 hd tok hps hl hp λh' eb=>hQ h' s.toks λb o hb e=>eb b o (λz=>hb (by rw[z];exact mem_cons_self)) e
 self:=λi s Q E st hQ=>by
  refine wpAny_pyIter_slot st.1.typeIs X5 (wpAny_call_entry X5 st.1.typeIs Jx ?_ (J0 _))
  show wpAny _ _ (ret (.ref I)) _ _ s
  exact wpAny_pure ⟨_,rfl, "set_iterator",_,st.1.typeIs,ZS.lookup,hQ⟩
theorem ze1 {S:Addr}{Q:Bool->Shared->Prop}(hT:s.TypeIs (.ref S) "set")(h:Q false s):wpAny (model prog w) A (Builtin.List.listLengthHint (.ref S)) Q E s:=by
 unfold Builtin.List.listLengthHint
 refine wpAny_bind (wpAny_specialOf hT F.slot_set_len.lookup ?_)
 generalize hid:("set.__len__" : String)=id0
 wp_delta
 rw[show splitId id0=some ("set", "__len__") from by subst hid;decide +kernel]
 subst hid
 refine wpAny_bind (wpAny_isInstance (b:=true) hT sub_set_self ?_)
 show wpAny _ _ (typeOf (.ref S) >>= _) _ _ _
 refine wpAny_bind (wpAny_typeOf hT ?_)
 exact wpAny_pure h
theorem U7 {L:List (Int×Value)}{acc:Array Value}{n:Nat}(hn:L.length=n)(h:ItemsOf (λi v=>∃ e,L[i]?=some e/\v=e.2) acc n):acc.toList=L.map Prod.snd:=by
 refine ext_getElem? λi=>?_
 rw[getElem?_toList,getElem?_map]
 by_cases hi:i<n
 ·have ha:i<acc.size:=by rw[h.1];exact hi
  obtain ⟨e,e1,e2⟩:=h.2 i acc[i] (Array.getElem?_eq_getElem ha)
  rw[Array.getElem?_eq_getElem ha,e1,e2];rfl
 ·rw[Array.getElem?_eq_none (by rw[h.1];omega),List.getElem?_eq_none (by omega)];rfl
theorem Vp {S:Addr}{M:List (Addr×List Int)}{Q:List Value->Shared->Prop}(hh:A.handled=none)(T:TSt prog w s.heap S (ldd w) M)
  (hQ:∀ (s' : Shared) (M' : List (Addr×List Int)),M'.Perm M->(∀ b o,s.heap.get? b=some o->s'.heap.get? b=some o)->s'.gens=s.gens->s'.drawn=s.drawn->s'.os=s.os->s.toks<=s'.toks->Q (M'.map λq=>.ref q.1) s'):
  wpAny (model prog w) A (collect (.ref S)) Q E s:=by
 obtain ⟨o,es,ep,t,ps,ho,hex,hd,tok,hps,hM,hK,nd,hfull,hled,hpl⟩:=T
 have hf:t.fits es.size=true:=by rw[← SOk.len hps];exact tok.fits
 have hmk:t.mask<=127:=by rcases tok.m with e | e | e <;> omega
 have hSl:S<s.heap.objs.size:=lt_size ho
 have hSI:s.heap.objs.size≠S:=λe=>lt_irrefl _ (e ▸ hSl)
 unfold collect
 refine wpAny_bind (wpAny_runValue (codeAny_builtin F.entry_proto_collect ?_))
 rw[under_plainId F.plain_proto_collect _]
 show wpAny _ A.in1 (newList [] >>= λl=>again (.builtin "list.__iadd__" ⟨[l,.ref S],[]⟩)) _ _ s
 refine wpAny_bind (wpAny_newObj_type ?_)
 refine wpAny_pure ⟨plainId_quiet F.plain_list_iadd _,codeAny_builtin F.entry_list_iadd ?_⟩
 rw[under_plainId F.plain_list_iadd _]
 have g1:=get?_push_of_some { cls:=.type "list",data:=.seq ([]:List Value).toArray } ho
 have gL:(s.heap.push { cls:=.type "list",data:=.seq ([]:List Value).toArray }).get? s.heap.objs.size=some { cls:=.type "list",data:=.seq ([]:List Value).toArray }:=get?_push_size _ rfl
 show wpAny _ A.in1 (Builtin.List.listExtendWith (.ref s.heap.objs.size) (.ref S) (.ref s.heap.objs.size)) _ _ _
 unfold Builtin.List.listExtendWith
 refine wpAny_bind (wpAny_typeOf (T:= "set") ⟨o,g1,hex.1⟩ ?_)
 have h1:Builtin.List.listSameRef (.ref s.heap.objs.size) (.ref S)=false:=by simp[Builtin.List.listSameRef,hSI]
 rw[if_neg (by rw[h1];decide)]
 refine wpAny_bind (zcB g1 hex hd hf hpl ?_)
 generalize hH:s.heap.push { cls:=.type "list",data:=.seq ([]:List Value).toArray }=H at g1 gL
 have hHs:H.objs.size=s.heap.objs.size+1:=by rw[← hH,size_push]
 have hH0:∀ b o,s.heap.get? b=some o->H.get? b=some o:=λb o e=>by rw[← hH];exact get?_push_of_some _ e
 have g2:=get?_push_of_some { cls:=.type "set_iterator",data:=sit S 0 0 es.size ep } g1
 have gL2:=get?_push_of_some { cls:=.type "set_iterator",data:=sit S 0 0 es.size ep } gL
 have gI:(H.push { cls:=.type "set_iterator",data:=sit S 0 0 es.size ep }).get? H.objs.size=some { cls:=.type "set_iterator",data:=sit S 0 0 es.size ep }:=get?_push_size _ rfl
 refine wpAny_bind (wpAny_holding (ze1 ⟨o,g2,hex.1⟩ ?_))
 show wpAny _ A.in1 (rule "list.extend.makes-room" >>= λ_=>Builtin.List.listTouch (.ref s.heap.objs.size) >>= λ_=>
  again (.builtin "list.extend.loop" ⟨[.ref s.heap.objs.size,.ref H.objs.size,.ref s.heap.objs.size],[]⟩)) _ _ _
 refine wpAny_bind (wpAny_rule (wpAny_bind ?_))
 show wpAny _ A.in1 (updateSeq s.heap.objs.size (·.push .none) >>= λ_=>updateSeq s.heap.objs.size (·.pop)) _ _ _
 refine wpAny_bind (wpAny_updateSeq gL2 rfl ?_)
 have gL3:=get?_update_self (Obj.mapSeq (·.push Value.none)) gL2 rfl
 refine wpAny_updateSeq gL3 rfl ?_
 have gL4:=get?_update_self (Obj.mapSeq (·.pop)) gL3 rfl
 have oth:∀ b o,b≠s.heap.objs.size->(H.push { cls:=.type "set_iterator",data:=sit S 0 0 es.size ep }).get? b=some o->(((H.push { cls:=.type "set_iterator",data:=sit S 0 0 es.size ep }).update s.heap.objs.size (Obj.mapSeq (·.push Value.none))).update s.heap.objs.size (Obj.mapSeq (·.pop))).get? b=some o:=
  λb o hb e=>(get?_update_other _ _ (Ne.symm hb)).trans ((get?_update_other _ _ (Ne.symm hb)).trans e)
 have nI:H.objs.size≠s.heap.objs.size:=by rw[hHs];exact Nat.succ_ne_self _
 have nS:S≠H.objs.size:=by rw[hHs];exact ne_of_lt (lt_succ_of_lt hSl)
 have nf:s.heap.objs.size∉[H.objs.size,S]:=λz=>by
  rcases mem_cons.mp z with z | z
  ·exact nI z.symm
  ·rw[mem_singleton] at z;exact hSI z
 have hsl0:slW w t 0=0:=by unfold slW;split <;> rfl
 have hsz:es.size<=sizeLine:=by rw[sizeLine_eq];omega
 have W:=(zii (prog:=prog) (w:=w) (A:=A.in1) (I:=H.objs.size) (S:=S) hh nS hd tok hps hled hpl).toS
 refine wpAny_pure ⟨plainId_quiet F.plain_extend_loop _,codeAny_extend_loopS W hsz _ nf _ es.size 0 _ _ _ rfl (zero_le _) ⟨⟨_,oth _ _ nI gI,rfl,by rw[hsl0]⟩,oth _ _ (Ne.symm hSI) g2⟩ gL4 (ItemsOf.nil _) λs' acc' c' hm hS' hacc=>?_⟩
 show wpAny _ A (load s.heap.objs.size >>= _) _ _ s'
 refine wpAny_bind (wpAny_load hS' ?_)
 have hit:=U7 (L:=Jv w S ep es) (by rw[(YX w S ep es).length_eq,length_toList]) hacc
 obtain ⟨M',pm,e⟩:=W7 (YX w S ep es) M hM
 refine wpAny_pure ?_
 rw[hit,e,map_map]
 refine hQ s' M' pm (λb o hb=>?_) hm.gens hm.drawn hm.os hm.toks
 have hbl:b<s.heap.objs.size:=lt_size hb
 refine hm.heap b o (λz=>?_) (oth b o (ne_of_lt hbl) (get?_push_of_some _ (hH0 b o hb)))
 rcases mem_cons.mp z with z | z
 ·exact absurd z (ne_of_lt hbl)
 ·rw[mem_singleton,hHs] at z;exact absurd z (ne_of_lt (lt_succ_of_lt hbl))
theorem QD {l:Addr}{items:Array Value}{its:Nat->Addr×List Int}{Q:Value->Shared->Prop}(hh:A.handled=none)(hu:∀ A' : Around,A'.units<=A.units+8->A'.units<cLine)
  (hl:s.heap.IsList l items) (hits:∀ (i:Nat) (v:Value),items[i]?=some v->v = .ref (its i).1) (hT:∀ i,i<items.size->XX prog w s.heap (its i).2 (its i).1) (few:Few items.size its)
  (h:∀ (h' : Heap) (tk:Nat) (M:List (Addr×List Int)),TSt prog w h' s.heap.objs.size (ldd w) M->Met its items.size M->(∀ b o,b<s.heap.objs.size->s.heap.get? b=some o->h'.get? b=some o)->s.toks<=tk->Q (.ref s.heap.objs.size) { s with heap:=h',toks:=tk }):
  wpAny (model prog w) A (call (.type "set") [.ref l]) Q E s:=by
 have ct:=F.called_set
 obtain ⟨c,tl,hmro⟩:=ct.mro
 have c1:=ct.made
 have c2:=ct.sub
 have c3:=ct.notType
 have c4:=ct.canCreate
 have c5:=F.typeCall_set_1 (.ref l)
 refine wpAny_call (codeAny_of_tree ?_)
 show wpAny _ _ (callAny (.type "set") _) _ _ _
 refine wpAny_pure ⟨Code.quiet_builtin _ (by decide +kernel),codeAny_builtin F.entry_type_call ?_⟩
 rw[Around.under_plain (weight_type_call_type "set" [.ref l] []) rfl]
 repeat (any_goals (first | assumption | wp_step))
 refine codeAny_mono (zdN (.ref l) (E:=E) (Q:=λv s1=>v = .ref s.heap.objs.size/\s1={ s with heap:=s.heap.push (za4 w) }) ⟨rfl,rfl⟩) λr s1 hr=>?_
 match r,hr with
 | .ok (.ret v),hr=>
  obtain ⟨rfl,rfl⟩:=hr
  have gS:(s.heap.push (za4 w)).get? s.heap.objs.size=some (za4 w):=get?_push_size _ rfl
  have tS:Shared.TypeIs { s with heap:=s.heap.push (za4 w) } (.ref s.heap.objs.size) "set" := ⟨_,gS,rfl⟩
  have i1:=ct.init.lookup
  have i2:=ct.init.bind (.ref s.heap.objs.size)
  repeat (any_goals (first | assumption | wp_step))
  refine codeAny_mono (codeAny_call_builtin (R:=wants (λv s2=>v = .none/\∃ h' tk M,s2={ s with heap:=h',toks:=tk }/\TSt prog w h' s.heap.objs.size (ldd w) M/\Met its items.size M/\(∀ b o,b<s.heap.objs.size->s.heap.get? b=some o->h'.get? b=some o)/\s.toks<=tk) E) ct.init.plain F.entry_set_init (check_set_init_1 tS ?_)) λr2 s2 hr2=>?_
  ·have hl1:=hl.push (za4 w)
   obtain ⟨⟨ocls,odict,odata,oslots⟩,hol,hcl,nl,hdl⟩:=hl
   simp only at hcl hdl
   subst hcl;subst hdl
   have hol' := get?_push_of_some (za4 w) hol
   have n1:=F.sub_list_set
   have n2:=F.sub_list_frozenset
   have n3:(Value.type "list" == Value.type "dict")=false:=by decide
   unfold Builtin.«set.__init__» noKeywords Builtin.Frozenset.updateFrom
   generalize hPI:pyIter=PI
   wp_walk
   subst hPI
   refine wpAny_pyIter_list hl1 ?_
   refine wpAny_bind (wpAny_runValue ?_)
   have hlt:l<s.heap.objs.size:=lt_size hol
   have hh3:A.in1.in1.in1.handled=none:=by simp[hh]
   have nI:l≠(s.heap.push (za4 w)).objs.size:=by rw[size_push];exact ne_of_lt (lt_succ_of_lt hlt)
   have nS:s.heap.objs.size∉[(s.heap.push (za4 w)).objs.size,l]:=by
    rw[size_push]
    intro z
    rcases mem_cons.mp z with z | z
    ·exact absurd z (ne_of_lt (Nat.lt_succ_self _))
    ·rw[mem_singleton] at z;exact absurd z (Nat.ne_of_gt hlt)
   have low:∀ i,i<items.size->(its i).1<s.heap.objs.size:=λi hi=>by
    obtain ⟨o,_,_,ho,_⟩:=hT i hi
    exact lt_size ho
   refine zhH ((Walks.list hh3 _ l nI items).toS) (hu _ (by simp <;> omega)) s.heap.objs.size (ldd w) nS its hits (λi hi z=>?_) few (items.size-0) 0 _ [] (by omega) (zero_le _) ⟨⟨_,get?_push_size _ rfl,rfl,rfl⟩,hl1.push _⟩ (λm hm=>XX.at (hT m hm) λo e=>get?_push_of_some _ (get?_push_of_some _ e)) ((TSt.new s.heap).at (λo e=>get?_push_of_some _ e) λq hq=>(by cases hq)) (Met.zero its) λs' M mv T mt=>?_
   ·have:=low i hi
    rw[size_push] at z
    rcases mem_cons.mp z with z | z
    ·exact absurd z (ne_of_lt this)
    ·rw[mem_singleton] at z;exact absurd z (ne_of_lt (lt_succ_of_lt this))
   ·obtain ⟨h',g',d',tk',os'⟩:=s'
    have eg:g'=s.gens:=mv.gens
    have ed:d'=s.drawn:=mv.drawn
    have eo:os'=s.os:=mv.os
    subst eg;subst ed;subst eo
    show wpAny _ _ _ _ _ _
    refine wpAny_pure ?_
    show wpAny _ _ (ret Value.none) _ _ _
    refine wpAny_pure ⟨rfl,h',tk',M,rfl,T,mt,λb o hb e=>?_,mv.toks⟩
    refine mv.heap b o (λz=>?_) (get?_push_of_some _ (get?_push_of_some _ e))
    rw[size_push] at z
    rcases mem_cons.mp z with z | z
    ·exact absurd z (ne_of_lt hb)
    ·rw[mem_singleton] at z;exact absurd z (ne_of_lt (lt_succ_of_lt hb))
  ·match r2,hr2 with
   | .ok (.ret v),hr2=>
    obtain ⟨rfl,h',tk,M,rfl,T,mt,kp,ht⟩:=hr2
    repeat (any_goals (first | assumption | wp_step))
    exact h _ _ _ T mt kp ht
   | .error e,hr2=>exact hr2
 | .error e,hr=>exact hr
end
end J7
namespace L2
open PySem PySem.Spec PyProof.Rows StbG J7
section
variable {prog:Program}{w:World}{A:Around}{E:Value->Shared->Prop}{s:Shared}
theorem zc3 {h:Heap}{a:Addr}{x y:Int}(k:XX prog w h [x,y] a):ZM h (.ref a) x y:=by
 obtain ⟨o,items,n,ho,hc,hd,hi⟩:=k
 obtain ⟨l⟩:=items
 cases hi with
 | cons h1 r=>
  cases r with
  | cons h2 r=>
   cases r
   obtain ⟨t,rfl⟩:=Value.isInt_shape h1
   obtain ⟨u,rfl⟩:=Value.isInt_shape h2
   exact ⟨a,o,t,u,n,rfl,ho,hc,hd⟩
end
open PySem PySem.Spec PyProof.Rows
section
variable {X:Cx}
def zaA:V->List V->Hp->VK->Prop:=λx vs H Q=>∃ l xs i y,x = .ref l/\vs=[.int i,y]/\H l=some (.lst xs)/\0<=i/\i<=xs.length/\xs.length+1<=sizeLine/\Q .non (upd H l (.lst (xs.take i.toNat++y::xs.drop i.toNat)))
theorem zbG:MtM X "list.insert" zaA:=by
 intro pins s σ H x vs v us Q I rx rv h
 obtain ⟨l,xs,i,y,rfl,rfl,hH,h0,h1,hz,q⟩:=h
 cases rx
 obtain ⟨u,w,rfl,ru,rw'⟩:=rv.two
 obtain ⟨t,rfl⟩:=ru
 obtain ⟨z,its,n,r,hl,e⟩:=I.zeW hH
 have hs:xs.length<=16777216:=by
  have:=sizeLine_eq
  omega
 have hlen:=r.length
 refine call_meets F.slot_list_insert ⟨_,e,rfl⟩ F.entry_list_insert (F.args_list_insert_3 _ _ _)
  (AutoListH.list_insert_list_int_val_1 l its.toArray n i t w (by rw[fitsIndex_both (by omega) (by omega)];exact Bool.false_ne_true) (by rw[size_toArray];omega)) ⟨e,?_⟩
 refine ⟨.non,_,I.zgN (its' := its.take i.toNat++w::its.drop i.toNat) hH e ?_ ((r.take _).append (.cons rw' (r.drop _))) ?_,rfl,q⟩
 ·have hk:(if i<0 then (i+((its.toArray.size:Nat):Int)).toNat else min i.toNat its.toArray.size)=i.toNat:=by
   rw[if_neg (by omega),size_toArray];omega
  show (its.toArray.extract 0 _).push w++its.toArray.extract _=_
  rw[hk]
  apply Array.ext'
  simp[List.take_of_length_le]
 ·simp only[length_append,length_cons,length_take,length_drop]
  omega
theorem zbv:bootBuiltins "sorted" = some (.builtin "sorted"):=by decide +kernel
end
noncomputable def adr:Value->Addr
 | .ref a=>a
 | _=>0
theorem Qa {prog:Program}{w:World}{h:Heap}{v:Value}{x y:Int}(p:ZM h v x y):XX prog w h [x,y] (adr v)/\v = .ref (adr v):=by
 obtain ⟨a,o,t,u,n,rfl,ho,hc,hd⟩:=p
 exact ⟨⟨o,_,n,ho,hc,hd,.cons (by simp[intKind,Value.isInt]) (.cons (by simp[intKind,Value.isInt]) .nil)⟩,rfl⟩
theorem Vr {α β:Type}{R:α->β->Prop}:∀ {M:List α},(∀ q∈M,∃ z,R q z)->∃ Z:List β,Z.length=M.length/\∀ (i:Nat) q z,M[i]?=some q->Z[i]?=some z->R q z
 | [],_=>⟨[],rfl,λi q z h=>by simp at h⟩
 | q::M,h=>by
  obtain ⟨z,hz⟩:=h q mem_cons_self
  obtain ⟨Z,e,hZ⟩:=Vr (M:=M) λq' hq' => h q' (mem_cons_of_mem _ hq')
  refine ⟨z::Z,by rw[length_cons,length_cons,e],λi q' z' h1 h2=>?_⟩
  cases i with
  | zero=>cases h1;cases h2;exact hz
  | succ i=>exact hZ i q' z' h1 h2
theorem J9 {α β γ:Type}{f:α->γ}{g:β->γ}{Z:List α}{M:List β}(hl:Z.length=M.length)(h:∀ (i:Nat) q z,M[i]?=some q->Z[i]?=some z->f z=g q):Z.map f=M.map g:=by
 refine ext_getElem? λi=>?_
 rw[getElem?_map,getElem?_map]
 by_cases hi:i<Z.length
 ·rw[List.getElem?_eq_getElem hi,List.getElem?_eq_getElem (show i<M.length by omega)]
  exact congrArg some (h i _ _ (List.getElem?_eq_getElem (by omega)) (List.getElem?_eq_getElem hi))
 ·rw[List.getElem?_eq_none (by omega),List.getElem?_eq_none (show M.length<=i by omega)];rfl
theorem zgy {α β:Type}{f:α->β}{l:List α}(h:(l.map f).Nodup):l.Nodup:=by
 unfold List.Nodup at h ⊢
 rw[pairwise_map] at h
 exact h.imp λhne e=>hne (by rw[e])
abbrev Vi (q:Int×Int):List Int:=[q.1,q.2]
theorem Ue {a b:Int×Int}(h:Vi a=Vi b):a=b:=by
 obtain ⟨a1,a2⟩:=a
 obtain ⟨b1,b2⟩:=b
 injection h with h1 h2
 injection h2 with h2 _
 rw[show a1=b1 from h1,show a2=b2 from h2]
theorem boot_set:bootBuiltins "set" = some (.type "set"):=by decide +kernel
end L2
namespace Lw
open PySem L2
theorem zg0:bootBuiltins "isinstance" = some (.builtin "isinstance"):=by decide +kernel
theorem zep:bootBuiltins "tuple" = some (.type "tuple"):=by decide +kernel
theorem zh2:bootBuiltins "int" = some (.type "int"):=by decide +kernel
theorem w0 {i:Int}(h:i.natAbs<10 ^ 100):i.natAbs<2 ^ 4000:=Nat.lt_of_lt_of_le h (by decide +kernel)
theorem mw {i j:Int}(h:i.natAbs<10 ^ 100)(h' : j.natAbs<10 ^ 100):zcC i j:=⟨w0 h,w0 h'⟩
theorem WT {H:Hp}{p:Addr}{o:HO}(hp:H p=none):Zm H (upd H p o):=λb u e=>by
 rw[Zk (Zx e hp)];exact e
def VB (K:PySem.W.Frag):Sp:=λvs H Q _=>∃ (a:Addr) (ns:List Int),vs=[.ref a]/\SqL K H a (ns.map V.int)/\ns.length<=63/\∀ H',Q (.bl true) H'
end Lw
namespace L2
open PySem PySem.Spec PyProof.Rows Lw
structure Tg where
 ok:Addr->List Addr->Hp->Hp->Prop
 st:∀ {p:Addr}{fp:List Addr}{G H G' H' : Hp},ok p fp G H->Zm G G' -> (∀ a∈p::fp,H' a=H a)->ok p fp G' H'
 live:∀ {p:Addr}{fp:List Addr}{G H:Hp},ok p fp G H->∀ a∈p::fp,∃ o,H a=some o
inductive PV where
 | un
 | dat (d:PyData)
 | own (ds:List PyData)
 | lnt (p:Addr) (ds:List PyData)
 | scr (ns:List Int)
 | val (x:V)
 | thg (T:Tg)
noncomputable def PV.rd:PV->Option (List PyData)
 | .own ds=>some ds
 | .lnt _ ds=>some ds
 | _=>none
noncomputable def PV.mut:PV->Bool
 | .un=>false
 | .dat _=>false
 | .scr _=>false
 | .val _=>false
 | _=>true
theorem PV.zf1 {v:PV}{ds:List PyData}(h:v.rd=some ds):v.mut=true:=by cases v <;> first | rfl | cases h
def Sl (K:PySem.W.Frag)(G H:Hp)(o:Option (Option V)):PV->List Addr->Prop
 | .un,F=>F=[]
 | .dat d,F=>F=[]/\∃ x,o=some (some x)/\Dat K G x d
 | .own ds,F=>∃ p xs,F=[p]/\o=some (some (.ref p))/\H p=some (.lst xs)/\Zz K G xs ds
 | .lnt p ds,F=>∃ xs,F=[p]/\o=some (some (.ref p))/\H p=some (.lst xs)/\Zz K G xs ds
 | .scr ns,F=>F=[]/\∃ a,o=some (some (.ref a))/\SqL K G a (ns.map V.int)
 | .val x,F=>F=[]/\o=some (some x)
 | .thg T,F=>∃ p fp,F=p::fp/\o=some (some (.ref p))/\T.ok p fp G H
theorem Sl.rd {K:PySem.W.Frag}{G H:Hp}{o:Option (Option V)}{v:PV}{F:List Addr}{ds:List PyData}(s:Sl K G H o v F)(h:v.rd=some ds):∃ p xs,F=[p]/\o=some (some (.ref p))/\H p=some (.lst xs)/\Zz K G xs ds:=by
 cases v with
 | own es=>cases h;exact s
 | lnt p es=>cases h;exact ⟨p,s⟩
 | _=>cases h
structure Gw (E:Addr->Prop)(G0 H0 G H:Hp):Prop where
 gg:Zm G0 G
 gh:Zm G H
 kp:∀ b o,¬ E b->H0 b=some o->H b=some o
 al:∀ b,H b=none->H0 b=none
 fr:∀ b o,G b=some o->G0 b=some o\/H0 b=none
structure Rl (K:PySem.W.Frag)(B:Hp)(E:Addr->Prop)(G0 H0 G H:Hp)(σ:St)(ρ:List PV)(F:Nat->List Addr):Prop where
 g:Gw E G0 H0 G H
 bb:Zm B G
 ls:σ.length=ρ.length
 sl:∀ i v,ρ[i]?=some v->Sl K G H σ[i]? v (F i)
 fr:∀ i a,a∈F i->G a=none/\(∃ o,H a=some o)/\(E a\/H0 a=none)
 dj:∀ i j a,a∈F i->a∈F j->i=j
 ow:∀ i ds a,ρ[i]?=some (.own ds)->a∈F i->H0 a=none
structure Nw (G H H0:Hp)(F:Nat->List Addr)(Fv:List Addr):Prop where
 fr:∀ a∈Fv,G a=none/\(∃ o,H a=some o)/\H0 a=none
 dj:∀ a∈Fv,∀ j,a∉F j
section
variable {K:PySem.W.Frag}{B:Hp}{E:Addr->Prop}{G0 H0 G H G' H' : Hp}{σ:St}{ρ:List PV}{F:Nat->List Addr}
theorem Gw.refl (s:Zm G H):Gw E G H G H:=⟨Zm.refl _,s,λ_ _ _ h=>h,λ_ h=>h,λ_ _ h=>.inl h⟩
theorem Gw.grow (g:Gw E G0 H0 G H)(k:Yr G H G' H'):Gw E G0 H0 G' H' :=
 ⟨g.gg.trans k.gg,k.gh,λb o n h=>k.hh b o (g.kp b o n h),λb h=>g.al b (k.hh.free h),λb o h=>(k.fr b o h).elim (g.fr b o) λz=>.inr (g.al b z)⟩
theorem Gw.JL (g:Gw (λ_=>False) G0 H0 G H):Yr G0 H0 G H:=⟨g.gg,g.gh,λb o h=>g.kp b o (λz=>z) h,g.fr⟩
theorem Sl.grow {o:Option (Option V)}{v:PV}{L:List Addr}(s:Sl K G H o v L)(gg:Zm G G')(hh:∀ a∈L,H' a=H a):Sl K G' H' o v L:=by
 cases v with
 | un=>exact s
 | dat d=>obtain ⟨e,x,hx,hd⟩:=s;exact ⟨e,x,hx,hd.same gg⟩
 | own ds=>
  obtain ⟨p,xs,e,hx,hp,hd⟩:=s
  exact ⟨p,xs,e,hx,by rw[hh p (by rw[e];simp)];exact hp,hd.same gg⟩
 | lnt p ds=>
  obtain ⟨xs,e,hx,hp,hd⟩:=s
  exact ⟨xs,e,hx,by rw[hh p (by rw[e];simp)];exact hp,hd.same gg⟩
 | scr ns=>obtain ⟨e,a,hx,hq⟩:=s;exact ⟨e,a,hx,gg.seq hq⟩
 | val x=>exact s
 | thg T=>
  obtain ⟨p,fp,e,hx,ht⟩:=s
  exact ⟨p,fp,e,hx,T.st ht gg (by rw[← e];exact hh)⟩
theorem Rl.grow (r:Rl K B E G0 H0 G H σ ρ F)(k:Yr G H G' H'):Rl K B E G0 H0 G' H' σ ρ F:=by
 have hh:∀ i,∀ a∈F i,H' a=H a:=λi a ha=>by
  obtain ⟨_,⟨o,ho⟩,_⟩:=r.fr i a ha
  rw[ho];exact k.hh a o ho
 refine ⟨r.g.grow k,r.bb.trans k.gg,r.ls,λi v h=>(r.sl i v h).grow k.gg (hh i),λi a ha=>?_,r.dj,r.ow⟩
 obtain ⟨h1,⟨o,h2⟩,h3⟩:=r.fr i a ha
 exact ⟨k.out h2 h1,⟨o,k.hh a o h2⟩,h3⟩
theorem Rl.set {i:Nat}{v:V}{r:PV}{L:List Addr}(R:Rl K B E G0 H0 G H σ ρ F)(s:Sl K G H (some (some v)) r L)(n:Nw G H H0 F L):Rl K B E G0 H0 G H (σ.set i (some v)) (ρ.set i r) (λk=>if k=i then L else F k):=by
 refine ⟨R.g,R.bb,by rw[length_set,length_set,R.ls],λk u h=>?_,λk a ha=>?_,λk j a ha hb=>?_,λk ds a h ha=>?_⟩
 ·by_cases e:k=i
  ·subst e
   rw[if_pos rfl]
   have hk:k<ρ.length:=by
    have:=(List.getElem?_eq_some_iff.mp h).1
    rw[length_set] at this;exact this
   rw[getElem?_set_self hk] at h
   cases h
   rw[getElem?_set_self (by rw[R.ls];exact hk)]
   exact s
  ·rw[if_neg e]
   rw[getElem?_set_ne (Ne.symm e)] at h ⊢
   exact R.sl k u h
 ·by_cases e:k=i
  ·rw[if_pos e] at ha
   obtain ⟨h1,h2,h3⟩:=n.fr a ha
   exact ⟨h1,h2,.inr h3⟩
  ·rw[if_neg e] at ha;exact R.fr k a ha
 ·by_cases e:k=i
  ·by_cases e' : j=i
   ·rw[e,e']
   ·rw[if_pos e] at ha;rw[if_neg e'] at hb
    exact absurd hb (n.dj a ha j)
  ·by_cases e' : j=i
   ·rw[if_neg e] at ha;rw[if_pos e'] at hb
    exact absurd ha (n.dj a hb k)
   ·rw[if_neg e] at ha;rw[if_neg e'] at hb;exact R.dj k j a ha hb
 ·by_cases e:k=i
  ·rw[if_pos e] at ha;exact (n.fr a ha).2.2
  ·rw[if_neg e] at ha
   rw[getElem?_set_ne (Ne.symm e)] at h
   exact R.ow k ds a h ha
theorem WK:Nw G H H0 F []:=⟨λ_ h=>(by cases h),λ_ h=>(by cases h)⟩
theorem Rl.zhp {i:Nat}{v:V}{d:PyData}(R:Rl K B E G0 H0 G H σ ρ F)(s:Dat K G v d):Rl K B E G0 H0 G H (σ.set i (some v)) (ρ.set i (.dat d)) (λk=>if k=i then [] else F k):=
 R.set ⟨rfl,v,rfl,s⟩ WK
def Rx (K:PySem.W.Frag)(B:Hp)(G:Hp)(σ:St)(ρ:List PV):Prop:=Zm B G/\(∀ (i:Nat) (d:PyData),ρ[i]?=some (PV.dat d)->∃ x,σ[i]?=some (some x)/\Dat K G x d)/\(∀ (i:Nat) (v:PV) (ds:List PyData),ρ[i]?=some v->v.rd=some ds->∃ x,σ[i]?=some (some x)/\Dat K G x (.list ds))/\(∀ (i:Nat) (T:Tg),ρ[i]?=some (PV.thg T)->∃ p fp,σ[i]?=some (some (.ref p))/\T.ok p fp G G)/\(∀ (i:Nat) (ns:List Int),ρ[i]?=some (PV.scr ns)->∃ a,σ[i]?=some (some (.ref a))/\SqL K G a (ns.map V.int))/\∀ (i:Nat) (x:V),ρ[i]?=some (PV.val x)->σ[i]?=some (some x)
def Er (K:PySem.W.Frag)(B:Hp)(t:TE)(ρ:List PV)(d:PyData):Prop:=∀ G σ,Rx K B G σ ρ->Ev K t σ G d
def Et (K:PySem.W.Frag)(B:Hp)(t:TT)(ρ:List PV)(b:Bool):Prop:=∀ G σ,Rx K B G σ ρ->EvT t σ G b
def Ea (K:PySem.W.Frag)(B:Hp)(t:TA)(ρ:List PV)(ds:List PyData):Prop:=∀ G σ,Rx K B G σ ρ->EvA K t σ G ds
noncomputable def PV.msk:PV->PV
 | .dat d=>.dat d
 | .scr ns=>.scr ns
 | .val x=>.val x
 | _=>.un
abbrev msk (ρ:List PV):List PV:=ρ.map PV.msk
theorem Rl.rx (R:Rl K B E G0 H0 G H σ ρ F):Rx K B G σ (msk ρ):=by
 refine ⟨R.bb,?_,?_,?_,?_,?_⟩
 ·intro i d h
  rw[getElem?_map] at h
  cases e:ρ[i]? with
  | none=>rw[e] at h;cases h
  | some v=>
   rw[e] at h
   cases v with
   | dat d' =>
    cases h
    exact (R.sl i _ e).2
   | _=>cases h
 ·intro i u ds h hu
  rw[getElem?_map] at h
  cases e:ρ[i]? with
  | none=>rw[e] at h;cases h
  | some v=>
   rw[e] at h
   cases v <;> cases h <;> cases hu
 ·intro i T h
  rw[getElem?_map] at h
  cases e:ρ[i]? with
  | none=>rw[e] at h;cases h
  | some v=>rw[e] at h;cases v <;> cases h
 ·intro i ns h
  rw[getElem?_map] at h
  cases e:ρ[i]? with
  | none=>rw[e] at h;cases h
  | some v=>
   rw[e] at h
   cases v with
   | scr ms=>cases h;exact (R.sl i _ e).2
   | _=>cases h
 ·intro i x h
  rw[getElem?_map] at h
  cases e:ρ[i]? with
  | none=>rw[e] at h;cases h
  | some v=>
   rw[e] at h
   cases v with
   | val y=>cases h;exact (R.sl i _ e).2
   | _=>cases h
open Classical in
noncomputable def gPl (ρ:List PV) (F:Nat->List Addr) (G H:Hp):Hp:=λb=>if ∃ i v,ρ[i]?=some v/\v.mut=true/\b∈F i then H b else G b
theorem Rl.gpl (R:Rl K B E G0 H0 G H σ ρ F):Zm G (gPl ρ F G H)/\Zm (gPl ρ F G H) H/\Rx K B (gPl ρ F G H) σ ρ:=by
 have s1:Zm G (gPl ρ F G H):=λb o h=>by
  unfold gPl
  split
  ·exact R.g.gh b o h
  ·exact h
 refine ⟨s1,λb o h=>?_,R.bb.trans s1,λi d h=>?_,λi v ds h hv=>?_,λi T h=>?_,λi ns h=>?_,λi x h=>(R.sl i _ h).2⟩
 ·unfold gPl at h
  split at h
  ·exact h
  ·exact R.g.gh b o h
 ·obtain ⟨_,x,hx,hd⟩:=R.sl i _ h
  exact ⟨x,hx,hd.same s1⟩
 ·obtain ⟨p,xs,e,hx,hp,hd⟩:=(R.sl i _ h).rd hv
  refine ⟨_,hx,Ys (xs:=xs) ?_ (hd.same s1)⟩
  unfold gPl
  rw[if_pos ⟨i,v,h,PV.zf1 hv,by rw[e];simp⟩]
  exact hp
 ·obtain ⟨p,fp,e,hx,ht⟩:=R.sl i _ h
  refine ⟨p,fp,hx,T.st ht s1 λa ha=>?_⟩
  unfold gPl
  rw[if_pos ⟨i,_,h,rfl,by rw[e];exact ha⟩]
 ·obtain ⟨_,a,hx,hq⟩:=R.sl i _ h
  exact ⟨a,hx,s1.seq hq⟩
noncomputable def flat:PyData->Bool
 | .none | .bool _ | .int _ | .str _=>true
 | _=>false
theorem Dat.flat {v:V}{d:PyData}(h:Dat K G v d)(f:flat d=true)(G' : Hp):Dat K G' v d:=by
 cases d with
 | none=>rw[h.non];exact XH
 | bool b=>rw[h.bl];exact YH b
 | int i=>rw[h.int];exact Zj i
 | str x=>rw[h.str];exact J6 x
 | list _=>cases f
 | tuple _=>cases f
 | dict _=>cases f
def Ex (K:PySem.W.Frag)(B:Hp)(t:TE)(ρ:List PV)(d:PyData):Prop:=∀ E G0 H0 G H σ F,Rl K B E G0 H0 G H σ ρ F->∀ Q:VK,(∀ v G' H',Yr G H G' H' -> Dat K G' v d->Q v H')->t σ H Q
theorem zhf {t:TE}{d:PyData}(h:Er K B t (msk ρ) d):Ex K B t ρ d:=λ_ _ _ G H σ F R Q k=>h G σ R.rx G H (Zm.refl _) R.g.gh Q k
theorem zdV {t:TE}{d:PyData}(h:Er K B t ρ d)(f:flat d=true):Ex K B t ρ d:=λ_ _ _ G H σ F R Q k=>by
 obtain ⟨s1,s2,x⟩:=R.gpl
 exact h _ σ x _ H (Zm.refl _) s2 Q λv G' H' g hv=>k v G H' (X6 R.g.gh g.hh) (hv.flat f G)
theorem zdA {i:Nat}{ti:TE}{u:PV}{ds:List PyData}{j:Int}{n:Nat}{d:PyData}(hi:ρ[i]?=some u)(hu:u.rd=some ds)(h:Er K B ti ρ (.int j))(hn:ixN ds.length j=some n)(hd:ds[n]?=some d):Ex K B (tOp (zfb K) (JP i) ti) ρ d:=λ_ _ _ G H σ F R Q k=>by
 obtain ⟨s1,s2,x⟩:=R.gpl
 obtain ⟨p,xs,e,hx,hp,hds⟩:=(R.sl i _ hi).rd hu
 refine ⟨_,hx,h _ σ x _ H (Zm.refl _) s2 _ λv G' H' g hv=>?_⟩
 obtain ⟨y,hy,hyd⟩:=hds.get hd
 refine ⟨p,xs,j,y,rfl,hv.int,SqL.of (g.hh _ _ hp),?_,k y G H' (X6 R.g.gh g.hh) hyd⟩
 unfold atI
 rw[hds.length,hn]
 exact hy
def Eg (K:PySem.W.Frag)(B:Hp)(t:TE)(ρ:List PV)(R:PV->List PV->Prop):Prop:=∀ E G0 H0 G H σ F,Rl K B E G0 H0 G H σ ρ F->∀ Q:VK,
 (∀ v r ρ' G' H' F' L,R r ρ' -> Zm G G' -> Rl K B E G0 H0 G' H' σ ρ' F' -> Sl K G' H' (some (some v)) r L->Nw G' H' H0 F' L->Q v H')->t σ H Q
theorem zcL {t:TE}{d:PyData}{R:PV->List PV->Prop}(h:Ex K B t ρ d)(k:R (.dat d) ρ):Eg K B t ρ R:=λE G0 H0 G H σ F r Q q=>h E G0 H0 G H σ F r Q λv G' H' g hv=>q v _ ρ G' H' F [] k g.gg (r.grow g) ⟨rfl,v,rfl,hv⟩ WK
theorem Z8 {t:TE}{d:PyData}{R:PV->List PV->Prop}(h:Er K B t (msk ρ) d)(k:R (.dat d) ρ):Eg K B t ρ R:=zcL (zhf h) k
theorem Ji {t:TE}{d:PyData}{R:PV->List PV->Prop}(h:Er K B t ρ d)(f:flat d=true)(k:R (.dat d) ρ):Eg K B t ρ R:=zcL (zdV h f) k
theorem Rl.zgL {p:Addr}{xs:List V}{ds:List PyData}(R:Rl K B E G0 H0 G H σ ρ F)(hp:H p=none)(hd:Zz K G xs ds):Rl K B E G0 H0 G (upd H p (.lst xs)) σ ρ F/\Sl K G (upd H p (.lst xs)) (some (some (.ref p))) (.own ds) [p]/\Nw G (upd H p (.lst xs)) H0 F [p]:=by
 have gp:G p=none:=R.g.gh.free hp
 refine ⟨R.grow (X6 R.g.gh (WT hp)),⟨p,xs,rfl,rfl,Zn,hd⟩,λa ha=>?_,λa ha j hj=>?_⟩
 ·rw[mem_singleton.mp ha]
  exact ⟨gp,⟨_,Zn⟩,R.g.al p hp⟩
 ·rw[mem_singleton.mp ha] at hj
  obtain ⟨_,⟨o,h⟩,_⟩:=R.fr j p hj
  rw[hp] at h;cases h
theorem VP {t:TA}{ds:List PyData}{R:PV->List PV->Prop}(h:Ea K B t (msk ρ) ds)(hl:ds.length<=sizeLine)(k:R (.own ds) ρ):Eg K B (zg4 t) ρ R:=λE G0 H0 G H σ F r Q q=>
 h G σ r.rx G H (Zm.refl _) r.g.gh _ λvs G' H' g hv=>⟨by rw[hv.length];exact hl,λp hp=>by
  obtain ⟨a,b,c⟩:=(r.grow g).zgL hp hv
  exact q _ _ ρ G' _ F [p] k g.gg a b c⟩
structure Pn where
 nx:List PV->Prop
 rt:PV->List PV->Prop
 bk:List PV->Prop:=λ_=>False
 ct:List PV->Prop:=λ_=>False
structure Dn (K:PySem.W.Frag)(B:Hp)(E:Addr->Prop)(G0 H0 Gs:Hp)(R:Pn)(D:Ends):Prop where
 nx:∀ {G H σ ρ F},R.nx ρ->Zm Gs G->Rl K B E G0 H0 G H σ ρ F->D.nx σ H
 rt:∀ {v r G H σ ρ F L},R.rt r ρ->Zm Gs G->Rl K B E G0 H0 G H σ ρ F->Sl K G H (some (some v)) r L->Nw G H H0 F L->D.rt v H
 bk:∀ {G H σ ρ F},R.bk ρ->Zm Gs G->Rl K B E G0 H0 G H σ ρ F->D.bk σ H
 ct:∀ {G H σ ρ F},R.ct ρ->Zm Gs G->Rl K B E G0 H0 G H σ ρ F->D.ct σ H
theorem Dn.mono {Gs Gt:Hp}{R:Pn}{D:Ends}(d:Dn K B E G0 H0 Gs R D)(s:Zm Gs Gt):Dn K B E G0 H0 Gt R D:=⟨λx y=>d.nx x (s.trans y),λx y=>d.rt x (s.trans y),λx y=>d.bk x (s.trans y),λx y=>d.ct x (s.trans y)⟩
def Sv (K:PySem.W.Frag)(B:Hp)(t:TS)(ρ:List PV)(R:Pn):Prop:=∀ E G0 H0 G H σ F D,Rl K B E G0 H0 G H σ ρ F->Dn K B E G0 H0 G R D->t D σ H
theorem Zt {t u:TS}{R:Pn}(h:Sv K B t ρ { R with nx:=fun ρ' => Sv K B u ρ' R }):Sv K B (zfT t u) ρ R:=λE G0 H0 G H σ F D r d=>
 h E G0 H0 G H σ F { D with nx:=u D } r ⟨λhs s r' => hs E G0 H0 _ _ _ _ D r' (d.mono s),d.rt,d.bk,d.ct⟩
theorem YT {R:Pn}(h:R.nx ρ):Sv K B zgC ρ R:=λE G0 H0 G H σ F D r d=>d.nx h (Zm.refl _) r
theorem zf5 {t:TS}{R R' : Pn}(h:Sv K B t ρ R)(n:∀ ρ,R.nx ρ->R'.nx ρ)(q:∀ r ρ,R.rt r ρ->R'.rt r ρ)(b:∀ ρ,R.bk ρ->R'.bk ρ)(c:∀ ρ,R.ct ρ->R'.ct ρ):Sv K B t ρ R' := λE G0 H0 G H σ F D r d=>
 h E G0 H0 G H σ F D r ⟨λx=>d.nx (n _ x),λx=>d.rt (q _ _ x),λx=>d.bk (b _ x),λx=>d.ct (c _ x)⟩
theorem ZC {te:TE}{i:Nat}{R:Pn}(h:Eg K B te ρ λr ρ' => R.nx (ρ'.set i r)):Sv K B (zgX te (WQ i)) ρ R:=λE G0 H0 G H σ F D r d=>
 h E G0 H0 G H σ F r _ λv w ρ' G' H' F' L hR s r' sl n=>d.nx hR s (r'.set sl n)
theorem zaY {c:TT}{t u:TS}{b:Bool}{R:Pn}(h:Et K B c ρ b)(k1:b=true->Sv K B t ρ R)(k2:b=false->Sv K B u ρ R):Sv K B (ze4 c t u) ρ R:=λE G0 H0 G H σ F D r d=>by
 obtain ⟨s1,s2,x⟩:=r.gpl
 refine h _ σ x _ H (Zm.refl _) s2 _ λG' H' g=>?_
 have r' := r.grow (X6 r.g.gh g.hh)
 cases b with
 | true=>rw[if_pos rfl];exact k1 rfl E G0 H0 _ _ σ F D r' d
 | false=>rw[if_neg Bool.false_ne_true];exact k2 rfl E G0 H0 _ _ σ F D r' d
theorem zgr {c:TT}{t u:TS}{R:Pn}(h:Et K B c ρ true)(k1:Sv K B t ρ R):Sv K B (ze4 c t u) ρ R:=zaY h (λ_=>k1) λz=>(by cases z)
theorem Q3 {c:TT}{t u:TS}{R:Pn}(h:Et K B c ρ false)(k1:Sv K B u ρ R):Sv K B (ze4 c t u) ρ R:=zaY h (λz=>by cases z) λ_=>k1
theorem Xg {te:TE}{R:Pn}(h:Eg K B te ρ R.rt):Sv K B (zgY te) ρ R:=λE G0 H0 G H σ F D r d=>
 h E G0 H0 G H σ F r _ λv w ρ' G' H' F' L hR s r' sl n=>d.rt hR s r' sl n
noncomputable def PV.frz:PV->PV
 | .own ds=>.dat (.list ds)
 | v=>v
noncomputable def PV.mlt:PV->PV
 | .dat d=>.dat d
 | .scr ns=>.scr ns
 | .val x=>.val x
 | .own ds=>.own ds
 | _=>.un
open Classical in
noncomputable def gFz (ρ:List PV) (F:Nat->List Addr) (G H:Hp):Hp:=λb=>if ∃ i ds,ρ[i]?=some (.own ds)/\b∈F i then H b else G b
theorem Rl.frz (R:Rl K B E G0 H0 G H σ ρ F):∃ F',Zm G (gFz ρ F G H)/\Rx K B (gFz ρ F G H) σ (ρ.map PV.mlt)/\Rl K B E G0 H0 (gFz ρ F G H) H σ (ρ.map PV.frz) F' := by
 classical
 have s1:Zm G (gFz ρ F G H):=λb o h=>by
  unfold gFz
  split
  ·exact R.g.gh b o h
  ·exact h
 have s2:Zm (gFz ρ F G H) H:=λb o h=>by
  unfold gFz at h
  split at h
  ·exact h
  ·exact R.g.gh b o h
 have ow:∀ i ds,ρ[i]?=some (PV.own ds)->∃ x,σ[i]?=some (some x)/\Dat K (gFz ρ F G H) x (.list ds):=λi ds h=>by
  obtain ⟨p,xs,e,hx,hp,hd⟩:=R.sl i _ h
  refine ⟨_,hx,Ys (xs:=xs) ?_ (hd.same s1)⟩
  unfold gFz
  rw[if_pos ⟨i,ds,h,by rw[e];simp⟩]
  exact hp
 refine ⟨λk=>if ∃ ds,ρ[k]?=some (.own ds) then [] else F k,s1,⟨R.bb.trans s1,λi d h=>?_,λi u d h hu=>?_,λi T h=>?_,λi ns h=>?_,λi x h=>?_⟩,⟨R.g.gg.trans s1,s2,R.g.kp,R.g.al,λb o h=>?_⟩,R.bb.trans s1,by rw[length_map,R.ls],λi v h=>?_,λi a ha=>?_,λi j a ha hb=>?_,λi ds a h ha=>?_⟩
 ·rw[getElem?_map] at h
  cases e:ρ[i]? with
  | none=>rw[e] at h;cases h
  | some v=>
   rw[e] at h
   cases v with
   | dat d' =>
    cases h
    obtain ⟨_,x,hx,hd⟩:=R.sl i _ e
    exact ⟨x,hx,hd.same s1⟩
   | _=>cases h
 ·rw[getElem?_map] at h
  cases e:ρ[i]? with
  | none=>rw[e] at h;cases h
  | some v=>
   rw[e] at h
   cases v with
   | own d' =>
    cases h;cases hu
    exact ow i _ e
   | _=>cases h <;> cases hu
 ·rw[getElem?_map] at h
  cases e:ρ[i]? with
  | none=>rw[e] at h;cases h
  | some v=>rw[e] at h;cases v <;> cases h
 ·rw[getElem?_map] at h
  cases e:ρ[i]? with
  | none=>rw[e] at h;cases h
  | some v=>
   rw[e] at h
   cases v with
   | scr ms=>
    cases h
    obtain ⟨_,a,hx,hq⟩:=R.sl i _ e
    exact ⟨a,hx,s1.seq hq⟩
   | _=>cases h
 ·rw[getElem?_map] at h
  cases e:ρ[i]? with
  | none=>rw[e] at h;cases h
  | some v=>
   rw[e] at h
   cases v with
   | val y=>cases h;exact (R.sl i _ e).2
   | _=>cases h
 ·unfold gFz at h
  split at h
  ·rename_i z
   obtain ⟨i,ds,hi,hb⟩:=z
   exact .inr (R.ow i ds b hi hb)
  ·exact R.g.fr b o h
 ·rw[getElem?_map] at h
  cases e:ρ[i]? with
  | none=>rw[e] at h;cases h
  | some u=>
   rw[e] at h
   have keep:Sl K G H σ[i]? u (F i):=R.sl i _ e
   cases u with
   | own ds=>
    cases h
    rw[if_pos ⟨ds,rfl⟩]
    exact ⟨rfl,ow i ds e⟩
   | _=>
    cases h
    rw[if_neg (by rintro ⟨ds,z⟩;cases z)]
    exact keep.grow s1 (λ_ _=>rfl)
 ·split at ha
  ·cases ha
  ·rename_i hz
   obtain ⟨h1,h2,h3⟩:=R.fr i a ha
   refine ⟨?_,h2,h3⟩
   unfold gFz
   rw[if_neg ?_]
   ·exact h1
   ·rintro ⟨j,ds,hj,haj⟩
    have:=R.dj i j a ha haj
    subst this
    exact hz ⟨ds,hj⟩
 ·split at ha
  ·cases ha
  ·split at hb
   ·cases hb
   ·exact R.dj i j a ha hb
 ·rw[getElem?_map] at h
  cases e:ρ[i]? with
  | none=>rw[e] at h;cases h
  | some u=>rw[e] at h;cases u <;> cases h
theorem zfm {t:TS}{R:Pn}(h:Sv K B t (ρ.map PV.frz) R):Sv K B t ρ R:=λE G0 H0 G H σ F D r dn=>by
 obtain ⟨F',s1,_,r'⟩:=r.frz
 exact h E G0 H0 _ H σ F' D r' (dn.mono s1)
theorem zdJ {te:TE}{d:PyData}{R:Pn}(h:Er K B te (ρ.map PV.mlt) d)(k:R.rt (.dat d) (ρ.map PV.frz)):Sv K B (zgY te) ρ R:=λE G0 H0 G H σ F D r dn=>by
 obtain ⟨F',s1,x,r'⟩:=r.frz
 exact h _ σ x _ H (Zm.refl _) r'.g.gh _ λv G' H' g hv=>dn.rt k (s1.trans g.gg) (r'.grow g) ⟨rfl,v,rfl,hv⟩ WK
theorem zeU {i:Nat}{ds:List PyData}{R:Pn}(hi:ρ[i]?=some (.own ds))(k:R.rt (.own ds) (ρ.set i .un)):Sv K B (zgY (JP i)) ρ R:=λE G0 H0 G H σ F D r dn=>by
 obtain ⟨p,xs,e,hx,hp,hd⟩:=r.sl i _ hi
 have hpi:p∈F i:=by rw[e];simp
 have hlt:i<ρ.length:=(List.getElem?_eq_some_iff.mp hi).1
 refine ⟨_,hx,dn.rt (G:=G) (σ:=σ) (F:=λk=>if k=i then [] else F k) (L:=[p]) k (Zm.refl _) ?_ ⟨p,xs,rfl,rfl,hp,hd⟩ ⟨λa ha=>?_,λa ha j hj=>?_⟩⟩
 ·refine ⟨r.g,r.bb,by rw[length_set];exact r.ls,λj v h=>?_,λj a ha=>?_,λj k a ha hb=>?_,λj ds' a h ha=>?_⟩
  ·by_cases z:j=i
   ·subst z
    rw[getElem?_set_self hlt] at h
    cases h
    rw[if_pos rfl];rfl
   ·rw[getElem?_set_ne (Ne.symm z)] at h
    rw[if_neg z];exact r.sl j v h
  ·by_cases z:j=i
   ·rw[if_pos z] at ha;cases ha
   ·rw[if_neg z] at ha;exact r.fr j a ha
  ·by_cases z:j=i
   ·rw[if_pos z] at ha;cases ha
   ·by_cases z' : k=i
    ·rw[if_pos z'] at hb;cases hb
    ·rw[if_neg z] at ha;rw[if_neg z'] at hb;exact r.dj j k a ha hb
  ·by_cases z:j=i
   ·rw[if_pos z] at ha;cases ha
   ·rw[if_neg z] at ha
    rw[getElem?_set_ne (Ne.symm z)] at h
    exact r.ow j ds' a h ha
 ·rw[mem_singleton.mp ha]
  obtain ⟨h1,h2,_⟩:=r.fr i p hpi
  exact ⟨h1,h2,r.ow i ds p hi hpi⟩
 ·rw[mem_singleton.mp ha] at hj
  by_cases z:j=i
  ·rw[if_pos z] at hj;cases hj
  ·rw[if_neg z] at hj
   exact z (r.dj j i p hj hpi)
end
section
variable {K:PySem.W.Frag}{B:Hp}{E:Addr->Prop}{G0 H0 G H G' H' : Hp}{σ:St}{ρ:List PV}{F:Nat->List Addr}{ta tb te:TE}{a b d:PyData}{ds es:List PyData}
theorem Rx.mono (r:Rx K B G σ ρ)(s:Zm G G'):Rx K B G' σ ρ:=
 ⟨r.1.trans s,λi d h=>let ⟨x,hx,hd⟩:=r.2.1 i d h;⟨x,hx,hd.same s⟩,λi v d h hv=>let ⟨x,hx,hd⟩:=r.2.2.1 i v d h hv;⟨x,hx,hd.same s⟩,λi T h=>let ⟨p,fp,hx,ht⟩:=r.2.2.2.1 i T h;⟨p,fp,hx,T.st ht s λa ha=>by
  obtain ⟨o,ho⟩:=T.live ht a ha
  rw[ho,s a o ho]⟩,λi ns h=>let ⟨a,hx,hq⟩:=r.2.2.2.2.1 i ns h;⟨a,hx,s.seq hq⟩,r.2.2.2.2.2⟩
theorem Zb {i:Nat}(h:ρ[i]?=some (.dat d)):Er K B (JP i) ρ d:=λG σ r=>let ⟨x,hx,hd⟩:=r.2.1 i d h;zds hx hd
theorem Ux {i:Nat}{u:PV}(h:ρ[i]?=some u)(hu:u.rd=some ds):Er K B (JP i) ρ (.list ds):=λG σ r=>let ⟨x,hx,hd⟩:=r.2.2.1 i u ds h hu;zds hx hd
theorem Zu {i:Int}:Er K B (tC (.int i)) ρ (.int i):=λ_ _ _=>zge
theorem Vf {x:Str}:Er K B (tC (.str x)) ρ (.str x):=λ_ _ _=>zfe
theorem zga {x:Bool}:Er K B (tC (.bl x)) ρ (.bool x):=λ_ _ _=>zhg
theorem zfj:Er K B (tC .non) ρ .none:=λ_ _ _=>zfa
theorem Wj {g:Int->Int->V}{i j:Int}(ha:Er K B ta ρ (.int i))(hb:Er K B tb ρ (.int j))(hg:∀ G,Dat K G (g i j) d):Er K B (tOp (rI0 g) ta tb) ρ d:=λG σ r=>zhw (ha G σ r) (hb G σ r) (hg G)
theorem YW {C:Int->Int->Prop}{g:Int->Int->V}{i j:Int}(ha:Er K B ta ρ (.int i))(hb:Er K B tb ρ (.int j))(hc:C i j)(hg:∀ G,Dat K G (g i j) d):Er K B (tOp (rI C g) ta tb) ρ d:=λG σ r=>zej (ha G σ r) (hb G σ r) hc (hg G)
theorem zb1 {i:Int}{n:Nat}(ha:Er K B ta ρ (.tuple ds))(hb:Er K B tb ρ (.int i))(hn:ixN ds.length i=some n)(hd:ds[n]?=some d):Er K B (tOp (zg3 K) ta tb) ρ d:=λG σ r=>zfU (ha G σ r) (hb G σ r) hn hd
theorem JM {i:Int}{n:Nat}(ha:Er K B ta ρ (.list ds))(hb:Er K B tb ρ (.int i))(hn:ixN ds.length i=some n)(hd:ds[n]?=some d):Er K B (tOp (zfb K) ta tb) ρ d:=λG σ r=>zdb (ha G σ r) (hb G σ r) hn hd
theorem W9 {g:Bool->Bool}{n:Nat}(ha:Er K B ta ρ a)(hb:Er K B tb ρ b)(pa:Pl n a)(pb:Pl n b)(hn:n<=64):Er K B (tOp (ze5 K g) ta tb) ρ (.bool (g (PySem.Spec.same a b))):=λG σ r=>zfP (ha G σ r) (hb G σ r) pa pb hn
theorem Ug {i j:Int}(ha:Er K B ta ρ (.int i))(hb:Er K B tb ρ (.int j)):Er K B (tOp rEq ta tb) ρ (.bool (decide (i=j))):=λG σ r=>zdk (ha G σ r) (hb G σ r)
theorem Zi:Ea K B Ud ρ []:=λ_ _ _=>zeD
theorem Zc {t:TA}(ha:Er K B ta ρ a)(hb:Ea K B t ρ ds):Ea K B (YD ta t) ρ (a::ds):=λG σ r=>zcI (ha G σ r) (hb G σ r)
theorem JD {t:TA}(h:Ea K B t ρ ds)(hl:ds.length<=sizeLine):Er K B (zgQ t) ρ (.tuple ds):=λG σ r=>zff (h G σ r) hl
theorem WF {t:TA}(h:Ea K B t ρ ds)(hl:ds.length<=sizeLine):Er K B (zg4 t) ρ (.list ds):=λG σ r=>ze6 (h G σ r) hl
theorem Jq {t:TA}(h:Ea K B t ρ [.list ds]):Er K B (tCB (λxs H Q=>∃ p ys,xs=[.ref p]/\(SqL K H p ys\/SqT K H p ys)/\Q (.int ys.length) H) t) ρ (.int ds.length):=λG σ r=>zes (h G σ r)
theorem zdK {t:TA}(h:Ea K B t ρ [.tuple ds]):Er K B (tCB (λxs H Q=>∃ p ys,xs=[.ref p]/\(SqL K H p ys\/SqT K H p ys)/\Q (.int ys.length) H) t) ρ (.int ds.length):=λG σ r=>zd8 (h G σ r)
theorem Y0 {t:TA}(h:Ea K B t ρ [.list ds]):Er K B (tCB (λxs H Q=>∃ p ys,xs=[.ref p]/\((SqL K H p ys/\∀ l,H l=none->Q (.ref l) (upd H l (.tup ys)))\/(SqT K H p ys/\Q (.ref p) H))) t) ρ (.tuple ds):=λG σ r=>zbk (h G σ r)
theorem Yt {t:TE}{c:Bool}(h:Er K B t ρ (.bool c)):Et K B (zcw t) ρ c:=λG σ r=>zcv (h G σ r)
theorem zg5 {t:TE}{c:Bool}(h:Er K B t ρ (.bool c)):Et K B (tB t) ρ c:=λG σ r=>zhL (h G σ r)
theorem zdj {t:TT}{c:Bool}(h:Et K B t ρ c):Et K B (zhe t) ρ (!c):=λG σ r=>zd5 (h G σ r)
theorem zf2 {t u:TT}{c e:Bool}(h:Et K B t ρ c)(h' : c=false->Et K B u ρ e):Et K B (tOr t u) ρ (c||e):=λG σ r=>zf3 (h G σ r) λz=>h' z G σ r
theorem zdv {t u:TT}{c e:Bool}(h:Et K B t ρ c)(h' : c=true->Et K B u ρ e):Et K B (zhv t u) ρ (c&&e):=λG σ r=>zd1 (h G σ r) λz=>h' z G σ r
theorem zdC {t:TT}{c e:Bool}(h:Et K B t ρ c)(q:c=e):Et K B t ρ e:=q ▸ h
theorem zeb:Et K B zd0 ρ true:=λ_ _ _=>zc4
theorem Wn {t:TE}{e:PyData}(h:Er K B t ρ d)(q:d=e):Er K B t ρ e:=q ▸ h
theorem zfB {t:TT}{c:Bool}(h:Et K B t ρ c)(h1:c=true->Er K B ta ρ d)(h2:c=false->Er K B tb ρ d):Er K B (tIf t ta tb) ρ d:=λG σ r=>zgb (h G σ r) (λz=>h1 z G σ r) λz=>h2 z G σ r
theorem zgH {c e:Bool}(h:Er K B ta ρ (.bool c))(h' : c=true->Er K B tb ρ (.bool e)):Er K B (zd9 ta tb) ρ (.bool (c&&e)):=λG σ r=>zfJ (h G σ r) λz=>h' z G σ r
theorem XN {R:List PyData->PyData->Prop}{X:XK}{t:TA}(h:Ea K B t ρ ds)(hR:R ds d):Er K B (WP (spP K R) [] X t) ρ d:=λG σ r=>zet (h G σ r) hR
theorem zdt {n:String}{c:Bool}(ha:Er K B ta ρ d)(e:kitOne K (.type (tyN d)) (.type n)=some c):Er K B (tCB (zgZ K) (YD ta (YD (tC (.ty n)) Ud))) ρ (.bool c):=λG σ r=>zfS (ha G σ r) e
structure Wd (K:PySem.W.Frag)(J:It)(G:Hp)(ds:List PyData):Prop where
 go:∀ i H',Zm G H' -> i<ds.length->J.go i H'
 stop:∀ i H',Zm G H' -> i=ds.length->J.stop i H'
 yld:∀ i H1 x H2 G1 d,Zm G G1->Zm G1 H1->ds[i]?=some d->J.yld i H1 x H2->∃ G2,Yr G1 H1 G2 H2/\Dat K G2 x d
def Ei (K:PySem.W.Frag)(B:Hp)(wi:TI)(ρ:List PV)(ds:List PyData):Prop:=∀ G H σ,Rx K B G σ ρ->Zm G H->∀ R:It->Hp->Prop,(∀ J G' H',Yr G H G' H' -> Wd K J G' ds->R J H')->wi σ H R
theorem V1 {lo:Int}{n:Nat}:Wd K (Itr lo n) G ((List.range n).map λ(i:Nat)=>PyData.int (lo+i)):=by
 refine ⟨λi H' _ h=>by rw[length_map,length_range] at h;exact h,λi H' _ h=>by rw[length_map,length_range] at h;exact le_of_eq h.symm,λi H1 x H2 G1 d s1 s2 hd y=>?_⟩
 obtain ⟨rfl,rfl⟩:=y
 refine ⟨G1,Yr.refl s2,?_⟩
 rw[getElem?_map] at hd
 by_cases h:i<n
 ·rw[getElem?_range h] at hd
  cases hd;exact Zj _
 ·rw[List.getElem?_eq_none (by rw[length_range];omega)] at hd;cases hd
theorem zfI {p:Addr}{xs:List V}(h:G p=some (.lst xs))(hd:Zz K G xs ds):Wd K (Itl K p) G ds:=by
 refine ⟨λi H' s hi=>⟨xs,_,SqL.of (s _ _ h),List.getElem?_eq_getElem (by rw[hd.length];exact hi)⟩,λi H' s hi=>⟨xs,SqL.of (s _ _ h),by rw[hd.length];exact le_of_eq hi.symm⟩,λi H1 x H2 G1 d s1 s2 he y=>?_⟩
 obtain ⟨rfl,y⟩:=y
 obtain ⟨x',hx',hdx⟩:=hd.get he
 have:=y xs (SqL.of (s2 _ _ (s1 _ _ h)))
 rw[hx'] at this;cases this
 exact ⟨G1,Yr.refl s2,hdx.same s1⟩
theorem zgn {p:Addr}{xs:List V}(h:SqT K G p xs)(hd:Zz K G xs ds):Wd K (Itt K p) G ds:=by
 refine ⟨λi H' s hi=>⟨xs,_,s.tup h,List.getElem?_eq_getElem (by rw[hd.length];exact hi)⟩,λi H' s hi=>⟨xs,s.tup h,by rw[hd.length];exact le_of_eq hi.symm⟩,λi H1 x H2 G1 d s1 s2 he y=>?_⟩
 obtain ⟨rfl,y⟩:=y
 obtain ⟨x',hx',hdx⟩:=hd.get he
 have:=y xs (s2.tup (s1.tup h))
 rw[hx'] at this;cases this
 exact ⟨G1,Yr.refl s2,hdx.same s1⟩
theorem zby (h:Er K B te ρ (.list ds)):Ei K B (zft K te) ρ ds:=λG H σ r s R k=>h G σ r G H (Zm.refl _) s _ λv G' H' g hv=>by
 obtain ⟨p,xs,rfl,hp,hx⟩:=hv.lst
 exact ⟨p,rfl,⟨xs,SqL.of (g.gh _ _ hp)⟩,k _ G' H' g (zfI hp hx)⟩
theorem zdq (h:Er K B te ρ (.tuple ds)):Ei K B (zh3 K te) ρ ds:=λG H σ r s R k=>h G σ r G H (Zm.refl _) s _ λv G' H' g hv=>by
 obtain ⟨p,xs,rfl,hp,hx⟩:=hv.tup
 exact ⟨p,rfl,⟨xs,g.gh.tup hp⟩,k _ G' H' g (zgn hp hx)⟩
theorem zfW {t:TA}{j:Int}(h:Ea K B t ρ [.int j])(hj:-(2 ^ 62)<=j/\j<2 ^ 62):Ei K B (zcQ t) ρ ((List.range j.toNat).map λ(i:Nat)=>PyData.int (0+i)):=λG H σ r s R k=>h G σ r G H (Zm.refl _) s _ λvs G' H' g hv=>by
 obtain ⟨y,ys,rfl,hy,r⟩:=hv.cons
 rw[r.nil,hy.int]
 exact ⟨j,rfl,hj.1,hj.2,k _ G' H' g V1⟩
noncomputable def VJ (ds:List PyData):List PyData:=(List.range ds.length).map λ(i:Nat)=>PyData.tuple [.int i,ds.getD i .none]
theorem zaE {i:Nat}{d:PyData}(h:(VJ ds)[i]?=some d):∃ e,ds[i]?=some e/\d = .tuple [.int i,e]:=by
 unfold VJ at h
 rw[getElem?_map] at h
 by_cases hi:i<ds.length
 ·rw[getElem?_range hi] at h
  cases h
  exact ⟨ds[i],List.getElem?_eq_getElem hi,by show PyData.tuple [.int i,ds.getD i .none]=_;rw[getD_eq_getElem?_getD,List.getElem?_eq_getElem hi];rfl⟩
 ·rw[List.getElem?_eq_none (by rw[length_range];omega)] at h;cases h
theorem Q9:(VJ ds).length=ds.length:=by unfold VJ;rw[length_map,length_range]
theorem zbI {t:TA}(h:Ea K B t ρ [.tuple ds]):Ei K B (zhU K t) ρ (VJ ds):=λG H σ r s R k=>h G σ r G H (Zm.refl _) s _ λvs G' H' g hv=>by
 obtain ⟨y,ys,rfl,hy,r⟩:=hv.cons
 cases r.nil
 obtain ⟨p,xs,rfl,hp,hx⟩:=hy.tup
 refine ⟨p,rfl,⟨xs,g.gh.tup hp⟩,k _ G' H' g ⟨λi H' s hi=>?_,λi H' s hi=>?_,λi H1 x H2 G1 d s1 s2 he y=>?_⟩⟩
 ·rw[Q9,← hx.length] at hi
  exact ⟨xs,_,s.tup hp,List.getElem?_eq_getElem hi⟩
 ·rw[Q9,← hx.length] at hi
  exact ⟨xs,s.tup hp,le_of_eq hi.symm⟩
 ·obtain ⟨e,he',rfl⟩:=zaE he
  obtain ⟨q,z,hq,rfl,rfl,hz⟩:=y
  obtain ⟨x',hx',hdx⟩:=hx.get he'
  have:=hz xs (s2.tup (s1.tup hp))
  rw[hx'] at this;cases this
  have g:=Z4 (o:=.tup [.int (i:Nat),z]) s2 hq
  exact ⟨_,g,Ww (SqT.of Zn) (ZD (Zj _) (ZD ((hdx.same s1).same g.gg) ZL))⟩
noncomputable def zas (ρ:List PV) (js:List Nat):List PV:=js.map λj=>(ρ[j]?).getD .un
theorem zdB {x:V}{js:List Nat}(r:Rx K B G σ ρ)(hd:Dat K G x d):Rx K B G (some x::Ju σ js) (.dat d::zas ρ js):=by
 refine ⟨r.1,λi e h=>?_,λi u e h hu=>?_,λi T h=>?_,λi ns h=>?_,λi y h=>?_⟩
 ·cases i with
  | zero=>cases h;exact ⟨x,rfl,hd⟩
  | succ i=>
   rw[getElem?_cons_succ] at h ⊢
   unfold zas at h
   unfold Ju
   rw[getElem?_map] at h ⊢
   cases q:js[i]? with
   | none=>rw[q] at h;cases h
   | some j=>
    rw[q] at h
    have h:(ρ[j]?).getD .un = .dat e:=Option.some.inj h
    cases z:ρ[j]? with
    | none=>rw[z] at h;cases h
    | some u=>
     rw[z] at h
     have h:u = .dat e:=h
     subst h
     obtain ⟨y,hy,hyd⟩:=r.2.1 j e z
     exact ⟨y,by show some (σ[j]?).join=_;rw[hy];rfl,hyd⟩
 ·cases i with
  | zero=>cases h;cases hu
  | succ i=>
   rw[getElem?_cons_succ] at h ⊢
   unfold zas at h
   unfold Ju
   rw[getElem?_map] at h ⊢
   cases q:js[i]? with
   | none=>rw[q] at h;cases h
   | some j=>
    rw[q] at h
    have h:(ρ[j]?).getD .un=u:=Option.some.inj h
    cases z:ρ[j]? with
    | none=>rw[z] at h;subst h;cases hu
    | some u' =>
     rw[z] at h
     have h:u'=u:=h
     subst h
     obtain ⟨y,hy,hyd⟩:=r.2.2.1 j u' e z hu
     exact ⟨y,by show some (σ[j]?).join=_;rw[hy];rfl,hyd⟩
 ·cases i with
  | zero=>cases h
  | succ i=>
   rw[getElem?_cons_succ] at h ⊢
   unfold zas at h
   unfold Ju
   rw[getElem?_map] at h ⊢
   cases q:js[i]? with
   | none=>rw[q] at h;cases h
   | some j=>
    rw[q] at h
    have h:(ρ[j]?).getD .un = .thg T:=Option.some.inj h
    cases z:ρ[j]? with
    | none=>rw[z] at h;cases h
    | some u' =>
     rw[z] at h
     have h:u' = .thg T:=h
     subst h
     obtain ⟨p,fp,hy,hyd⟩:=r.2.2.2.1 j T z
     exact ⟨p,fp,by show some (σ[j]?).join=_;rw[hy];rfl,hyd⟩
 ·cases i with
  | zero=>cases h
  | succ i=>
   rw[getElem?_cons_succ] at h ⊢
   unfold zas at h
   unfold Ju
   rw[getElem?_map] at h ⊢
   cases q:js[i]? with
   | none=>rw[q] at h;cases h
   | some j=>
    rw[q] at h
    have h:(ρ[j]?).getD .un = .scr ns:=Option.some.inj h
    cases z:ρ[j]? with
    | none=>rw[z] at h;cases h
    | some u' =>
     rw[z] at h
     have h:u' = .scr ns:=h
     subst h
     obtain ⟨p,hy,hyd⟩:=r.2.2.2.2.1 j ns z
     exact ⟨p,by show some (σ[j]?).join=_;rw[hy];rfl,hyd⟩
 ·cases i with
  | zero=>cases h
  | succ i=>
   rw[getElem?_cons_succ] at h ⊢
   unfold zas at h
   unfold Ju
   rw[getElem?_map] at h ⊢
   cases q:js[i]? with
   | none=>rw[q] at h;cases h
   | some j=>
    rw[q] at h
    have h:(ρ[j]?).getD .un = .val y:=Option.some.inj h
    cases z:ρ[j]? with
    | none=>rw[z] at h;cases h
    | some u' =>
     rw[z] at h
     have h:u' = .val y:=h
     subst h
     have hy:=r.2.2.2.2.2 j y z
     show some (σ[j]?).join=_
     rw[hy];rfl
def Lcx (K:PySem.W.Frag)(B:Hp)(tt:TT)(te:TE)(ρ:List PV)(o:Option PyData):Prop:=(∃ d,o=some d/\Et K B tt ρ true/\Er K B te ρ d)\/(o=none/\Et K B tt ρ false)
theorem lx1 {tt:TT}(ht:Et K B tt ρ true)(he:Er K B te ρ d):Lcx K B tt te ρ (some d):=.inl ⟨d,rfl,ht,he⟩
theorem lxB {tt:TT}{c:Bool}(ht:Et K B tt ρ c)(he:c=true->Er K B te ρ d):Lcx K B tt te ρ (if c then some d else none):=by
 cases c with
 | true=>exact .inl ⟨d,rfl,ht,he rfl⟩
 | false=>exact .inr ⟨rfl,ht⟩
theorem zdG {α:Type}{wi:TI}{js:List Nat}{tt:TT}(as:List α)(enc:α->PyData)(f:α->Option PyData)(h:Ei K B wi ρ (as.map enc))(hn:as.length<sizeLine)(hc:∀ a∈as,Lcx K B tt te (.dat (enc a)::zas ρ js) (f a))
  (r:Rx K B G σ ρ) (s:Zm G H) {Q:VK}(k:∀ p xs G' H',Yr G H G' H' -> H' p=none->Zz K G' xs (as.filterMap f)->Q (.ref p) (upd H' p (.lst xs))):tLC wi js tt te σ H Q:=by
 refine h G H σ r s _ λJ G2 H2 g2 W=>?_
 have fl:∀ i (hi:i<as.length),((as.take (i+1)).filterMap f)=(as.take i).filterMap f++(f as[i]).toList:=λi hi=>by
  rw[take_succ,List.filterMap_append,List.getElem?_eq_getElem hi]
  show _++List.filterMap f [as[i]]=_
  rw[filterMap_cons]
  cases f as[i] <;> rfl
 refine ⟨λi m ys H' => m=as.length-i/\i<=as.length/\ys.length<=i/\∃ G',Yr G2 H2 G' H' /\ Zz K G' ys ((as.take i).filterMap f),⟨as.length,by omega,by omega,by simp,G2,Yr.refl g2.gh,by simpa using ZL⟩,?_⟩
 rintro i m ys H' ⟨rfl,hi,hl,G',g',hys⟩
 refine ⟨by omega,?_⟩
 have sgh:Zm G2 H' := g'.gg.trans g'.gh
 by_cases hin:i=as.length
 ·subst hin
  refine .inl ⟨W.stop _ H' sgh (by rw[length_map]),λp hp=>?_⟩
  rw[take_length] at hys
  exact k p ys G' H' (g2.trans g') hp hys
 ·have hi' : i<as.length:=by omega
  refine .inr ⟨W.go i H' sgh (by rw[length_map];exact hi'),λx H'' hy=>?_⟩
  obtain ⟨G3,g3,hx⟩:=W.yld i H' x H'' G' (enc as[i]) g'.gg g'.gh (by rw[getElem?_map,List.getElem?_eq_getElem hi'];rfl) hy
  have rx:=zdB (js:=js) ((r.mono (g2.gg.trans g'.gg)).mono g3.gg) hx
  rcases hc as[i] (getElem_mem hi') with ⟨d,hf,ht,he⟩ | ⟨hf,ht⟩
  ·refine ht _ _ rx G3 H'' (Zm.refl _) g3.gh _ λG4 H4 g4=>?_
   rw[if_pos rfl]
   refine he _ _ (rx.mono g4.gg) G4 H4 (Zm.refl _) g4.gh _ λv G5 H5 g5 hv=>⟨as.length-(i+1),by omega,rfl,by omega,by rw[length_append];show ys.length+1<=i+1;omega,G5,((g'.trans g3).trans g4).trans g5,?_⟩
   rw[fl i hi',hf]
   exact Wg (hys.same ((g3.gg.trans g4.gg).trans g5.gg)) hv
  ·refine ht _ _ rx G3 H'' (Zm.refl _) g3.gh _ λG4 H4 g4=>?_
   rw[if_neg Bool.false_ne_true]
   refine ⟨as.length-(i+1),by omega,rfl,by omega,by omega,G4,(g'.trans g3).trans g4,?_⟩
   rw[fl i hi',hf]
   show Zz K G4 ys (_++[])
   rw[append_nil]
   exact hys.same (g3.gg.trans g4.gg)
theorem zhx {α:Type}{wi:TI}{js:List Nat}{tt:TT}(as:List α)(enc:α->PyData)(f:α->Option PyData)(h:Ei K B wi ρ (as.map enc))(hn:as.length<sizeLine)(hc:∀ a∈as,Lcx K B tt te (.dat (enc a)::zas ρ js) (f a)):Er K B (tLC wi js tt te) ρ (.list (as.filterMap f)):=
 λG σ r G1 H s1 s2 Q k=>zdG as enc f h hn hc (r.mono s1) s2 λp xs G' H' g hp hd=>by
  have g3:=Z4 (o:=.lst xs) g.gh hp
  exact k _ _ _ (g.trans g3) (Ys Zn (hd.same g3.gg))
theorem zg9 {α:Type}{wi:TI}{js:List Nat}{tt:TT}{R:PV->List PV->Prop}(as:List α)(enc:α->PyData)(f:α->Option PyData)(h:Ei K B wi (msk ρ) (as.map enc))(hn:as.length<sizeLine)(hc:∀ a∈as,Lcx K B tt te (.dat (enc a)::zas (msk ρ) js) (f a))(k:R (.own (as.filterMap f)) ρ):Eg K B (tLC wi js tt te) ρ R:=
 λE G0 H0 G H σ F r Q q=>zdG as enc f h hn hc r.rx r.g.gh λp xs G' H' g hp hd=>by
  obtain ⟨a,b,c⟩:=(r.grow g).zgL hp hd
  exact q _ _ ρ G' _ F [p] k g.gg a b c
def Gt (K:PySem.W.Frag)(B:Hp)(g:TG)(d:PyData)(ρ:List PV)(P:List PV->Prop):Prop:=∀ E G0 H0 G H σ F x (Q:St->Hp->Prop),Rl K B E G0 H0 G H σ ρ F->Dat K G x d->(∀ σ' ρ' G' H' F',P ρ' -> Zm G G' -> Rl K B E G0 H0 G' H' σ' ρ' F' -> Q σ' H')->g x σ H Q
theorem Qn {i:Nat}{P:List PV->Prop}(h:P (ρ.set i (.dat d))):Gt K B (WQ i) d ρ P:=λE G0 H0 G H σ F x Q r hd k=>k _ _ G H _ h (Zm.refl _) (r.zhp hd)
theorem Q4 {i j:Nat}{P:List PV->Prop}(h:P ((ρ.set i (.dat a)).set j (.dat b))):Gt K B (zgO K 2 (Vk (WQ i) (Vk (WQ j) zgU))) (.tuple [a,b]) ρ P:=λE G0 H0 G H σ F x Q r hd k=>by
 obtain ⟨p,xs,rfl,hp,hx⟩:=hd.tup
 obtain ⟨y,ys,rfl,hy,hx⟩:=hx.cons
 obtain ⟨z,zs,rfl,hz,hx⟩:=hx.cons
 cases hx.nil
 exact ⟨p,_,rfl,r.g.gh.tup hp,rfl,y,_,rfl,z,_,rfl,rfl,k _ _ G H _ h (Zm.refl _) ((r.zhp hy).zhp hz)⟩
theorem JK {α:Type}{wi:TI}{g:TG}{tb:TS}{R:Pn}(as:List α)(enc:α->PyData)(h:Ei K B wi (msk ρ) (as.map enc))(Iv:Nat->List PV->Prop)(h0:Iv 0 ρ)
  (hs:∀ (i:Nat) (hi:i<as.length) ρ',Iv i ρ' -> Gt K B g (enc as[i]) ρ' fun ρ2=>Sv K B tb ρ2 { nx:=Iv (i+1),ct:=Iv (i+1),bk:=R.nx,rt:=R.rt }) (hd:∀ ρ',Iv as.length ρ' -> R.nx ρ'):Sv K B (zgV wi g tb) ρ R:=λE G0 H0 G H σ F D r dn=>by
 refine h G H σ r.rx r.g.gh _ λJ G1 H1 g1 W=>?_
 refine ⟨λi m σ' H' => m=as.length-i/\i<=as.length/\∃ ρ' G' F',Iv i ρ' /\ Rl K B E G0 H0 G' H' σ' ρ' F' /\ Zm G1 G',⟨as.length,by omega,by omega,ρ,G1,F,h0,r.grow g1,Zm.refl _⟩,?_⟩
 rintro i m σ' H' ⟨rfl,hi,ρ',G',F',hI,r',s'⟩
 by_cases hin:i=as.length
 ·subst hin
  exact .inl ⟨W.stop _ H' (s'.trans r'.g.gh) (by rw[length_map]),dn.nx (hd ρ' hI) (g1.gg.trans s') r'⟩
 ·have hi' : i<as.length:=by omega
  refine .inr ⟨W.go i H' (s'.trans r'.g.gh) (by rw[length_map];exact hi'),fun σ2 H2=>∃ ρ2 G2 F2,Iv (i+1) ρ2/\Rl K B E G0 H0 G2 H2 σ2 ρ2 F2/\Zm G1 G2,fun σ2 H2 ⟨ρ2,G2,F2,q⟩=>⟨as.length-(i+1),by omega,rfl,by omega,ρ2,G2,F2,q⟩,λx H'' hy=>?_⟩
  obtain ⟨G3,g3,hx⟩:=W.yld i H' x H'' G' (enc as[i]) s' r'.g.gh (by rw[getElem?_map,List.getElem?_eq_getElem hi'];rfl) hy
  have r3:=r'.grow g3
  have s3:Zm G1 G3:=s'.trans g3.gg
  refine hs i hi' ρ' hI E G0 H0 G3 H'' σ' F' x _ r3 hx fun σ4 ρ4 G4 H4 F4 hP s4 r4=>?_
  have s14:=s3.trans s4
  refine hP E G0 H0 G4 H4 σ4 F4 _ r4 ⟨λhI2 s5 r5=>⟨_,_,_,hI2,r5,s14.trans s5⟩,λhR s5 r5 sl n=>dn.rt hR (g1.gg.trans (s14.trans s5)) r5 sl n,λhR s5 r5=>dn.nx hR (g1.gg.trans (s14.trans s5)) r5,λhI2 s5 r5=>⟨_,_,_,hI2,r5,s14.trans s5⟩⟩
theorem Ub {c:TT}{tb:TS}{R:Pn}(Iv:Nat->List PV->Prop)(m0:Nat)(h0:Iv m0 ρ)
  (hs:∀ m ρ',Iv m ρ' -> ∃ b,Et K B c ρ' b/\(b=true->Sv K B tb ρ' { nx:=fun ρ2=>∃ m',m'<m/\Iv m' ρ2,ct:=fun ρ2=>∃ m',m'<m/\Iv m' ρ2,bk:=R.nx,rt:=R.rt })/\(b=false->R.nx ρ')):Sv K B (zdx c tb) ρ R:=λE G0 H0 G H σ F D r dn=>by
 refine ⟨λm σ' H' => ∃ ρ' G' F',Iv m ρ' /\ Rl K B E G0 H0 G' H' σ' ρ' F' /\ Zm G G',⟨m0,ρ,G,F,h0,r,Zm.refl _⟩,?_⟩
 rintro m σ' H' ⟨ρ',G',F',hI,r',s'⟩
 obtain ⟨b,hb,ht,hf⟩:=hs m ρ' hI
 obtain ⟨s1,s2,x⟩:=r'.gpl
 refine hb _ σ' x _ H' (Zm.refl _) s2 _ λG2 H2 g=>?_
 have r2:=r'.grow (X6 r'.g.gh g.hh)
 cases b with
 | false=>
  rw[if_neg Bool.false_ne_true]
  exact dn.nx (hf rfl) s' r2
 | true=>
  rw[if_pos rfl]
  refine ⟨fun σ3 H3=>∃ m',m'<m/\∃ ρ3 G3 F3,Iv m' ρ3/\Rl K B E G0 H0 G3 H3 σ3 ρ3 F3/\Zm G G3,fun σ3 H3 q=>q,?_⟩
  refine ht rfl E G0 H0 G' H2 σ' F' _ r2 ⟨λ⟨m',hm,hI2⟩ s5 r5=>⟨m',hm,_,_,_,hI2,r5,s'.trans s5⟩,λhR s5 r5 sl n=>dn.rt hR (s'.trans s5) r5 sl n,λhR s5 r5=>dn.nx hR (s'.trans s5) r5,λ⟨m',hm,hI2⟩ s5 r5=>⟨m',hm,_,_,_,hI2,r5,s'.trans s5⟩⟩
noncomputable def PV.put:PV->List PyData->PV
 | .own _,ds=>.own ds
 | .lnt p _,ds=>.lnt p ds
 | v,_=>v
theorem Rl.put {i:Nat}{u:PV}{p:Addr}{xs:List V}(R:Rl K B E G0 H0 G H σ ρ F)(hi:ρ[i]?=some u)(hu:u.rd=some ds)(hx:σ[i]?=some (some (.ref p)))(hd:Zz K G xs es):Rl K B E G0 H0 G (upd H p (.lst xs)) σ (ρ.set i (u.put es)) F:=by
 obtain ⟨p',xs',e,hx',hp,_⟩:=(R.sl i _ hi).rd hu
 rw[hx] at hx'
 cases hx'
 have hpi:p∈F i:=by rw[e];simp
 obtain ⟨gp,_,hE⟩:=R.fr i p hpi
 have hlt:i<ρ.length:=(List.getElem?_eq_some_iff.mp hi).1
 refine ⟨⟨R.g.gg,zcA R.g.gh gp,λb o n h=>?_,λb h=>?_,R.g.fr⟩,R.bb,by rw[length_set];exact R.ls,λj v h=>?_,λj a ha=>?_,R.dj,λj ds' a h ha=>?_⟩
 ·have:b≠p:=λz=>by
   subst z
   rcases hE with hE | hE
   ·exact n hE
   ·rw[hE] at h;cases h
  rw[Zk this];exact R.g.kp b o n h
 ·by_cases z:b=p
  ·subst z;rw[Zn] at h;cases h
  ·rw[Zk z] at h;exact R.g.al b h
 ·by_cases z:j=i
  ·subst z
   rw[getElem?_set_self hlt] at h
   cases h
   cases u with
   | own es' => exact ⟨p,xs,e,hx,Zn,hd⟩
   | lnt q es' =>
    obtain ⟨_,e2,hx2,_⟩:=R.sl j _ hi
    rw[hx] at hx2;cases hx2
    exact ⟨xs,e,hx,Zn,hd⟩
   | _=>cases hu
  ·rw[getElem?_set_ne (Ne.symm z)] at h
   refine (R.sl j v h).grow (Zm.refl _) λa ha=>Zk λq=>?_
   subst q
   exact z (R.dj j i a ha hpi)
 ·obtain ⟨h1,⟨o,h2⟩,h3⟩:=R.fr j a ha
  refine ⟨h1,?_,h3⟩
  by_cases z:a=p
  ·subst z;exact ⟨_,Zn⟩
  ·exact ⟨o,by rw[Zk z];exact h2⟩
 ·by_cases z:j=i
  ·subst z
   rw[getElem?_set_self hlt] at h
   cases u with
   | own es' => exact R.ow j es' a hi ha
   | lnt q es' => cases h
   | _=>cases hu
  ·rw[getElem?_set_ne (Ne.symm z)] at h
   exact R.ow j ds' a h ha
theorem zdc {i:Nat}{R:Pn}(h:Eg K B te ρ λr ρ' => ∃ (d:PyData)(u:PV)(ds:List PyData),r = .dat d/\ρ'[i]?=some u/\u.rd=some ds/\ds.length<sizeLine/\R.nx (ρ'.set i (u.put (ds++[d])))){u0:PV}{ds0:List PyData}(hi:ρ[i]?=some u0)(hu:u0.rd=some ds0):Sv K B (zc5 (tBM K "list" za9 (JP i) (YD te Ud))) ρ R:=λE G0 H0 G H σ F D r dn=>by
 obtain ⟨p,xs,e,hx,hp,hd⟩:=(r.sl i _ hi).rd hu
 refine ⟨_,hx,.inl ⟨rfl,xs,SqL.of hp⟩,?_⟩
 refine h E G0 H0 G H σ F r _ λv w ρ' G' H' F' L hR s r' sl n=>?_
 obtain ⟨d,u,ds,rfl,hi',hu',hl,hR⟩:=hR
 obtain ⟨p',xs',e',hx',hp',hd'⟩:=(r'.sl i _ hi').rd hu'
 rw[hx] at hx';cases hx'
 obtain ⟨_,x,hxv,hxd⟩:=sl
 cases hxv
 refine ⟨p,xs',v,rfl,rfl,hp',by rw[hd'.length];exact hl,?_⟩
 exact dn.nx hR s (r'.put hi' hu' hx (Wg hd' hxd))
theorem zfX {i:Nat}{R:Pn}(h:Eg K B te ρ λr ρ' => ∃ (zs:List PyData)(u:PV)(ds:List PyData),r = .own zs/\ρ'[i]?=some u/\u.rd=some ds/\ds.length+zs.length<=sizeLine/\R.nx (ρ'.set i (u.put (ds++zs)))){u0:PV}{ds0:List PyData}(hi:ρ[i]?=some u0)(hu:u0.rd=some ds0):Sv K B (zc5 (tBM K "list" za8 (JP i) (YD te Ud))) ρ R:=λE G0 H0 G H σ F D r dn=>by
 obtain ⟨p,xs,e,hx,hp,hd⟩:=(r.sl i _ hi).rd hu
 refine ⟨_,hx,.inl ⟨rfl,xs,SqL.of hp⟩,?_⟩
 refine h E G0 H0 G H σ F r _ λv w ρ' G' H' F' L hR s r' sl n=>?_
 obtain ⟨zs,u,ds,rfl,hi',hu',hl,hR⟩:=hR
 obtain ⟨p',xs',e',hx',hp',hd'⟩:=(r'.sl i _ hi').rd hu'
 rw[hx] at hx';cases hx'
 obtain ⟨q,ys,eq,hv,hq,hyd⟩:=sl
 cases hv
 refine ⟨p,q,xs',ys,rfl,rfl,hp',hq,by rw[hd'.length,hyd.length];exact hl,?_⟩
 exact dn.nx hR s (r'.put hi' hu' hx (Ye hd' hyd))
theorem zea {i:Nat}{ti:TE}{R:Pn}(h:Eg K B te ρ λr ρ' => ∃ (d:PyData)(u:PV)(ds:List PyData)(j:Int)(n:Nat),r = .dat d/\ρ'[i]?=some u/\u.rd=some ds/\Er K B ti ρ' (.int j)/\ixN ds.length j=some n/\R.nx (ρ'.set i (u.put (ds.set n d)))):Sv K B (zgX te (zhW (JP i) ti zgq)) ρ R:=λE G0 H0 G H σ F D r dn=>by
 refine h E G0 H0 G H σ F r _ λv w ρ' G' H' F' L hR s r' sl n=>?_
 obtain ⟨d,u,ds,j,n,rfl,hi',hu',he,hn,hR⟩:=hR
 obtain ⟨p',xs',e',hx',hp',hd'⟩:=(r'.sl i _ hi').rd hu'
 obtain ⟨_,x,hxv,hxd⟩:=sl
 cases hxv
 obtain ⟨s1,s2,x⟩:=r'.gpl
 refine ⟨_,hx',he _ σ x _ H' (Zm.refl _) s2 _ λiv G2 H2 g2 hiv=>?_⟩
 have r2:=r'.grow (X6 r'.g.gh g2.hh)
 refine ⟨p',xs',j,n,rfl,hiv.int,g2.hh _ _ hp',by rw[hd'.length];exact hn,?_⟩
 exact dn.nx hR s (r2.put hi' hu' hx' (Uu n hd' hxd))
noncomputable def Yc (N:List Str) (vs:List PV):List PV:=vs++List.replicate (N.length-vs.length) .un
theorem Qk {vs:List V}{N:List Str}(sb:Zm B G)(s:Zm G H)(hv:Zz K G vs ds):Rl K B (λ_=>False) G H G H (start N vs) (Yc N (ds.map .dat)) (λ_=>[]):=by
 refine ⟨Gw.refl s,sb,?_,λi v h=>?_,λ_ _ h=>(by cases h),λ_ _ _ h _=>(by cases h),λ_ _ _ _ h=>(by cases h)⟩
 ·unfold start Yc
  rw[length_append,length_append,length_map,length_map,length_replicate,length_replicate,hv.length]
 ·unfold Yc at h
  unfold start
  by_cases hi:i<ds.length
  ·rw[getElem?_append_left (by rw[length_map];exact hi),getElem?_map,List.getElem?_eq_getElem hi] at h
   cases h
   obtain ⟨x,hx,hxd⟩:=hv.get (List.getElem?_eq_getElem hi)
   exact ⟨rfl,x,by rw[getElem?_append_left (by rw[length_map,hv.length];exact hi),getElem?_map,hx];rfl,hxd⟩
  ·rw[getElem?_append_right (by rw[length_map];omega)] at h
   have:=mem_of_getElem? h
   rw[(mem_replicate.mp this).2]
   rfl
variable {P:Program}{w:World}{mg:Str->Option Value}{base:Heap}
def zig (K:PySem.W.Frag)(B:Hp)(R:List PyData->PyData->Prop):Sp:=λvs H Q _=>∃ (G:Hp) (ds:List PyData) (d:PyData),Zm B G/\Zm G H/\Zz K G vs ds/\R ds d/\∀ v G' H',Yr G H G' H' -> Dat K G' v d->Q v H'
theorem Fun.zh7 {x qual:Str}{st:Stmt}{f:Addr}{fd:FuncData}{N ps:List Str}{k:Nat}{R:List PyData->PyData->Prop}(Fn:Fun K x qual st f fd)(S:ZK N ps (Zd st))(len:∀ ds d,R ds d->ds.length=ps.length)
  (hb:∀ (cdv:Value) (A:Around) (outer:List Env) (s:Shared) (H:Hp) (E:XK),Wu k (A.deeper (envOfC qual (Zd st) s.heap.objs.size f cdv))->∀ ds d,R ds d->
   ∃ t,PSs (WR CX0 P w K mg base N qual (Zd st) f cdv A outer s H E).nox (ZR st) t/\Sv K B t (Yc N (ds.map .dat)) { nx:=λ_=>d = .none,rt:=λr _=>r = .dat d }):Xy P w K mg base CX0 (k+1) f fd ps (zig K B R):=by
 refine Fn.ok S (λvs H Q E h=>?_) λcdv A outer s H vs Q E hr h=>?_
 ·obtain ⟨G,ds,d,_,_,hv,hR,_⟩:=h
  rw[hv.length];exact len ds d hR
 ·obtain ⟨G,ds,d,sb,sg,hv,hR,kk⟩:=h
  obtain ⟨t,ht,hs⟩:=hb cdv A outer s H E hr ds d hR
  refine ⟨t,ht,hs _ _ _ _ _ _ _ _ (Qk sb sg hv) ⟨λe _ r=>?_,λe _ r sl n=>?_,λe=>e.elim,λe=>e.elim⟩⟩
  ·have e:d = .none:=e
   subst e
   exact kk _ _ _ r.g.JL XH
  ·subst e
   obtain ⟨_,y,hy,hd⟩:=sl
   cases hy
   exact kk _ _ _ r.g.JL hd
abbrev B0:Hp:=λ_=>none
theorem b0:Zm B0 G:=λ_ _ h=>by cases h
theorem Fun.okP {x qual:Str}{st:Stmt}{f:Addr}{fd:FuncData}{N ps:List Str}{k:Nat}{R:List PyData->PyData->Prop}(Fn:Fun K x qual st f fd)(S:ZK N ps (Zd st))(len:∀ ds d,R ds d->ds.length=ps.length)
  (hb:∀ (cdv:Value) (A:Around) (outer:List Env) (s:Shared) (H:Hp) (E:XK),Wu k (A.deeper (envOfC qual (Zd st) s.heap.objs.size f cdv))->∀ ds d,R ds d->
   ∃ t,PSs (WR CX0 P w K mg base N qual (Zd st) f cdv A outer s H E).nox (ZR st) t/\Sv K B0 t (Yc N (ds.map .dat)) { nx:=λ_=>d = .none,rt:=λr _=>r = .dat d }):Xy P w K mg base CX0 (k+1) f fd ps (spP K R):=
 (Fn.zh7 S len hb).imp λvs H Q E ⟨G,ds,d,sg,hv,hR,kk⟩=>⟨G,ds,d,b0,sg,hv,hR,kk⟩
def spL (K:PySem.W.Frag)(Pre:List PyData->List PyData->Prop)(R:List PyData->List PyData->PyData->List PyData->Prop):Sp:=λvs H Q _=>∃ (p:Addr) (us:List V) (G:Hp) (xs:List V) (es ds:List PyData),vs = .ref p::us/\Zm G H/\G p=none/\H p=some (.lst xs)/\Zz K G xs es/\Zz K G us ds/\Pre es ds/\
 ∀ v x es' xs' G' H',R es ds x es' -> Gw (· = p) G H G' H' -> G' p=none->H' p=some (.lst xs')->Zz K G' xs' es' -> Dat K G' v x->Q v H'
theorem zdY {p:Addr}{us xs:List V}{N:List Str}(sb:Zm B G)(s:Zm G H)(gp:G p=none)(hp:H p=some (.lst xs))(hx:Zz K G xs es)(hv:Zz K G us ds):Rl K B (· = p) G H G H (start N (.ref p::us)) (Yc N (.lnt p es::ds.map .dat)) (λk=>if k=0 then [p] else []):=by
 refine ⟨Gw.refl s,sb,?_,λi v h=>?_,λi a ha=>?_,λi j a ha hb=>?_,λi ds' a h ha=>?_⟩
 ·unfold start Yc
  rw[length_append,length_append,length_map,length_cons,length_cons,length_map,length_replicate,length_replicate,hv.length]
 ·cases i with
  | zero=>
   have h:some (PV.lnt p es)=some v:=h
   cases h
   exact ⟨xs,rfl,rfl,hp,hx⟩
  | succ i=>
   rw[if_neg (by omega)]
   have h:(ds.map PV.dat++List.replicate (N.length-(ds.map PV.dat).length.succ) PV.un)[i]?=some v:=h
   show Sl K G H ((us.map some++List.replicate (N.length-us.length.succ) none)[i]?) v []
   by_cases hi:i<ds.length
   ·rw[getElem?_append_left (by rw[length_map];exact hi),getElem?_map,List.getElem?_eq_getElem hi] at h
    cases h
    obtain ⟨x,hx,hxd⟩:=hv.get (List.getElem?_eq_getElem hi)
    exact ⟨rfl,x,by rw[getElem?_append_left (by rw[length_map,hv.length];exact hi),getElem?_map,hx];rfl,hxd⟩
   ·rw[getElem?_append_right (by rw[length_map];omega)] at h
    have:=mem_of_getElem? h
    rw[(mem_replicate.mp this).2]
    rfl
 ·split at ha
  ·rw[mem_singleton.mp ha];exact ⟨gp,⟨_,hp⟩,.inl rfl⟩
  ·cases ha
 ·split at ha
  ·split at hb
   ·omega
   ·cases hb
  ·cases ha
 ·split at ha
  ·rename_i z
   subst z
   have h:some (PV.lnt p es)=some (.own ds'):=h
   cases h
  ·cases ha
theorem Fun.okL {x qual:Str}{st:Stmt}{f:Addr}{fd:FuncData}{N ps:List Str}{k:Nat}{Pre:List PyData->List PyData->Prop}{R:List PyData->List PyData->PyData->List PyData->Prop}(Fn:Fun K x qual st f fd)(S:ZK N ps (Zd st))(len:∀ es ds,Pre es ds->ds.length+1=ps.length)
  (hb:∀ (cdv:Value) (A:Around) (outer:List Env) (s:Shared) (H:Hp) (E:XK),Wu k (A.deeper (envOfC qual (Zd st) s.heap.objs.size f cdv))->∀ p es ds,Pre es ds->
   ∃ t,PSs (WR CX0 P w K mg base N qual (Zd st) f cdv A outer s H E).nox (ZR st) t/\Sv K B0 t (Yc N (.lnt p es::ds.map .dat)) { nx:=fun ρ' => ∃ es',R es ds .none es' /\ ρ'[0]?=some (.lnt p es'),rt:=λr ρ' => ∃ d es',r = .dat d/\R es ds d es' /\ ρ'[0]?=some (.lnt p es') }):Xy P w K mg base CX0 (k+1) f fd ps (spL K Pre R):=by
 refine Fn.ok S (λvs H Q E h=>?_) λcdv A outer s H vs Q E hr h=>?_
 ·obtain ⟨p,us,G,xs,es,ds,rfl,_,_,_,_,hv,hP,_⟩:=h
  rw[length_cons,hv.length];exact len es ds hP
 ·obtain ⟨p,us,G,xs,es,ds,rfl,sg,gp,hp,hx,hv,hP,kk⟩:=h
  obtain ⟨t,ht,hs⟩:=hb cdv A outer s H E hr p es ds hP
  refine ⟨t,ht,hs _ _ _ _ _ _ _ _ (zdY b0 sg gp hp hx hv) ⟨λe _ r=>?_,λe _ r sl n=>?_,λe=>e.elim,λe=>e.elim⟩⟩
  ·obtain ⟨es',hR,h0⟩:=e
   obtain ⟨xs',e,hx',hp',hd'⟩:=r.sl 0 _ h0
   exact kk _ _ es' xs' _ _ hR r.g (r.fr 0 p (by rw[e];simp)).1 hp' hd' XH
  ·obtain ⟨d,es',rfl,hR,h0⟩:=e
   obtain ⟨xs',e,hx',hp',hd'⟩:=r.sl 0 _ h0
   obtain ⟨_,y,hy,hd⟩:=sl
   cases hy
   exact kk _ _ es' xs' _ _ hR r.g (r.fr 0 p (by rw[e];simp)).1 hp' hd' hd
def EgA (K:PySem.W.Frag)(B:Hp)(t:TA)(ρ:List PV)(R:List PyData->List PV->Prop):Prop:=∀ E G0 H0 G H σ F,Rl K B E G0 H0 G H σ ρ F->∀ Q:List V->Hp->Prop,
 (∀ vs ds ρ' G' H' F',R ds ρ' -> Zm G G' -> Rl K B E G0 H0 G' H' σ ρ' F' -> Zz K G' vs ds->Q vs H')->t σ H Q
theorem Jl {t:TA}{R:List PyData->List PV->Prop}(h:Ea K B t (msk ρ) ds)(k:R ds ρ):EgA K B t ρ R:=λE G0 H0 G H σ F r Q q=>h G σ r.rx G H (Zm.refl _) r.g.gh Q λvs G' H' g hv=>q vs ds ρ G' H' F k g.gg (r.grow g) hv
theorem Qi {t:TA}{R:List PyData->List PV->Prop}(h:Eg K B te ρ λr ρ1=>∃ d,r = .dat d/\EgA K B t ρ1 λds ρ2=>R (d::ds) ρ2):EgA K B (YD te t) ρ R:=λE G0 H0 G H σ F r Q q=>
 h E G0 H0 G H σ F r _ λv w ρ1 G1 H1 F1 L hw s1 r1 sl n=>by
  obtain ⟨d,rfl,h2⟩:=hw
  obtain ⟨_,y,hy,hd⟩:=sl
  cases hy
  exact h2 E G0 H0 G1 H1 σ F1 r1 _ λvs ds ρ2 G2 H2 F2 hR s2 r2 hv=>q _ _ ρ2 G2 H2 F2 hR (s1.trans s2) r2 (ZD (hd.same s2) hv)
theorem zcT {r:R2}{R:PV->List PV->Prop}(h:Eg K B ta ρ λx ρ1=>∃ a,x = .dat a/\Eg K B tb ρ1 λy ρ2=>∃ b c,y = .dat b/\(∀ G σ va vb,Dat K G va a->Dat K G vb b->Ev K (tOp r (tC va) (tC vb)) σ G c)/\R (.dat c) ρ2):Eg K B (tOp r ta tb) ρ R:=λE G0 H0 G H σ F r Q q=>
 h E G0 H0 G H σ F r _ λv w ρ1 G1 H1 F1 L hw s1 r1 sl n=>by
  obtain ⟨a,rfl,h2⟩:=hw
  obtain ⟨_,y,hy,hd⟩:=sl
  cases hy
  refine h2 E G0 H0 G1 H1 σ F1 r1 _ λv2 w2 ρ2 G2 H2 F2 L2 hw2 s2 r2 sl2 n2=>?_
  obtain ⟨b,c,rfl,hop,hR⟩:=hw2
  obtain ⟨_,y2,hy2,hd2⟩:=sl2
  cases hy2
  exact hop G2 σ v v2 (hd.same s2) hd2 G2 H2 (Zm.refl _) r2.g.gh Q λv3 G3 H3 g3 hv3=>q v3 _ ρ2 G3 H3 F2 [] hR ((s1.trans s2).trans g3.gg) (r2.grow g3) ⟨rfl,v3,rfl,hv3⟩ WK
end
open PySem PySem.Spec PyProof.Rows
noncomputable def Jy {α:Type}(xs:List α) (lo hi st:Option Int):List α:=
 (sliceRange (sliceBounds lo hi st xs.length).1 (sliceBounds lo hi st xs.length).2.1 (sliceBounds lo hi st xs.length).2.2).filterMap (xs[·]?)
theorem Jt {xs:List V}{us:List Value}(r:Vals xs us):∀ is:List Nat,Vals (is.filterMap (xs[·]?)) (is.filterMap (us[·]?))
 | []=>.nil
 | i::is=>by
  rw[filterMap_cons,filterMap_cons]
  cases h:xs[i]? with
  | none=>rw[r.none_of h];exact Jt r is
  | some x=>
   obtain ⟨u,hu,ru⟩:=r.get h
   rw[hu];exact .cons ru (Jt r is)
section
variable {X:Cx}{e st:Expr}{lo hi:Option Expr}{te:TE}{tl th ts:TO}{p2 pos:Pos}
def zhO (K:PySem.W.Frag)(te:TE)(tl th ts:TO):TE:=fun σ H Q=>te σ H λx H1=>tl σ H1 λl H2=>th σ H2 λu H3=>ts σ H3 λc H4=>∃ a xs,x = .ref a/\SqL K H4 a xs/\c≠some 0/\(Jy xs l u c).length<=sizeLine/\∀ p,H4 p=none->Q (.ref p) (upd H4 p (.lst (Jy xs l u c)))
theorem zbU (he:PE X e te)(hl:PO X lo tl)(hu:PO X hi th)(hst:PO X (some st) ts):PE X (.Subscript e (.Slice lo hi (some st) p2) pos) (zhO X.K te tl th ts):=by
 intro pins s σ H Q I h
 refine Subscript_ (thn (he pins s σ H _ I h) λv s1 ⟨x,H1,I1,r1,q1⟩=>?_)
 refine wpAny_Slice (thn (hl pins s1 σ H1 _ I1 q1) λvl s2 ⟨l,H2,I2,pl,q2⟩=>thn (hu pins s2 σ H2 _ I2 q2) λvu s3 ⟨u,H3,I3,pu,q3⟩=>thn (hst pins s3 σ H3 _ I3 q3) λvs s4 ⟨c,H4,I4,ps,q4⟩=>?_)
 obtain ⟨a,xs,rfl,hx,hc,hz',q⟩:=q4
 cases r1
 have I5:Inv X pins σ H4 { s4 with heap:=s4.heap.push { cls:=.type "slice",data:=.fields #[vl,vu,vs] } }:=I4.kept (t' := s4.toks) λb ob q=>get?_push_of_some _ q
 obtain ⟨its,r,ht,hz⟩:=I5.list hx
 have hlen:=r.length
 refine tail_any (ops:=[.ref a,.ref s4.heap.objs.size]) (T:= "list") ht.isList.typeIs slot_list_getitem.lookup ?_ (by with_unfolding_all rfl)
 refine wpAny_getItem_list_slice ht.isList (Heap.IsSliceOf.new ..) pl pu ps hc ?_ (by rw[size_toArray] <;> omega)
 have e1:slicePick its.toArray l u c=(Jy its l u c).toArray:=by
  unfold slicePick Jy
  simp only[size_toArray,List.getElem?_toArray]
 rw[e1]
 have rv:Vals (Jy xs l u c) (Jy its l u c):=by
  unfold Jy;rw[hlen];exact Jt r _
 refine ⟨.ref _,_,I5.laid (t' := s4.toks) (o:=.lst (Jy xs l u c)) (λb ob q=>get?_push_of_some _ q) (Nat.le_refl _) ⟨hz',_,0,rv,get?_push_size _ rfl⟩,rfl,q _ ?_⟩
 exact I5.hok.fresh (Nat.le_refl _)
end
section
variable {X:Cx}{K:PySem.W.Frag}
theorem zf6 {σ:St}{G:Hp}{te:TE}{tl th:TO}{ds:List PyData}{lo hi:Option Int}(h:Ev K te σ G (.list ds))(hl:∀ H (Q:Option Int->Hp->Prop),Q lo H->tl σ H Q)(hh:∀ H (Q:Option Int->Hp->Prop),Q hi H->th σ H Q):
  Ev K (tSl (zgv K) te tl th) σ G (.list ((ds.drop (HT.sIx ds.length 0 lo)).take (HT.sIx ds.length ds.length hi-HT.sIx ds.length 0 lo))):=
 λG1 H s1 s2 Q k=>h G1 H s1 s2 _ λv G2 H2 g2 hv=>by
  obtain ⟨p,xs,rfl,hp,hxs⟩:=hv.lst
  have hlen:=hxs.length
  refine hl _ _ (hh _ _ ⟨p,xs,rfl,SqL.of (g2.gh _ _ hp),λq hq=>?_⟩)
  have g:=Z4 (o:=.lst (zde xs lo hi)) g2.gh hq
  refine k _ _ _ (g2.trans g) (Ys Zn ?_)
  have q:=Wb (HT.sIx ds.length ds.length hi-HT.sIx ds.length 0 lo) (Wi (HT.sIx ds.length 0 lo) (hxs.same g.gg))
  rw[← hlen] at q ⊢
  exact q
end
section
variable {X:Cx}{pins:List (Addr×Obj)}{σ:St}{H G:Hp}{s:Shared}
open Classical in
noncomputable def XF (s:Shared) (d:PyData) (u:Value):Bool:=decide (∃ as,Reads s.heap u d as)
theorem zcd {a b:PyData}(ha:Pl 60 a)(hb:Pl 60 b):PyData.eqv a b=PySem.Spec.same a b:=(SeqAt.same_eq_eqv a b (ha.mix hb)).symm
theorem QW (I:Inv X pins σ H s)(e:Zm G H)(hu:X.A.units+64<cLine){d:PyData}{v:Value}{as:List Addr}(rd:Reads s.heap v d as)(pd:Pl 60 d):∀ {ds:List PyData}{xs:List V}{its:List Value},Zz X.K G xs ds->Vals xs its->(∀ e∈ds,Pl 60 e)->
  (∀ y∈its,SeqAt.EqAt X.A.in1 s y v (XF s d y))/\its.any (XF s d)=ds.any λe=>PySem.Spec.same e d
 | [],_,its,h,r,_=>by
  rw[h.nil] at r
  cases r
  exact ⟨λy hy=>(by cases hy),rfl⟩
 | a::ds,_,its,h,r,hp=>by
  obtain ⟨y,ys,rfl,hd,hr⟩:=h.cons
  cases r with
  | @cons _ u _ us r1 r2=>
   obtain ⟨h1,h2⟩:=QW I e hu rd pd hr r2 λx hx=>hp x (mem_cons_of_mem _ hx)
   obtain ⟨bs,ra⟩:=Dat.reads I e hd r1
   have pa:=hp a mem_cons_self
   have key:XF s d u=PySem.Spec.same a d:=by
    unfold XF
    by_cases h:a=d
    ·subst h;rw[same_self];exact @decide_eq_true _ (Classical.propDecidable _) ⟨_,ra⟩
    ·rw[zeB h]
     exact @decide_eq_false _ (Classical.propDecidable _) λ⟨cs,rc⟩=>h (SeqAt.Reads.unique a d u _ _ pa.lay ra rc)
   refine ⟨λz hz=>?_,by rw[any_cons,any_cons,key,h2]⟩
   rcases mem_cons.mp hz with rfl | hz
   ·rw[key,← zcd pa pd]
    exact SeqAt.eqAt_reads a d X.A.in1 s z v bs as ra rd pa.lay pd.lay (by
     have:=pa.dep
     show X.A.units+1+min a.depth d.depth<cLine
     omega)
   ·exact h1 z hz
def zhV (K:PySem.W.Frag)(neg:Bool):R2:=λx y H Q=>∃ (G:Hp) (d:PyData) (ds:List PyData) (p:Addr) (xs:List V),Zm G H/\Dat K G x d/\y = .ref p/\H p=some (.lst xs)/\Zz K G xs ds/\Pl 60 d/\(∀ e∈ds,Pl 60 e)/\
 Q (.bl (if neg=true then !ds.any (λe=>PySem.Spec.same e d) else ds.any λe=>PySem.Spec.same e d)) H
theorem zb7 {K:PySem.W.Frag}(eK:X.K=K)(hu:X.A.units+64<cLine):OpR X (compareOp .NotIn) (zhV K true):=by
 subst eK
 intro pins s σ H x y v u Q I rx ry h
 obtain ⟨G,d,ds,p,xs,e,hd,rfl,hp,hx,pd,pds,q⟩:=h
 cases ry
 obtain ⟨its,r,pl,hz⟩:=I.list (SqL.of hp)
 obtain ⟨as,rd⟩:=Dat.reads I e hd rx
 obtain ⟨h1,h2⟩:=QW I e hu rd pd hx r pds
 refine SeqAt.notIn_listAt (XF s d) pl.isList (λw hw=>h1 w (by simpa using hw)) ⟨.bl _,H,I,rfl,?_⟩
 rw[show its.toArray.any (XF s d)=its.any (XF s d) by simp,h2]
 exact q
end
section
variable {K:PySem.W.Frag}{σ:St}{G:Hp}{ta tb:TE}
theorem zdL {t:TA}{b:Bool}(h:EvA K t σ G [.bool b]):Ev K (tCB (λxs H Q=>(∃ i,xs=[.int i]/\Q (.int i) H)\/∃ k,xs=[.bl k]/\Q (.int (if k then 1 else 0)) H) t) σ G (.int (if b then 1 else 0)):=
 zch h λG1 H xs Q s1 s2 hx k=>by
  obtain ⟨y,r,rfl,hy,hr⟩:=hx.cons
  cases hr.nil
  cases hy.bl
  exact .inr ⟨b,rfl,k _ G1 H (Yr.refl s2) (Zj _)⟩
end
theorem zcn {x:Str}(h:∀ c∈x.cps.toList,c<128):PyData.canLay0 (.str x)=true:=by
 unfold PyData.canLay0 PyData.strOk
 rw[Array.all_eq_true']
 intro c hc
 have:=h c (Array.mem_toList_iff.mpr hc)
 simp;omega
theorem zaG {n:Nat}{x:Str}(h:∀ c∈x.cps.toList,c<128):Pl n (.str x):=⟨zcn h,by unfold PyData.depth;omega,by unfold noBool;rfl⟩
structure Y4 (fr sc:Scope)(x x2:Str)(cap:List Str):Prop where
 kind:sc.kind = .function
 cell:∀ p∈sc.names,p.2≠.cell
 names:∀ p∈sc.names,p.2 = .local->sc.names.lookup p.1=some .local
 tgt:sc.names.lookup x=some .local
 tgt2:sc.names.lookup x2=some .local
 free:∀ p∈sc.names,p.2 = .free->fr.names.lookup p.1=some .cell
 caps:∀ y∈cap,(y,NameKind.free)∈sc.names
 nd:(x::x2::cap).Nodup
 noboth:∀ y∈cap,sc.names.lookup y≠some .local
section
variable {X:Cx}{pins:List (Addr×Obj)}{σ:St}{H:Hp}{s:Shared}{sc:Scope}{x x2:Str}{cap:List Str}
def zh0 (K:PySem.W.Frag)(J:It)(js:List Nat)(σ:St)(tt:TT)(te:TE)(Q:VK)(W:Nat->Nat->List V->Hp->Prop):Prop:=
 ∀ i m ys H,W i m ys H->ys.length<sizeLine/\
  ((J.stop i H/\∀ p,H p=none->Q (.ref p) (upd H p (.lst ys)))\/
   (J.go i H/\∀ x H',J.yld i H x H' -> ∃ p u1 u2,x = .ref p/\SqT K H' p [u1,u2]/\tt (some u1::some u2::Ju σ js) H' λb H2=>if b=true then te (some u1::some u2::Ju σ js) H2 λv H3=>∃ m',m'<m/\W (i+1) m' (ys++[v]) H3 else ∃ m',m'<m/\W (i+1) m' ys H2))
def zhy (K:PySem.W.Frag)(wi:TI)(js:List Nat)(tt:TT)(te:TE):TE:=fun σ H Q=>wi σ H λJ H1=>∃ W:Nat->Nat->List V->Hp->Prop,(∃ m,W 0 m [] H1)/\zh0 K J js σ tt te Q W
theorem zgF {K:PySem.W.Frag}{J:It}{js:List Nat}{tt:TT}{te:TE}{Q:VK}{W:Nat->Nat->List V->Hp->Prop}(h:zh0 K J js σ tt te Q W):zhd 2 J js σ (zgO K 2 (Vk (WQ 0) (Vk (WQ 1) zgU))) tt te Q W:=λi m ys H w=>by
 obtain ⟨a,b⟩:=h i m ys H w
 refine ⟨a,b.imp id λ⟨go,st⟩=>⟨go,λx H' y ws hw=>?_⟩⟩
 obtain ⟨pv',u1,u2,rfl,hsq,st'⟩:=st x H' y
 match ws,hw with
 | [v,v'],_=>exact ⟨pv',[u1,u2],rfl,hsq,rfl,u1,[u2],rfl,u2,[],rfl,rfl,[some u1,some u2],rfl,rfl,st'⟩
theorem Y4.n {fr:Scope}(S:Y4 fr sc x x2 cap):ZV fr sc [x,x2] cap:=⟨S.kind,S.cell,S.names,S.free,S.caps,S.noboth⟩
theorem Y4.pg (S:Y4 X.env.scope sc x x2 cap)(hc:X.calm=true){px py tpos:Pos}{tk:Nat}(C:Addr)(s0:Shared)(H0:Hp)(ex:List Addr):PG (Z0 X sc ([x,x2]++cap) C s0 H0 ex) (.Tuple [.Name x px,.Name x2 py] tk tpos) (zgO X.K 2 (Vk (WQ 0) (Vk (WQ 1) zgU))):=
 Qu hc (Yk (Z5 S.nd rfl (.inl (lookup_relabel_local S.tgt)) (.inr (lookup_relabel_local S.tgt))) (Yk (Z5 S.nd rfl (.inl (lookup_relabel_local S.tgt2)) (.inr (lookup_relabel_local S.tgt2))) Jh))
theorem zdn (S:Y4 X.env.scope sc x x2 cap){js:List Nat}(hjs:js.map (λj=>X.N[j]?)=cap.map some)(hc:X.calm=true)(hxe:∀ e s,¬ X.xe e s){elt iter:Expr}{ifs:List Expr}{pos px py tpos:Pos}{tk:Nat}{wi:TI}{tt:TT}{te:TE}
  (hi:PI X (.Tuple [.Name x px,.Name x2 py] tk tpos) iter wi) (hb:∀ C s0 H0 ex,PIf (Z0 X sc (x::x2::cap) C s0 H0 ex) ifs tt/\PE (Z0 X sc (x::x2::cap) C s0 H0 ex) elt te)
  (hs:∀ x,foldedSetIterable iter X.env x=pure x:=by intro _;rfl):PE X (.ListComp elt [⟨(.Tuple [.Name x px,.Name x2 py] tk tpos),iter,ifs,0⟩] sc pos) (zhy X.K wi js tt te):=by
 intro pins s σ H Q I h
 rw[eval_ListComp]
 refine wpAny_comprehension_free (use:=none) rfl hs (Wc (S.n.cells I.ok)) S.kind S.names (thn (hi pins s σ H _ I h) λxv s₁ h₁=>thn h₁ λitv s₂ h₂=>?_)
 obtain ⟨it,fp,tn,J,H2,e,I2,T,st2,f2,W,w0,turn⟩:=h₂
 subst e
 refine Ve (xs:=[x,x2]) (Q:=Q) (RR:=λacc C=>compPost (model X.prog X.w) X.A X.xe none (EP X pins σ Q) acc C) S.n hjs (λ_ _ _ _=>hc) (S.pg hc) (λC=>hb C _ _ _) I2 T st2 f2 w0 (zgF turn) ?_
 intro D C s' σ' H' ys its k hD hC J' rv hz q
 obtain ⟨m,hn,_⟩:=J'.loc
 have pinD:=J'.pin (D,{ cls:=.type "list",data:=.seq its.toArray k }) (mem_append_right _ (mem_singleton.mpr rfl))
 exact ⟨m,hn,λh' hs' => ⟨.ref D,_,Qx (xs:=[x,x2]) S.n I2 f2 hD hC J' pinD.2.1 pinD.1 rv hz hs',rfl,q D pinD.2.1⟩⟩
end
section
variable {K:PySem.W.Frag}{B:Hp}{E:Addr->Prop}{G0 H0 G H G' H' : Hp}{σ:St}{ρ:List PV}{F:Nat->List Addr}{ta tb te:TE}{a b d:PyData}{ds es:List PyData}
def Eo (K:PySem.W.Frag)(B:Hp)(t:TO)(ρ:List PV)(o:Option Int):Prop:=∀ G σ,Rx K B G σ ρ->∀ H (Q:Option Int->Hp->Prop),Q o H->t σ H Q
theorem zaB:Eo K B Qq ρ none:=λ_ _ _ _ _ q=>q
theorem zdm {i:Int}:Eo K B (zdZ (tC (.int i))) ρ (some i):=λ_ _ _ _ _ q=>⟨i,rfl,q⟩
abbrev slD (ds:List PyData)(lo hi:Option Int):List PyData:=(ds.drop (HT.sIx ds.length 0 lo)).take (HT.sIx ds.length ds.length hi-HT.sIx ds.length 0 lo)
theorem zfo {tl th:TO}{lo hi:Option Int}(h:Er K B te ρ (.list ds))(hl:Eo K B tl ρ lo)(hh:Eo K B th ρ hi):Er K B (tSl (zgv K) te tl th) ρ (.list (slD ds lo hi)):=λG σ r=>zf6 (h G σ r) (hl G σ r) (hh G σ r)
theorem zel {ta tb:TE}(ha:Ev K ta σ G (.list ds))(hb:Ev K tb σ G (.list es))(hz:ds.length+es.length<=sizeLine):Ev K (tOp zhh ta tb) σ G (.list (ds++es)):=Jz ha hb λG1 H x y Q s1 s2 hx hy k=>by
 obtain ⟨p,xs,rfl,hp,hxs⟩:=hx.lst
 obtain ⟨q,ys,rfl,hq,hys⟩:=hy.lst
 refine ⟨p,q,xs,ys,rfl,rfl,s2 _ _ hp,s2 _ _ hq,by rw[hxs.length,hys.length];exact hz,λl hl=>?_⟩
 have g:=Z4 (o:=.lst (xs++ys)) s2 hl
 exact k _ _ _ g (Ys Zn ((Ye hxs hys).same g.gg))
theorem VD (ha:Er K B ta ρ (.list ds))(hb:Er K B tb ρ (.list es))(hz:ds.length+es.length<=sizeLine):Er K B (tOp zhh ta tb) ρ (.list (ds++es)):=λG σ r=>zel (ha G σ r) (hb G σ r) hz
def EgT (K:PySem.W.Frag)(B:Hp)(t:TT)(ρ:List PV)(R:Bool->List PV->Prop):Prop:=∀ E G0 H0 G H σ F,Rl K B E G0 H0 G H σ ρ F->∀ Q:Bool->Hp->Prop,
 (∀ b ρ' G' H' F',R b ρ' -> Zm G G' -> Rl K B E G0 H0 G' H' σ ρ' F' -> Q b H')->t σ H Q
theorem zcZ {R:Bool->List PV->Prop}(h:Eg K B te ρ λr ρ' => ∃ c,r = .dat (.bool c)/\R c ρ'):EgT K B (zcw te) ρ R:=λE G0 H0 G H σ F r Q q=>
 h E G0 H0 G H σ F r _ λv w ρ1 G1 H1 F1 L hw s1 r1 sl n=>by
  obtain ⟨c,rfl,hR⟩:=hw
  obtain ⟨_,y,hy,hd⟩:=sl
  cases hy
  exact ⟨c,hd.bl,q c ρ1 G1 H1 F1 hR s1 r1⟩
theorem zfD {c:TT}{t u:TS}{R:Pn}(h:EgT K B c ρ λb ρ' => if b=true then Sv K B t ρ' R else Sv K B u ρ' R):Sv K B (ze4 c t u) ρ R:=λE G0 H0 G H σ F D r d=>
 h E G0 H0 G H σ F r _ λc ρ1 G1 H1 F1 hR s1 r1=>by
  cases c with
  | true=>rw[if_pos rfl] at hR ⊢;exact hR E G0 H0 _ _ σ F1 D r1 (d.mono s1)
  | false=>rw[if_neg Bool.false_ne_true] at hR ⊢;exact hR E G0 H0 _ _ σ F1 D r1 (d.mono s1)
theorem zbr {t:TS}{R:Pn}(i:Nat)(hi:ρ[i]?=some (.own ds))(h:Sv K B t (ρ.set i (.dat (.list ds))) R):Sv K B t ρ R:=λE G0 H0 G H σ F D r dn=>by
 obtain ⟨p,xs,e,hx,hp,hd⟩:=r.sl i _ hi
 have hpi:p∈F i:=by rw[e];simp
 obtain ⟨gp,_,_⟩:=r.fr i p hpi
 have h0:=r.ow i ds p hi hpi
 have hlt:i<ρ.length:=(List.getElem?_eq_some_iff.mp hi).1
 have s1:Zm G (upd G p (.lst xs)):=WT gp
 refine h E G0 H0 (upd G p (.lst xs)) H σ (λk=>if k=i then [] else F k) D ⟨⟨r.g.gg.trans s1,λb o eb=>?_,r.g.kp,r.g.al,λb o eb=>?_⟩,r.bb.trans s1,by rw[length_set];exact r.ls,λj v hj=>?_,λj a ha=>?_,λj k a ha hb=>?_,λj ds' a hj ha=>?_⟩ (dn.mono s1)
 ·by_cases z:b=p
  ·subst z;rw[Zn] at eb;rw[hp,eb]
  ·rw[Zk z] at eb;exact r.g.gh b o eb
 ·by_cases z:b=p
  ·subst z;exact .inr h0
  ·rw[Zk z] at eb;exact r.g.fr b o eb
 ·by_cases z:j=i
  ·subst z
   rw[getElem?_set_self hlt] at hj
   cases hj
   rw[if_pos rfl]
   exact ⟨rfl,_,hx,Ys Zn (hd.same s1)⟩
  ·rw[getElem?_set_ne (Ne.symm z)] at hj
   rw[if_neg z]
   exact (r.sl j v hj).grow s1 λ_ _=>rfl
 ·by_cases z:j=i
  ·rw[if_pos z] at ha;cases ha
  ·rw[if_neg z] at ha
   obtain ⟨h1,h2,h3⟩:=r.fr j a ha
   refine ⟨?_,h2,h3⟩
   rw[Zk λq=>by subst q;exact z (r.dj j i a ha hpi)];exact h1
 ·by_cases z:j=i
  ·rw[if_pos z] at ha;cases ha
  ·by_cases z' : k=i
   ·rw[if_pos z'] at hb;cases hb
   ·rw[if_neg z] at ha;rw[if_neg z'] at hb;exact r.dj j k a ha hb
 ·by_cases z:j=i
  ·rw[if_pos z] at ha;cases ha
  ·rw[if_neg z] at ha
   rw[getElem?_set_ne (Ne.symm z)] at hj
   exact r.ow j ds' a hj ha
variable {P:Program}{w:World}
theorem zcH {xs:List V}{lo hi:Option Int}(h:Zz K G xs ds):Zz K G (zde xs lo hi) (slD ds lo hi):=by
 unfold zde slD
 rw[h.length]
 exact Wb _ (Wi _ h)
theorem zcg {i:Nat}{ns:List Int}{tl th:TO}{lo hi:Option Int}(h:ρ[i]?=some (.scr ns))(hl:Eo K B tl ρ lo)(hh:Eo K B th ρ hi):Er K B (tSl (zgv K) (JP i) tl th) ρ (.list (slD (ns.map .int) lo hi)):=λG σ r G1 H s1 s2 Q k=>by
 obtain ⟨a,hx,hq⟩:=r.2.2.2.2.1 i ns h
 refine ⟨_,hx,hl G σ r _ _ (hh G σ r _ _ ⟨a,_,rfl,(s1.trans s2).seq hq,λp hp=>?_⟩)⟩
 have g:=Z4 (o:=.lst (zde (ns.map V.int) lo hi)) s2 hp
 exact k _ _ _ g (Ys Zn (zcH (QK ns)))
theorem zeM {α:Type}(f:α->PyData)(l:List α)(lo hi:Option Int):∃ m:List α,slD (l.map f) lo hi=m.map f/\m.length<=l.length/\∀ x∈m,x∈l:=
 ⟨(l.drop (HT.sIx (l.map f).length 0 lo)).take (HT.sIx (l.map f).length (l.map f).length hi-HT.sIx (l.map f).length 0 lo),by unfold slD;rw[map_take,map_drop],by rw[length_take,length_drop];omega,λx hx=>mem_of_mem_drop (mem_of_mem_take hx)⟩
variable {P:Program}{w:World}{mg:Str->Option Value}{base:Heap}
theorem zgd {p:Addr}{N:List Str}{ns:List Int}(sb:Zm B H)(hq:SqL K H p (ns.map V.int)):Rl K B (λ_=>False) H H H H (start N [.ref p]) (Yc N [.scr ns]) (λ_=>[]):=by
 refine ⟨Gw.refl (Zm.refl _),sb,?_,λi v h=>?_,λ_ _ h=>(by cases h),λ_ _ _ h _=>(by cases h),λ_ _ _ _ h=>(by cases h)⟩
 ·unfold start Yc
  rw[length_append,length_append,length_map,length_replicate,length_replicate];rfl
 ·unfold Yc at h
  unfold start
  cases i with
  | zero=>
   have h:some (PV.scr ns)=some v:=h
   cases h
   exact ⟨rfl,p,rfl,hq⟩
  | succ i=>
   rw[getElem?_append_right (by show 1<=i+1;omega)] at h
   have:=mem_of_getElem? h
   rw[(mem_replicate.mp this).2]
   rfl
theorem Fun.zhB {x qual:Str}{st:Stmt}{f:Addr}{fd:FuncData}{N:List Str}{k:Nat}(Fn:Fun K x qual st f fd)(S:ZK N ["script"] (Zd st))
  (hb:∀ (cdv:Value) (A:Around) (outer:List Env) (s:Shared) (H:Hp) (E:XK),Wu k (A.deeper (envOfC qual (Zd st) s.heap.objs.size f cdv))->∀ ns:List Int,ns.length<=63->
   ∃ t,PSs (WR CX0 P w K mg base N qual (Zd st) f cdv A outer s H E).nox (ZR st) t/\Sv K B0 t (Yc N [.scr ns]) { nx:=λ_=>False,rt:=λr _=>r = .dat (.bool true) }):Xy P w K mg base CX0 (k+1) f fd ["script"] (VB K):=by
 refine Fn.ok S (λvs H Q E h=>?_) λcdv A outer s H vs Q E hr h=>?_
 ·obtain ⟨a,ns,rfl,_⟩:=h
  rfl
 ·obtain ⟨a,ns,rfl,hq,hl,kk⟩:=h
  obtain ⟨t,ht,hs⟩:=hb cdv A outer s H E hr ns hl
  refine ⟨t,ht,hs _ _ _ _ _ _ _ _ (zgd b0 hq) ⟨λe _ r=>e.elim,λe _ r sl n=>?_,λe=>e.elim,λe=>e.elim⟩⟩
  subst e
  obtain ⟨_,y,hy,hd⟩:=sl
  cases hy
  rw[hd.bl]
  exact kk _
end
section
variable {X:Cx}
variable {K:PySem.W.Frag}{B:Hp}{ρ:List PV}{ta te:TE}{ds:List PyData}
theorem zbN {t:TA}{n:Nat}(h:Ea K B t ρ [.int (n:Nat)])(hj:n<2 ^ 60):Ei K B (zcQ t) ρ ((List.range n).map λ(i:Nat)=>PyData.int (i:Nat)):=by
 have:=zfW h ⟨by omega,by omega⟩
 rw[toNat_natCast] at this
 have e:(List.range n).map (λ(i:Nat)=>PyData.int (0+i))=(List.range n).map λ(i:Nat)=>PyData.int (i:Nat):=map_congr_left λi _=>by congr 1;omega
 rwa [e] at this
end
structure TF (K:PySem.W.Frag)(S:Type) where
 pv:S->Addr->List Addr->PV
 I:S->Addr->List Addr->Hp->Hp->Prop
 sl:∀ {s:S}{p:Addr}{fp:List Addr}{G H:Hp}{o:Option (Option V)}{F:List Addr},Sl K G H o (pv s p fp) F↔(F=p::fp/\o=some (some (.ref p))/\I s p fp G H)
 no:∀ s p fp ds,pv s p fp≠.own ds
noncomputable def zid {K:PySem.W.Frag}{S:Type}(I:S->Addr->List Addr->Hp->Hp->Prop) (st:∀ {s:S}{p:Addr}{fp:List Addr}{G H G' H' : Hp},I s p fp G H->Zm G G' -> (∀ a∈p::fp,H' a=H a)->I s p fp G' H') (lv:∀ {s:S}{p:Addr}{fp:List Addr}{G H:Hp},I s p fp G H->∀ a∈p::fp,∃ o,H a=some o):TF K S where
 pv:=λs p fp=>.thg { ok:=λp' fp' G H=>p'=p/\fp'=fp/\I s p fp G H,st:=λ{p' fp' G H G' H'} ⟨h1,h2,h3⟩ sg k=>⟨h1,h2,st h3 sg λa ha=>k a (by rw[h1,h2];exact ha)⟩,live:=λ{p' fp' G H} ⟨h1,h2,h3⟩ a ha=>lv h3 a (by rw[h1,h2] at ha;exact ha) }
 I:=I
 sl:=λ{s p fp G H o F}=>by
  constructor
  ·rintro ⟨p',fp',h1,h2,rfl,rfl,h3⟩;exact ⟨h1,h2,h3⟩
  ·rintro ⟨h1,h2,h3⟩;exact ⟨p,fp,h1,h2,rfl,rfl,h3⟩
 no:=λ_ _ _ _=>nofun
section
variable {K:PySem.W.Frag}{B:Hp}{E:Addr->Prop}{G0 H0 G H G1 H1 G2 H2:Hp}{σ:St}{ρ:List PV}{F:Nat->List Addr}{ta tb te:TE}{a b d:PyData}{ds es:List PyData}{S:Type}{D:TF K S}{s s' : S}{p:Addr}{fp:List Addr}
theorem zha {i0:Nat}(sb:Zm B G)(gh:Zm G H)(hl:σ.length=ρ.length)(h0:ρ[i0]?=some (D.pv s p fp))(hσ:σ[i0]?=some (some (.ref p)))(hI:D.I s p fp G H)(gn:∀ a∈p::fp,G a=none)(lv:∀ a∈p::fp,∃ o,H a=some o)
  (hx:∀ i v,i≠i0->ρ[i]?=some v->Sl K G H σ[i]? v []/\∀ ds,v≠.own ds):Rl K B (· ∈ p::fp) G H G H σ ρ (λk=>if k=i0 then p::fp else []):=by
 refine ⟨Gw.refl gh,sb,hl,λi v h=>?_,λi a ha=>?_,λi j a ha hb=>?_,λi ds' a h ha=>?_⟩
 ·by_cases z:i=i0
  ·subst z
   rw[h0] at h
   cases h
   rw[if_pos rfl]
   exact D.sl.mpr ⟨rfl,hσ,hI⟩
  ·rw[if_neg z];exact (hx i v z h).1
 ·split at ha
  ·exact ⟨gn a ha,lv a ha,.inl ha⟩
  ·cases ha
 ·split at ha
  ·split at hb
   ·omega
   ·cases hb
  ·cases ha
 ·split at ha
  ·rename_i z
   subst z
   rw[h0] at h
   exact absurd (Option.some.inj h) (D.no _ _ _ _)
  ·cases ha
theorem Rl.zgo {i:Nat}(r1:Rl K B E G0 H0 G1 H1 σ ρ F)(hi:ρ[i]?=some (D.pv s p fp))(gw:Gw (· ∈ p::fp) G1 H1 G2 H2)(gn:∀ a∈p::fp,G2 a=none)(lv:∀ a∈p::fp,∃ o,H2 a=some o)(hI:D.I s' p fp G2 H2):Rl K B E G0 H0 G2 H2 σ (ρ.set i (D.pv s' p fp)) F:=by
 obtain ⟨e1,hx,_⟩:=D.sl.mp (r1.sl i _ hi)
 have hlt:i<ρ.length:=(List.getElem?_eq_some_iff.mp hi).1
 refine ⟨⟨r1.g.gg.trans gw.gg,gw.gh,λb o n h=>?_,λb h=>r1.g.al b (gw.al b h),λb o h=>?_⟩,r1.bb.trans gw.gg,by rw[length_set];exact r1.ls,λj v h=>?_,λj a ha=>?_,r1.dj,λj ds' a h ha=>?_⟩
 ·refine gw.kp b o (λz=>?_) (r1.g.kp b o n h)
  rcases (r1.fr i b (by rw[e1];exact z)).2.2 with hE | hE
  ·exact n hE
  ·rw[hE] at h;cases h
 ·rcases gw.fr b o h with h | h
  ·exact r1.g.fr b o h
  ·exact .inr (r1.g.al b h)
 ·by_cases z:j=i
  ·subst z
   rw[getElem?_set_self hlt] at h
   cases h
   exact D.sl.mpr ⟨e1,hx,hI⟩
  ·rw[getElem?_set_ne (Ne.symm z)] at h
   refine (r1.sl j v h).grow gw.gg λa ha=>?_
   obtain ⟨_,⟨o,ho⟩,_⟩:=r1.fr j a ha
   rw[ho]
   exact gw.kp a o (λq=>z (r1.dj j i a ha (by rw[e1];exact q))) ho
 ·obtain ⟨h1,⟨o,h2⟩,h3⟩:=r1.fr j a ha
  by_cases z:a∈p::fp
  ·exact ⟨gn a z,lv a z,h3⟩
  ·refine ⟨?_,⟨o,gw.kp a o z h2⟩,h3⟩
   cases hg:G2 a with
   | none=>rfl
   | some o' =>
    rcases gw.fr a o' hg with h | h
    ·rw[h1] at h;cases h
    ·rw[h2] at h;cases h
 ·by_cases z:j=i
  ·subst z
   rw[getElem?_set_self hlt] at h
   exact absurd (Option.some.inj h) (D.no _ _ _ _)
  ·rw[getElem?_set_ne (Ne.symm z)] at h
   exact r1.ow j ds' a h ha
def spT (D:TF K S)(Pre:S->List PyData->Prop)(R:S->List PyData->PyData->S->Prop):Sp:=λvs H Q _=>∃ (p:Addr) (fp:List Addr) (us:List V) (G:Hp) (s:S) (ds:List PyData),vs = .ref p::us/\Zm G H/\(∀ a∈p::fp,G a=none)/\(∀ a∈p::fp,∃ o,H a=some o)/\D.I s p fp G H/\Zz K G us ds/\Pre s ds/\
 ∀ v x s' G' H',R s ds x s' -> Gw (· ∈ p::fp) G H G' H' -> (∀ a∈p::fp,G' a=none)->(∀ a∈p::fp,∃ o,H' a=some o)->D.I s' p fp G' H' -> Dat K G' v x->Q v H'
theorem Uv {us:List V}{N:List Str}(sb:Zm B G)(gh:Zm G H)(hI:D.I s p fp G H)(gn:∀ a∈p::fp,G a=none)(lv:∀ a∈p::fp,∃ o,H a=some o)(hv:Zz K G us ds):Rl K B (· ∈ p::fp) G H G H (start N (.ref p::us)) (Yc N (D.pv s p fp::ds.map .dat)) (λk=>if k=0 then p::fp else []):=by
 refine zha sb gh ?_ rfl rfl hI gn lv λi v hi0 h=>?_
 ·unfold start Yc
  rw[length_append,length_append,length_map,length_cons,length_cons,length_map,length_replicate,length_replicate,hv.length]
 ·cases i with
  | zero=>exact absurd rfl hi0
  | succ i=>
   have h:(ds.map PV.dat++List.replicate (N.length-(ds.map PV.dat).length.succ) PV.un)[i]?=some v:=h
   show Sl K G H ((us.map some++List.replicate (N.length-us.length.succ) none)[i]?) v []/\_
   by_cases hi:i<ds.length
   ·rw[getElem?_append_left (by rw[length_map];exact hi),getElem?_map,List.getElem?_eq_getElem hi] at h
    cases h
    obtain ⟨x,hx,hxd⟩:=hv.get (List.getElem?_eq_getElem hi)
    exact ⟨⟨rfl,x,by rw[getElem?_append_left (by rw[length_map,hv.length];exact hi),getElem?_map,hx];rfl,hxd⟩,λ_=>nofun⟩
   ·rw[getElem?_append_right (by rw[length_map];omega)] at h
    have:=mem_of_getElem? h
    rw[(mem_replicate.mp this).2]
    exact ⟨rfl,λ_=>nofun⟩
variable {P:Program}{w:World}{mg:Str->Option Value}{base:Heap}
theorem Fun.okT {x qual:Str}{st:Stmt}{f:Addr}{fd:FuncData}{N ps:List Str}{k:Nat}{Pre:S->List PyData->Prop}{R:S->List PyData->PyData->S->Prop}(Fn:Fun K x qual st f fd)(S' : ZK N ps (Zd st))(len:∀ s ds,Pre s ds->ds.length+1=ps.length)
  (hb:∀ (cdv:Value) (A:Around) (outer:List Env) (s:Shared) (H:Hp) (E:XK),Wu k (A.deeper (envOfC qual (Zd st) s.heap.objs.size f cdv))->∀ p fp t0 ds,Pre t0 ds->
   ∃ t,PSs (WR CX0 P w K mg base N qual (Zd st) f cdv A outer s H E).nox (ZR st) t/\Sv K B0 t (Yc N (D.pv t0 p fp::ds.map .dat)) { nx:=fun ρ' => ∃ t1,R t0 ds .none t1/\ρ'[0]?=some (D.pv t1 p fp),rt:=λr ρ' => ∃ d t1,r = .dat d/\R t0 ds d t1/\ρ'[0]?=some (D.pv t1 p fp) }):Xy P w K mg base CX0 (k+1) f fd ps (spT D Pre R):=by
 refine Fn.ok S' (λvs H Q E h=>?_) λcdv A outer s H vs Q E hr h=>?_
 ·obtain ⟨p,fp,us,G,t0,ds,rfl,_,_,_,_,hv,hP,_⟩:=h
  rw[length_cons,hv.length];exact len t0 ds hP
 ·obtain ⟨p,fp,us,G,t0,ds,rfl,sg,gn,lv,hI,hv,hP,kk⟩:=h
  obtain ⟨t,ht,hs⟩:=hb cdv A outer s H E hr p fp t0 ds hP
  refine ⟨t,ht,hs _ _ _ _ _ _ _ _ (Uv b0 sg hI gn lv hv) ⟨λe _ r=>?_,λe _ r sl n=>?_,λe=>e.elim,λe=>e.elim⟩⟩
  ·obtain ⟨t1,hR,h0⟩:=e
   obtain ⟨e1,_,hI'⟩:=D.sl.mp (r.sl 0 _ h0)
   exact kk _ _ t1 _ _ hR r.g (λa ha=>(r.fr 0 a (by rw[e1];exact ha)).1) (λa ha=>(r.fr 0 a (by rw[e1];exact ha)).2.1) hI' XH
  ·obtain ⟨d,t1,rfl,hR,h0⟩:=e
   obtain ⟨e1,_,hI'⟩:=D.sl.mp (r.sl 0 _ h0)
   obtain ⟨_,y,hy,hd⟩:=sl
   cases hy
   exact kk _ _ t1 _ _ hR r.g (λa ha=>(r.fr 0 a (by rw[e1];exact ha)).1) (λa ha=>(r.fr 0 a (by rw[e1];exact ha)).2.1) hI' hd
theorem V9 {Pre:S->List PyData->Prop}{Rf:S->List PyData->PyData->S->Prop}{X:XK}{i:Nat}{t:TA}{R:PV->List PV->Prop}(hi:ρ[i]?=some (D.pv s p fp))
  (h:EgA K B t ρ λds ρ1=>∃ s1,ρ1[i]?=some (D.pv s1 p fp)/\Pre s1 ds/\∀ x s2,Rf s1 ds x s2->R (.dat x) (ρ1.set i (D.pv s2 p fp))):Eg K B (WP (spT D Pre Rf) [] X (YD (JP i) t)) ρ R:=λE G0 H0 G H σ F r Q q=>by
 obtain ⟨_,hx,_⟩:=D.sl.mp (r.sl i _ hi)
 refine ⟨_,hx,h E G0 H0 G H σ F r _ λvs ds ρ1 G1 H1 F1 hh s1 r1 hv=>?_⟩
 obtain ⟨t1,hi1,hP,hk⟩:=hh
 obtain ⟨e1,_,hI⟩:=D.sl.mp (r1.sl i _ hi1)
 rw[append_nil]
 refine ⟨p,fp,vs,G1,t1,ds,rfl,r1.g.gh,λa ha=>(r1.fr i a (by rw[e1];exact ha)).1,λa ha=>(r1.fr i a (by rw[e1];exact ha)).2.1,hI,hv,hP,λv x t2 G2 H2 hR gw gn lv hI2 hd=>?_⟩
 exact q v _ _ G2 H2 F1 [] (hk x t2 hR) (s1.trans gw.gg) (r1.zgo hi1 gw gn lv hI2) ⟨rfl,v,rfl,hd⟩ WK
def EgI (K:PySem.W.Frag)(B:Hp)(wi:TI)(ρ:List PV)(R:List PyData->List PV->Prop):Prop:=∀ E G0 H0 G H σ F,Rl K B E G0 H0 G H σ ρ F->∀ Q:It->Hp->Prop,
 (∀ J ds ρ' G' H' F',R ds ρ' -> Zm G G' -> Rl K B E G0 H0 G' H' σ ρ' F' -> Wd K J G' ds->Q J H')->wi σ H Q
theorem zbR {t:TA}{R:List PyData->List PV->Prop}(h:EgA K B t ρ λds ρ' => ∃ n:Nat,ds=[.int (n:Nat)]/\n<2 ^ 60/\R ((List.range n).map λ(i:Nat)=>PyData.int (i:Nat)) ρ'):EgI K B (zcQ t) ρ R:=λE G0 H0 G H σ F r Q q=>
 h E G0 H0 G H σ F r _ λvs ds ρ1 G1 H1 F1 hR s1 r1 hv=>by
  obtain ⟨n,rfl,hn,hR⟩:=hR
  obtain ⟨y,ys,rfl,hy,hr⟩:=hv.cons
  rw[hr.nil,hy.int]
  have e:(List.range n).map (λ(i:Nat)=>PyData.int (0+i))=(List.range n).map λ(i:Nat)=>PyData.int (i:Nat):=map_congr_left λi _=>by congr 1;omega
  refine ⟨n,rfl,by omega,by omega,q _ _ ρ1 G1 H1 F1 hR s1 r1 ?_⟩
  rw[toNat_natCast,← e]
  exact V1
theorem zax {wi:TI}{g:TG}{tb:TS}{R:Pn}(h:EgI K B wi ρ λds ρ1=>∃ Iv:Nat->List PV->Prop,Iv 0 ρ1/\
   (∀ (i:Nat) (hi:i<ds.length) ρ',Iv i ρ' -> Gt K B g ds[i] ρ' fun ρ2=>Sv K B tb ρ2 { nx:=Iv (i+1),ct:=Iv (i+1),bk:=R.nx,rt:=R.rt })/\∀ ρ',Iv ds.length ρ' -> R.nx ρ'):Sv K B (zgV wi g tb) ρ R:=λE G0 H0 G H σ F D r dn=>by
 refine h E G0 H0 G H σ F r _ λJ ds ρ1 G1 H1 F1 hI s1 r1 W=>?_
 obtain ⟨Iv,h0,hs,hd⟩:=hI
 refine ⟨λi m σ' H' => m=ds.length-i/\i<=ds.length/\∃ ρ' G' F',Iv i ρ' /\ Rl K B E G0 H0 G' H' σ' ρ' F' /\ Zm G1 G',⟨ds.length,by omega,by omega,ρ1,G1,F1,h0,r1,Zm.refl _⟩,?_⟩
 rintro i m σ' H' ⟨rfl,hi,ρ',G',F',hI,r',s'⟩
 by_cases hin:i=ds.length
 ·subst hin
  exact .inl ⟨W.stop _ H' (s'.trans r'.g.gh) rfl,dn.nx (hd ρ' hI) (s1.trans s') r'⟩
 ·have hi' : i<ds.length:=by omega
  refine .inr ⟨W.go i H' (s'.trans r'.g.gh) hi',fun σ2 H2=>∃ ρ2 G2 F2,Iv (i+1) ρ2/\Rl K B E G0 H0 G2 H2 σ2 ρ2 F2/\Zm G1 G2,fun σ2 H2 ⟨ρ2,G2,F2,q⟩=>⟨ds.length-(i+1),by omega,rfl,by omega,ρ2,G2,F2,q⟩,λx H'' hy=>?_⟩
  obtain ⟨G3,g3,hx⟩:=W.yld i H' x H'' G' ds[i] s' r'.g.gh (List.getElem?_eq_getElem hi') hy
  have r3:=r'.grow g3
  have s3:Zm G1 G3:=s'.trans g3.gg
  refine hs i hi' ρ' hI E G0 H0 G3 H'' σ' F' x _ r3 hx fun σ4 ρ4 G4 H4 F4 hP s4 r4=>?_
  have s14:=s3.trans s4
  refine hP E G0 H0 G4 H4 σ4 F4 _ r4 ⟨λhI2 s5 r5=>⟨_,_,_,hI2,r5,s14.trans s5⟩,λhR s5 r5 sl n=>dn.rt hR (s1.trans (s14.trans s5)) r5 sl n,λhR s5 r5=>dn.nx hR (s1.trans (s14.trans s5)) r5,λhI2 s5 r5=>⟨_,_,_,hI2,r5,s14.trans s5⟩⟩
end
theorem zb3 {K:PySem.W.Frag}{B:Hp}{ρ:List PV}{t:TA}{b:Bool}(h:Ea K B t ρ [.bool b]):Er K B (tCB (λxs H Q=>(∃ i,xs=[.int i]/\Q (.int i) H)\/∃ k,xs=[.bl k]/\Q (.int (if k then 1 else 0)) H) t) ρ (.int (if b then 1 else 0)):=λG σ r=>zdL (h G σ r)
theorem VG {K:PySem.W.Frag}{B:Hp}{ρ:List PV}{t u:TS}{R:Pn}(N:List PV->Prop)(h:Sv K B t ρ { R with nx:=N })(k:∀ ρ',N ρ' -> Sv K B u ρ' R):Sv K B (zfT t u) ρ R:=Zt (zf5 h (fun ρ hn=>k ρ hn) (λ_ _ h=>h) (λ_ h=>h) (λ_ h=>h))
section
variable {K:PySem.W.Frag}{B:Hp}{ρ:List PV}{σ:St}{G H:Hp}{te:TE}{a b:PyData}
theorem zdS {x y:V}{js:List Nat}(r:Rx K B G σ ρ)(hx:Dat K G x a)(hy:Dat K G y b):Rx K B G (some x::some y::Ju σ js) (.dat a :: .dat b::zas ρ js):=by
 have r1:=zdB (js:=js) r hy
 refine ⟨r1.1,λk e h=>?_,λk u e h hu=>?_,λk T h=>?_,λk ns h=>?_,λk z h=>?_⟩
 ·cases k with
  | zero=>cases h;exact ⟨x,rfl,hx⟩
  | succ k=>exact r1.2.1 k e h
 ·cases k with
  | zero=>cases h;cases hu
  | succ k=>exact r1.2.2.1 k u e h hu
 ·cases k with
  | zero=>cases h
  | succ k=>exact r1.2.2.2.1 k T h
 ·cases k with
  | zero=>cases h
  | succ k=>exact r1.2.2.2.2.1 k ns h
 ·cases k with
  | zero=>cases h
  | succ k=>exact r1.2.2.2.2.2 k z h
theorem zeK {α:Type}{wi:TI}{js:List Nat}{tt:TT}(as:List α)(ea eb:α->PyData)(f:α->Option PyData)(h:Ei K B wi ρ (as.map λa=>.tuple [ea a,eb a]))(hn:as.length<sizeLine)(hc:∀ a∈as,Lcx K B tt te (.dat (ea a) :: .dat (eb a)::zas ρ js) (f a))
  (r:Rx K B G σ ρ) (s:Zm G H) {Q:VK}(k:∀ p xs G' H',Yr G H G' H' -> H' p=none->Zz K G' xs (as.filterMap f)->Q (.ref p) (upd H' p (.lst xs))):zhy K wi js tt te σ H Q:=by
 refine h G H σ r s _ λJ G2 H2 g2 W=>?_
 have fl:∀ i (hi:i<as.length),((as.take (i+1)).filterMap f)=(as.take i).filterMap f++(f as[i]).toList:=λi hi=>by
  rw[take_succ,List.filterMap_append,List.getElem?_eq_getElem hi]
  show _++List.filterMap f [as[i]]=_
  rw[filterMap_cons]
  cases f as[i] <;> rfl
 refine ⟨λi m ys H' => m=as.length-i/\i<=as.length/\ys.length<=i/\∃ G',Yr G2 H2 G' H' /\ Zz K G' ys ((as.take i).filterMap f),⟨as.length,by omega,by omega,by simp,G2,Yr.refl g2.gh,by simpa using ZL⟩,?_⟩
 rintro i m ys H' ⟨rfl,hi,hl,G',g',hys⟩
 refine ⟨by omega,?_⟩
 have sgh:Zm G2 H' := g'.gg.trans g'.gh
 by_cases hin:i=as.length
 ·subst hin
  refine .inl ⟨W.stop _ H' sgh (by rw[length_map]),λp hp=>?_⟩
  rw[take_length] at hys
  exact k p ys G' H' (g2.trans g') hp hys
 ·have hi' : i<as.length:=by omega
  refine .inr ⟨W.go i H' sgh (by rw[length_map];exact hi'),λx H'' hy=>?_⟩
  obtain ⟨G3,g3,hx⟩:=W.yld i H' x H'' G' (.tuple [ea as[i],eb as[i]]) g'.gg g'.gh (by rw[getElem?_map,List.getElem?_eq_getElem hi'];rfl) hy
  obtain ⟨p,xs,rfl,hp,hx⟩:=hx.tup
  obtain ⟨y,r1,rfl,hy1,hx⟩:=hx.cons
  obtain ⟨z,r2,rfl,hz1,hx⟩:=hx.cons
  cases hx.nil
  have rx:=zdS (js:=js) ((r.mono (g2.gg.trans g'.gg)).mono g3.gg) hy1 hz1
  refine ⟨p,y,z,rfl,g3.gh.tup hp,?_⟩
  rcases hc as[i] (getElem_mem hi') with ⟨d,hf,ht,he⟩ | ⟨hf,ht⟩
  ·refine ht _ _ rx G3 H'' (Zm.refl _) g3.gh _ λG4 H4 g4=>?_
   rw[if_pos rfl]
   refine he _ _ (rx.mono g4.gg) G4 H4 (Zm.refl _) g4.gh _ λv G5 H5 g5 hv=>⟨as.length-(i+1),by omega,rfl,by omega,by rw[length_append];show ys.length+1<=i+1;omega,G5,((g'.trans g3).trans g4).trans g5,?_⟩
   rw[fl i hi',hf]
   exact Wg (hys.same ((g3.gg.trans g4.gg).trans g5.gg)) hv
  ·refine ht _ _ rx G3 H'' (Zm.refl _) g3.gh _ λG4 H4 g4=>?_
   rw[if_neg Bool.false_ne_true]
   refine ⟨as.length-(i+1),by omega,rfl,by omega,by omega,G4,(g'.trans g3).trans g4,?_⟩
   rw[fl i hi',hf]
   show Zz K G4 ys (_++[])
   rw[append_nil]
   exact hys.same (g3.gg.trans g4.gg)
theorem zdy {α:Type}{wi:TI}{js:List Nat}{tt:TT}(as:List α)(ea eb:α->PyData)(f:α->Option PyData)(h:Ei K B wi ρ (as.map λa=>.tuple [ea a,eb a]))(hn:as.length<sizeLine)(hc:∀ a∈as,Lcx K B tt te (.dat (ea a) :: .dat (eb a)::zas ρ js) (f a)):Er K B (zhy K wi js tt te) ρ (.list (as.filterMap f)):=λG σ r G1 H s1 s2 Q k=>
 zeK as ea eb f h hn hc (r.mono s1) s2 λp xs G' H' g hp hd=>by
  have g3:=Z4 (o:=.lst xs) g.gh hp
  exact k _ _ _ (g.trans g3) (Ys Zn (hd.same g3.gg))
end
theorem Xf {α β:Type}{f g:α->Option β}:∀ {l:List α},(∀ x∈l,f x=g x)->l.filterMap f=l.filterMap g
 | [],_=>rfl
 | x::r,h=>by rw[filterMap_cons,filterMap_cons,h x mem_cons_self,Xf λy hy=>h y (mem_cons_of_mem _ hy)]
theorem zcV {α:Type}(xs:List α):(List.range xs.length).filterMap (λk=>xs[xs.length-1-k]?)=xs.reverse:=by
 refine ext_getElem? λi=>?_
 have e:(List.range xs.length).filterMap (λk=>xs[xs.length-1-k]?)=(List.range xs.length).pmap (λk (h:k<xs.length)=>xs[xs.length-1-k]'(by omega)) (λk hk=>mem_range.mp hk):=by
  have key:∀ (l:List Nat) (h:∀ k∈l,k<xs.length),l.filterMap (λk=>xs[xs.length-1-k]?)=l.pmap (λk (h:k<xs.length)=>xs[xs.length-1-k]'(by omega)) h:=by
   intro l
   induction l with
   | nil=>intro h;rfl
   | cons k r ih=>
    intro h
    have hk:=h k mem_cons_self
    rw[filterMap_cons,List.pmap_cons,List.getElem?_eq_getElem (by omega)]
    dsimp only
    rw[ih λj hj=>h j (mem_cons_of_mem _ hj)]
  exact key _ _
 rw[e]
 by_cases hi:i<xs.length
 ·rw[List.getElem?_reverse hi,List.getElem?_eq_getElem (by simp;exact hi),List.getElem?_eq_getElem (by omega)]
  simp
 ·rw[List.getElem?_eq_none (by simp;omega),List.getElem?_eq_none (by simp;omega)]
open PySem PySem.Spec PyProof.Rows StbG
structure zhX {α:Type}(lt:α->α->Bool):Prop where
 irr:∀ a,lt a a=false
 tr:∀ a b c,lt a b=true->lt b c=true->lt a c=true
 tri:∀ a b,lt a b=false->lt b a=false->a=b
theorem U9 {α:Type}{lt:α->α->Bool}(h:zhX lt){a b:List α}(hp:a.Perm b)(ha:a.Pairwise λx y=>lt y x=false)(hb:b.Pairwise λx y=>lt y x=false):a=b:=
 hp.eq_of_pairwise (λx y _ _ h1 h2=>h.tri _ _ h2 h1) ha hb
open PySem PySem.Spec PyProof.Rows StbG J7
noncomputable def zb8 (n:Nat):List (Int×Int):=(List.range n).flatMap λ(i:Nat)=>(List.range n).map λ(j:Nat)=>(Int.ofNat i,Int.ofNat j)
noncomputable def zdw (n:Nat) (ps:List (Int×Int)):List (Int×Int):=(zb8 n).filter λq=>decide (q∈ps)
noncomputable def ltP (a b:Int×Int):Bool:=decide (a.1<b.1\/a.1=b.1/\a.2<b.2)
theorem zcP:zhX ltP:=⟨λa=>decide_eq_false (by omega),λa b c h1 h2=>decide_eq_true (by have:=of_decide_eq_true h1;have:=of_decide_eq_true h2;omega),λa b h1 h2=>by
 have h1:=of_decide_eq_false h1
 have h2:=of_decide_eq_false h2
 exact Prod.ext (by omega) (by omega)⟩
theorem Uo {n:Nat}{q:Int×Int}:q∈zb8 n↔0<=q.1/\q.1<n/\0<=q.2/\q.2<n:=by
 unfold zb8
 rw[mem_flatMap]
 constructor
 ·rintro ⟨i,hi,h⟩
  obtain ⟨j,hj,rfl⟩:=mem_map.mp h
  have hi:=mem_range.mp hi
  have hj:=mem_range.mp hj
  show 0<=(i:Int)/\(i:Int)<n/\0<=(j:Int)/\(j:Int)<n
  omega
 ·intro ⟨h1,h2,h3,h4⟩
  refine ⟨q.1.toNat,mem_range.mpr (by omega),mem_map.mpr ⟨q.2.toNat,mem_range.mpr (by omega),?_⟩⟩
  exact Prod.ext (Int.toNat_of_nonneg h1) (Int.toNat_of_nonneg h3)
theorem zdQ (n:Nat):(zb8 n).Pairwise λx y=>ltP x y=true:=by
 unfold zb8
 refine List.pairwise_flatMap.mpr ⟨λi hi=>?_,?_⟩
 ·rw[pairwise_map]
  exact List.pairwise_lt_range.imp λ{a b} h=>decide_eq_true (.inr ⟨rfl,Int.ofNat_lt.mpr h⟩)
 ·refine List.pairwise_lt_range.imp ?_
  intro a b h x hx y hy
  obtain ⟨_,_,rfl⟩:=mem_map.mp hx
  obtain ⟨_,_,rfl⟩:=mem_map.mp hy
  exact decide_eq_true (.inl (Int.ofNat_lt.mpr h))
theorem zc2 {n:Nat}{ps:List (Int×Int)}(hps:∀ q∈ps,0<=q.1/\q.1<n/\0<=q.2/\q.2<n){q:Int×Int}:q∈zdw n ps↔q∈ps:=by
 unfold zdw
 rw[mem_filter,Uo,decide_eq_true_eq]
 exact ⟨λh=>h.2,λh=>⟨hps q h,h⟩⟩
theorem zbj (n:Nat)(ps:List (Int×Int)):(zdw n ps).Pairwise λx y=>ltP x y=true:=(zdQ n).filter _
theorem zdR (n:Nat)(ps:List (Int×Int)):(zdw n ps).Nodup:=(zbj n ps).imp λh e=>by
 rw[e] at h
 have:=of_decide_eq_true h
 omega
theorem zc9 {n:Nat}{ps rs:List (Int×Int)}(hn:n<=1000)(hps:∀ q∈ps,0<=q.1/\q.1<n/\0<=q.2/\q.2<n)(nd:rs.Nodup)(hm:∀ q,q∈rs↔q∈ps)(hpw:rs.Pairwise (λa b=>a.1*1000+a.2<=b.1*1000+b.2)):rs=zdw n ps:=by
 refine U9 zcP ((List.perm_ext_iff_of_nodup nd (zdR n ps)).mpr λq=>by rw[hm q,zc2 hps]) ?_ ?_
 ·refine List.Pairwise.imp_of_mem (λ{a b} ha hb h=>decide_eq_false ?_) hpw
  have h1:=hps a ((hm a).mp ha)
  have h2:=hps b ((hm b).mp hb)
  omega
 ·exact (zbj n ps).imp λh=>decide_eq_false (by have:=of_decide_eq_true h;omega)
open PySem
theorem V3 (a:Nat):Builtin.bitNot (a:Int) = -(a:Int)-1:=by unfold Builtin.bitNot;omega
theorem zc7 (a b:Nat):Builtin.bitAnd (a:Int) (b:Int)=((a &&& b:Nat):Int):=by
 unfold Builtin.bitAnd
 rw[decide_eq_true (Int.natCast_nonneg a),decide_eq_true (Int.natCast_nonneg b)]
 rfl
theorem zeR (a b:Nat):Builtin.bitOr (a:Int) (b:Int)=((a ||| b:Nat):Int):=by
 unfold Builtin.bitOr
 have ha:¬ (0:Int)<=Builtin.bitNot (a:Int):=by rw[V3];omega
 have hb:¬ (0:Int)<=Builtin.bitNot (b:Int):=by rw[V3];omega
 have nn:∀ c:Nat,Builtin.bitNot (Builtin.bitNot (c:Int))=(c:Int):=λc=>by unfold Builtin.bitNot;omega
 unfold Builtin.bitAnd
 rw[decide_eq_false ha,decide_eq_false hb]
 show Builtin.bitNot (Builtin.bitNot _)=_
 rw[nn,nn a,nn b]
 rfl
theorem zcW (a k:Nat):(a:Int) / 2 ^ (k:Int).toNat=((a >>> k:Nat):Int):=by
 rw[Nat.shiftRight_eq_div_pow,toNat_natCast]
 simp
theorem zgf (a k:Nat):Builtin.bitAnd ((a >>> k:Nat):Int) ((1:Nat):Int)=if a.testBit k then 1 else 0:=by
 rw[zc7,Nat.and_one_is_mod]
 have:a.testBit k=decide (a >>> k % 2=1):=by
  rw[Nat.testBit,Nat.one_and_eq_mod_two]
  rcases Nat.mod_two_eq_zero_or_one (a >>> k) with h | h <;> rw[h] <;> rfl
 rw[this]
 rcases Nat.mod_two_eq_zero_or_one (a >>> k) with h | h <;> rw[h] <;> rfl
mutual
noncomputable def noL:PyData->Bool
 | .list _=>false
 | .tuple ds=>zhZ ds
 | .dict _=>false
 | _=>true
noncomputable def zhZ:List PyData->Bool
 | []=>true
 | d::r=>noL d&&zhZ r
end
theorem Q6 {α:Type}(xs:List α):Jy xs none none (some (-1))=xs.reverse:=by
 unfold Jy
 have e1:sliceBounds none none (some (-1)) xs.length=((xs.length:Int)-1,-1,-1):=by simp[sliceBounds]
 rw[e1]
 dsimp only
 unfold sliceRange
 rw[← zcV,List.filterMap_map]
 have ec:(if (-1:Int)>0 then (if (xs.length:Int)-1 < -1 then (-1-((xs.length:Int)-1) + -1-1) / -1 else 0) else (if (xs.length:Int)-1 > -1 then ((xs.length:Int)-1 - -1 - -1-1) / (- -1) else 0)).toNat=xs.length:=by
  rw[if_neg (by decide)]
  split
  ·have:((xs.length:Int)-1 - -1 - -1-1) / (- -1)=xs.length:=by
    show ((xs.length:Int)-1 - -1 - -1-1) / 1=xs.length
    rw[Int.ediv_one];omega
   rw[this];simp
  ·simp;omega
 rw[show (List.range (if (-1:Int)>0 then (if (xs.length:Int)-1 < -1 then (-1-((xs.length:Int)-1) + -1-1) / -1 else 0) else (if (xs.length:Int)-1 > -1 then ((xs.length:Int)-1 - -1 - -1-1) / (- -1) else 0)).toNat)=List.range xs.length by rw[ec]]
 skip
 refine Xf λk hk=>?_
 have hk' := mem_range.mp hk
 show xs[((xs.length:Int)-1 + -1*(k:Int)).toNat]?=xs[xs.length-1-k]?
 congr 1
 omega
section
variable {K:PySem.W.Frag}{B:Hp}{ρ:List PV}{te ta tb tx:TE}
theorem zgG {ds:List PyData}(h:Er K B te ρ (.list ds))(hz:ds.length<=sizeLine):Er K B (zhO K te Qq Qq (zdZ (tUn (rU λi=>.int (-i)) (tC (.int 1))))) ρ (.list ds.reverse):=λG σ r G1 H s1 s2 Q k=>h G σ r G1 H s1 s2 _ λv G2 H2 g2 hv=>by
 obtain ⟨p,xs,rfl,hp,hx⟩:=hv.lst
 refine ⟨1,rfl,_,rfl,p,xs,rfl,SqL.of (g2.gh _ _ hp),by decide,?_,λl hl=>?_⟩
 ·rw[Q6,List.length_reverse,hx.length];exact hz
 ·rw[Q6]
  have g:=Z4 (o:=.lst xs.reverse) g2.gh hl
  exact k _ _ _ (g2.trans g) (Ys Zn ((Uk hx).same g.gg))
end
open PySem PySem.Spec
def TrD (h base:Heap)(e:Addr)(cls:Value)(dc:Option Addr)(fl:Value):Prop:=
 ∃ (oe:Obj) (vs:Array Value) (T:Addr) (oT:Obj) (ts:Array Value),h.get? e=some oe/\oe.cls=cls/\oe.dict=dc/\(oe.data = .fields vs/\vs[2]?=some .none)/\vs[1]?=some (.ref T)/\
  base.get? T=none/\T≠e/\h.get? T=some oT/\oT.data = .fields ts/\ts[3]?=some fl
def V8 (base:Heap)(l:List Env)(e:Addr)(cls:Value)(dc:Option Addr)(h:Heap):Prop:=base.StaysIn h/\base.get? e=none/\h.FunFrames base l/\TrD h base e cls dc .none
def zg2 (base:Heap)(l:List Env)(e:Addr)(cls:Value)(dc:Option Addr)(L:Addr)(h:Heap):Prop:=base.StaysIn h/\base.get? e=none/\h.FunFrames base l/\TrD h base e cls dc (rawInt L)
theorem zbL (f:Array Value->Array Value)(o:Obj):(Obj.mapFields f o).dict=o.dict:=by
 obtain ⟨c,d,dt,sl⟩:=o
 cases dt <;> rfl
section
variable {M:Model}{A:Around}{E:Value->Shared->Prop}{s:Shared}{base:Heap}{env:Env}{outer:List Env}{L e:Addr}{cls:Value}{dc:Option Addr}{Q:Unit->Shared->Prop}
theorem zdF {oe:Obj}{vs:Array Value}{head:Value}{hadNext:Bool}(fr:A.frames=some (env::outer))(ff:s.heap.FunFrames base (env::outer))(ef:env.frame=some L)
  (ge:s.heap.get? e=some oe) (st:base.StaysIn s.heap) (be:base.get? e=none) (de:oe.data = .fields vs) (v2:vs[2]?=some .none) (sz:1<vs.size)
  (q:∀ h',zg2 base (env::outer) e oe.cls oe.dict L h' -> s.heap.UpToSlots h' -> Q () { s with heap:=h' }):
  wpAny M A (do let a ← frameOf env;let pl ← entryPlaceOf L hadNext;let b ← EntryCells.newEntry head a .none (rawInt L) .none pl;setField (.ref e) 1 b) Q E s:=by
 have ne:e∉(env::outer).filterMap (·.frame):=λm=>by
  obtain ⟨_,o,g,z⟩:=ff.mem m
  rw[ge] at g;cases g;exact z vs de
 refine wpAny_bind (wpAny_frameOf_fun fr ff ef λh1 so=>?_)
 refine wpAny_bind (wpAny_entryPlaceOf λpl hp=>?_)
 unfold EntryCells.newEntry newFields
 refine wpAny_bind (wpAny_newObj_type ?_ (hp.sizeOk5 _ _ _ _ _))
 have g1:h1.get? e=some oe:=(so.2.1 e ne).trans ge
 have st1:base.StaysIn h1:=λb o z=>(so.2.1 b λm=>by rw[(ff.mem m).1] at z;cases z).trans (st b o z)
 generalize hO:({ cls:=.type "traceback",dict:=none,data:=.fields ([head,.ref L,.none,rawInt L,.none]++(if pl.isEmpty then List.replicate 6 Value.none else pl)).toArray }:Obj)=tb
 have hOd:∃ ts:Array Value,tb.data = .fields ts/\ts[3]?=some (rawInt L):=by
  rw[← hO]
  exact ⟨_,rfl,by rcases hp with rfl | ⟨_,_,_,_,_,_,_,rfl⟩ <;> simp⟩
 obtain ⟨ts,t1,t2⟩:=hOd
 have g2:=get?_push_of_some (h:=h1) tb g1
 refine wpAny_setField g2 de sz ?_
 have nT:h1.objs.size≠e:=Nat.ne_of_gt (lt_size g1)
 have d3:=Obj.data_mapFields de (·.setIfInBounds 1 (Value.ref h1.objs.size))
 have g3:=get?_update_self (Obj.mapFields (·.setIfInBounds 1 (Value.ref h1.objs.size))) g2 (Obj.isFreed_of_fields d3)
 have gT:=(get?_update_other (h1.push tb) (Obj.mapFields (·.setIfInBounds 1 (Value.ref h1.objs.size))) (Ne.symm nT)).trans (get?_push_size h1 (Obj.isFreed_of_fields t1))
 have kp:∀ b o,b≠e->h1.get? b=some o->((h1.push tb).update e (Obj.mapFields (·.setIfInBounds 1 (Value.ref h1.objs.size)))).get? b=some o:=λb o nb z=>by
  rw[get?_update_other _ _ (Ne.symm nb)]
  exact get?_push_of_some _ z
 have nr:∀ b o,s.heap.get? b=some o->(∀ vs,o.data≠.fields vs)->b≠e:=λb o z nf m=>by
  rw[m,ge] at z;cases z;exact nf vs de
 refine q _ ⟨λb o z=>kp b o (λm=>by rw[m,be] at z;cases z) (st1 b o z),be,ff.of_keeps λb o z nf=>?_,?_⟩ λb o z nf=>?_
 ·obtain ⟨sl,y⟩:=so.2.2 b o z
  exact ⟨_,kp b _ (nr b o z nf) y,rfl⟩
 ·exact ⟨_,_,h1.objs.size,_,_,g3,Obj.cls_mapFields _ _,zbL _ _,⟨d3,by rw[Array.getElem?_setIfInBounds_ne (by decide)];exact v2⟩,by simp[sz],st1.fresh,nT,gT,t1,t2⟩
 ·obtain ⟨sl,y⟩:=so.2.2 b o z
  exact ⟨sl,kp b _ (nr b o z nf) y⟩
theorem zfp {oe:Obj}{vs:Array Value}(fr:A.frames=some (env::outer))(ff:s.heap.FunFrames base (env::outer))(ef:env.frame=some L)(ge:s.heap.get? e=some oe)(st:base.StaysIn s.heap)(be:base.get? e=none)
  (de:oe.data = .fields vs) (v1:vs[1]?=some .none) (v2:vs[2]?=some .none) (q:∀ h',zg2 base (env::outer) e oe.cls oe.dict L h' -> s.heap.UpToSlots h' -> Q () { s with heap:=h' }):wpAny M A (noteFrame (.ref e) env) Q E s:=by
 unfold noteFrame
 simp only[ef]
 refine wpAny_bind (wpAny_field ge de v1 ?_)
 rw[if_neg (by decide)]
 exact zdF fr ff ef ge st be de v2 (Array.getElem?_eq_some_iff.mp v1).1 q
theorem zhs (fr:A.frames=some (env::outer))(ef:env.frame=some L)(f:V8 base (env::outer) e cls dc s.heap)(q:∀ h',zg2 base (env::outer) e cls dc L h' -> s.heap.UpToSlots h' -> Q () { s with heap:=h' }):
  wpAny M A (noteFrame (.ref e) env) Q E s:=by
 obtain ⟨st,be,ff,oe,vs,T,oT,ts,ge,rfl,rfl,⟨de,v2⟩,v1,bT,nT,gT,dT,t3⟩:=f
 unfold noteFrame
 simp only[ef]
 refine wpAny_bind (wpAny_field ge de v1 ?_)
 rw[if_pos (show (Value.ref T != Value.none)=true from by simp)]
 refine wpAny_bind (wpAny_field gT dT t3 ?_)
 rw[if_neg (show ¬ ((Value.none==rawInt L)=true) from by simp[rawInt])]
 refine wpAny_bind (wpAny_setField gT dT (Array.getElem?_eq_some_iff.mp t3).1 ?_)
 have ot:∀ b,b≠T->(s.heap.update T (Obj.mapFields (·.setIfInBounds 3 Value.none))).get? b=s.heap.get? b:=λb z=>get?_update_other _ _ (Ne.symm z)
 have nr:∀ b o,s.heap.get? b=some o->(∀ vs,o.data≠.fields vs)->b≠T:=λb o z nf m=>by
  rw[m,gT] at z;cases z;exact nf ts dT
 refine zdF fr (ff.of_keeps λb o z nf=>⟨o,(ot b (nr b o z nf)).trans z,rfl⟩) ef ((ot e (Ne.symm nT)).trans ge) (λb o z=>(ot b λm=>by rw[m,bT] at z;cases z).trans (st b o z)) be de v2 (Array.getElem?_eq_some_iff.mp v1).1
  λh' x1 x2=>q h' x1 λb o z nf=>x2 b o ((ot b (nr b o z nf)).trans z) nf
theorem zbh {l:List Env}{fl:Value}(st:base.StaysIn s.heap)(be:base.get? e=none)(ff:s.heap.FunFrames base l)(t:TrD s.heap base e cls dc fl)(q:∀ h',V8 base l e cls dc h' -> s.heap.UpToSlots h' -> Q () { s with heap:=h' }):
  wpAny M A (setFlight (.ref e) none) Q E s:=by
 obtain ⟨oe,vs,T,oT,ts,ge,rfl,rfl,⟨de,v2⟩,v1,bT,nT,gT,dT,t3⟩:=t
 have z3:3<ts.size:=(Array.getElem?_eq_some_iff.mp t3).1
 have ot:∀ b,b≠T->(s.heap.update T (Obj.mapFields (·.setIfInBounds 3 ((none:Option Addr).elim Value.none λf=>rawInt f)))).get? b=s.heap.get? b:=λb z=>get?_update_other _ _ (Ne.symm z)
 have nr:∀ b o,s.heap.get? b=some o->(∀ vs,o.data≠.fields vs)->b≠T:=λb o z nf m=>by
  rw[m,gT] at z;cases z;exact nf ts dT
 unfold setFlight
 refine wpAny_bind (wpAny_field ge de v1 ?_)
 rw[if_pos (show (Value.ref T != Value.none)=true from by simp)]
 refine wpAny_setField gT dT z3 (q _ ⟨λb o z=>(ot b λm=>by rw[m,bT] at z;cases z).trans (st b o z),be,ff.of_keeps λb o z nf=>⟨o,(ot b (nr b o z nf)).trans z,rfl⟩,?_⟩ λb o z nf=>⟨o.slots,(ot b (nr b o z nf)).trans z⟩)
 exact ⟨oe,vs,T,_,_,(ot e (Ne.symm nT)).trans ge,rfl,rfl,⟨de,v2⟩,v1,bT,nT,get?_update_self _ gT (Obj.isFreed_of_fields (Obj.data_mapFields dT _)),Obj.data_mapFields dT _,by simp[z3]⟩
theorem zgi {l:List Env}(x:zg2 base l e cls dc L s.heap)(q:∀ h',V8 base l e cls dc h' -> s.heap.UpToSlots h' -> Q () { s with heap:=h' }):wpAny M A (setFlight (.ref e) none) Q E s:=zbh x.1 x.2.1 x.2.2.1 x.2.2.2 q
theorem zgD {l:List Env}(x:V8 base l e cls dc s.heap)(q:∀ h',V8 base l e cls dc h' -> s.heap.UpToSlots h' -> Q () { s with heap:=h' }):wpAny M A (setFlight (.ref e) none) Q E s:=zbh x.1 x.2.1 x.2.2.1 x.2.2.2 q
theorem V8.tail {h:Heap}(x:V8 base (env::outer) e cls dc h):V8 base outer e cls dc h:=by
 obtain ⟨a,b,⟨_,_,c⟩,d⟩:=x
 exact ⟨a,b,c,d⟩
theorem zeg {oe:Obj}{vs:Array Value}(fr:A.frames=some (env::outer))(ff:s.heap.FunFrames base (env::outer))(ef:env.frame=some L)(ge:s.heap.get? e=some oe)(st:base.StaysIn s.heap)(be:base.get? e=none)
  (de:oe.data = .fields vs) (v1:vs[1]?=some .none) (v2:vs[2]?=some .none) (q:∀ h',V8 base outer e oe.cls oe.dict h' -> s.heap.UpToSlots h' -> Q () { s with heap:=h' }):wpAny M A (leaving env (.ref e)) Q E s:=
 wpAny_bind (zfp fr ff ef ge st be de v1 v2 λh1 x1 u1=>zgi x1 λh2 x2 u2=>q h2 x2.tail (u1.trans u2))
end
theorem V8.obj {base h:Heap}{l:List Env}{e:Addr}{cls:Value}{dc:Option Addr}(x:V8 base l e cls dc h):∃ oe vs,h.get? e=some oe/\oe.cls=cls/\oe.dict=dc/\oe.data = .fields vs/\vs[2]?=some .none:=by
 obtain ⟨_,_,_,oe,vs,_,_,_,a,b,c,⟨d,d2⟩,_⟩:=x
 exact ⟨oe,vs,a,b,c,d,d2⟩
structure zhY (P:Program)(w:World)(outer:List Env)(H H' : Hp)(s:Shared)(a:Addr)(C:Value)(dc:Option Addr)(s' : Shared):Prop where
 os:s'.os=s.os
 bare:AllBare s'.gens
 ex:∃ B:Heap,V8 B outer a C dc s'.heap/\HOk P w H' B/\
  (∀ b o,s.heap.get? b=some o->H b=none->b∉frs outer->B.get? b=some o)/\(∀ b o,s.heap.get? b=some o->b∉frs outer->∃ o',B.get? b=some o')
 free:∀ b o,s.heap.get? b=some o->H b=none->H' b=none
 slot:∀ b o,s.heap.get? b=some o->b∈frs outer->∃ sl,s'.heap.get? b=some { o with slots:=sl }
 tups:∀ b xs,H b=some (.tup xs)->H' b=some (.tup xs)
 frzs:∀ b o u,H b=some (.frz o u)->H' b=some (.frz o u)
 tbls:∀ b cr,H b=some (.tbl cr)->H' b=some (.tbl cr)
def CX1 (P:Program)(w:World):CXT:=λouter H s E e s' => ∃ (a:Addr) (C:Value) (dc:Option Addr) (H' : Hp),e = .ref a/\zhY P w outer H H' s a C dc s' /\ E C dc H'
theorem zcM {P:Program}{w:World}{H:Hp}{h:Heap}{as:List Addr}(x:HOk P w H h)(nf:∀ b∈as,H b=none):HOk P w H (hideAll h as):=λa o e=>
 (x a o e).stay (λb u hb q=>hideAll_get _ q λm=>by
  rcases hb with rfl | hb
  ·rw[nf _ m] at e;cases e
  ·rw[nf _ m] at hb;cases hb) (λ_ q=>q) (λ_ _ q=>q) λ_ _ _ q=>q
section
variable {P:Program}{w:World}{K:PySem.W.Frag}{mg:Str->Option Value}{base:Heap}{N:List Str}{qual:Str}{scope:Scope}{f:Addr}{cd:Value}{A:Around}{outer:List Env}{s:Shared}{H:Hp}{E:XK}{CX:CXT}
theorem zbd {h base:Heap}{l:List Env}(x:h.FunFrames base l){b:Addr}(hb:b∈frs l){o:Obj}(e:h.get? b=some o):∀ vs,o.data≠.fields vs:=by
 obtain ⟨_,o',ho,hn⟩:=x.mem hb
 rw[e] at ho;cases ho;exact hn
theorem Q7 {pins:List (Addr×Obj)}{σ:St}{H1:Hp}{s1:Shared}(I:Inv (WR CX P w K mg base N qual scope f cd A outer s H E) pins σ H1 s1){b:Addr}{o:Obj}(q:s.heap.get? b=some o)(hb:b∉frs outer):
  b∉frs (WR CX P w K mg base N qual scope f cd A outer s H E).stack:=λm=>by
 rcases mem_cons.mp (I.Uy b m) with z | z
 ·have h1:=lt_size q
  have h2:s.heap.objs.size<=b:=by rw[z];exact I.ok.above
  exact absurd (Nat.lt_of_lt_of_le h1 h2) (lt_irrefl _)
 ·exact hb z
theorem QF {pins:List (Addr×Obj)}{σ:St}{H1:Hp}{s1:Shared}{h2:Heap}{e:Addr}{C:Value}{vs:List Value}(I:Inv (WR (CX1 P w) P w K mg base N qual scope f cd A outer s H E) pins σ H1 s1)
  (hx:Heap.MadeExcOf s1.heap h2 e C vs) (he:E C none H1):(WR (CX1 P w) P w K mg base N qual scope f cd A outer s H E).xe (.ref e) { s1 with heap:=h2 }:=by
 have hin:∀ env∈(WR (CX1 P w) P w K mg base N qual scope f cd A outer s H E).stack,∀ b,env.frame=some b->b∈frs (WR (CX1 P w) P w K mg base N qual scope f cd A outer s H E).stack:=λenv he b hb=>mem_filterMap.mpr ⟨env,he,hb⟩
 have noex:∀ b:Addr,b∉(WR (CX1 P w) P w K mg base N qual scope f cd A outer s H E).ex:=λb z=>absurd (show b∈([]:List Addr) from z) (by simp)
 obtain ⟨t0,gx,_,_⟩:=hx.there
 have st:(hideAll s1.heap (frs (WR (CX1 P w) P w K mg base N qual scope f cd A outer s H E).stack)).StaysIn h2:=λb o q=>hx.keeps b o (of_hideAll _ q)
 have ff:=(PySem.W.funFrames_hide I.stack hin).of_keeps (h' := h2) λb o q _=>⟨o,hx.keeps b o q,rfl⟩
 have be:(hideAll s1.heap (frs (WR (CX1 P w) P w K mg base N qual scope f cd A outer s H E).stack)).get? e=none:=by
  cases q:(hideAll s1.heap (frs (WR (CX1 P w) P w K mg base N qual scope f cd A outer s H E).stack)).get? e with
  | none=>rfl
  | some o=>have:=of_hideAll _ q;rw[hx.new] at this;cases this
 refine zeg (s:={ s1 with heap:=h2 }) I.ok.frames ff rfl gx st be rfl rfl rfl λh' x1 x4=>?_
 refine ⟨e,C,none,H1,rfl,⟨I.os,I.bare,⟨_,x1,zcM I.hok I.Vv,λb o q n hb=>?_,λb o q hb=>?_⟩,λb o q n=>I.base.free b o q n (noex b),λb o q hb=>?_,I.base.tups,I.base.frzs,I.base.tbls⟩,he⟩
 ·exact hideAll_get _ (I.base.keep b o q n hb (noex b)) (Q7 I q hb)
 ·obtain ⟨o',q'⟩:=I.base.there b o q (noex b)
  exact ⟨o',hideAll_get _ q' (Q7 I q hb)⟩
 ·obtain ⟨sl,q1⟩:=I.base.slot b o q (I.ok.frf b hb) hb (noex b)
  obtain ⟨sl',q2⟩:=x4 b _ (hx.keeps _ _ q1) λvs z=>zbd I.ok.zaa hb q vs z
  exact ⟨sl',q2⟩
end
section
variable {prog:Program}{w:World}{A:Around}{E:Value->Shared->Prop}{h:Heap}{g:Array GenState}{d:Drawn}{tn:Nat}{os:OsState}{a C:Addr}{o:Obj}{K:PySem.W.Frag}
structure XC (K:PySem.W.Frag)(C:Addr):Prop where
 ga:findIn K (.ref C) "__getattribute__" = some (some (.builtin "BaseException.__getattribute__"))
 gn:findIn K (.ref C) "__getattr__" = some none
 cl:findIn K (.ref C) "__class__" = some (some (.builtin "object.__class__"))
 sb:subIn K (.ref C) (.type "BaseException")=some true
 so:subIn K (.ref C) (.type "object")=some true
 isC:∃ c d' cd sl,K.lookup C=some ⟨c,d',.cls cd,sl⟩
theorem zgc {R:Result->Shared->Prop}(X:K.In h)(c:XC K C)(hx:h.get? a=some o)(hc:o.cls = .ref C)(hq:R (.ok (.ret (.ref C))) ⟨h,g,d,tn,os⟩):
  codeAny (model prog w) A (.call (.builtin "getset_descriptor.__get__") ⟨[.builtin "object.__class__",.ref a,.ref C],[]⟩) R ⟨h,g,d,tn,os⟩:=by
 have ty5:(⟨h,g,d,tn,os⟩:Shared).TypeIs (.builtin "object.__class__") "getset_descriptor" := F.typeOf_object_class
 have L0:Looks (model prog w) h (isSubtype (.ref C) (.type (".".intercalate ("object.__class__".cutAt '.').dropLast))) true:=by rw[F.owner_object_class];exact PySem.W.looks_subIn X c.so
 refine codeAny_call_builtin F.slot_gs_get.plain F.entry_gs_get (F.slot_gs_get.check _ _ _ _ _ _ _ _ ty5 (F.args_gs_get _ _ _) ?_)
 repeat (any_goals (first | assumption | (with_reducible refine wpAny_loadPart_at hx ?_;rw[hc]) | with_reducible refine L0.at ?_ | wp_step))
 refine And.intro (Code.quiet_builtin _ (by decide +kernel)) (codeAny_builtin F.entry_object_class ?_)
 repeat (any_goals (first | assumption | (with_reducible refine wpAny_loadPart_at hx ?_;rw[hc]) | wp_step))
theorem zcO {M:Model}{nameV:Value}{Q:Unit->Shared->Prop}(X:K.In h)(c:XC K C)(hx:h.get? a=some o)(hc:o.cls = .ref C)(hq:Q () ⟨h,g,d,tn,os⟩):wpAny M A (checkBuiltinCall "BaseException.__getattribute__" ⟨[.ref a,nameV],[]⟩) Q E ⟨h,g,d,tn,os⟩:=by
 have k1:builtinKind "BaseException.__getattribute__" = some .slot:=by decide +kernel
 have k2:splitId "BaseException.__getattribute__" = some ("BaseException", "__getattribute__"):=by decide +kernel
 have L0:Looks M h (isSubtype (.ref C) (.type "BaseException")) true:=PySem.W.looks_subIn X c.sb
 have k3:=F.args_bexc_ga (Value.ref a) nameV
 simp only[checkBuiltinCall,k1,k2]
 refine wpAny_bind ?_
 ·unfold isInstance
  repeat (first | (with_reducible refine wpAny_loadPart_at hx ?_;rw[hc]) | with_reducible refine L0.at ?_ | wp_step)
  exact hq
theorem zco {tk:Tok}{Q:PySem.Fin->Shared->Prop}(X:K.In h)(c:XC K C)(hx:h.get? a=some o)(hc:o.cls = .ref C)(hq:Q (.done (.ret (.ref C))) ⟨h,g,d,tn,os⟩):
  wpAny (model prog w) A (Builtin.«object.__getattribute__» ⟨[.ref a,.str "__class__" tk],[]⟩) Q E ⟨h,g,d,tn,os⟩:=by
 have ty5:(⟨h,g,d,tn,os⟩:Shared).TypeIs (.builtin "object.__class__") "getset_descriptor" := F.typeOf_object_class;have y5:=F.typeOf_object_class;have y6:=F.slot_gs_get.lookup;have y7:=F.slot_gs_set.lookup
 have L1:=looks_findIn (M:=model prog w) X c.cl
 repeat (any_goals (first | assumption | (with_reducible refine wpAny_loadPart_at hx ?_;rw[hc]) | with_reducible refine L1.at ?_ | wp_step))
 refine zgc X c hx hc ?_
 repeat any_goals first | assumption | wp_step
theorem zeJ {tk:Tok}{R:Result->Shared->Prop}(X:K.In h)(c:XC K C)(hx:h.get? a=some o)(hc:o.cls = .ref C)(hq:R (.ok (.ret (.ref C))) ⟨h,g,d,tn,os⟩):
  codeAny (model prog w) A (.call (.builtin "BaseException.__getattribute__") ⟨[.ref a,.str "__class__" tk],[]⟩) R ⟨h,g,d,tn,os⟩:=
 codeAny_call_builtin PySem.F.attrBase_ValueError.ga.plain F.entry_bexc_ga (zcO X c hx hc (zco X c hx hc hq))
theorem zhr {tk:Tok}{fill expr:Bool}{Q:Value->Shared->Prop}(X:K.In h)(c:XC K C)(hx:h.get? a=some o)(hc:o.cls = .ref C)(hq:Q (.ref C) ⟨h,g,d,tn,os⟩):
  wpAny (model prog w) A (getAttrBy (.ref a) (.str "__class__" tk) fill expr) Q E ⟨h,g,d,tn,os⟩:=by
 have f3:=PySem.F.attrBase_ValueError.ga.bind (.ref a)
 have n0:(expr&&onTheHeap (Value.builtin "BaseException.__getattribute__"))=false:=by cases expr <;> rfl
 have n2:(Value.builtin "BaseException.__getattribute__" == Value.builtin "object.__getattribute__")=false:=by decide +kernel
 have n1:(onTheHeap (Value.ref C)&&Value.builtin "BaseException.__getattribute__" == Value.builtin "object.__getattribute__")=false:=by rw[n2];rfl
 have L1:=looks_findIn (M:=model prog w) X c.ga
 have L2:=looks_findIn (M:=model prog w) X c.gn
 repeat (any_goals (first | assumption | (with_reducible refine wpAny_loadPart_at hx ?_;rw[hc]) | with_reducible refine L1.at ?_ | with_reducible refine L2.at ?_ | wp_step))
 refine zeJ X c hx hc ?_
 repeat any_goals first | assumption | wp_step
theorem zeT {Q:Option Value->Shared->Prop}(X:K.In h)(c:XC K C)(hx:h.get? a=some o)(hc:o.cls = .ref C)(hq:Q (some (.ref C)) ⟨h,g,d,tn+1,os⟩):
  wpAny (model prog w) A (getAttr? (.ref a) "__class__") Q E ⟨h,g,d,tn,os⟩:=by
 unfold getAttr? getAttrBy?
 repeat (any_goals (first | assumption | with_reducible apply zhr X c hx hc | wp_step))
end
def zgt (a C:Addr)(dc:Option Addr)(h:Heap):Prop:=∃ o,h.get? a=some o/\o.cls = .ref C/\o.dict=dc/\∃ vs,o.data = .fields vs/\vs[2]?=some .none
theorem zc6 {K:PySem.W.Frag}{a C:Addr}{dc:Option Addr}(c:XC K C):PySem.W.KitX K (.ref a) (.ref C) (zgt a C dc) where
 ty:=λM h _ p=>by
  obtain ⟨o,h1,h2,_⟩:=p
  exact h2 ▸ (Looks.ld h1).andThen .now
 it:=λ_ _ X _=>by
  obtain ⟨c',d',cd',sl',ho⟩:=c.isC
  intro A' Q' E' s' k q
  unfold isType loadHead
  refine wpAny_bind (wpAny_loadPart (k _ _ (X _ _ ho)) ?_);exact wpAny_pure q
 ne:=λh tp _ _ _ _ X htp=>by
  obtain ⟨c',d',cd',sl',ho⟩:=c.isC
  apply eq_false_iff.mpr;intro q
  have e:C=tp:=Value.ref.inj (beq_iff_eq.mp q)
  subst e
  cases (X _ _ ho).symm.trans htp
 ca:=λ{_ _ _ _ _ s} X p k=>by
  obtain ⟨hh,g,d,t,os⟩:=s
  obtain ⟨o,h1,h2,_⟩:=p
  exact zeT X c h1 h2 k
abbrev zhS:List Value:=[.type "ValueError",.type "Exception",.type "BaseException",.type "object"]
structure zhT (K:PySem.W.Frag)(mg:Str->Option Value)(x:Str)(C:Addr):Prop where
 m:mg x=some (.ref C)
 c:XC K C
 q:excIn K C zhS "ValueError.__new__" = true
theorem zc8 {K:PySem.W.Frag}{h:Heap}{C:Addr}{bmB:List Value}{newId:String}(Y:K.In h)(q:excIn K C bmB newId=true):
  ∃ bm N nm qn bs hdct sn sub ab col dd k0 k1 k2 k3 k5 mN,h.get? C=some (excClassObj nm qn C N bs bm hdct sn sub ab col dd k0 k1 k2 k3 k5 newId)/\h.Ns N mN/\mN "__init__" = none/\OwnTail h bmB bm:=by
 unfold excIn at q
 split at q
 ·rename_i d1 cl1 sl1 at1
  split at q
  ·rename_i C1 tl1 z0 z1 z2 z3 n1 z5 mr1 sl2
   simp only[beq_iff_eq,and_eq_true,not_eq_true'] at q
   obtain ⟨⟨⟨⟨⟨e1,e2⟩,e3⟩,e4⟩,e5⟩,e6⟩:=q
   subst e1 e2
   obtain ⟨c1,c2,c3,c4,c5,c6,c7,c8,c9,c10,c11⟩:=cl1
   dsimp only at mr1 e3 e5 e6
   subst mr1 e3
   obtain ⟨l⟩:=sl1
   dsimp only at sl2
   subst sl2
   exact ⟨tl1,c4,c1,c5,c2,c6,c7,c8,c9,c10,d1,z0,z1,z2,z3,z5,_,Y _ _ at1,.of_isNs (PySem.W.isNs_of_in Y e5),PySem.W.nsMap_none_of_in Y e5 e6,PySem.W.tail_of_in Y e4⟩
  ·cases q
 ·cases q
section
variable {X:Cx}{x:Str}{C:Addr}{e₀ e:Expr}{es rest:List Expr}{t:TA}{np cpos pos p:Pos}{E:XK}
def Raises (X:Cx)(E:XK):Prop:=∀ (pins:List (Addr×Obj)) (σ:St) (H:Hp) (s:Shared) (h' : Heap) (a:Addr) (C:Value) (vs:List Value),Inv X pins σ H s->Heap.MadeExcOf s.heap h' a C vs->E C none H->X.xe (.ref a) { s with heap:=h' }
def zdD (E:XK)(C:Addr)(t:TA):TS:=λ_ σ H=>t σ H λvs H1=>vs.length<=sizeLine/\E (.ref C) none H1
theorem zcD (rz:Raises X E)(hd:X.A.handled=none)(c:zhT X.K X.mg x C)(hg:Gl X x)(ha:PA X (e₀::rest) t)(he:starEach (e₀::rest) X.env=(false,eval e₀ X.env)::starEach rest X.env:=by rfl)
  (hpl:(backTo cpos (starEach rest X.env)).any (·.1)=false:=by rfl) (hdb:(x==("__debug__" : Str))=false:=by decide):PS X (.Raise (some (.Call (.Name x np) (e₀::rest) [] cpos)) none pos) (zdD E C t):=by
 intro pins s σ H D I h
 obtain ⟨bm,N,nm,qn,bs,hdct,sn,sub,ab,col,dd,k0,k1,k2,k3,k5,mN,hC,hN,hni,T⟩:=zc8 I.ok.mod.kin c.q
 refine wpAny_Raise_call_subT (C:=C) (nm:=nm) (q:=qn) (N:=N) (bs:=bs) (bm:=bm) (hdct:=hdct) (sn:=sn) (sub:=sub) (ab:=ab) (col:=col) (dd:=dd) (k0:=k0) (k1:=k1) (k2:=k2) (k3:=k3) (k5:=k5) PySem.F.excBase_ValueError (mN:=mN) (T.hasType PySem.F.excBase_ValueError.hasBase) hd
  (by rw[he];show (false||(backTo cpos (starEach rest X.env)).any (·.1))=false;rw[hpl];rfl) hni (Ja I hg c.m ⟨rfl,?_⟩ hdb)
 have h2:=ha cpos pins s σ H _ I h
 rw[he] at h2 ⊢
 exact Calls.evalArgs_plain (wpAny_mono h2 (λus s2 ⟨vs,H2,I2,r,z,q⟩=>⟨rfl,by show us.length<=_;rw[← r.length];exact z,I2.bk _ _ hC,hN.keeps I2.bk,T.keeps I2.bk,λh' a hm=>rz pins σ H2 s2 h' a _ us I2 hm q⟩) λ_ _ y=>y)
def XP (X:Cx)(pins:List (Addr×Obj))(σ:St)(E:XK)(e:Value)(s' : Shared):Prop:=∃ H1 s1,Inv X pins σ H1 s1/\CX1 X.prog X.w X.stack H1 s1 E e s'
def PEX (X:Cx)(e:Expr)(t:XK->TE):Prop:=∀ (pins:List (Addr×Obj)) (s:Shared) (σ:St) (H:Hp) (Q:VK) (E:XK),Inv X pins σ H s->t E σ H Q->wpAny (model X.prog X.w) X.A (eval e X.env) (EP X pins σ Q) (XP X pins σ E) s
def PAX (X:Cx)(es:List Expr)(t:XK->TA):Prop:=∀ (pos:Pos) (pins:List (Addr×Obj)) (s:Shared) (σ:St) (H:Hp) (Q:List V->Hp->Prop) (E:XK),Inv X pins σ H s->t E σ H Q->
 wpAny (model X.prog X.w) X.A (spliced (backTo pos (starEach es X.env))) (AP X pins σ Q) (XP X pins σ E) s
theorem zgA (h:PA X.nox es t):PAX X es λ_=>t:=λpos pins s σ H Q E I q=>
 wpAny_mono (h pos pins s σ H Q (I.wish _) q) (λ_ _ ⟨v,H',I',r,z⟩=>⟨v,H',I'.X7,r,z⟩) λ_ _ z=>False.elim z
theorem zcR {k:Nat}{f:Addr}{fd:FuncData}{ps:List Str}{sp:Sp}{ta:XK->TA}(F:Xy X.prog X.w X.K X.mg X.base (CX1 X.prog X.w) k f fd ps sp)(hr:Wu k X.A)(hg:Gl X x)(hm:X.mg x=some (.ref f))(hk:keepIn X.K (.ref f)=true)(hb:Binds X.K fd ps [])
  (ha:PAX X (e::es) ta) (hdb:(x==("__debug__" : Str))=false:=by decide) (he:starEach (e::es) X.env=(false,eval e X.env)::starEach es X.env:=by rfl) (hpl:(backTo pos (starEach es X.env)).any (·.1)=false:=by rfl):
  PEX X (.Call (.Name x p) (e::es) [] pos) λE=>WP sp [] E (ta E):=by
 intro pins s σ H Q E I h
 refine wpAny_Call_Name_kw (Ja I hg hm ?_ hdb)
 refine callWith_K (h₀:=X.base) I.ok.mod.kin hk (thn (ha pos pins s σ H _ E I h) λus s1 ⟨vs,H1,I1,r,q⟩=>⟨I1.kIn,?_⟩) he hpl
 have q:sp vs H1 Q E:=by have q:sp (vs++[]) H1 Q E:=q;rw[append_nil] at q;exact q
 have hl:us.length=ps.length:=by rw[← r.length];exact F.len _ _ _ _ q
 have bb:BindsTo s1 fd ⟨us,[]⟩ (ps.zip us):=by
  have:=hb s1 us I1.kIn (by rw[append_nil];exact hl)
  rw[append_nil] at this;exact this
 refine wpAny_call (codeAny_mono (F.run X.A X.stack s1 H1 ⟨us,[]⟩ us vs Q E hr I1.env0 bb r q) λrr s' hq=>?_)
 cases rr with
 | error x=>exact ⟨H1,s1,I1,hq⟩
 | ok fl=>
  cases fl with
  | ret u=>exact I1.after hq
  | next=>exact False.elim hq
  | brk=>exact False.elim hq
  | cont=>exact False.elim hq
end
abbrev xcO (a C:Addr)(dc:Option Addr):HO:=.ext (zgt a C dc)
theorem zfs {P:Program}{w:World}{H:Hp}{h:Heap}{a C:Addr}{dc:Option Addr}(p:zgt a C dc h):Yh P w H h a (xcO a C dc):=
 ⟨p,⟨p.choose,p.choose_spec.1⟩,λh1 h2 ⟨o,e,c⟩ k=>⟨o,k o e,c⟩⟩
abbrev Cx.marked (X:Cx)(a:Addr):Cx:={ X with A:=X.A.mark (some (.ref a)),calm:=false }
section
variable {X:Cx}{pins:List (Addr×Obj)}{σ:St}{H H1 H2:Hp}{s s1 s' : Shared}{a C:Addr}
theorem Inv.marked (I:Inv X pins σ H s)(a:Addr):Inv (X.marked a) pins σ H s:=
 ⟨⟨I.ok.mod,I.ok.kind,I.ok.glob,I.ok.blt,I.ok.above,I.ok.inj,I.ok.has,I.ok.cab,λz=>(by cases z),I.ok.frames,I.ok.stk,I.ok.exf,I.ok.bs,I.ok.bsz,I.ok.noex,I.ok.exfs,I.ok.zaa,I.ok.frf⟩,I.os,I.bare,I.base,I.loc,I.cell,I.free,I.freeC,I.pin,I.hok,I.len⟩
theorem Inv.unmarked (I0:Inv X pins σ H s){pins' : List (Addr×Obj)}{σ' : St}(I:Inv (X.marked a).nox pins' σ' H1 s1):Inv X pins' σ' H1 s1:=⟨I0.ok,I.os,I.bare,I.base,I.loc,I.cell,I.free,I.freeC,I.pin,I.hok,I.len⟩
theorem zcK {h:Heap}{B:Heap}{tk:Nat}{dc:Option Addr}(I:Inv X pins σ H1 s1)(fl:zhY X.prog X.w X.stack H1 H2 s1 a (.ref C) dc s')(hokB:HOk X.prog X.w H2 B)
  (keep:∀ b o,s1.heap.get? b=some o->H1 b=none->b∉frs X.stack->B.get? b=some o) (there:∀ b o,s1.heap.get? b=some o->b∉frs X.stack->∃ o',B.get? b=some o')
  (f:V8 B X.stack a (.ref C) dc h) (up:s'.heap.UpToSlots h):Inv X pins σ H2 { s' with heap:=h,toks:=tk }/\Inv X pins σ (upd H2 a (xcO a C dc)) { s' with heap:=h,toks:=tk }/\H2 a=none/\zgt a C dc h:=by
 obtain ⟨stays,Bn,ff,_⟩:=id f
 have exat:zgt a C dc h:=by
  obtain ⟨oe,vs,e1,e2,e3,e4⟩:=f.obj
  exact ⟨oe,e1,e2,e3,vs,e4⟩
 have slot:∀ b o,s1.heap.get? b=some o->b∈frs X.stack->∃ sl,h.get? b=some { o with slots:=sl }:=λb o q hb=>by
  obtain ⟨sl,q1⟩:=fl.slot b o q hb
  obtain ⟨sl',q2⟩:=up b _ q1 λvs z=>zbd I.stack hb q vs z
  exact ⟨sl',q2⟩
 have hH:H2 a=none:=by
  cases q:H2 a with
  | none=>rfl
  | some u=>
   have hl:∃ o,B.get? a=some o:=by
    have ho:=hokB a u q
    cases u with
    | lst xs=>obtain ⟨_,_,_,_,e⟩:=ho;exact ⟨_,e⟩
    | tup xs=>obtain ⟨_,_,_,⟨o,e,_⟩,_⟩:=ho;exact ⟨_,e⟩
    | dK kvs=>obtain ⟨_,_,_,_,o,_,_,e,_⟩:=ho;exact ⟨_,e⟩
    | dT kvs=>obtain ⟨_,_,_,_,o,_,_,e,_⟩:=ho;exact ⟨_,e⟩
    | set S n=>obtain ⟨o,_,_,_,e,_⟩:=ho;exact ⟨_,e⟩
    | ins C dx fs=>obtain ⟨_,_,_,e,_⟩:=ho;exact ⟨_,e⟩
    | own y=>exact ho
    | xd fs=>obtain ⟨_,⟨_,_,_,e,_⟩,_⟩:=ho;exact ⟨_,e⟩
    | rng lo hi=>obtain ⟨_,_,_,e⟩:=ho;exact ⟨_,e⟩
    | frz ob u=>exact ⟨_,ho.1⟩
    | tbl cr=>obtain ⟨_,e,_⟩:=ho;exact ⟨_,e⟩
    | met f y=>exact ⟨_,ho⟩
    | ext φ=>exact ho.2.1
   obtain ⟨o,e⟩:=hl
   rw[Bn] at e;cases e
 have nfr:a∉frs X.stack:=λhb=>by
  obtain ⟨oe,vs,e1,_,_,e3⟩:=f.obj
  exact zbd ff hb e1 vs e3.1
 have new:s1.heap.get? a=none:=by
  cases q:s1.heap.get? a with
  | none=>rfl
  | some o=>
   obtain ⟨o',e⟩:=there a o q nfr
   rw[Bn] at e;cases e
 have th:∀ b o,s1.heap.get? b=some o->∃ o',h.get? b=some o' := λb o q=>by
  by_cases hb:b∈frs X.stack
  ·obtain ⟨sl,e⟩:=slot b o q hb;exact ⟨_,e⟩
  ·obtain ⟨o',e⟩:=there b o q hb;exact ⟨o',stays _ _ e⟩
 have h1:HOk X.prog X.w H2 h:=hokB.kept stays
 have na:∀ {b:Addr}{u:HO},H2 b=some u->b≠a:=λe z=>by rw[z,hH] at e;cases e
 refine ⟨I.call' (ch:=[]) fl.os ⟨λb o q n hb _=>stays _ _ (keep b o q n hb),λb o q _ hb _=>slot b o q hb,λb o q n _=>fl.free b o q n,λb o q _=>th b o q,fl.tups,fl.frzs,fl.tbls⟩ h1 fl.bare (λ_ z=>nomatch z),
  I.call' (ch:=[]) fl.os ⟨λb o q n hb _=>stays _ _ (keep b o q n hb),λb o q _ hb _=>slot b o q hb,λb o q n _=>?_,λb o q _=>th b o q,λb xs q=>?_,λb o u q=>?_,λb cr q=>?_⟩ (λb u e=>?_) fl.bare (λ_ z=>nomatch z),hH,exat⟩
 ·rw[Zk (λz=>by rw[z,new] at q;cases q)];exact fl.free b o q n
 ·have:=fl.tups b xs q;rw[Zk (na this)];exact this
 ·have:=fl.frzs b o u q;rw[Zk (na this)];exact this
 ·have:=fl.tbls b cr q;rw[Zk (na this)];exact this
 ·by_cases z:b=a
  ·subst z;rw[Zn] at e;cases e;exact zfs exat
  ·rw[Zk z] at e
   exact (h1 b u e).stay (λ_ _ _ q=>q) (λc q=>by rw[Zk (na q)];exact q) (λc xs q=>by rw[Zk (na q)];exact q) λc o u q=>by rw[Zk (na q)];exact q
theorem We {M:Model}{A:Around}{E:Value->Shared->Prop}{n:Str}{j:Nat}{pos:Pos}{Q:Unit->Shared->Prop}(I:Inv X pins σ H s)(hN:X.N.Nodup)(hj:X.N[j]?=some n)(hl:X.env.kindOf n=some .local)
  (h:∀ s',Inv X pins (σ.set j none) H s' -> Q () s'):wpAny M A (do bindName X.env n .none;unbindBehindTheSuite X.env n pos) Q E s:=by
 obtain ⟨m,hn,hm⟩:=id I.loc
 refine wpAny_nameGoes_keeps hl hn (by rw[I.ok.kind];rfl) λh' v hn' hs=>h _ ?_
 have cne:=I.cne
 have below:∀ b o,X.s₀.heap.get? b=some o->b≠X.env.locals:=λb o e=>ne_of_lt (Nat.lt_of_lt_of_le (lt_size e) I.ok.above)
 refine ⟨I.ok,I.os,I.bare,⟨λb o e k hb hx=>(hs.2 b (below b o e)).trans (I.base.keep b o e k hb hx),λb o e k hb hx=>?_,I.base.free,λb o e hx=>?_,I.base.tups,I.base.frzs,I.base.tbls⟩,⟨_,hn',λi y v' e1 e2 e3=>?_⟩,λy c e=>?_,I.free,I.freeC,λp hp=>?_,λb ob e=>?_,by simpa using I.len⟩
 ·obtain ⟨sl,e1⟩:=I.base.slot b o e k hb hx
  exact ⟨sl,(hs.2 b (below b o e)).trans e1⟩
 ·obtain ⟨o',e1⟩:=I.base.there b o e hx
  exact ⟨o',(hs.2 b (below b o e)).trans e1⟩
 ·by_cases ij:i=j
  ·subst ij
   have:i<σ.length:=by rw[I.len];exact (List.getElem?_eq_some_iff.mp hj).1
   rw[getElem?_set_self this] at e2;cases e2
  ·rw[getElem?_set_ne (Ne.symm ij)] at e2
   obtain ⟨u',r',q⟩:=hm i y v' e1 e2 e3
   refine ⟨u',r',?_⟩
   rcases q with ⟨k,e⟩ | ⟨k,c,e,z⟩
   ·have ne:y≠n:=λz=>ij (Ql hN e1 (z ▸ hj))
    exact .inl ⟨k,by simp[ne,e]⟩
   ·exact .inr ⟨k,c,e,z.sameBut hs (cne y c e)⟩
 ·obtain ⟨w',z⟩:=I.cell y c e
  exact ⟨w',z.sameBut hs (cne y c e)⟩
 ·obtain ⟨e,k,ne,nf,d⟩:=I.pin p hp
  exact ⟨(hs.2 p.1 ne).trans e,k,ne,nf,d⟩
 ·refine (I.hok b ob e).stay (λc u hc q=>(hs.2 c ?_).trans q) (λ_ q=>q) (λ_ _ q=>q) λ_ _ _ q=>q
  rintro rfl
  rcases hc with z | z
  ·rw[← z,I.free] at e;cases e
  ·rw[I.free] at z;cases z
end
noncomputable def Ends.gone (D:Ends) (j:Nat):Ends:={ nx:=fun σ H=>D.nx (σ.set j none) H,rt:=D.rt,bk:=fun σ H=>D.bk (σ.set j none) H,ct:=fun σ H=>D.ct (σ.set j none) H }
def exK (K:PySem.W.Frag)(CO:Addr)(j:Nat)(ts:TS)(D:Ends)(σ:St):XK:=λC dc H2=>∃ Ca,C = .ref Ca/\exmOne K (.ref Ca) (.ref CO)=some true/\∀ a,H2 a=none->ts (D.gone j) (σ.set j (some (.ref a))) (upd H2 a (xcO a Ca dc))
section
variable {X:Cx}{pins:List (Addr×Obj)}{σ:St}{H H1 H2:Hp}{s s1 s' : Shared}{D:Ends}{CO:Addr}{cn n x:Str}{i j:Nat}{b₀:Stmt}{suite:List Stmt}{np pos hpos px apos:Pos}{ts:TS}{e:Expr}{te:XK->TE}
theorem caught {ev:Value}(hst:X.stack=X.env::X.outer)(hfr:X.env.frame=some X.env.locals)(I:Inv X pins σ H1 s1)(c:CX1 X.prog X.w X.stack H1 s1 (exK X.K CO j ts D σ) ev s')(hgc:Gl X cn)(mc:X.mg cn=some (.ref CO))(hN:X.N.Nodup)(hj:X.N[j]?=some n)
  (hl:X.env.kindOf n=some .local) (hsu:∀ a,PSs (X.marked a).nox (b₀::suite) ts) (hdb:(cn==("__debug__" : Str))=false:=by decide):
  wpAny (model X.prog X.w) X.A (noteFrame ev X.env) (λ_ s₂=>wpAny (model X.prog X.w) X.A (setFlight ev none) (λ_ s₃=>
   wpAny (model X.prog X.w) X.A (handleBy ev X.env [.ExceptHandler (some (.Name cn np)) (some n) (b₀::suite) hpos]) (SP X pins D) X.xe s₃) X.xe s₂) X.xe s' := by
 obtain ⟨a,C,dc,H2,rfl,fl,Ca,rfl,hm,hk⟩:=c
 obtain ⟨B,hf,hokB,keep,there⟩:=fl.ex
 have hf1:=hf
 rw[hst] at hf1
 refine zhs (L:=X.env.locals) (hst ▸ I.ok.frames) hfr hf1 λh4 held4 up4=>?_
 refine zgi held4 λh5 fly5 up5=>?_
 have land:=λ{h:Heap}{tk:Nat}(f:V8 B (X.env::X.outer) a (.ref Ca) dc h) (up:s'.heap.UpToSlots h)=>zcK (tk:=tk) I fl hokB keep there (by rw[hst];exact f) up
 obtain ⟨I5,_,h2a,ex5⟩:=land (tk:=s'.toks) fly5 (up4.trans up5)
 refine wpAny_handleBy_cons (codeAny_handlers_test (Ja (X:=X.marked a) (I5.marked a) hgc mc ?_ hdb)) (by intro q;cases q)
 obtain ⟨oe,oe1,oe2,_⟩:=ex5
 refine (PySem.W.exm_one (K:=X.K) (cls:=.ref Ca) I5.kIn (oe2 ▸ (Looks.ld oe1).andThen .now) hm).here ?_
 rw[if_pos rfl]
 refine codeAny_handlers_suite_as (zgD fly5 λh6 fly6 up6=>?_)
 obtain ⟨_,I6,_,_⟩:=land (tk:=s'.toks) fly6 ((up4.trans up5).trans up6)
 refine W3 (X:=X.marked a) (v:=.ref a) (I6.marked a) hN hj (.inl hl) rfl (λs7 I7=>?_) (.inr hl)
 refine wpAny_mono (hsu a pins s7 _ _ (D.gone j) (I7.wish _) (hk a h2a)) (λfw s8 hq=>?_) λ_ _ z=>z.elim
 cases fw with
 | next=>obtain ⟨σ',H',I',q⟩:=hq;exact We (I.unmarked I') hN hj hl λs9 I9=>⟨_,H',I9,q⟩
 | brk=>obtain ⟨σ',H',I',q⟩:=hq;exact We (I.unmarked I') hN hj hl λs9 I9=>⟨_,H',I9,q⟩
 | cont=>obtain ⟨σ',H',I',q⟩:=hq;exact We (I.unmarked I') hN hj hl λs9 I9=>⟨_,H',I9,q⟩
 | ret u=>obtain ⟨v,σ',H',I',r,q⟩:=hq;exact We (I.unmarked I') hN hj hl λs9 I9=>⟨v,_,H',I9,r,q⟩
def zeE (K:PySem.W.Frag)(CO:Addr)(i j:Nat)(te:XK->TE)(ts:TS):TS:=λD σ H=>te (exK K CO j ts D σ) σ H λv H1=>D.nx (σ.set i (some v)) H1
theorem zeP (he:PEX X e te)(hst:X.stack=X.env::X.outer)(hfr:X.env.frame=some X.env.locals)(hN:X.N.Nodup)(hi:X.N[i]?=some x)(hx:Loc X.env.scope x)(hgc:Gl X cn)(mc:X.mg cn=some (.ref CO))(hj:X.N[j]?=some n)(hl:X.env.kindOf n=some .local)
  (hsu:∀ a,PSs (X.marked a).nox (b₀::suite) ts) (hdb:(cn==("__debug__" : Str))=false:=by decide) (hs:swapsWith e (some (.Name x px)) apos.line X.env=pure false:=by rfl) (hf:X.fn x=true\/X.env.scope.names.lookup x=some .local:=by first | exact .inl rfl | exact .inr rfl | assumption):
  PS X (.Try [.Assign [.Name x px] e apos] [.ExceptHandler (some (.Name cn np)) (some n) (b₀::suite) hpos] [] [] pos) (zeE X.K CO i j te ts):=by
 intro pins s σ H D I h
 refine wpAny_Try_except (wpAny_execs_cons (wpAny_Assign_Name (wpAny_mono (he pins s σ H _ _ I h) (λv s1 ⟨y,H1,I1,r1,q1⟩=>?_) λev s1 ⟨H1,s2,I1,c⟩=>caught hst hfr I1 c hgc mc hN hj hl hsu hdb) hs))
 exact W3 I1 hN hi hx r1 (λs2 I2=>wpAny_execs_nil (wpAny_execs_nil ⟨_,H1,I2,q1⟩)) hf
end
noncomputable def ze2:V->Option Value
 | .ref a=>some (.ref a)
 | .ty n=>some (.type n)
 | _=>none
theorem zbB {v:V}{u u' : Value}(r:RelV v u)(e:ze2 v=some u'):u=u' := by
 cases v <;> first | cases e | skip
 ·exact r
 ·exact r
theorem Ul:∀ {vs:List V}{us us' : List Value},Vals vs us->vs.map ze2=us'.map some->us=us'
 | _,_,[],.nil,_=>rfl
 | _,_,_::_,.nil,e=>by cases e
 | _,_,[],.cons _ _,e=>by cases e
 | _,_,u'::us',.cons r t,e=>by
  rw[map_cons,map_cons] at e
  injection e with e1 e2
  rw[zbB r e1,Ul t e2]
inductive zgs (K:PySem.W.Frag) (H:Hp):V->Value->Prop where
 | non:zgs K H .non (.type "NoneType")
 | exc {a C:Addr}{dc:Option Addr}(e:H a=some (xcO a C dc)) (c:XC K C):zgs K H (.ref a) (.ref C)
theorem zgs.kit {X:Cx}{pins:List (Addr×Obj)}{σ:St}{H:Hp}{s:Shared}{x:V}{t u:Value}(I:Inv X pins σ H s)(r:RelV x u)(k:zgs X.K H x t):∃ Z,PySem.W.KitX X.K u t Z/\Z s.heap/\u≠.builtin "__main__.__loader__#opaque" := by
 cases k with
 | non=>cases (show u=Value.none from r);exact ⟨_,kitx_none,True.intro,λz=>nomatch z⟩
 | @exc a C dc e c=>
  cases (show u=Value.ref a from r)
  exact ⟨_,zc6 c,(show Yh X.prog X.w H s.heap a (xcO a C dc) from I.hok a _ e).1,λz=>nomatch z⟩
def zhJ (K:PySem.W.Frag):List V->Hp->VK->Prop:=λxs H Q=>∃ x c t b,xs=[x,c]/\zgs K H x t/\
 ((∃ u,ze2 c=some u/\kitOne K t u=some b)\/∃ tp cs us,c = .ref tp/\H tp=some (.tup cs)/\cs.map ze2=us.map some/\kitAny K t us=some b)/\Q (.bl b) H
theorem Qp {X:Cx}{K:PySem.W.Frag}(eK:X.K=K):Jb X (.builtin "isinstance") (zhJ K):=by
 subst eK
 rintro pins s σ H xs us Q I r ⟨x,c,t,b,rfl,kx,hc,q⟩
 cases r with
 | cons r1 r' =>
  cases r' with
  | cons r2 r'' =>
   cases r''
   obtain ⟨Z,kz,z,hne⟩:=kx.kit I r1
   rcases hc with ⟨u,e1,e2⟩ | ⟨tp,cs,us,rfl,ht,e1,e2⟩
   ·rw[zbB r2 e1]
    exact kia_one kz I.kIn z e2 hne λtk=>⟨.bl b,H,I.tok _,rfl,q⟩
   ·cases (show _=Value.ref tp from r2)
    obtain ⟨_,its,rv,⟨o,o1,o2,n,o3⟩,_⟩:=(show Yh X.prog X.w H s.heap tp (.tup cs) from I.hok tp _ ht)
    obtain ⟨cls,dct,dt,sl⟩:=o
    dsimp only at o2 o3
    subst o2 o3
    rw[Ul rv e1] at o1
    exact PySem.W.kia_tup kz I.kIn z o1 e2 hne λtk=>⟨.bl b,H,I.tok _,rfl,q⟩
def XEnd (K:PySem.W.Frag)(G H:Hp)(Q:VK)(E:XK):Except Addr PyData->Prop
 | .ok d=>∀ v G' H',Yr G H G' H' -> Dat K G' v d->Q v H'
 | .error C=>∀ H',Zm H H' -> E (.ref C) none H'
def spX (K:PySem.W.Frag)(R:List PyData->Except Addr PyData->Prop):Sp:=λvs H Q E=>∃ (G:Hp) (ds:List PyData) (r:Except Addr PyData),Zm G H/\Zz K G vs ds/\R ds r/\XEnd K G H Q E r
section
variable {K:PySem.W.Frag}{B:Hp}{ρ:List PV}{te ta tb tx:TE}{G0 H0 G H:Hp}{σ:St}{F:Nat->List Addr}{Z:Hp->Prop}{R:List PyData->Except Addr PyData->Prop}{Ek:XK}{t:TA}{ds:List PyData}{d:PyData}{C:Addr}
theorem Uq (h:Ea K B t ρ ds)(hR:R ds (.ok d)):Er K B (WP (spX K R) [] Ek t) ρ d:=λG σ r G1 H s1 s2 Q k=>by
 refine h G σ r G1 H s1 s2 _ λvs G2 H2 g hv=>?_
 rw[append_nil]
 exact ⟨G2,ds,.ok d,g.gh,hv,hR,λv G' H' g' hv=>k v G' H' (g.trans g') hv⟩
def ErX (K:PySem.W.Frag)(B:Hp)(te:XK->TE)(ρ:List PV)(C:Addr):Prop:=∀ (E:XK) (G:Hp) (σ:St),Rx K B G σ ρ->∀ G1 H,Zm G G1->Zm G1 H->(∀ H',Zm H H' -> E (.ref C) none H')->∀ Q,te E σ H Q
theorem zc0 (h:Ea K B t ρ ds)(hR:R ds (.error C)):ErX K B (λE=>WP (spX K R) [] E t) ρ C:=λE G σ r G1 H s1 s2 z Q=>by
 refine h G σ r G1 H s1 s2 _ λvs G2 H2 g hv=>?_
 rw[append_nil]
 exact ⟨G2,ds,.error C,g.gh,hv,hR,λH' s' => z H' (g.hh.trans s')⟩
def SvX (Z:Hp->Prop)(K:PySem.W.Frag)(B:Hp)(t:TS)(ρ:List PV)(R:Pn):Prop:=∀ G0 H0 G H σ F D,(∀ H',Zm H0 H' -> Z H')->Rl K B (λ_=>False) G0 H0 G H σ ρ F->Dn K B (λ_=>False) G0 H0 G R D->t D σ H
theorem svX {t:TS}{R:Pn}(h:Sv K B t ρ R):SvX Z K B t ρ R:=λG0 H0 G H σ F D _=>h _ G0 H0 G H σ F D
theorem zef {t u:TS}{R:Pn}(h:Sv K B t ρ { R with nx:=fun ρ' => SvX Z K B u ρ' R }):SvX Z K B (zfT t u) ρ R:=λG0 H0 G H σ F D z r d=>
 h _ G0 H0 G H σ F { D with nx:=u D } r ⟨λhs s r' => hs G0 H0 _ _ _ _ D z r' (d.mono s),d.rt,d.bk,d.ct⟩
theorem zct {t u:TS}{R:Pn}(h:SvX Z K B t ρ { R with nx:=fun ρ' => SvX Z K B u ρ' R }):SvX Z K B (zfT t u) ρ R:=λG0 H0 G H σ F D z r d=>
 h G0 H0 G H σ F { D with nx:=u D } z r ⟨λhs s r' => hs G0 H0 _ _ _ _ D z r' (d.mono s),d.rt,d.bk,d.ct⟩
theorem zfR {c:TT}{t u:TS}{b:Bool}{R:Pn}(h:Et K B c ρ b)(k1:b=true->SvX Z K B t ρ R)(k2:b=false->SvX Z K B u ρ R):SvX Z K B (ze4 c t u) ρ R:=λG0 H0 G H σ F D z r d=>by
 obtain ⟨s1,s2,x⟩:=r.gpl
 refine h _ σ x _ H (Zm.refl _) s2 _ λG' H' g=>?_
 have r' := r.grow (X6 r.g.gh g.hh)
 cases b with
 | true=>rw[if_pos rfl];exact k1 rfl G0 H0 _ _ σ F D z r' d
 | false=>rw[if_neg Bool.false_ne_true];exact k2 rfl G0 H0 _ _ σ F D z r' d
theorem zaC {R:Pn}(h:Ea K B t (msk ρ) ds)(hl:ds.length<=sizeLine):SvX (Ek (.ref C) none) K B (zdD Ek C t) ρ R:=λG0 H0 G H σ F D z r d=>
 h G σ r.rx G H (Zm.refl _) r.g.gh _ λvs G' H' g hv=>⟨by rw[hv.length];exact hl,z H' (r.g.JL.hh.trans g.hh)⟩
noncomputable def xcT (C:Addr):Tg where
 ok:=λp fp _ H=>fp=[]/\H p=some (xcO p C none)
 st:=λ{p fp G H G' H'} h _ k=>⟨h.1,by rw[k p (by simp)];exact h.2⟩
 live:=λ{p fp G H} h a ha=>by
  obtain ⟨e,q⟩:=h
  subst e
  rw[mem_singleton.mp ha]
  exact ⟨_,q⟩
theorem zdH {i:Nat}{v:V}{u:Value}{b:Bool}(hi:ρ[i]?=some (.thg (xcT C)))(c:XC K C)(hv:ze2 v=some u)(hk:kitOne K (.ref C) u=some b):Er K B (tCB (zhJ K) (YD (JP i) (YD (tC v) Ud))) ρ (.bool b):=λG σ r G1 H s1 s2 Q k=>by
 obtain ⟨p,fp,hp,_,e⟩:=r.2.2.2.1 i _ hi
 exact ⟨_,hp,_,_,_,b,rfl,.exc (s2 _ _ (s1 _ _ e)) c,.inl ⟨u,hv,hk⟩,k _ G1 H (Yr.refl s2) (YH b)⟩
theorem zex {i:Nat}{tc:TA}{cs:List V}{us:List Value}{b:Bool}(hi:ρ[i]?=some (.thg (xcT C)))(c:XC K C)(ht:∀ σ H (Q:List V->Hp->Prop),Q cs H->tc σ H Q)(hl:cs.length<=sizeLine)(hv:cs.map ze2=us.map some)(hk:kitAny K (.ref C) us=some b):
  Er K B (tCB (zhJ K) (YD (JP i) (YD (zgQ tc) Ud))) ρ (.bool b):=λG σ r G1 H s1 s2 Q k=>by
 obtain ⟨p,fp,hp,_,e⟩:=r.2.2.2.1 i _ hi
 have e2:=s2 _ _ (s1 _ _ e)
 refine ⟨_,hp,ht _ _ _ ⟨hl,λq hq=>?_⟩⟩
 exact ⟨_,_,_,b,rfl,.exc (by rw[Zk (Zx e2 hq)];exact e2) c,.inr ⟨q,cs,us,rfl,Zn,hv,hk⟩,k _ G1 _ (X6 s2 (WT hq)) (YH b)⟩
theorem Rl.unset {E:Addr->Prop}{j:Nat}{o:Option V}(R:Rl K B E G0 H0 G H σ ρ F):Rl K B E G0 H0 G H (σ.set j o) (ρ.set j .un) (λk=>if k=j then [] else F k):=by
 refine ⟨R.g,R.bb,by rw[length_set,length_set,R.ls],λk u h=>?_,λk a ha=>?_,λk l a ha hb=>?_,λk ds a h ha=>?_⟩
 ·by_cases e:k=j
  ·subst e
   rw[if_pos rfl]
   have hk:k<ρ.length:=by
    have:=(List.getElem?_eq_some_iff.mp h).1
    rw[length_set] at this;exact this
   rw[getElem?_set_self hk] at h
   cases h
   rfl
  ·rw[if_neg e]
   rw[getElem?_set_ne (Ne.symm e)] at h ⊢
   exact R.sl k u h
 ·by_cases e:k=j
  ·rw[if_pos e] at ha;cases ha
  ·rw[if_neg e] at ha;exact R.fr k a ha
 ·by_cases e:k=j
  ·rw[if_pos e] at ha;cases ha
  ·by_cases e' : l=j
   ·rw[if_pos e'] at hb;cases hb
   ·rw[if_neg e] at ha;rw[if_neg e'] at hb;exact R.dj k l a ha hb
 ·by_cases e:k=j
  ·rw[if_pos e] at ha;cases ha
  ·rw[if_neg e] at ha
   rw[getElem?_set_ne (Ne.symm e)] at h
   exact R.ow k ds a h ha
theorem Rl.caught {E:Addr->Prop}{H' : Hp}{a:Addr}{i:Nat}(R:Rl K B E G0 H0 G H σ ρ F)(s:Zm H H')(ha:H' a=none):∃ F',Rl K B E G0 H0 G (upd H' a (xcO a C none)) (σ.set i (some (.ref a))) (ρ.set i (.thg (xcT C))) F' := by
 have gp:G a=none:=(R.g.gh.trans s).free ha
 have h0:H0 a=none:=R.g.al a (s.free ha)
 have r1:=R.grow (X6 R.g.gh (s.trans (WT (o:=xcO a C none) ha)))
 refine ⟨_,r1.set (L:=[a]) ⟨a,[],rfl,rfl,rfl,Zn⟩ ⟨λb hb=>?_,λb hb j hj=>?_⟩⟩
 ·rw[mem_singleton.mp hb]
  exact ⟨gp,⟨_,Zn⟩,h0⟩
 ·rw[mem_singleton.mp hb] at hj
  obtain ⟨_,⟨o,h⟩,_⟩:=R.fr j a hj
  rw[s a o h] at ha;cases ha
theorem zcf {CO:Addr}{i j:Nat}{te:XK->TE}{ts:TS}{R:Pn}(h:∀ E,Er K B (te E) (msk ρ) d)(k:R.nx (ρ.set i (.dat d))):Sv K B (zeE K CO i j te ts) ρ R:=λE G0 H0 G H σ F D r dn=>
 (Z8 (R:=λr ρ' => R.nx (ρ'.set i r)) (h _) k) E G0 H0 G H σ F r _ λv w ρ' G' H' F' L hR s r' sl n=>dn.nx hR s (r'.set sl n)
theorem zee {CO:Addr}{i j:Nat}{te:XK->TE}{ts:TS}{R:Pn}(h:ErX K B te (msk ρ) C)(hm:exmOne K (.ref C) (.ref CO)=some true)(k:Sv K B ts (ρ.set j (.thg (xcT C))) { nx:=fun ρ' => R.nx (ρ'.set j .un),rt:=R.rt,bk:=fun ρ' => R.bk (ρ'.set j .un),ct:=fun ρ' => R.ct (ρ'.set j .un) }):Sv K B (zeE K CO i j te ts) ρ R:=λE G0 H0 G H σ F D r dn=>by
 refine h _ G σ r.rx G H (Zm.refl _) r.g.gh (λH' s' => ⟨C,rfl,hm,λa ha=>?_⟩) _
 obtain ⟨F1,r1⟩:=r.caught (C:=C) (i:=j) s' ha
 exact k E G0 H0 _ _ _ _ _ r1 ⟨λx s r' => dn.nx x s r'.unset,λx s r' sl n=>dn.rt x s r' sl n,λx s r' => dn.bk x s r'.unset,λx s r' => dn.ct x s r'.unset⟩
variable {P:Program}{w:World}{mg:Str->Option Value}{base:Heap}
theorem Fun.okX {x qual:Str}{st:Stmt}{f:Addr}{fd:FuncData}{N ps:List Str}{k:Nat}{R:List PyData->Except Addr PyData->Prop}(Fn:Fun K x qual st f fd)(S:ZK N ps (Zd st))(len:∀ ds r,R ds r->ds.length=ps.length)
  (hb:∀ (cdv:Value) (A:Around) (outer:List Env) (s:Shared) (H:Hp) (E:XK),Wu k (A.deeper (envOfC qual (Zd st) s.heap.objs.size f cdv))->∀ ds r,R ds r->
   ∃ t,PSs (WR (CX1 P w) P w K mg base N qual (Zd st) f cdv A outer s H E) (ZR st) t/\(∀ d,r = .ok d->Sv K B0 t (Yc N (ds.map .dat)) { nx:=λ_=>d = .none,rt:=λr _=>r = .dat d })/\
    ∀ C,r = .error C->SvX (E (.ref C) none) K B0 t (Yc N (ds.map .dat)) { nx:=λ_=>False,rt:=λ_ _=>False }):Xy P w K mg base (CX1 P w) (k+1) f fd ps (spX K R):=by
 obtain ⟨oc,od,kV,doc,pm,an,cdv,ct,osl,rfl,lk,hcd⟩:=Fn.ex
 refine zf0 lk hcd S (λvs H Q E h=>?_) λA outer s H vs Q E hr h=>?_
 ·obtain ⟨G,ds,d,_,hv,hR,_⟩:=h
  rw[hv.length];exact len ds d hR
 ·obtain ⟨G,ds,d,sg,hv,hR,kk⟩:=h
  obtain ⟨t,ht,h1,h2⟩:=hb cdv A outer s H E hr ds d hR
  refine ⟨t,ht,?_⟩
  cases d with
  | ok d=>
   refine h1 d rfl _ _ _ _ _ _ _ _ (Qk b0 sg hv) ⟨λe _ r=>?_,λe _ r sl n=>?_,λe=>e.elim,λe=>e.elim⟩
   ·have e:d = .none:=e
    subst e
    exact kk _ _ _ r.g.JL XH
   ·subst e
    obtain ⟨_,y,hy,hd⟩:=sl
    cases hy
    exact kk _ _ _ r.g.JL hd
  | error C=>exact h2 C rfl _ _ _ _ _ _ _ kk (Qk b0 sg hv) ⟨λe=>e.elim,λe=>e.elim,λe=>e.elim,λe=>e.elim⟩
end
section
variable {K:PySem.W.Frag}{B:Hp}{ρ:List PV}{G H:Hp}{ta tb te td:TE}{a b d:PyData}{ds:List PyData}
theorem QZ {xs:List V}(h:Zz K G xs ds):∀ n:Nat,Zz K G (List.replicate n xs).flatten (List.replicate n ds).flatten
 | 0=>ZL
 | n+1=>by
  rw[replicate_succ,replicate_succ,flatten_cons,flatten_cons]
  exact Ye h (QZ h n)
end
def tBI (t:TE):TT:=fun σ H Q=>t σ H λx H1=>∃ i:Int,x = .int i/\Q (i != 0) H1
theorem Vz {X:Cx}{e:Expr}{t:TE}(h:PE X e t)(he:∀ whole,isTrue e X.env whole=(do let v ← whole;standAt e.pos;holding [v] (truthy v)):=by intro _;rfl):PT X e (tBI t):=by
 intro pins s σ H Q I hw
 refine isTrue_plain (thn (h pins s σ H _ I hw) λv s1 ⟨x,H1,I1,r1,q1⟩=>?_) (he _)
 obtain ⟨d,rfl,q⟩:=q1
 obtain ⟨t,rfl⟩:=r1
 exact PySem.P.truthy_int ⟨H1,I1,q⟩
section
variable {K:PySem.W.Frag}{B:Hp}{ρ:List PV}{ta tb te:TE}
theorem zhm {t:TE}{i:Int}{b:Bool}(h:Er K B t ρ (.int i))(e:(i != 0)=b):Et K B (tBI t) ρ b:=λG σ r G1 H s1 s2 Q k=>h G σ r G1 H s1 s2 _ λv G' H' g hv=>⟨i,hv.int,e ▸ k G' H' g⟩
theorem zfk {a k:Nat}(ha:Er K B ta ρ (.int (a:Nat)))(hk:Er K B tb ρ (.int (k:Nat))):Er K B (tOp (rI0 λi j=>.int (Builtin.bitAnd i j)) (tOp (rI (λ_ j=>0<=j) λi j=>.int (i / 2 ^ j.toNat)) ta tb) (tC (.int 1))) ρ (.int (if a.testBit k then 1 else 0)):=
 Wj (i:=((a >>> k:Nat):Int)) (j:=((1:Nat):Int)) (YW ha hk (Int.natCast_nonneg _) λG=>by rw[zcW];exact Zj _) Zu λG=>by rw[zgf];exact Zj _
theorem VR {a k:Nat}(ha:Er K B ta ρ (.int (a:Nat)))(hk:Er K B tb ρ (.int (k:Nat))):Et K B (tBI (tOp (rI0 λi j=>.int (Builtin.bitAnd i j)) (tOp (rI (λ_ j=>0<=j) λi j=>.int (i / 2 ^ j.toNat)) ta tb) (tC (.int 1)))) ρ (a.testBit k):=
 zhm (zfk ha hk) (by cases a.testBit k <;> rfl)
theorem zdf {a b:Nat}(ha:Er K B ta ρ (.int (a:Nat)))(hb:Er K B tb ρ (.int (b:Nat))):Er K B (tOp (rI0 λi j=>.int (Builtin.bitOr i j)) ta tb) ρ (.int ((a ||| b:Nat))):=
 Wj ha hb λG=>by rw[zeR];exact Zj _
theorem zfH {k:Nat}(hb:Er K B tb ρ (.int (k:Nat)))(hk:k<60):Er K B (tOp (rI zhD λi j=>.int (i*2 ^ j.toNat)) (tC (.int 1)) tb) ρ (.int ((1 <<< k:Nat))):=
 YW Zu hb (by unfold zhD;omega) λG=>by
  rw[show (1:Int)*(2:Int) ^ (k:Int).toNat=((1 <<< k:Nat):Int) by rw[toNat_natCast,Nat.one_shiftLeft];simp];exact Zj _
end
end L2
namespace M41
abbrev Kn:Type:=List Nat
noncomputable def ah (k:Kn) (i j:Nat):Bool:=(k.getD i 0).testBit j
noncomputable def wl (k:Kn) (i j:Nat):Kn:=(List.range k.length).map λt=>if t==i||ah k t i then (k.getD t 0) ||| ((k.getD j 0) ||| (1 <<< j)) else k.getD t 0
noncomputable def Zh (ps:List (Nat×Nat)) (n:Nat):Kn:=ps.foldl (λk q=>wl k q.1 q.2) (List.replicate n 0)
noncomputable def zcq (k:Kn) (i:Nat):List (Nat×Nat):=((List.range k.length).filter λj=>ah k i j).map λj=>(i,j)
noncomputable def pairsOf (k:Kn):List (Nat×Nat):=(List.range k.length).flatMap (zcq k)
theorem V7 {k:Kn}{i j:Nat}:(wl k i j).length=k.length:=by unfold wl;rw[length_map,length_range]
theorem zgJ {k:Kn}{i j t:Nat}(h:t<k.length):(wl k i j).getD t 0=if t==i||ah k t i then (k.getD t 0) ||| ((k.getD j 0) ||| (1 <<< j)) else k.getD t 0:=by
 unfold wl
 rw[getD_eq_getElem?_getD,getElem?_map,getElem?_range h];rfl
theorem zcU {k:Kn}{i j a b:Nat}(h:a<k.length):ah (wl k i j) a b=(ah k a b||((a==i||ah k a i)&&(b==j||ah k j b))):=by
 show ((wl k i j).getD a 0).testBit b=_
 rw[zgJ h]
 by_cases c:(a==i||ah k a i)=true
 ·rw[if_pos c,c,Nat.testBit_or,Nat.testBit_or,Bool.true_and,Nat.one_shiftLeft,Nat.testBit_two_pow]
  show (ah k a b||(ah k j b||decide (j=b)))=_
  rw[Bool.or_comm (ah k j b)]
  congr 2
  by_cases e:b=j
  ·subst e;simp
  ·have:¬ j=b:=λz=>e z.symm
   simp[e,this]
 ·rw[if_neg c]
  have c' : (a==i||ah k a i)=false:=by simpa using c
  rw[c',Bool.false_and,Bool.or_false];rfl
theorem XM {ps:List (Nat×Nat)}{n:Nat}:(Zh ps n).length=n:=by
 unfold Zh
 suffices h:∀ (ps:List (Nat×Nat)) (k:Kn),(ps.foldl (λk q=>wl k q.1 q.2) k).length=k.length by rw[h,length_replicate]
 intro ps
 induction ps with
 | nil=>intro k;rfl
 | cons q r ih=>intro k;rw[foldl_cons,ih,V7]
def Tr (k:Kn):Prop:=∀ a b c,a<k.length->b<k.length->ah k a b=true->ah k b c=true->ah k a c=true
theorem Tr.wl {k:Kn}{i j:Nat}(h:Tr k)(hi:i<k.length)(hj:j<k.length)(low:∀ a,a<k.length->∀ b,ah k a b=true->b<k.length):Tr (wl k i j):=by
 intro a b c ha hb h1 h2
 rw[V7] at ha hb
 rw[zcU ha] at h1 ⊢
 rw[zcU hb] at h2
 simp only[Bool.or_eq_true,and_eq_true,beq_iff_eq] at h1 h2 ⊢
 rcases h1 with h1 | ⟨h1,h1'⟩
 ·rcases h2 with h2 | ⟨h2,h2'⟩
  ·exact .inl (h a b c ha hb h1 h2)
  ·refine .inr ⟨.inr ?_,h2'⟩
   rcases h2 with rfl | h2
   ·exact h1
   ·exact h a b i ha hb h1 h2
 ·rcases h2 with h2 | ⟨h2,h2'⟩
  ·refine .inr ⟨h1,.inr ?_⟩
   rcases h1' with rfl | h1'
   ·exact h2
   ·exact h j b c hj hb h1' h2
  ·exact .inr ⟨h1,h2'⟩
def Lo (k:Kn):Prop:=∀ a,a<k.length->∀ b,ah k a b=true->b<k.length
theorem Lo.wl {k:Kn}{i j:Nat}(h:Lo k)(hj:j<k.length):Lo (wl k i j):=by
 intro a ha b hb
 rw[V7] at ha ⊢
 rw[zcU ha] at hb
 simp only[Bool.or_eq_true,and_eq_true,beq_iff_eq] at hb
 rcases hb with hb | ⟨_,rfl | hb⟩
 ·exact h a ha b hb
 ·exact hj
 ·exact h j hj b hb
theorem JQ {n a b:Nat}:ah (List.replicate n 0) a b=false:=by
 unfold ah
 have:(List.replicate n 0).getD a 0=0:=by
  rw[getD_eq_getElem?_getD,List.getElem?_replicate]
  split <;> rfl
 rw[this];exact Nat.zero_testBit b
theorem Xr {n:Nat}:∀ (ps:List (Nat×Nat)),(∀ q∈ps,q.1<n/\q.2<n)->∀ k:Kn,k.length=n->Tr k->Lo k->Tr (ps.foldl (λk q=>wl k q.1 q.2) k)/\Lo (ps.foldl (λk q=>wl k q.1 q.2) k)/\(∀ a b,a<n->ah k a b=true->ah (ps.foldl (λk q=>wl k q.1 q.2) k) a b=true)/\(∀ q∈ps,ah (ps.foldl (λk q=>wl k q.1 q.2) k) q.1 q.2=true)/\
  ∀ R:Nat->Nat->Prop,(∀ a b c,R a b->R b c->R a c)->(∀ a b,a<n->ah k a b=true->R a b)->(∀ q∈ps,R q.1 q.2)->∀ a b,a<n->ah (ps.foldl (λk q=>wl k q.1 q.2) k) a b=true->R a b
 | [],_,k,_,ht,hl=>⟨ht,hl,λ_ _ _ h=>h,nofun,λR _ h _=>h⟩
 | q::r,hq,k,hk,ht,hl=>by
  obtain ⟨q1,q2⟩:=hq q mem_cons_self
  have e:∀ a b,a<n->ah (wl k q.1 q.2) a b=(ah k a b||((a==q.1||ah k a q.1)&&(b==q.2||ah k q.2 b))):=λa b ha=>zcU (by omega)
  obtain ⟨h1,h2,h3,h4,h5⟩:=Xr r (λx hx=>hq x (mem_cons_of_mem _ hx)) (wl k q.1 q.2) (by rw[V7];exact hk) (ht.wl (by omega) (by omega) hl) (hl.wl (by omega))
  refine ⟨h1,h2,λa b ha h=>h3 a b ha (by rw[e a b ha,h];rfl),λx hx=>?_,λR tr h0 hR a b ha h=>h5 R tr (λa b ha h=>?_) (λx hx=>hR x (mem_cons_of_mem _ hx)) a b ha h⟩
  ·rcases mem_cons.mp hx with rfl | hx
   ·exact h3 _ _ q1 (by rw[e _ _ q1];simp)
   ·exact h4 x hx
  ·rw[e a b ha] at h
   simp only[Bool.or_eq_true,and_eq_true,beq_iff_eq] at h
   have hq' := hR q mem_cons_self
   rcases h with h | ⟨h1,h2⟩
   ·exact h0 a b ha h
   ·have z:R a q.2:=by
     rcases h1 with rfl | h1
     ·exact hq'
     ·exact tr _ _ _ (h0 _ _ ha h1) hq'
    rcases h2 with rfl | h2
    ·exact z
    ·exact tr _ _ _ z (h0 _ _ q2 h2)
theorem YF {n:Nat}:Tr (List.replicate n 0)/\Lo (List.replicate n 0):=⟨λa b c _ _ h=>absurd h (by rw[JQ];exact Bool.false_ne_true),λa _ b h=>absurd h (by rw[JQ];exact Bool.false_ne_true)⟩
theorem Z9 {k:Kn}{q:Nat×Nat}:q∈pairsOf k↔q.1<k.length/\q.2<k.length/\ah k q.1 q.2=true:=by
 unfold pairsOf zcq
 constructor
 ·intro h
  obtain ⟨i,hi,h⟩:=mem_flatMap.mp h
  obtain ⟨j,hj,rfl⟩:=mem_map.mp h
  obtain ⟨hj,h⟩:=mem_filter.mp hj
  exact ⟨mem_range.mp hi,mem_range.mp hj,h⟩
 ·rintro ⟨h1,h2,h3⟩
  exact mem_flatMap.mpr ⟨q.1,mem_range.mpr h1,mem_map.mpr ⟨q.2,mem_filter.mpr ⟨mem_range.mpr h2,h3⟩,rfl⟩⟩
open L2
noncomputable def zav (n:Nat):List (Nat×Nat):=(List.range n).flatMap λi=>(List.range n).map λj=>(i,j)
noncomputable def Xj (n:Nat) (ps:List (Nat×Nat)):List (Nat×Nat):=(zav n).filter λq=>decide (q∈ps)
noncomputable def up (q:Nat×Nat):Int×Int:=((q.1:Int),(q.2:Int))
theorem zdh {a b:Nat×Nat}(h:up a=up b):a=b:=by
 unfold up at h
 injection h with h1 h2
 exact Prod.ext (by omega) (by omega)
theorem zbw {q:Nat×Nat}{ps:List (Nat×Nat)}:up q∈ps.map up↔q∈ps:=⟨λh=>by
 obtain ⟨a,ha,e⟩:=mem_map.mp h
 rw[← zdh e];exact ha,λh=>List.mem_map_of_mem h⟩
theorem W4 {n:Nat}{q:Nat×Nat}:q∈zav n↔q.1<n/\q.2<n:=by
 unfold zav
 constructor
 ·intro h
  obtain ⟨i,hi,h⟩:=mem_flatMap.mp h
  obtain ⟨j,hj,rfl⟩:=mem_map.mp h
  exact ⟨mem_range.mp hi,mem_range.mp hj⟩
 ·rintro ⟨h1,h2⟩
  exact mem_flatMap.mpr ⟨q.1,mem_range.mpr h1,mem_map.mpr ⟨q.2,mem_range.mpr h2,rfl⟩⟩
theorem zd4 (n:Nat):zb8 n=(zav n).map up:=by
 unfold zb8 zav
 rw[List.map_flatMap]
 congr 1
 funext i
 rw[map_map];rfl
theorem zcl {n:Nat}{ps:List (Nat×Nat)}:zdw n (ps.map up)=(Xj n ps).map up:=by
 unfold zdw Xj
 rw[zd4,List.filter_map]
 congr 1
 refine List.filter_congr λq _=>?_
 show decide (up q∈ps.map up)=decide (q∈ps)
 exact decide_eq_decide.mpr zbw
theorem Yq {n:Nat}{ps:List (Nat×Nat)}{q:Nat×Nat}:q∈Xj n ps↔(q.1<n/\q.2<n)/\q∈ps:=by
 unfold Xj
 rw[mem_filter,W4,decide_eq_true_eq]
theorem zcx (n:Nat):(zav n).length=n*n:=by
 unfold zav
 suffices h:∀ m,((List.range m).flatMap λi=>(List.range n).map λj=>(i,j)).length=m*n from h n
 intro m
 induction m with
 | zero=>simp
 | succ m ih=>rw[range_succ,flatMap_append,length_append,ih,flatMap_singleton,length_map,length_range,Nat.succ_mul]
theorem Qy (k:Kn):pairsOf k=(zav k.length).filter λq=>ah k q.1 q.2:=by
 unfold pairsOf zav zcq
 rw[List.filter_flatMap]
 congr 1
 funext i
 rw[List.filter_map];rfl
noncomputable def zfv (F:List (Nat×Nat)) (q:Nat×Nat):List (Nat×Nat):=(F.filter λr=>decide (q.2=r.1) && !decide ((q.1,r.2)∈F)).map λr=>(q.1,r.2)
noncomputable def V5 (F:List (Nat×Nat)) (m:Nat):List (Nat×Nat):=(F.take m).flatMap (zfv F)
theorem WX {F:List (Nat×Nat)}{q:Nat×Nat}:q∈V5 F F.length↔q∉F/\∃ j,(q.1,j)∈F/\(j,q.2)∈F:=by
 unfold V5 zfv
 rw[take_length]
 constructor
 ·intro h
  obtain ⟨a,ha,h⟩:=mem_flatMap.mp h
  obtain ⟨r,hr,rfl⟩:=mem_map.mp h
  obtain ⟨hr,h⟩:=mem_filter.mp hr
  simp only[and_eq_true,decide_eq_true_eq,not_eq_true',decide_eq_false_iff_not] at h
  exact ⟨h.2,a.2,ha,by rw[h.1];exact hr⟩
 ·rintro ⟨h,j,h1,h2⟩
  refine mem_flatMap.mpr ⟨_,h1,mem_map.mpr ⟨_,mem_filter.mpr ⟨h2,?_⟩,rfl⟩⟩
  simp only[and_eq_true,decide_eq_true_eq,not_eq_true',decide_eq_false_iff_not]
  exact ⟨trivial,h⟩
theorem zaM {n:Nat}{ps qs:List (Nat×Nat)}(hps:∀ q∈ps,q.1<n/\q.2<n)(h1:∀ q∈ps,q∈qs)(h2:∀ q∈Xj n qs,ah (Zh ps n) q.1 q.2=true)(tr:V5 (Xj n qs) (Xj n qs).length=[]):Xj n qs=pairsOf (Zh ps n):=by
 have hl:(Zh ps n).length=n:=XM
 rw[Qy,hl]
 unfold Xj
 refine List.filter_congr λq hq=>?_
 have hq:=W4.mp hq
 obtain ⟨_,lo,_,_,mn⟩:=Xr ps hps (List.replicate n 0) length_replicate YF.1 YF.2
 by_cases h:q∈qs
 ·rw[decide_eq_true h,h2 q (Yq.mpr ⟨hq,h⟩)]
 ·rw[decide_eq_false h]
  cases e:ah (Zh ps n) q.1 q.2 with
  | false=>rfl
  | true=>
   refine absurd ?_ h
   have:=mn (λa b=>(a,b)∈Xj n qs) (λa b c hab hbc=>?_) (λa b _ hab=>absurd hab (by rw[JQ];exact Bool.false_ne_true)) (λx hx=>Yq.mpr ⟨hps x hx,h1 x hx⟩) q.1 q.2 hq.1 e
   ·exact (Yq.mp this).2
   ·refine Decidable.byContradiction λz=>?_
    have:(a,c)∈V5 (Xj n qs) (Xj n qs).length:=WX.mpr ⟨z,b,hab,hbc⟩
    rw[tr] at this;cases this
structure IsO (k:Kn):Prop where
 tr:Tr k
 lo:Lo k
 ir:∀ t,t<k.length->ah k t t=false
theorem zab {k:Kn}(h:IsO k):Zh (pairsOf k) k.length=k:=by
 obtain ⟨_,lo,_,hold,mn⟩:=Xr (pairsOf k) (λq hq=>⟨(Z9.mp hq).1,(Z9.mp hq).2.1⟩) (List.replicate k.length 0) length_replicate YF.1 YF.2
 refine ext_getElem? λt=>?_
 by_cases ht:t<k.length
 ·have hl:(Zh (pairsOf k) k.length).length=k.length:=XM
  rw[List.getElem?_eq_getElem ht,List.getElem?_eq_getElem (by rw[hl];exact ht)]
  congr 1
  refine Nat.eq_of_testBit_eq λb=>?_
  have e1:∀ (l:Kn) (h:t<l.length),l[t]=l.getD t 0:=λl h=>by rw[getD_eq_getElem?_getD,List.getElem?_eq_getElem h];rfl
  rw[e1,e1]
  show ah (Zh (pairsOf k) k.length) t b=ah k t b
  rw[Bool.eq_iff_iff]
  constructor
  ·intro e
   have:=mn (λa b=>a<k.length/\ah k a b=true) (λa b c hab hbc=>⟨hab.1,h.tr a b c hab.1 hbc.1 hab.2 hbc.2⟩) (λa b _ hab=>absurd hab (by rw[JQ];exact Bool.false_ne_true)) (λx hx=>⟨(Z9.mp hx).1,(Z9.mp hx).2.2⟩) t b ht e
   exact this.2
  ·intro e
   exact hold (t,b) (Z9.mpr ⟨ht,h.lo t ht b e,e⟩)
 ·have hl:(Zh (pairsOf k) k.length).length=k.length:=XM
  rw[List.getElem?_eq_none (by omega),List.getElem?_eq_none (by omega)]
theorem IsO.bits {ps:List (Nat×Nat)}{n:Nat}(hps:∀ q∈ps,q.1<n/\q.2<n)(R:Nat->Nat->Prop)(tr:∀ a b c,R a b->R b c->R a c)(ir:∀ a,¬ R a a)(h:∀ q∈ps,R q.1 q.2):IsO (Zh ps n):=by
 obtain ⟨h1,h2,_,_,mn⟩:=Xr ps hps (List.replicate n 0) length_replicate YF.1 YF.2
 refine ⟨h1,h2,λt ht=>?_⟩
 rw[XM] at ht
 cases e:ah (Zh ps n) t t with
 | false=>rfl
 | true=>exact absurd (mn R tr (λa b _ hab=>absurd hab (by rw[JQ];exact Bool.false_ne_true)) h t t ht e) (ir t)
end M41
namespace L2
open PySem PySem.Spec PyProof.Rows
section
variable {K:PySem.W.Frag}{B:Hp}{ρ:List PV}
theorem zce {i:Nat}{te:TE}{R:PV->List PV->Prop}{u0:PV}{ds0:List PyData}(hi:ρ[i]?=some u0)(hu:u0.rd=some ds0)(h:Eg K B te ρ λr ρ' => ∃ (u:PV)(ds:List PyData)(j:Nat)(d:PyData),r = .dat (.int (j:Nat))/\ρ'[i]?=some u/\u.rd=some ds/\ds[j]?=some d/\j<=10 ^ 6/\R (.dat d) (ρ'.set i (u.put (ds.eraseIdx j)))):Eg K B (tBM K "list" zdg (JP i) (YD te Ud)) ρ R:=λE G0 H0 G H σ F r Q q=>by
 obtain ⟨p,xs,e,hx,hp,hd⟩:=(r.sl i _ hi).rd hu
 refine ⟨_,hx,.inl ⟨rfl,xs,SqL.of hp⟩,?_⟩
 refine h E G0 H0 G H σ F r _ λv w ρ' G' H' F' L hR s r' sl n=>?_
 obtain ⟨u,ds,j,d,rfl,hi',hu',hj,hz,hR⟩:=hR
 obtain ⟨p',xs',e',hx',hp',hd'⟩:=(r'.sl i _ hi').rd hu'
 rw[hx] at hx';cases hx'
 obtain ⟨_,x,hxv,hxd⟩:=sl
 cases hxv
 rw[hxd.int]
 obtain ⟨y,hy,hyd⟩:=hd'.get hj
 have hjl:j<xs'.length:=(List.getElem?_eq_some_iff.mp hy).1
 refine ⟨p,xs',(j:Nat),j,y,rfl,rfl,hp',by omega,by omega,(Vo (X4 hjl)).1,hy,?_⟩
 exact q y _ _ G' _ F' [] hR s (r'.put hi' hu' hx (JF j hd')) ⟨rfl,y,rfl,hyd⟩ WK
theorem zcu {t:TA}{R:PV->List PV->Prop}(h:EgA K B t ρ λds ρ' => ∃ n:Nat,ds=[.int (n:Nat)]/\n<=10 ^ 6/\R (.own ((List.range n).map λ(i:Nat)=>PyData.int (i:Nat))) ρ'):Eg K B (zfu t) ρ R:=λE G0 H0 G H σ F r Q q=>
 h E G0 H0 G H σ F r _ λvs ds ρ1 G1 H1 F1 hh s1 r1 hv=>by
  obtain ⟨n,rfl,hn,hR⟩:=hh
  obtain ⟨y,ys,rfl,hy,hn0⟩:=hv.cons
  cases hn0.nil
  rw[hy.int]
  refine ⟨(n:Nat),rfl,by omega,by rw[toNat_natCast];exact Nat.le_trans hn (show (10:Nat) ^ 6<=2 ^ 24 by decide),λl hl=>?_⟩
  rw[toNat_natCast]
  have hd:Zz K G1 ((List.range n).map λ(i:Nat)=>V.int i) ((List.range n).map λ(i:Nat)=>PyData.int (i:Nat)):=by
   induction List.range n with
   | nil=>exact ZL
   | cons a r ih=>exact ZD (Zj _) ih
  obtain ⟨a,b,c⟩:=r1.zgL hl hd
  exact q _ _ ρ1 G1 _ F1 [l] hR s1 a b c
theorem zey {ta tb:TE}{neg:Bool}{d:PyData}{ds:List PyData}(ha:Er K B ta ρ d)(hb:Er K B tb ρ (.list ds))(pd:Pl 60 d)(pds:∀ e∈ds,Pl 60 e):Er K B (tOp (zhV K neg) ta tb) ρ (.bool (if neg=true then !ds.any (λe=>PySem.Spec.same e d) else ds.any λe=>PySem.Spec.same e d)):=λG σ r=>
 Jz (ha G σ r) (hb G σ r) λG1 H u v Q s1 s2 hu hv k=>by
  obtain ⟨p,xs,rfl,hp,hxs⟩:=hv.lst
  exact ⟨G1,d,ds,p,xs,s2,hu,rfl,s2 _ _ hp,hxs,pd,pds,k _ G1 H (Yr.refl s2) (YH _)⟩
end
section
variable {K:PySem.W.Frag}{X:Cx}
theorem U8 (e:X.K=K):Jb X (.type "list") (λxs H Q=>∃ p ys,xs=[.ref p]/\(SqL K H p ys\/SqT K H p ys)/\∀ l,H l=none->Q (.ref l) (upd H l (.lst ys))):=by subst e;exact QB
end
theorem zbe (l:Addr)(items:Array Value)(n:Nat)(x:Int)(t:Tok)(dct:Option Addr)(sl:Array (Option Value))(h2:0<=x)(h3:x<=1000)(he:items.isEmpty=true):
  Meets (Builtin.«tuple.__mul__» ⟨[.ref l,.int x t],[]⟩) (λ_ R s=>s.heap.get? l=some { cls:=.type "tuple",dict:=dct,data:=.seq items n,slots:=sl }/\R (.ok (.ret (Value.ref l))) s):=
 .of_wp λprog w A R s h=>by
  obtain ⟨hp,g,d,tk,os⟩:=s;obtain ⟨q1,h⟩:=h
  have b1:(decide (x < -(2 ^ 63))||decide (x ≥ 2 ^ 63))=false:=by
   rw[decide_eq_false (by omega),decide_eq_false (by omega)];rfl
  have b2:(items.isEmpty||x==1)=true:=by rw[he];rfl
  wp_walk using AutoSeq1.wpAny_loadPart' q1
  rw[if_neg (by rw[b1];exact Bool.false_ne_true)]
  wp_walk using AutoSeq1.wpAny_loadPart' q1
  exact ⟨_,rfl,h⟩
theorem zbq (l:Addr)(items:Array Value)(n:Nat)(t:Tok)(dct:Option Addr)(sl:Array (Option Value))(he:items.isEmpty=false):
  Meets (Builtin.«tuple.__mul__» ⟨[.ref l,.int 0 t],[]⟩) (λ_ R s=>s.heap.get? l=some { cls:=.type "tuple",dict:=dct,data:=.seq items n,slots:=sl }/\
   R (.ok (.ret (Value.ref s.heap.objs.size))) { s with heap:=s.heap.push { cls:=.type "tuple",data:=.seq #[] } }):=
 .of_wp λprog w A R s h=>by
  obtain ⟨hp,g,d,tk,os⟩:=s;obtain ⟨q1,h⟩:=h
  have b2:(items.isEmpty||(0:Int)==1)=false:=by rw[he];rfl
  have b3:(decide ((0:Int)<=0)||items.isEmpty)=true:=by rw[decide_eq_true (by omega)];rfl
  wp_walk using AutoSeq1.wpAny_loadPart' q1
  exact ⟨_,rfl,h⟩
section
variable {X:Cx}{K:PySem.W.Frag}
def zfG (K:PySem.W.Frag):R2:=λx y H Q=>∃ l k xs,x = .ref l/\y = .int k/\SqT K H l xs/\0<=k/\k<=1000/\xs.length<=1000/\(k=1\/xs=[]->Q (.ref l) H)/\(k≠1->xs≠[]->∀ p,H p=none->Q (.ref p) (upd H p (.tup (List.replicate k.toNat xs).flatten)))
theorem zeN (eK:X.K=K):OpR X (binaryOp .Mult) (zfG K):=by
 subst eK
 intro pins s σ H x y v u Q I rx ry h
 obtain ⟨l,k,xs,rfl,rfl,hq,k1,k2,hz,q1,q2⟩:=h
 cases rx
 obtain ⟨t,rfl⟩:=ry
 obtain ⟨its,r,p,_⟩:=I.tuple hq
 obtain ⟨⟨c,dct,dt,sl⟩,e1,e2,n,e3⟩:=p
 replace e2:c = .type "tuple" := e2
 replace e3:dt = .seq its.toArray n:=e3
 subst e2 e3
 have hl:=r.length
 refine wpAny_binaryOp_repeat_ref (T:= "tuple") (U:= "int") (by decide) ⟨_,e1,rfl⟩ (λs' => typeIs_int s' k t) Vl F.fills_int_mul F.slot_int_rmul zen F.slot_int_index.lookup
  (call_meets F.slot_int_rmul (typeIs_int s k t) F.entry_int_rmul (F.args_int_rmul_2 _ _) (QS k t l its.toArray n dct sl) ⟨e1,rfl,⟨_,e1,rfl⟩,?_⟩)
 by_cases h1:k=1
 ·subst h1
  exact call_meets F.slot_tuple_mul ⟨_,e1,rfl⟩ F.entry_tuple_mul (F.args_tuple_mul_2 _ _) (zaP l its.toArray n t dct sl) ⟨e1,.ref l,H,I,rfl,q1 (.inl rfl)⟩
 by_cases hne:xs=[]
 ·have hemp:its.toArray.isEmpty=true:=by
   cases its with
   | nil=>rfl
   | cons a b=>rw[hne] at hl;cases hl
  exact call_meets F.slot_tuple_mul ⟨_,e1,rfl⟩ F.entry_tuple_mul (F.args_tuple_mul_2 _ _) (zbe l its.toArray n k t dct sl k1 k2 hemp) ⟨e1,.ref l,H,I,rfl,q1 (.inr hne)⟩
 have hemp:its.toArray.isEmpty=false:=by
  cases its with
  | nil=>exact absurd (r.zd2.mp rfl) hne
  | cons a b=>simp
 have hlen:(List.replicate k.toNat xs).flatten.length<=sizeLine:=by
  rw[len_rep]
  have z:(1000:Nat)*1000<=sizeLine:=by decide
  have:=mul_le_mul (show k.toNat<=1000 by omega) hz
  omega
 have e4:List.foldl (λx1 x2=>x1++x2) #[] (List.replicate k.toNat its.toArray)=(List.replicate k.toNat its).flatten.toArray:=by
  have:=foldl_rep its k.toNat []
  rw[List.nil_append] at this
  exact this
 have fin:=λ(hh:Heap) (e:hh=s.heap.push { cls:=.type "tuple",data:=.seq (List.replicate k.toNat its).flatten.toArray })=>(show EP X pins σ Q (.ref s.heap.objs.size) { s with heap:=hh } from by
  subst e
  exact ⟨.ref s.heap.objs.size,_,I.laid (t' := s.toks) (o:=.tup (List.replicate k.toNat xs).flatten) (λb ob q=>get?_push_of_some _ q) (Nat.le_refl _) ⟨hlen,_,r.rep k.toNat,IsTup.new _ _,_,get?_push_size _ rfl,rfl⟩,rfl,q2 h1 hne _ (I.hok.fresh (Nat.le_refl _))⟩)
 by_cases h0:k=0
 ·subst h0
  exact call_meets F.slot_tuple_mul ⟨_,e1,rfl⟩ F.entry_tuple_mul (F.args_tuple_mul_2 _ _) (zbq l its.toArray n t dct sl hemp) ⟨e1,fin _ rfl⟩
 ·refine call_meets F.slot_tuple_mul ⟨_,e1,rfl⟩ F.entry_tuple_mul (F.args_tuple_mul_2 _ _) (zaV l its.toArray n k t dct sl (by omega) k2 hemp (by simp;omega)) ⟨e1,fin _ (by rw[e4])⟩
end
section
variable {K:PySem.W.Frag}{B:Hp}{ρ:List PV}{ta tb:TE}
theorem zdW {ds:List PyData}{n:Nat}(ha:Er K B ta ρ (.tuple ds))(hb:Er K B tb ρ (.int (n:Nat)))(h2:n<=1000)(hz:ds.length<=1000):Er K B (tOp (zfG K) ta tb) ρ (.tuple (List.replicate n ds).flatten):=λG σ r=>Jz (ha G σ r) (hb G σ r) λG1 H x y Q s1 s2 hx hy k=>by
 obtain ⟨p,us,rfl,hp,hus⟩:=hx.tup
 rw[hy.int]
 have hl:=hus.length
 refine ⟨p,n,us,rfl,rfl,s2.tup hp,by omega,by omega,by omega,λz=>?_,λz zn q hq=>?_⟩
 ·have e:(List.replicate n ds).flatten=ds:=by
   rcases z with z | z
   ·have:n=1:=by omega
    subst this;simp
   ·have:ds=[]:=List.eq_nil_of_length_eq_zero (by rw[← hl,z];rfl)
    subst this;simp
  rw[e] at k
  exact k _ G1 H (Yr.refl s2) (Ww hp hus)
 ·rw[toNat_natCast]
  have g:=Z4 (o:=.tup (List.replicate n us).flatten) s2 hq
  exact k _ _ _ g (Ww (SqT.of Zn) ((QZ hus n).same g.gg))
end
open PySem PySem.Spec PyProof.Rows Lw
theorem zek {P:Program}{w:World}{K:PySem.W.Frag}{mg:Str->Option Value}{base:Heap}{N:List Str}{qual:Str}{scope:Scope}{f:Addr}{cd:Value}{A:Around}{outer:List Env}{s:Shared}{H:Hp}{E:XK}:Raises (WR (CX1 P w) P w K mg base N qual scope f cd A outer s H E) E:=λ_ _ _ _ _ _ _ _ I hx he=>QF I hx he
theorem Vn:bootBuiltins "ValueError" = some (.type "ValueError"):=by decide +kernel
section
variable {K:PySem.W.Frag}{B:Hp}{ρ:List PV}{Z:Hp->Prop}
theorem zeu {α:Type}{wi:TI}{g:TG}{tb:TS}{R:Pn}(as:List α)(enc:α->PyData)(h:Ei K B wi (msk ρ) (as.map enc))(Iv:Nat->List PV->Prop)(h0:Iv 0 ρ)
  (hs:∀ (i:Nat) (hi:i<as.length) ρ',Iv i ρ' -> Gt K B g (enc as[i]) ρ' fun ρ2=>SvX Z K B tb ρ2 { nx:=Iv (i+1),ct:=Iv (i+1),bk:=R.nx,rt:=R.rt }) (hd:∀ ρ',Iv as.length ρ' -> R.nx ρ'):SvX Z K B (zgV wi g tb) ρ R:=λG0 H0 G H σ F D z r dn=>by
 refine h G H σ r.rx r.g.gh _ λJ G1 H1 g1 W=>?_
 refine ⟨λi m σ' H' => m=as.length-i/\i<=as.length/\∃ ρ' G' F',Iv i ρ' /\ Rl K B (λ_=>False) G0 H0 G' H' σ' ρ' F' /\ Zm G1 G',⟨as.length,by omega,by omega,ρ,G1,F,h0,r.grow g1,Zm.refl _⟩,?_⟩
 rintro i m σ' H' ⟨rfl,hi,ρ',G',F',hI,r',s'⟩
 by_cases hin:i=as.length
 ·subst hin
  exact .inl ⟨W.stop _ H' (s'.trans r'.g.gh) (by rw[length_map]),dn.nx (hd ρ' hI) (g1.gg.trans s') r'⟩
 ·have hi' : i<as.length:=by omega
  refine .inr ⟨W.go i H' (s'.trans r'.g.gh) (by rw[length_map];exact hi'),fun σ2 H2=>∃ ρ2 G2 F2,Iv (i+1) ρ2/\Rl K B (λ_=>False) G0 H0 G2 H2 σ2 ρ2 F2/\Zm G1 G2,fun σ2 H2 ⟨ρ2,G2,F2,q⟩=>⟨as.length-(i+1),by omega,rfl,by omega,ρ2,G2,F2,q⟩,λx H'' hy=>?_⟩
  obtain ⟨G3,g3,hx⟩:=W.yld i H' x H'' G' (enc as[i]) s' r'.g.gh (by rw[getElem?_map,List.getElem?_eq_getElem hi'];rfl) hy
  have r3:=r'.grow g3
  have s3:Zm G1 G3:=s'.trans g3.gg
  refine hs i hi' ρ' hI _ G0 H0 G3 H'' σ' F' x _ r3 hx fun σ4 ρ4 G4 H4 F4 hP s4 r4=>?_
  have s14:=s3.trans s4
  refine hP G0 H0 G4 H4 σ4 F4 _ z r4 ⟨λhI2 s5 r5=>⟨_,_,_,hI2,r5,s14.trans s5⟩,λhR s5 r5 sl n=>dn.rt hR (g1.gg.trans (s14.trans s5)) r5 sl n,λhR s5 r5=>dn.nx hR (g1.gg.trans (s14.trans s5)) r5,λhI2 s5 r5=>⟨_,_,_,hI2,r5,s14.trans s5⟩⟩
end
section
variable {X:Cx}{pins:List (Addr×Obj)}{σ:St}{H H1 H2:Hp}{s s1 s' : Shared}{D:Ends}{CO:Addr}{cn x:Str}{b₀:Stmt}{suite:List Stmt}{np pos hpos px apos:Pos}{ts:TS}{e:Expr}{te:XK->TE}
def tFI (z1 z2:Str)(te:TE):TE:=fun σ H Q=>te σ H λv H1=>∃ i:Nat,v = .int (i:Nat)/\i<10/\Q (.str (Str.empty++z1++(toString (i:Int):String)++z2)) H1
theorem zeA {i:Nat}(h:i<10):((toString (i:Int):String):Str).length=1:=by
 have:i=0\/i=1\/i=2\/i=3\/i=4\/i=5\/i=6\/i=7\/i=8\/i=9:=by omega
 rcases this with rfl | rfl | rfl | rfl | rfl | rfl | rfl | rfl | rfl | rfl <;> decide +kernel
theorem zg8 {z1 z2:Str}{t0:TE}{k k3 p1 p2 p3}(he:PE X e t0)(hz1:z1.length<=1000:=by decide)(hz2:z2.length<=1000:=by decide):PE X (.JoinedStr [.Constant (.str z1) k p1,.FormattedValue e (-1) none p2,.Constant (.str z2) k3 p3] pos) (tFI z1 z2 t0):=by
 intro pins s σ H Q I h
 have h3:(20000:Nat)<sizeLine:=by decide
 have e0:Str.empty.length=0:=rfl
 refine wpAny_JoinedStr ?_
 refine wpAny_Constant_str ⟨z1,_,rfl,?_,?_⟩
 ·rw[strLen_append];omega
 refine wpAny_FormattedValue_plain (thn (he pins _ σ H _ (I.tok _) h) λu s1 ⟨v,H1,I1,r,i,hv,hi,q⟩=>?_)
 subst hv
 obtain ⟨t,rfl⟩:=r
 have dl:=zeA hi
 refine wpAny_formatField_int ?_ ⟨_,_,rfl,?_,?_⟩
 ·rw[Int.natAbs_natCast]
  exact Nat.lt_of_le_of_lt (Nat.log2_le_self i) (by omega)
 ·rw[strLen_append,strLen_append,dl];omega
 refine wpAny_Constant_str ⟨z2,_,rfl,?_,?_⟩
 ·rw[strLen_append,strLen_append,strLen_append,dl];omega
 ·refine ⟨?_,.str _,H1,((I1.tok _).tok _).tok _,⟨_,rfl⟩,q⟩
  rw[strLen_append,strLen_append,strLen_append,dl];omega
end
section
variable {K:PySem.W.Frag}{B:Hp}{ρ:List PV}{C CO:Addr}{te:XK->TE}{ts:TS}{R:Pn}{d:PyData}
theorem zhG {z1 z2:Str}{te:TE}{i:Nat}(h:Er K B te ρ (.int (i:Nat)))(hi:i<10):Er K B (tFI z1 z2 te) ρ (.str (Str.empty++z1++(toString (i:Int):String)++z2)):=λG σ r G1 H s1 s2 Q k=>h G σ r G1 H s1 s2 _ λv G2 H2 g hv=>⟨i,hv.int,hi,k _ G2 H2 g (J6 _)⟩
end
end L2
namespace K35
open PySem L2 Lw M41
noncomputable def top (i:Nat):Stmt:=PySem.Challenge.pw_ordertext_k35_closed.main.body.getD i (.Pass ⟨0,0,0,0⟩)
abbrev Qs:Stmt:=top 12
abbrev Jj:Stmt:=top 13
abbrev Xc:Stmt:=top 14
abbrev Xv:Stmt:=top 15
abbrev X3:Stmt:=top 17
abbrev Yw:Stmt:=top 18
abbrev Xb:Stmt:=top 19
abbrev XJ:Stmt:=top 20
abbrev Xk:Stmt:=top 21
abbrev Xm:Stmt:=top 23
abbrev Qc:Stmt:=top 24
theorem Wa:ZK ["pairs", "many", "known", "thing", "behind"] ["pairs", "many"] (Zd Qs):=⟨rfl,rfl,rfl,by decide +kernel,rfl,by decide +kernel,by decide +kernel⟩
theorem Y5:ZK ["pairs", "many", "known", "one", "other"] ["pairs", "many"] (Zd Jj):=⟨rfl,rfl,rfl,by decide +kernel,rfl,by decide +kernel,by decide +kernel⟩
theorem WD:ZK ["known", "one", "other", "onward"] ["known", "one", "other"] (Zd Xc):=⟨rfl,rfl,rfl,by decide +kernel,rfl,by decide +kernel,by decide +kernel⟩
theorem Y8:ZK ["known", "pairs", "one", "behind"] ["known"] (Zd Xv):=⟨rfl,rfl,rfl,by decide +kernel,rfl,by decide +kernel,by decide +kernel⟩
theorem YL:ZK ["deck", "cells", "at", "mixed"] ["deck"] (Zd X3):=⟨rfl,rfl,rfl,by decide +kernel,rfl,by decide +kernel,by decide +kernel⟩
theorem Zw:ZK ["pairs", "found", "more", "fresh", "i", "j"] ["pairs"] (Zd Yw):=⟨rfl,rfl,rfl,by decide +kernel,rfl,by decide +kernel,by decide +kernel⟩
theorem QG:ZK ["known"] ["known"] (Zd Xb):=⟨rfl,rfl,rfl,by decide +kernel,rfl,by decide +kernel,by decide +kernel⟩
theorem Xp:ZK ["deck", "many", "left", "found"] ["deck", "many"] (Zd XJ):=⟨rfl,rfl,rfl,by decide +kernel,rfl,by decide +kernel,by decide +kernel⟩
theorem ZX:ZK ["deck", "many", "turn", "pairs", "k", "cell", "j"] ["deck", "many"] (Zd Xk):=⟨rfl,rfl,rfl,by decide +kernel,rfl,by decide +kernel,by decide +kernel⟩
theorem Yx:ZK ["pairs", "many", "found", "e"] ["pairs", "many"] (Zd Xm):=⟨rfl,rfl,rfl,by decide +kernel,rfl,by decide +kernel,by decide +kernel⟩
theorem Xi:ZK ["script", "deck", "k", "many", "pairs", "j", "cell", "due", "some", "found"] ["script"] (Zd Qc):=⟨rfl,rfl,rfl,by decide +kernel,rfl,by decide +kernel,by decide +kernel⟩
set_option genInjectivity false
structure Fn1 (K:PySem.W.Frag)(mg:Str->Option Value)(n:Str)(s:Stmt)(ps:List Str) where
 f:Addr
 fd:FuncData
 F:Fun K n n s f fd
 b:Binds K fd ps []
 m:mg n=some (.ref f)
abbrev Fn1.O {K:PySem.W.Frag}{mg:Str->Option Value}{n:Str}{s:Stmt}{ps:List Str}(T:Fn1 K mg n s ps)(P:Program)(w:World)(base:Heap)(k:Nat)(sp:Sp):Prop:=Xy P w K mg base CX0 k T.f T.fd ps sp
structure Top (K:PySem.W.Frag)(mg:Str->Option Value) where
 ZW:Fn1 K mg "closed" Qs ["pairs", "many"]
 Jr:Fn1 K mg "bits_of" Jj ["pairs", "many"]
 XQ:Fn1 K mg "with_look" Xc ["known", "one", "other"]
 Xx:Fn1 K mg "pairs_of" Xv ["known"]
 Zy:Fn1 K mg "_law_next" X3 ["deck"]
 Yd:Fn1 K mg "_law_closed" Yw ["pairs"]
 Y9:Fn1 K mg "_law_good" Xb ["known"]
 XR:Fn1 K mg "_law_turn" XJ ["deck", "many"]
 YJ:Fn1 K mg "_law_pairs" Xk ["deck", "many"]
 YK:Fn1 K mg "_law_asked" Xm ["pairs", "many"]
 ze3:mg "len" = none
 Q0:mg "range" = none
 Jo:mg "tuple" = none
 Xa:mg "isinstance" = none
 zfM:mg "list" = none
 int_:mg "int" = none
 bool_:mg "bool" = none
 zbz:mg "sorted" = none
 Ws:mg "enumerate" = none
 zh5:mg "set" = none
 Vx:mg "ValueError" = none
 tt:kitOne K (.type "tuple") (.type "tuple")=some true
 st:kitOne K (.type "str") (.type "tuple")=some false
 Z6:Addr
 cm_OrderError:mg "OrderError" = some (.ref Z6)
 Z7:Addr
 cm_NoNumber:mg "NoNumber" = some (.ref Z7)
 Yl:Addr
 cm_NoOrder:mg "NoOrder" = some (.ref Yl)
 Zv:Addr
 cm_Clash:mg "Clash" = some (.ref Zv)
 Ym:Addr
 cm_NoField:mg "NoField" = some (.ref Ym)
 Xn:Addr
 cm_NoRow:mg "NoRow" = some (.ref Xn)
 Xo:Addr
 cm_NoNet:mg "NoNet" = some (.ref Xo)
 Yp:Addr
 cm_NoPlace:mg "NoPlace" = some (.ref Yp)
 Yo:Addr
 cm_NoThing:mg "NoThing" = some (.ref Yo)
 Xu:Addr
 cm_NoAsk:mg "NoAsk" = some (.ref Xu)
 JX:zhT K mg "Clash" Zv
 exm:exmOne K (.ref Zv) (.ref Z6)=some true
 oth:kitAny K (.ref Zv) [.ref Xu,.ref Ym,.ref Xo,.ref Z7,.ref Yl,.ref Yp,.ref Xn,.ref Yo]=some false
 own:kitOne K (.ref Zv) (.ref Zv)=some true
 vae:kitOne K (.ref Zv) (.type "ValueError")=some true
theorem peN {X:Cx}{x:Str}{st:Stmt}{ps:List Str}{k:Nat}{sp:Sp}{e:Expr}{es:List Expr}{t:TA}{p pos:Pos}(T:Fn1 X.K X.mg x st ps)(F:Xy X.prog X.w X.K X.mg X.base CX0 k T.f T.fd ps sp)(hr:Wu k X.A)(ha:PA X (e::es) t)(hg:Gl X x:=by rfl)(hdb:(x==("__debug__" : Str))=false:=by decide)(he:starEach (e::es) X.env=(false,eval e X.env)::starEach es X.env:=by rfl)(hpl:(backTo pos (starEach es X.env)).any (·.1)=false:=by rfl):PE X (.Call (.Name x p) (e::es) [] pos) (WP sp [] E0 t):=zbt F hr hg T.m T.F.kp T.b .nil zg6 ha hdb he hpl
section
def OkL (P:Program)(w:World)(K:PySem.W.Frag)(mg:Str->Option Value)(base:Heap):Prop:=∀ (f:Addr) (fd:FuncData) (F:Fun K "law" "law" Qc f fd) (T:Top K mg),Xy P w K mg base CX0 8 f fd ["script"] (VB K)
structure EnC where
 P:Program
 w:World
 K:PySem.W.Frag
 mg:Str->Option Value
 base:Heap
theorem zhA:Nonempty EnC:=⟨⟨default,⟨λ_ _=>0,by constructor <;> first | exact default | exact .refcount | exact λ_=>default | exact λ_ _=>default | exact λ_ _ _=>default⟩,default,default,default⟩⟩
noncomputable def e0:EnC:=@Classical.epsilon EnC zhA λe=>¬ OkL e.P e.w e.K e.mg e.base
noncomputable def P:Program:=e0.P
noncomputable def w:World:=e0.w
noncomputable def K:PySem.W.Frag:=e0.K
noncomputable def mg:Str->Option Value:=e0.mg
noncomputable def base:Heap:=e0.base
end
abbrev dK (k:Kn):PyData:=.tuple (k.map λ(b:Nat)=>.int (b:Nat))
abbrev dP (q:Nat×Nat):PyData:=.tuple [.int (q.1:Nat),.int (q.2:Nat)]
abbrev dPs (ps:List (Nat×Nat)):PyData:=.tuple (ps.map dP)
theorem zhM {k:Kn}{j:Nat}(h:j<k.length):(k.map λ(b:Nat)=>PyData.int (b:Nat))[j]?=some (.int (k.getD j 0:Nat)):=by
 rw[getElem?_map,getD_eq_getElem?_getD,List.getElem?_eq_getElem h];rfl
theorem zeo (k:Kn):VJ (k.map λ(b:Nat)=>PyData.int (b:Nat))=(List.range k.length).map λ(t:Nat)=>PyData.tuple [.int (t:Nat),.int (k.getD t 0:Nat)]:=by
 unfold VJ
 rw[length_map]
 refine map_congr_left λt ht=>?_
 rw[getD_eq_getElem?_getD,zhM (mem_range.mp ht)];rfl
theorem zaF {α β:Type}(c:α->Bool)(f:α->β)(l:List α):(l.filterMap λa=>if c a then some (f a) else none)=(l.filter c).map f:=by
 induction l with
 | nil=>rfl
 | cons a r ih=>
  cases h:c a with
  | true=>rw[filterMap_cons,List.filter_cons,h,if_pos rfl,if_pos rfl,map_cons,ih]
  | false=>rw[filterMap_cons,List.filter_cons,h,if_neg Bool.false_ne_true,if_neg Bool.false_ne_true,ih]
theorem rix (n k:Nat)(hk:k<(List.range n).length):(List.range n)[k]=k:=by simp
inductive RWl:List PyData->PyData->Prop
 | mk (k:Kn) (i j:Nat) (_:k.length<=8) (_:i<k.length) (_:j<k.length):RWl [dK k,.int (i:Nat),.int (j:Nat)] (dK (wl k i j))
inductive RBi:List PyData->PyData->Prop
 | mk (ps:List (Nat×Nat)) (n:Nat) (_:n<=8) (_:∀ q∈ps,q.1<n/\q.2<n):RBi [dPs ps,.int (n:Nat)] (dK (Zh ps n))
inductive RPo:List PyData->PyData->Prop
 | mk (k:Kn) (_:k.length<=8):RPo [dK k] (dPs (pairsOf k))
section
theorem zhc (T:Top K mg):T.XQ.O P w base 1 (spP K RWl):=by
 refine T.XQ.F.okP WD (by rintro _ _ ⟨⟩;rfl) λcdv A outer s H E hr ds d hR=>?_
 cases hR with
 | mk k i j hn hi hj=>
 have zl:(2000:Nat)<sizeLine:=by decide
 refine ⟨_,(Zg (ZJ (i:=3) WD.nd rfl (Or.inr rfl) (ZF zgj (WN (VL (K:=K) rfl) (pv 0) (pv 2) (λ_ _=>rfl)) (ZF zfi Zo (pv 2))))
   (Zq (Yu (Yb (Yg (K:=K) rfl) (by rfl) T.Jo zep (Za (zdn (x:= "thing") (x2:= "behind") (cap:=["one", "onward"]) (js:=[1,3]) ⟨rfl,by decide +kernel,by decide +kernel,rfl,rfl,(by show ∀ p∈(_:List (Str×NameKind)),p.2=NameKind.free->List.lookup p.1 (Zd Xc).names=some NameKind.cell;decide +kernel),by decide +kernel,by decide +kernel,by decide +kernel⟩ rfl rfl (λ_ _ h=>h) (Qh (by rfl) T.Ws (Za (pv 0) Zf Ze)) (λ_ _ _ _=>⟨zdM,(zcb (PW.pt (pw_or (Yi zaR (pv 0) (pv 2) (Yv _)) (pw_or1 (Vz (ZF zbA (ZF za5 (pv 1) (pv 2)) Zo))))) (ZF zgj (pv 1) (pv 3)) (pv 1))⟩)) Zf W8))))) ,?_⟩
 refine Zt (ZC (Z8 (zdf (zb1 (Zb rfl) (Zb rfl) (by rw[length_map];exact X4 hj) (zhM hj)) (zfH (Zb rfl) (by omega))) ?_))
 refine Xg (Z8 (Y0 (Zc (Wn (zdy (js:=[1,3]) (List.range k.length) (λt=>.int (t:Nat)) (λt=>.int (k.getD t 0:Nat)) (λt=>some (.int ((if t==i||ah k t i then (k.getD t 0) ||| ((k.getD j 0) ||| (1 <<< j)) else k.getD t 0:Nat)))) ?_ (by rw[length_range];omega) λt ht=>lx1 zeb (zfB (zf2 (Yt (Ug (Zb rfl) (Zb rfl))) λ_=>VR (Zb rfl) (Zb rfl)) (λhc=>Wn (zdf (Zb rfl) (Zb rfl)) ?_) λhc=>Wn (Zb rfl) ?_)) ?_) Zi)) rfl)
 ·rw[← zeo];exact zbI (Zc (Zb rfl) Zi)
 ·have:(t==i||ah k t i)=true:=by
   rw[← hc];congr 1
   by_cases e:t=i
   ·subst e;simp
   ·have:¬ (t:Int)=(i:Int):=by omega
    simp[e,this]
  rw[if_pos this]
 ·have:¬ (t==i||ah k t i)=true:=by
   rw[Bool.not_eq_true,← hc];congr 1
   by_cases e:t=i
   ·subst e;simp
   ·have:¬ (t:Int)=(i:Int):=by omega
    simp[e,this]
  rw[if_neg this]
 ·rw[zaQ]
  unfold wl
  rw[map_map];rfl
theorem zeh (T:Top K mg):T.Jr.O P w base 2 (spP K RBi):=by
 have G_with_look:=@zhc T
 refine T.Jr.F.okP Y5 (by rintro _ _ ⟨⟩;rfl) λcdv A outer s H E hr ds d hR=>?_
 cases hR with
 | mk ps n h8 hps=>
 have zl:(2000:Nat)<sizeLine:=by decide
 refine ⟨_,(Zg (ZJ (i:=2) Y5.nd rfl (Or.inl rfl) (ZF (zeN (K:=K) rfl) (Jg (Za Zo Zf ZQ)) (pv 1)))
   (Zg (WM PassesOwn.never rfl (zdp (pv 0)) (Qu (n:=2) rfl (Yk (Z5 (i:=3) Y5.nd rfl (Or.inl rfl)) (Yk (Z5 (i:=4) Y5.nd rfl (Or.inl rfl)) Jh)) (by rfl)) (Zq (ZJ (i:=2) Y5.nd rfl (Or.inl rfl) (peN T.XQ G_with_look hr (Za (pv 2) (Za (pv 3) (Za (pv 4) Zf Ze) Ze) Ze)))))
   (Zq (Yu (pv 2))))) ,?_⟩
 refine Zt (ZC (Z8 (d:=dK (List.replicate n 0)) (Wn (zdW (JD (Zc Zu Zi) (by show 1<=sizeLine;decide)) (Zb rfl) (by omega) (by show 1<=1000;decide)) ?_) ?_))
 ·show PyData.tuple _=PyData.tuple ((List.replicate n 0).map λ(b:Nat)=>PyData.int (b:Nat))
  rw[List.map_replicate];congr 1
  clear hps h8
  induction n with
  | zero=>rfl
  | succ n ih=>rw[replicate_succ,flatten_cons,ih];rfl
 refine Zt (JK ps dP (zdq (Zb rfl)) (λi ρ=>∃ v3 v4:PV,ρ=[.dat (dPs ps),.dat (.int (n:Nat)),.dat (dK (Zh (ps.take i) n)),v3,v4]) ⟨_,_,rfl⟩ ?_ ?_)
 ·rintro i hi _ ⟨v3,v4,rfl⟩
  obtain ⟨q1,q2⟩:=hps _ (getElem_mem hi)
  refine Q4 (ZC (Z8 (XN (Zc (Zb rfl) (Zc (Zb rfl) (Zc (Zb rfl) Zi))) (RWl.mk _ _ _ (by rw[XM];exact h8) (by rw[XM];exact q1) (by rw[XM];exact q2))) ⟨.dat (.int (ps[i].1:Nat)),.dat (.int (ps[i].2:Nat)),?_⟩))
  rw[List.take_succ_eq_append_getElem hi]
  unfold Zh
  rw[List.foldl_append];rfl
 ·rintro _ ⟨v3,v4,rfl⟩
  rw[take_length]
  exact Xg (Z8 (Zb rfl) rfl)
theorem zcF (T:Top K mg):T.Xx.O P w base 1 (spP K RPo):=by
 refine T.Xx.F.okP Y8 (by rintro _ _ ⟨⟩;rfl) λcdv A outer s H E hr ds d hR=>?_
 cases hR with
 | mk k h8=>
 have zl:(2000:Nat)<sizeLine:=by decide
 have few:∀ i,i<=k.length->((List.range i).flatMap (zcq k)).length<=i*8:=λi=>by
  induction i with
  | zero=>intro _;simp
  | succ i ih=>
   intro hi
   rw[range_succ,flatMap_append,length_append,flatMap_singleton]
   have:=ih (by omega)
   have h2:(zcq k i).length<=8:=by
    unfold zcq
    rw[length_map]
    exact Nat.le_trans (List.length_filter_le _ _) (by rw[length_range];exact h8)
   omega
 refine ⟨_,(Zg (ZJ (i:=1) Y8.nd rfl (Or.inl rfl) (Xh Zf))
   (Zg (WM PassesOwn.never rfl (Qh (by rfl) T.Ws (Za (pv 0) Zf Ze)) (Qu (n:=2) rfl (Yk (Z5 (i:=2) Y8.nd rfl (Or.inr rfl)) (Yk (Z5 (i:=3) Y8.nd rfl (Or.inr rfl)) Jh)) (by rfl)) (Zq (J8 (zay plainAttrs_list PySem.F.slot_list_extend PySem.F.type_list_extend zb2 (pv 1) (Za (zgz (x:= "other") (cap:=["one", "behind"]) (js:=[2,3]) ⟨rfl,by decide +kernel,by decide +kernel,rfl,(by show ∀ p∈(_:List (Str×NameKind)),p.2=NameKind.free->List.lookup p.1 (Zd Xv).names=some NameKind.cell;decide +kernel),by decide +kernel,by decide +kernel,by decide +kernel⟩ rfl rfl (λ_ _ h=>h) (Wl (by rfl) T.Q0 (Za (Yj (YZ (K:=K) rfl) (by rfl) T.ze3 PySem.boot_len (Za (pv 0) Zf Ze)) Zf Wv)) (λ_ _ _ _=>⟨(Vu (Vz (ZF zbA (ZF za5 (pv 2) (pv 0)) Zo))),(Jg (Za (pv 1) (Za (pv 0) Zf Ze) Ze))⟩)) Zf W8)))))
   (Zq (Yu (Yb (Yg (K:=K) rfl) (by rfl) T.Jo zep (Za (pv 1) Zf Ze)))))) ,?_⟩
 refine Zt (ZC (VP Zi (by show 0<=sizeLine;decide) ?_))
 refine Zt (JK (List.range k.length) (λ(t:Nat)=>PyData.tuple [.int (t:Nat),.int (k.getD t 0:Nat)]) (by rw[← zeo];exact zbI (Zc (Zb rfl) Zi)) (λi ρ=>∃ v2 v3:PV,ρ=[.dat (dK k),.own (((List.range i).flatMap (zcq k)).map dP),v2,v3]) ⟨_,_,rfl⟩ ?_ ?_)
 ·rintro i hi _ ⟨v2,v3,rfl⟩
  rw[rix k.length i hi]
  rw[length_range] at hi
  refine Q4 (zfX (zg9 (js:=[2,3]) (List.range k.length) (λ(j:Nat)=>PyData.int (j:Nat)) (λj=>if ah k i j then some (dP (i,j)) else none) (zbN (Zc (Wn (zdK (Zc (Zb rfl) Zi)) (by rw[length_map])) Zi) (by omega)) (by rw[length_range];omega) (λj hj=>lxB (VR (Zb rfl) (Zb rfl)) λ_=>JD (Zc (Zb rfl) (Zc (Zb rfl) Zi)) (by show 2<=sizeLine;decide)) ?_) rfl rfl)
  have hf:=few i (by omega)
  refine ⟨_,_,_,rfl,rfl,rfl,?_,.dat (.int (i:Nat)),.dat (.int (k.getD i 0:Nat)),?_⟩
  ·rw[zaF,length_map,length_map]
   have:=List.length_filter_le (ah k i) (List.range k.length)
   rw[length_range] at this
   omega
  ·rw[range_succ,flatMap_append,flatMap_singleton,map_append,zaF]
   have e:(zcq k i).map dP=((List.range k.length).filter (ah k i)).map λj=>dP (i,j):=by unfold zcq;rw[map_map];rfl
   rw[e];rfl
 ·rintro _ ⟨v2,v3,rfl⟩
  rw[length_range]
  exact zdJ (Y0 (Zc (Ux rfl rfl) Zi)) rfl
end
end K35
namespace L2
open PySem PySem.Spec PyProof.Rows
section
variable {S:Type}{K:PySem.W.Frag}{B:Hp}{D:TF K S}{ρ:List PV}{p:Addr}{fp:List Addr}
def zgR (D:TF K S)(Pre:S->List PyData->Prop)(R:S->List PyData->List PyData->S->Prop):Sp:=λvs H Q _=>∃ (p:Addr) (fp:List Addr) (us:List V) (G:Hp) (s:S) (ds:List PyData),vs = .ref p::us/\Zm G H/\(∀ a∈p::fp,G a=none)/\(∀ a∈p::fp,∃ o,H a=some o)/\D.I s p fp G H/\Zz K G us ds/\Pre s ds/\
 ∀ q xs es s' G' H',R s ds es s' -> Gw (· ∈ p::fp) G H G' H' -> (∀ a∈p::fp,G' a=none)->(∀ a∈p::fp,∃ o,H' a=some o)->D.I s' p fp G' H' -> G' q=none->H q=none->H' q=some (.lst xs)->Zz K G' xs es->Q (.ref q) H'
theorem Fun.zia {P:Program}{w:World}{mg:Str->Option Value}{base:Heap}{x qual:Str}{st:Stmt}{f:Addr}{fd:FuncData}{N ps:List Str}{k:Nat}{Pre:S->List PyData->Prop}{R:S->List PyData->List PyData->S->Prop}(Fn:Fun K x qual st f fd)(S' : ZK N ps (Zd st))(len:∀ s ds,Pre s ds->ds.length+1=ps.length)
  (hb:∀ (cdv:Value) (A:Around) (outer:List Env) (s:Shared) (H:Hp) (E:XK),Wu k (A.deeper (envOfC qual (Zd st) s.heap.objs.size f cdv))->∀ p fp t0 ds,Pre t0 ds->
   ∃ t,PSs (WR CX0 P w K mg base N qual (Zd st) f cdv A outer s H E).nox (ZR st) t/\Sv K B0 t (Yc N (D.pv t0 p fp::ds.map .dat)) { nx:=λ_=>False,rt:=λr ρ' => ∃ es t1,r = .own es/\R t0 ds es t1/\ρ'[0]?=some (D.pv t1 p fp) }):Xy P w K mg base CX0 (k+1) f fd ps (zgR D Pre R):=by
 refine Fn.ok S' (λvs H Q E h=>?_) λcdv A outer s H vs Q E hr h=>?_
 ·obtain ⟨p,fp,us,G,t0,ds,rfl,_,_,_,_,hv,hP,_⟩:=h
  rw[length_cons,hv.length];exact len t0 ds hP
 ·obtain ⟨p,fp,us,G,t0,ds,rfl,sg,gn,lv,hI,hv,hP,kk⟩:=h
  obtain ⟨t,ht,hs⟩:=hb cdv A outer s H E hr p fp t0 ds hP
  refine ⟨t,ht,hs _ _ _ _ _ _ _ _ (Uv b0 sg hI gn lv hv) ⟨λe _ r=>e.elim,λe _ r sl n=>?_,λe=>e.elim,λe=>e.elim⟩⟩
  obtain ⟨es,t1,rfl,hR,h0⟩:=e
  obtain ⟨e1,_,hI'⟩:=D.sl.mp (r.sl 0 _ h0)
  obtain ⟨q,xs,rfl,hy,hq,hd⟩:=sl
  cases hy
  obtain ⟨h1,_,h3⟩:=n.fr q (by simp)
  exact kk q xs es t1 _ _ hR r.g (λa ha=>(r.fr 0 a (by rw[e1];exact ha)).1) (λa ha=>(r.fr 0 a (by rw[e1];exact ha)).2.1) hI' h1 h3 hq hd
theorem za6 {Pre:S->List PyData->Prop}{Rf:S->List PyData->List PyData->S->Prop}{X:XK}{i:Nat}{t:TA}{R:PV->List PV->Prop}{s:S}(hi:ρ[i]?=some (D.pv s p fp))
  (h:EgA K B t ρ λds ρ1=>∃ s1,ρ1[i]?=some (D.pv s1 p fp)/\Pre s1 ds/\∀ es s2,Rf s1 ds es s2->R (.own es) (ρ1.set i (D.pv s2 p fp))):Eg K B (WP (zgR D Pre Rf) [] X (YD (JP i) t)) ρ R:=λE G0 H0 G H σ F r Q q=>by
 obtain ⟨_,hx,_⟩:=D.sl.mp (r.sl i _ hi)
 refine ⟨_,hx,h E G0 H0 G H σ F r _ λvs ds ρ1 G1 H1 F1 hh s1 r1 hv=>?_⟩
 obtain ⟨t1,hi1,hP,hk⟩:=hh
 obtain ⟨e1,_,hI⟩:=D.sl.mp (r1.sl i _ hi1)
 rw[append_nil]
 refine ⟨p,fp,vs,G1,t1,ds,rfl,r1.g.gh,λa ha=>(r1.fr i a (by rw[e1];exact ha)).1,λa ha=>(r1.fr i a (by rw[e1];exact ha)).2.1,hI,hv,hP,λb xs es t2 G2 H2 hR gw gn lv hI2 gb hb hb2 hd=>?_⟩
 refine q _ _ _ G2 H2 F1 [b] (hk es t2 hR) (s1.trans gw.gg) (r1.zgo hi1 gw gn lv hI2) ⟨b,xs,rfl,rfl,hb2,hd⟩ ⟨λa ha=>?_,λa ha j hj=>?_⟩
 ·rw[mem_singleton.mp ha]
  exact ⟨gb,⟨_,hb2⟩,r1.g.al b hb⟩
 ·rw[mem_singleton.mp ha] at hj
  obtain ⟨_,⟨o,h⟩,_⟩:=r1.fr j b hj
  rw[hb] at h;cases h
def spN {I:Type}(K:PySem.W.Frag)(Pre:I->List PyData->Prop)(R:I->PyData->Prop):Sp:=λvs H Q _=>∃ (G:Hp) (ds:List PyData) (i:I),Zm G H/\Zz K G vs ds/\Pre i ds/\∀ d,R i d->∀ v G' H',Yr G H G' H' -> Dat K G' v d->Q v H'
theorem Fun.okN {I:Type}{P:Program}{w:World}{mg:Str->Option Value}{base:Heap}{x qual:Str}{st:Stmt}{f:Addr}{fd:FuncData}{N ps:List Str}{k:Nat}{Pre:I->List PyData->Prop}{R:I->PyData->Prop}(Fn:Fun K x qual st f fd)(S' : ZK N ps (Zd st))(len:∀ i ds,Pre i ds->ds.length=ps.length)
  (hb:∀ (cdv:Value) (A:Around) (outer:List Env) (s:Shared) (H:Hp) (E:XK),Wu k (A.deeper (envOfC qual (Zd st) s.heap.objs.size f cdv))->∀ i ds,Pre i ds->
   ∃ t,PSs (WR CX0 P w K mg base N qual (Zd st) f cdv A outer s H E).nox (ZR st) t/\Sv K B0 t (Yc N (ds.map .dat)) { nx:=λ_=>False,rt:=λr _=>∃ d,r = .dat d/\R i d }):Xy P w K mg base CX0 (k+1) f fd ps (spN K Pre R):=by
 refine Fn.ok S' (λvs H Q E h=>?_) λcdv A outer s H vs Q E hr h=>?_
 ·obtain ⟨G,ds,i,_,hv,hR,_⟩:=h
  rw[hv.length];exact len i ds hR
 ·obtain ⟨G,ds,i,sg,hv,hR,kk⟩:=h
  obtain ⟨t,ht,hs⟩:=hb cdv A outer s H E hr i ds hR
  refine ⟨t,ht,hs _ _ _ _ _ _ _ _ (Qk b0 sg hv) ⟨λe _ r=>e.elim,λe _ r sl n=>?_,λe=>e.elim,λe=>e.elim⟩⟩
  obtain ⟨d,rfl,hd⟩:=e
  obtain ⟨_,y,hy,hd'⟩:=sl
  cases hy
  exact kk d hd _ _ _ r.g.JL hd'
theorem U0 {I:Type}{Pre:I->List PyData->Prop}{R:I->PyData->Prop}{X:XK}{t:TA}{ds:List PyData}{i:I}{Rp:PV->List PV->Prop}(h:Ea K B t (msk ρ) ds)(hR:Pre i ds)(k:∀ d,R i d->Rp (.dat d) ρ):Eg K B (WP (spN K Pre R) [] X t) ρ Rp:=λE G0 H0 G H σ F r Q q=>by
 refine h G σ r.rx G H (Zm.refl _) r.g.gh _ λvs G2 H2 g hv=>?_
 rw[append_nil]
 refine ⟨G2,ds,i,g.gh,hv,hR,λd hd v G' H' g' hv' => ?_⟩
 have g2:=g.trans g'
 exact q v _ ρ G' H' F [] (k d hd) g2.gg (r.grow g2) ⟨rfl,v,rfl,hv'⟩ WK
theorem zda {te:TE}{R:PV->List PV->Prop}(h:Eg K B te ρ λr ρ' => ∃ ds,r = .dat (.tuple ds)/\R (.own ds) ρ'):Eg K B (tCB (λxs H Q=>∃ p ys,xs=[.ref p]/\(SqL K H p ys\/SqT K H p ys)/\∀ l,H l=none->Q (.ref l) (upd H l (.lst ys))) (YD te Ud)) ρ R:=λE G0 H0 G H σ F r Q q=>
 h E G0 H0 G H σ F r _ λv w ρ1 G1 H1 F1 L hw s1 r1 sl n=>by
  obtain ⟨ds,rfl,hR⟩:=hw
  obtain ⟨_,y,hy,hd⟩:=sl
  cases hy
  obtain ⟨p,xs,rfl,hp,hx⟩:=hd.tup
  refine ⟨p,xs,rfl,.inr (r1.g.gh.tup hp),λl hl=>?_⟩
  obtain ⟨a,b,c⟩:=r1.zgL hl hx
  exact q _ _ ρ1 G1 _ F1 [l] hR s1 a b c
theorem zeG {i:Nat}{t:TA}{u0:PV}{ds0:List PyData}{R:Pn}(hi:ρ[i]?=some u0)(hu:u0.rd=some ds0)(h:EgA K B t ρ λas ρ1=>∃ (j:Nat)(d:PyData)(u:PV)(ds:List PyData),as=[.int (j:Nat),d]/\ρ1[i]?=some u/\u.rd=some ds/\j<=ds.length/\ds.length<sizeLine/\R.nx (ρ1.set i (u.put (ds.take j++d::ds.drop j)))):Sv K B (zc5 (tBM K "list" zaA (JP i) t)) ρ R:=λE G0 H0 G H σ F D r dn=>by
 obtain ⟨p,xs,e,hx,hp,hd⟩:=(r.sl i _ hi).rd hu
 refine ⟨_,hx,.inl ⟨rfl,xs,SqL.of hp⟩,?_⟩
 refine h E G0 H0 G H σ F r _ λvs as ρ1 G1 H1 F1 hR s r1 hv=>?_
 obtain ⟨j,d,u,ds,rfl,hi',hu',hj,hl,hR⟩:=hR
 obtain ⟨p',xs',e',hx',hp',hd'⟩:=(r1.sl i _ hi').rd hu'
 rw[hx] at hx';cases hx'
 obtain ⟨y,ys,rfl,hy,hv⟩:=hv.cons
 obtain ⟨y2,ys,rfl,hy2,hv⟩:=hv.cons
 cases hv.nil
 rw[hy.int]
 have el:=hd'.length
 refine ⟨p,xs',(j:Nat),y2,rfl,rfl,hp',by omega,by omega,by omega,?_⟩
 refine dn.nx hR s (r1.put hi' hu' hx ?_)
 rw[toNat_natCast]
 exact Ye (Wb j hd') (ZD hy2 (Wi j hd'))
end
end L2
namespace Prm
open PySem PyProof.Rows
noncomputable def zb6 : Bool->Keyed->Array Keyed->Nat->Nat->Nat->StateT SortSt Sem (Option Nat):=sortPriv% PySem.Builtin.gallop
section
variable {prog:Program}{w:World}{A:Around}{E:Value->Shared->Prop}{s:Shared}{κ:SortKind}{U:Keyed->Prop}
def Any (prog:Program)(w:World)(A:Around)(E:Value->Shared->Prop)(s:Shared)(κ:SortKind)(U:Keyed->Prop):Prop:=
 ∀ {x y:Keyed}{st:SortSt}{Q:Option Bool->SortSt->Prop},U x->U y->kindOf st=κ->(∀ b:Bool,Q (some b) st)->wpS (model prog w) A E s (lt' x y) Q st
theorem zbp {arr:Array Keyed}{i:Nat}{st:SortSt}{Q:Keyed->SortSt->Prop}(hi:i<arr.size)(hU:∀ x∈arr.toList,U x)(k:∀ x,U x->Q x st):wpS (model prog w) A E s (elem' arr i) Q st:=by
 rw[elem'_eq,Array.getElem?_eq_getElem hi]
 exact wpS_pure (k _ (hU _ (by simp)))
noncomputable def Vs (left:Bool) (key:Keyed) (arr:Array Keyed) (base i:Nat):StateT SortSt Sem (Option Bool):=do
 let x ← elem' arr (base+i)
 if left then lt' x key else return (← lt' key x).map (!·)
theorem V2 (ik:Any prog w A E s κ U){left:Bool}{key:Keyed}{arr:Array Keyed}{base n i:Nat}{st:SortSt}{Q:Option Bool->SortSt->Prop}(hk:U key)(hU:∀ x∈arr.toList,U x)(hb:base+n<=arr.size)(hi:i<n)(kd:kindOf st=κ)(kk:∀ b:Bool,Q (some b) st):
  wpS (model prog w) A E s (Vs left key arr base i) Q st:=by
 refine wpS_bind (zbp (by omega) hU λx hx=>?_)
 cases left with
 | true=>exact ik hx hk kd kk
 | false=>exact wpS_bind (ik hk hx kd λb=>wpS_pure (kk (!b)))
noncomputable def zez (left:Bool) (key:Keyed) (arr:Array Keyed) (base n lo₀ hi₀:Nat):StateT SortSt Sem (Option Nat):=do
 let mut lo:=lo₀
 let mut hi:=hi₀
 for _ in [0:n] do
  if lo ≥ hi then break
  let m:=lo+(hi-lo) / 2
  let some more ← Vs left key arr base m | return none
  if more then lo:=m+1 else hi:=m
 return some hi
theorem zeQ (ik:Any prog w A E s κ U){left:Bool}{key:Keyed}{arr:Array Keyed}{base n lo hi:Nat}{st:SortSt}{Q:Option Nat->SortSt->Prop}(hk:U key)(hU:∀ x∈arr.toList,U x)(hb:base+n<=arr.size)(hh:hi<=n)(kd:kindOf st=κ)
  (k:∀ m,m<=n->Q (some m) st):wpS (model prog w) A E s (zez left key arr base n lo hi) Q st:=by
 unfold zez
 refine wpS_bind ?_
 refine wpS_forRange (I:=λx c s2=>s2=st/\c.1=none/\c.2.2<=n) ?turn ?over ⟨rfl,rfl,hh⟩
 case turn=>
  rintro x ⟨c1,lo,hi⟩ s2 x1 x2 ⟨rfl,e,h⟩
  dsimp only at e h ⊢
  subst e
  split
  ·exact wpS_pure (wpS_pure (k hi h))
  ·refine wpS_bind (V2 ik hk hU hb (by omega) kd λb=>?_)
   cases b with
   | true=>exact wpS_pure ⟨rfl,rfl,h⟩
   | false=>exact wpS_pure ⟨rfl,rfl,by show lo+(hi-lo) / 2<=n;omega⟩
 case over=>
  rintro ⟨c1,lo,hi⟩ s2 ⟨rfl,e,h⟩
  dsimp only at e h ⊢
  subst e
  exact wpS_pure (k hi h)
theorem YG (ik:Any prog w A E s κ U){left:Bool}{key:Keyed}{arr:Array Keyed}{base n hint:Nat}{st:SortSt}{Q:Option Nat->SortSt->Prop}(hk:U key)(hU:∀ x∈arr.toList,U x)(hb:base+n<=arr.size)(hh:hint<n)(kd:kindOf st=κ)
  (k:∀ m,m<=n->Q (some m) st):wpS (model prog w) A E s (zb6 left key arr base n hint) Q st:=by
 have bey:∀ {i:Nat}{Q:Option Bool->SortSt->Prop},i<n->(∀ b:Bool,Q (some b) st)->wpS (model prog w) A E s (Vs left key arr base i) Q st:=λhi kk=>V2 ik hk hU hb hi kd kk
 have fin:∀ lo hi,hi<=n->wpS (model prog w) A E s (zez left key arr base n lo hi) Q st:=λlo hi h=>zeQ ik hk hU hb h kd k
 unfold zb6
 refine wpS_bind (bey hh λb=>?_)
 cases b with
 | true=>
  dsimp only
  rw[if_pos rfl]
  refine wpS_bind ?_
  refine wpS_forRange (I:=λx c s2=>s2=st/\c.1=none) ?turn ?over ⟨rfl,rfl⟩
  case turn=>
   rintro x ⟨c1,c2,c3⟩ s2 x1 x2 ⟨rfl,e⟩
   dsimp only at e ⊢
   subst e
   split
   ·exact wpS_pure (fin _ _ (by omega))
   ·refine wpS_bind (bey (by omega) λb=>?_)
    cases b with
    | true=>exact wpS_pure ⟨rfl,rfl⟩
    | false=>exact wpS_pure (fin _ _ (by omega))
  case over=>
   rintro ⟨c1,c2,c3⟩ s2 ⟨rfl,e⟩
   dsimp only at e ⊢
   subst e
   exact fin _ _ (by omega)
 | false=>
  dsimp only
  rw[if_neg Bool.false_ne_true]
  refine wpS_bind ?_
  refine wpS_forRange (I:=λx c s2=>s2=st/\c.1=none/\1<=c.2.2) ?turn ?over ⟨rfl,rfl,Nat.le_refl _⟩
  case turn=>
   rintro x ⟨c1,c2,c3⟩ s2 x1 x2 ⟨rfl,e,h⟩
   dsimp only at e h ⊢
   subst e
   split
   ·exact wpS_pure (fin _ _ (by omega))
   ·refine wpS_bind (bey (by omega) λb=>?_)
    cases b with
    | true=>exact wpS_pure (fin _ _ (by omega))
    | false=>exact wpS_pure ⟨rfl,rfl,by show 1<=2*c3+1;omega⟩
  case over=>
   rintro ⟨c1,c2,c3⟩ s2 ⟨rfl,e,h⟩
   dsimp only at e h ⊢
   subst e
   exact fin _ _ (by omega)
noncomputable def countRun' : Nat->Nat->StateT SortSt Sem (Option Nat):=sortPriv% PySem.Builtin.countRun
noncomputable def binarySort' : Nat->Nat->Nat->StateT SortSt Sem Bool:=sortPriv% PySem.Builtin.binarySort
structure In (κ:SortKind)(U:Keyed->Prop)(N:Nat)(st:SortSt):Prop where
 kind:kindOf st=κ
 all:∀ x∈(arrOf st).toList,U x
 size:(arrOf st).size=N
theorem In.set {N:Nat}{st:SortSt}(h:In κ U N st){xs:Array Keyed}(p:xs.Perm (arrOf st)):In κ U N (setArr st xs):=⟨h.kind,λx hx=>h.all x ((perm_iff_toList_perm.mp p).mem_iff.mp hx),p.size_eq.trans h.size⟩
theorem JV (ik:Any prog w A E s κ U){N i j:Nat}{st:SortSt}{Q:Option Bool->SortSt->Prop}(h:In κ U N st)(hi:i<N)(hj:j<N)(k:∀ b:Bool,Q (some b) st):wpS (model prog w) A E s (ltAt' i j) Q st:=by
 rw[ltAt'_eq]
 refine wpS_bind (wpS_get ?_)
 have hs:=h.size
 refine wpS_bind (zbp (by omega) h.all λx hx=>wpS_bind (zbp (by omega) h.all λy hy=>ik hx hy h.kind k))
theorem zck {i j:Nat}{st:SortSt}{Q:Unit->SortSt->Prop}(k:∀ xs,xs.Perm (arrOf st)->Q () (setArr st xs)):wpS (model prog w) A E s (reverseSlice' i j) Q st:=by
 rw[reverseSlice'_eq]
 exact wpS_modify (k _ (mirror_perm ..))
noncomputable def zgP (lo n₀ nrem:Nat):StateT SortSt Sem (Option Nat):=do
 let mut n:=n₀
 for _ in [n:nrem] do
  let some smaller ← ltAt' (lo+n) (lo+n-1) | return none
  if smaller then break
  n:=n+1
 return some n
theorem zfL (ik:Any prog w A E s κ U){N lo n nrem:Nat}{st:SortSt}{Q:Option Nat->SortSt->Prop}(h:In κ U N st)(hz:lo+nrem<=N)(h1:1<=n)(hn:n<=nrem)(k:∀ m,1<=m->m<=nrem->Q (some m) st):wpS (model prog w) A E s (zgP lo n nrem) Q st:=by
 unfold zgP
 refine wpS_bind ?_
 refine wpS_forRange (I:=λx c s2=>s2=st/\c=(none,x)) ?turn ?over ⟨rfl,rfl⟩
 case turn=>
  rintro x _ s2 x1 x2 ⟨rfl,rfl⟩
  dsimp only
  refine wpS_bind (JV ik h (by omega) (by omega) λb=>?_)
  cases b with
  | true=>exact wpS_pure (wpS_pure (k x (by omega) (by omega)))
  | false=>exact wpS_pure ⟨rfl,rfl⟩
 case over=>
  rintro _ s2 ⟨rfl,rfl⟩
  exact wpS_pure (k _ (by omega) (by omega))
noncomputable def zhC (lo n₀ nrem:Nat):StateT SortSt Sem (Option Nat):=do
 rule "list.sort.descending-run"
 let mut n:=n₀+1
 let mut neq:=0
 for _ in [n:nrem] do
  let some smaller ← ltAt' (lo+n) (lo+n-1) | return none
  if smaller then
   if neq>0 then reverseSlice' (lo+n-(neq+1)) (lo+n)
   neq:=0
  else
   let some larger ← ltAt' (lo+n-1) (lo+n) | return none
   if larger then break
   neq:=neq+1
  n:=n+1
 if neq>0 then reverseSlice' (lo+n-(neq+1)) (lo+n)
 reverseSlice' lo (lo+n)
 for _ in [n:nrem] do
  let some smaller ← ltAt' (lo+n) (lo+n-1) | return none
  if smaller then break
  n:=n+1
 return some n
theorem zdr (ik:Any prog w A E s κ U){N lo n nrem:Nat}{st:SortSt}{Q:Option Nat->SortSt->Prop}(h:In κ U N st)(hz:lo+nrem<=N)(hn:n+1<=nrem)(k:∀ m xs,1<=m->m<=nrem->xs.Perm (arrOf st)->Q (some m) (setArr st xs)):wpS (model prog w) A E s (zhC lo n nrem) Q st:=by
 have tail:∀ (m:Nat) (xs:Array Keyed),1<=m->m<=nrem->xs.Perm (arrOf st)->wpS (model prog w) A E s (do reverseSlice' lo (lo+m);zgP lo m nrem) Q (setArr st xs):=λm xs h1 h2 p=>
  wpS_bind (zck λys q=>zfL ik (h.set (p:=(show ys.Perm xs from q).trans p)) hz h1 h2 λm' a b=>k m' ys a b ((show ys.Perm xs from q).trans p))
 have fin:∀ (m q:Nat) (xs:Array Keyed),1<=m->m<=nrem->xs.Perm (arrOf st)->wpS (model prog w) A E s (do
   if q>0 then reverseSlice' (lo+m-(q+1)) (lo+m)
   reverseSlice' lo (lo+m);zgP lo m nrem) Q (setArr st xs):=λm q xs h1 h2 p=>by
  split
  ·exact wpS_bind (zck λys q=>tail m ys h1 h2 ((show ys.Perm xs from q).trans p))
  ·exact tail m xs h1 h2 p
 unfold zhC
 refine wpS_bind (wpS_lift (wpAny_rule ⟨rfl,?_⟩))
 refine wpS_bind ?_
 refine wpS_forRange (I:=λx c s2=>∃ xs q,s2=setArr st xs/\xs.Perm (arrOf st)/\c=(none,x,q)) ?turn ?over ⟨arrOf st,0,rfl,Array.Perm.refl _,rfl⟩
 case turn=>
  rintro x _ _ x1 x2 ⟨xs,q,rfl,p,rfl⟩
  dsimp only
  have hI:In κ U N (setArr st xs):=h.set p
  refine wpS_bind (JV ik hI (by omega) (by omega) λb=>?_)
  cases b with
  | true=>
   dsimp only
   rw[if_pos rfl]
   split
   ·exact wpS_bind (zck λys q=>wpS_pure ⟨ys,_,rfl,(show ys.Perm xs from q).trans p,rfl⟩)
   ·exact wpS_pure ⟨xs,_,rfl,p,rfl⟩
  | false=>
   dsimp only
   rw[if_neg Bool.false_ne_true]
   refine wpS_bind (JV ik hI (by omega) (by omega) λb=>?_)
   cases b with
   | true=>exact wpS_pure (fin x q xs (by omega) (by omega) p)
   | false=>exact wpS_pure ⟨xs,_,rfl,p,rfl⟩
 case over=>
  rintro _ _ ⟨xs,q,rfl,p,rfl⟩
  exact fin (max (n+1) nrem) q xs (by omega) (by omega) p
theorem JS (ik:Any prog w A E s κ U){N lo nrem:Nat}{st:SortSt}{Q:Option Nat->SortSt->Prop}(h:In κ U N st)(hz:lo+nrem<=N)(h1:1<=nrem)(k:∀ m xs,1<=m->m<=nrem->xs.Perm (arrOf st)->Q (some m) (setArr st xs)):wpS (model prog w) A E s (countRun' lo nrem) Q st:=by
 have fin:∀ m,1<=m->m<=nrem->wpS (model prog w) A E s (do
   if m==nrem then return some m
   if m>1 then
    let some rose ← ltAt' lo (lo+m-1) | return none
    if rose then return some m
    reverseSlice' lo (lo+m)
   zhC lo m nrem) Q st:=λm m1 m2=>by
  split
  ·exact wpS_pure (k m _ m1 m2 (Array.Perm.refl _))
  ·rename_i e
   have e:m≠nrem:=by simpa using e
   split
   ·refine wpS_bind (JV ik h (by omega) (by omega) λb=>?_)
    cases b with
    | true=>exact wpS_pure (k m _ m1 m2 (Array.Perm.refl _))
    | false=>
     refine wpS_bind (zck λys q=>zdr ik (h.set q) hz (by omega) λm' xs a b p=>k m' xs a b (p.trans q))
   ·exact zdr ik h hz (by omega) k
 unfold countRun'
 refine wpS_bind ?_
 refine wpS_forRange (I:=λx c s2=>s2=st/\c=(none,x)) ?turn ?over ⟨rfl,rfl⟩
 case turn=>
  rintro x _ s2 x1 x2 ⟨rfl,rfl⟩
  dsimp only
  refine wpS_bind (JV ik h (by omega) (by omega) λb=>?_)
  cases b with
  | true=>exact wpS_pure (fin x (by omega) (by omega))
  | false=>exact wpS_pure ⟨rfl,rfl⟩
 case over=>
  rintro _ s2 ⟨rfl,rfl⟩
  exact fin (max 1 nrem) (by omega) (by omega)
theorem zdz {i j:Nat}{st:SortSt}{Q:Unit->SortSt->Prop}(k:∀ xs,xs.Perm (arrOf st)->Q () (setArr st xs)):wpS (model prog w) A E s (moveDown' i j) Q st:=by
 rw[moveDown'_eq]
 exact wpS_modify (k _ (bubble_perm ..))
theorem W0 (ik:Any prog w A E s κ U){N lo n ok:Nat}{st:SortSt}{Q:Bool->SortSt->Prop}(h:In κ U N st)(hz:lo+n<=N)(k:∀ xs,xs.Perm (arrOf st)->Q true (setArr st xs)):wpS (model prog w) A E s (binarySort' lo n ok) Q st:=by
 unfold binarySort'
 refine wpS_bind ?_
 refine wpS_forRange (I:=λx c s2=>∃ xs,s2=setArr st xs/\xs.Perm (arrOf st)/\c=(none,())) ?turn ?over ⟨arrOf st,rfl,Array.Perm.refl _,rfl⟩
 case turn=>
  rintro x _ _ x1 x2 ⟨xs,rfl,p,rfl⟩
  dsimp only
  have hI:In κ U N (setArr st xs):=h.set p
  refine wpS_bind ?_
  refine wpS_forRange (I:=λy c s2=>s2=setArr st xs/\c.1=none/\c.2.2<=x) ?turn2 ?over2 ⟨rfl,rfl,Nat.le_refl _⟩
  case turn2=>
   rintro y ⟨c1,l,r⟩ _ y1 y2 ⟨rfl,e,hr⟩
   dsimp only at e hr ⊢
   subst e
   split
   ·exact wpS_pure (wpS_bind (zdz λys q=>wpS_pure ⟨ys,rfl,(show ys.Perm xs from q).trans p,rfl⟩))
   ·refine wpS_bind (JV ik hI (by omega) (by omega) λb=>?_)
    cases b with
    | true=>exact wpS_pure ⟨rfl,rfl,by show (l+r) / 2<=x;omega⟩
    | false=>exact wpS_pure ⟨rfl,rfl,hr⟩
  case over2=>
   rintro ⟨c1,l,r⟩ _ ⟨rfl,e,hr⟩
   dsimp only at e hr ⊢
   subst e
   exact wpS_bind (zdz λys q=>wpS_pure ⟨ys,rfl,(show ys.Perm xs from q).trans p,rfl⟩)
 case over=>
  rintro _ _ ⟨xs,rfl,p,rfl⟩
  exact wpS_pure (k xs p)
noncomputable def UT : Array Keyed->Array Keyed->StateT SortSt Sem (Array Keyed):=sortPriv% PySem.Builtin.mergeLo
noncomputable def Ut : Array Keyed->Array Keyed->StateT SortSt Sem (Array Keyed):=sortPriv% PySem.Builtin.mergeHi
abbrev setG (st:SortSt)(g:Nat):SortSt:=SortSt.mk' (kindOf st) (arrOf st) (pendingOf st) g (failedOf st)
theorem Zr {arr:Array Keyed}{i:Nat}{st:SortSt}{Q:Keyed->SortSt->Prop}(hi:i<arr.size)(k:Q arr[i] st):wpS (model prog w) A E s (elem' arr i) Q st:=by
 rw[elem'_eq,Array.getElem?_eq_getElem hi]
 exact wpS_pure k
def J (o a b:Array Keyed)(i j:Nat):Prop:=o.toList.Perm (a.toList.take i++b.toList.take j)
theorem ZZ {a:Array Keyed}{i j:Nat}:(a.extract i j).toList=(a.toList.drop i).take (j-i):=by simp[List.extract]
theorem pm4 {α:Type}{o p q r s:List α}(h:o.Perm (p++q)):(o++r++s).Perm ((p++r)++(q++s)):=by
 refine ((h.append_right r).append_right s).trans ?_
 rw[append_assoc,append_assoc,append_assoc]
 exact List.Perm.append_left p (List.perm_append_comm_assoc q r s)
theorem J.zdo {o a b:Array Keyed}{i j:Nat}(h:J o a b i j)(k:Nat):J (o++a.extract i (i+k)) a b (i+k) j:=by
 unfold J
 rw[toList_append,ZZ,List.take_add,add_sub_cancel_left]
 have:=pm4 (r:=(a.toList.drop i).take k) (s:=[]) h
 rw[append_nil,append_nil] at this
 exact this
theorem J.zaj {o a b:Array Keyed}{i j:Nat}(h:J o a b i j)(k:Nat):J (o++b.extract j (j+k)) a b i (j+k):=by
 unfold J
 rw[toList_append,ZZ,List.take_add,add_sub_cancel_left]
 have:=pm4 (r:=[]) (s:=(b.toList.drop j).take k) h
 rw[append_nil,append_nil] at this
 exact this
theorem V0 {a:Array Keyed}{i:Nat}(hi:i<a.size):(a.toList.drop i).take 1=[a[i]]:=by
 rw[List.drop_eq_getElem_cons (by simpa using hi)]
 simp
theorem J.Qt {o a b:Array Keyed}{i j:Nat}(h:J o a b i j)(hi:i<a.size):J (o.push a[i]) a b (i+1) j:=by
 have:=h.zdo 1
 unfold J at this ⊢
 rw[toList_append,ZZ,add_sub_cancel_left,V0 hi] at this
 rw[toList_push];exact this
theorem J.UL {o a b:Array Keyed}{i j:Nat}(h:J o a b i j)(hj:j<b.size):J (o.push b[j]) a b i (j+1):=by
 have:=h.zaj 1
 unfold J at this ⊢
 rw[toList_append,ZZ,add_sub_cancel_left,V0 hj] at this
 rw[toList_push];exact this
theorem J.done {o a b:Array Keyed}{i j:Nat}(h:J o a b i j):(o++a.extract i a.size++b.extract j b.size).Perm (a++b):=by
 rw[perm_iff_toList_perm,toList_append,toList_append,ZZ,ZZ,toList_append]
 have:=pm4 (r:=a.toList.drop i) (s:=b.toList.drop j) h
 rw[take_append_drop,take_append_drop] at this
 rw[List.take_of_length_le (by simp),List.take_of_length_le (by simp)]
 exact this
theorem J.last {o a b:Array Keyed}{i j:Nat}(h:J o a b i j):(o++b.extract j b.size++a.extract i a.size).Perm (a++b):=by
 refine Array.Perm.trans ?_ h.done
 rw[perm_iff_toList_perm]
 simp only[toList_append]
 rw[append_assoc,append_assoc]
 exact List.Perm.append_left _ List.perm_append_comm
theorem Z3 {α:Type}{c:Prop}[Decidable c]{m1 m2:StateT SortSt Sem α}{Q:α->SortSt->Prop}{st:SortSt}(h1:c->wpS (model prog w) A E s m1 Q st)(h2:¬ c->wpS (model prog w) A E s m2 Q st):wpS (model prog w) A E s (if c then m1 else m2) Q st:=by
 by_cases h:c
 ·rw[if_pos h];exact h1 h
 ·rw[if_neg h];exact h2 h
theorem zb0 (ik:Any prog w A E s κ U){a b:Array Keyed}{st:SortSt}{Q:Array Keyed->SortSt->Prop}(ha:∀ x∈a.toList,U x)(hb:∀ x∈b.toList,U x)(a1:1<=a.size)(b1:1<=b.size)(kd:kindOf st=κ)
  (k:∀ out g,out.Perm (a++b)->Q out (setG st g)):wpS (model prog w) A E s (UT a b) Q st:=by
 unfold UT
 refine wpS_bind (wpS_lift (wpAny_rule ⟨rfl,?_⟩))
 refine wpS_bind (Zr (by omega) ?_)
 have j0:J #[b[0]] a b 0 1:=by
  have:J #[] a b 0 0:=by unfold J;simp
  exact this.UL (by omega)
 refine Z3 (λ_=>wpS_pure (k _ (gallopOf st) j0.done)) λe1=>?_
 refine Z3 (λ_=>wpS_pure (k _ (gallopOf st) j0.last)) λe2=>?_
 have e1:1<b.size:=by
  have:¬ 1=b.size:=by simpa using e1
  omega
 have e2:0+1<a.size:=by
  have:¬ 0+1=a.size:=λz=>e2 (beq_iff_eq.mpr z)
  omega
 have UA:∀ {i:Nat}(h:i<a.size),U a[i]:=λh=>ha _ (by simp)
 have UB:∀ {i:Nat}(h:i<b.size),U b[i]:=λh=>hb _ (by simp)
 have fin:∀ {c:Array Keyed}(g:Nat),c.Perm (a++b)->Q c (setG st g):=λg h=>k _ g h
 refine wpS_bind (wpS_get ?_)
 refine wpS_bind ?_
 refine wpS_forRange (I:=λx c s2=>∃ out ia ib mg g,s2=setG st g/\c=(none,out,ia,ib,mg)/\J out a b ia ib/\ia+1<a.size/\ib<b.size/\1+x<=ia+ib) ?turn ?over ⟨_,0,1,_,gallopOf st,rfl,rfl,j0,e2,e1,by omega⟩
 case over=>
  rintro _ _ ⟨out,ia,ib,mg,g,rfl,rfl,j,h1,h2,h3⟩
  exfalso;omega
 case turn=>
  rintro x _ _ x1 x2 ⟨out,ia,ib,mg,g,rfl,rfl,j,h1,h2,h3⟩
  refine wpS_bind (wpS_mono (Q:=λc s2=>s2=setG st g/\((∃ r o,c=(some r,o)/\r.Perm (a++b))\/∃ out ia ib ac bc,c=(none,out,ia,ib,ac,bc)/\J out a b ia ib/\ia+1<a.size/\ib<b.size/\2+x<=ia+ib)) ?_ ?_)
  ·refine wpS_forRange (I:=λy c s2=>∃ out ia ib ac bc,s2=setG st g/\c=(none,out,ia,ib,ac,bc)/\J out a b ia ib/\ia+1<a.size/\ib<b.size/\1+x+y<=ia+ib) ?turn1 ?over1 ⟨out,ia,ib,0,0,rfl,rfl,j,h1,h2,by omega⟩
   case over1=>
    rintro _ _ ⟨out,ia,ib,ac,bc,rfl,rfl,j,h1,h2,h3⟩
    exfalso;omega
   case turn1=>
    rintro y _ _ y1 y2 ⟨out,ia,ib,ac,bc,rfl,rfl,j,h1,h2,h3⟩
    refine wpS_bind (Zr h2 (wpS_bind (Zr (show ia<a.size by omega) (wpS_bind (ik (UB h2) (UA _) kd λw=>?_)))))
    cases w with
    | true=>
     refine Z3 (λ_=>wpS_bind (Zr h2 ?_)) (λz=>absurd rfl z)
     refine Z3 (λ_=>wpS_pure ⟨rfl,.inl ⟨_,_,rfl,(j.UL h2).done⟩⟩) λn=>?_
     have n:ib+1<b.size:=by
      have:¬ ib+1=b.size:=λz=>n (beq_iff_eq.mpr z)
      omega
     refine Z3 (λ_=>wpS_pure ⟨rfl,.inr ⟨_,ia,ib+1,_,_,rfl,j.UL h2,h1,n,by omega⟩⟩) λ_=>wpS_pure ⟨_,ia,ib+1,_,_,rfl,rfl,j.UL h2,h1,n,by omega⟩
    | false=>
     refine Z3 (λz=>by cases z) (λ_=>wpS_bind (Zr (show ia<a.size by omega) ?_))
     refine Z3 (λ_=>wpS_pure ⟨rfl,.inl ⟨_,_,rfl,(j.Qt (by omega)).last⟩⟩) λn=>?_
     have n:ia+1+1<a.size:=by
      have:¬ ia+1+1=a.size:=λz=>n (beq_iff_eq.mpr z)
      omega
     refine Z3 (λ_=>wpS_pure ⟨rfl,.inr ⟨_,ia+1,ib,_,_,rfl,j.Qt (by omega),n,h2,by omega⟩⟩) λ_=>wpS_pure ⟨_,ia+1,ib,_,_,rfl,rfl,j.Qt (by omega),n,h2,by omega⟩
  ·rintro _ _ ⟨rfl,⟨r,o,rfl,p⟩ | ⟨out,ia,ib,ac,bc,rfl,j,h1,h2,h3⟩⟩
   ·exact wpS_pure (wpS_pure (fin g p))
   refine wpS_bind (wpS_lift (wpAny_rule ⟨rfl,?_⟩))
   refine wpS_bind (wpS_mono (Q:=λc s2=>∃ g,s2=setG st g/\((∃ r o,c=(some r,o)/\r.Perm (a++b))\/∃ out ia ib mg ac bc,c=(none,out,ia,ib,mg,ac,bc)/\J out a b ia ib/\ia+1<a.size/\ib<b.size/\2+x<=ia+ib)) ?_ ?_)
   ·refine wpS_forRange (I:=λy c s2=>∃ out ia ib mg ac bc g,s2=setG st g/\c=(none,out,ia,ib,mg,ac,bc)/\J out a b ia ib/\ia+1<a.size/\ib<b.size/\2+x+y<=ia+ib) ?turn2 ?over2 ⟨out,ia,ib,_,ac,bc,g,rfl,rfl,j,h1,h2,by omega⟩
    case over2=>
     rintro _ _ ⟨out,ia,ib,mg,ac,bc,g,rfl,rfl,j,h1,h2,h3⟩
     exfalso;omega
    case turn2=>
     rintro y _ _ y1 y2 ⟨out,ia,ib,mg,ac,bc,g,rfl,rfl,j,h1,h2,h3⟩
     refine Z3 (λ_=>wpS_bind (wpS_modify ?_)) (λ_=>wpS_bind (wpS_modify ?_))
     all_goals
      refine wpS_bind (Zr h2 (wpS_bind (YG (base:=ia) (n:=a.size-ia) ik (UB h2) ha (by omega) (by omega) kd λk1 hk1=>?_)))
      refine Z3 (λhk=>Z3 (λ_=>wpS_pure ⟨_,rfl,.inl ⟨_,_,rfl,(j.zdo k1).last⟩⟩) λm1=>Z3 (λ_=>wpS_pure ⟨_,rfl,.inl ⟨_,_,rfl,(j.zdo k1).done⟩⟩) λm2=>?_) (λhk=>?_)
      ·have j2:=j.zdo k1
       have m1:¬ ia+k1+1=a.size:=mt beq_iff_eq.mpr m1
       have m2:¬ ia+k1=a.size:=mt beq_iff_eq.mpr m2
       have i1:ia+k1+1<a.size:=by omega
       have h5:2+x+y<=ia+k1+ib:=by omega
       refine wpS_bind (Zr h2 ?_)
       refine Z3 (λ_=>wpS_pure ⟨_,rfl,.inl ⟨_,_,rfl,(j2.UL h2).done⟩⟩) λn3=>?_
       have n3:¬ ib+1=b.size:=mt beq_iff_eq.mpr n3
       have n3:ib+1<b.size:=by omega
       refine wpS_bind (Zr (show ia+k1<a.size by omega) (wpS_bind (YG (base:=ib+1) (n:=b.size-(ib+1)) ik (UA _) hb (by omega) (by omega) kd λk2 hk2=>?_)))
       refine Z3 (λ_=>Z3 (λ_=>wpS_pure ⟨_,rfl,.inl ⟨_,_,rfl,((j2.UL h2).zaj k2).done⟩⟩) λm3=>?_) (λ_=>?_)
       ·have j3:=(j2.UL h2).zaj k2
        have m3:¬ ib+1+k2=b.size:=mt beq_iff_eq.mpr m3
        have i3:ib+1+k2<b.size:=by omega
        refine wpS_bind (Zr (show ia+k1<a.size by omega) ?_)
        refine Z3 (λ_=>wpS_pure ⟨_,rfl,.inl ⟨_,_,rfl,(j3.Qt (by omega)).last⟩⟩) λn4=>?_
        have n4:¬ ia+k1+1+1=a.size:=mt beq_iff_eq.mpr n4
        have n4:ia+k1+1+1<a.size:=by omega
        refine Z3 (λ_=>wpS_pure ⟨_,rfl,.inr ⟨_,ia+k1+1,ib+1+k2,_,_,_,rfl,j3.Qt (by omega),n4,i3,by omega⟩⟩) λ_=>wpS_pure ⟨_,ia+k1+1,ib+1+k2,_,_,_,_,rfl,rfl,j3.Qt (by omega),n4,i3,by omega⟩
       ·have j3:=j2.UL h2
        have i3:=n3
        refine wpS_bind (Zr (show ia+k1<a.size by omega) ?_)
        refine Z3 (λ_=>wpS_pure ⟨_,rfl,.inl ⟨_,_,rfl,(j3.Qt (by omega)).last⟩⟩) λn4=>?_
        have n4:¬ ia+k1+1+1=a.size:=mt beq_iff_eq.mpr n4
        have n4:ia+k1+1+1<a.size:=by omega
        refine Z3 (λ_=>wpS_pure ⟨_,rfl,.inr ⟨_,ia+k1+1,ib+1,_,_,_,rfl,j3.Qt (by omega),n4,i3,by omega⟩⟩) λ_=>wpS_pure ⟨_,ia+k1+1,ib+1,_,_,_,_,rfl,rfl,j3.Qt (by omega),n4,i3,by omega⟩
      ·have j2:=j
       have i1:=h1
       have h5:=h3
       refine wpS_bind (Zr h2 ?_)
       refine Z3 (λ_=>wpS_pure ⟨_,rfl,.inl ⟨_,_,rfl,(j2.UL h2).done⟩⟩) λn3=>?_
       have n3:¬ ib+1=b.size:=mt beq_iff_eq.mpr n3
       have n3:ib+1<b.size:=by omega
       refine wpS_bind (Zr (show ia<a.size by omega) (wpS_bind (YG (base:=ib+1) (n:=b.size-(ib+1)) ik (UA _) hb (by omega) (by omega) kd λk2 hk2=>?_)))
       refine Z3 (λ_=>Z3 (λ_=>wpS_pure ⟨_,rfl,.inl ⟨_,_,rfl,((j2.UL h2).zaj k2).done⟩⟩) λm3=>?_) (λ_=>?_)
       ·have j3:=(j2.UL h2).zaj k2
        have m3:¬ ib+1+k2=b.size:=mt beq_iff_eq.mpr m3
        have i3:ib+1+k2<b.size:=by omega
        refine wpS_bind (Zr (show ia<a.size by omega) ?_)
        refine Z3 (λ_=>wpS_pure ⟨_,rfl,.inl ⟨_,_,rfl,(j3.Qt (by omega)).last⟩⟩) λn4=>?_
        have n4:¬ ia+1+1=a.size:=mt beq_iff_eq.mpr n4
        have n4:ia+1+1<a.size:=by omega
        refine Z3 (λ_=>wpS_pure ⟨_,rfl,.inr ⟨_,ia+1,ib+1+k2,_,_,_,rfl,j3.Qt (by omega),n4,i3,by omega⟩⟩) λ_=>wpS_pure ⟨_,ia+1,ib+1+k2,_,_,_,_,rfl,rfl,j3.Qt (by omega),n4,i3,by omega⟩
       ·have j3:=j2.UL h2
        have i3:=n3
        refine wpS_bind (Zr (show ia<a.size by omega) ?_)
        refine Z3 (λ_=>wpS_pure ⟨_,rfl,.inl ⟨_,_,rfl,(j3.Qt (by omega)).last⟩⟩) λn4=>?_
        have n4:¬ ia+1+1=a.size:=mt beq_iff_eq.mpr n4
        have n4:ia+1+1<a.size:=by omega
        refine Z3 (λ_=>wpS_pure ⟨_,rfl,.inr ⟨_,ia+1,ib+1,_,_,_,rfl,j3.Qt (by omega),n4,i3,by omega⟩⟩) λ_=>wpS_pure ⟨_,ia+1,ib+1,_,_,_,_,rfl,rfl,j3.Qt (by omega),n4,i3,by omega⟩
   ·rintro _ _ ⟨g2,rfl,⟨r,o,rfl,p⟩ | ⟨out,ia,ib,mg,ac,bc,rfl,j,h1,h2,h3⟩⟩
    ·exact wpS_pure (wpS_pure (fin g2 p))
    ·exact wpS_bind (wpS_modify (wpS_pure ⟨out,ia,ib,_,_,rfl,rfl,j,h1,h2,by omega⟩))
def JH (o a b:Array Keyed)(i j:Nat):Prop:=o.toList.Perm (a.toList.drop i++b.toList.drop j)
theorem W2 {α:Type}{l:List α}{k i:Nat}(h:k<=i):l.drop k=(l.drop k).take (i-k)++l.drop i:=by
 have:=(take_append_drop (i-k) (l.drop k)).symm
 rw[List.drop_drop,show k+(i-k)=i by omega] at this
 exact this
theorem JH.zdo {o a b:Array Keyed}{i j k:Nat}(h:JH o a b i j)(hk:k<=i):JH (o++(a.extract k i).reverse) a b k j:=by
 unfold JH at h ⊢
 rw[W2 hk,toList_append,toList_reverse,ZZ]
 refine List.perm_append_comm.trans (((List.reverse_perm _).append h).trans ?_)
 rw[append_assoc]
theorem JH.zaj {o a b:Array Keyed}{i j k:Nat}(h:JH o a b i j)(hk:k<=j):JH (o++(b.extract k j).reverse) a b i k:=by
 unfold JH at h ⊢
 rw[W2 (l:=b.toList) hk,toList_append,toList_reverse,ZZ]
 refine List.perm_append_comm.trans (((List.reverse_perm _).append h).trans ?_)
 exact List.perm_append_comm_assoc _ _ _
theorem JH.Qt {o a b:Array Keyed}{i j:Nat}(h:JH o a b (i+1) j)(hi:i<a.size):JH (o.push a[i]) a b i j:=by
 have:=h.zdo (k:=i) (by omega)
 unfold JH at this ⊢
 rw[toList_append,toList_reverse,ZZ,add_sub_cancel_left,V0 hi] at this
 rw[toList_push];exact this
theorem JH.UL {o a b:Array Keyed}{i j:Nat}(h:JH o a b i (j+1))(hj:j<b.size):JH (o.push b[j]) a b i j:=by
 have:=h.zaj (k:=j) (by omega)
 unfold JH at this ⊢
 rw[toList_append,toList_reverse,ZZ,add_sub_cancel_left,V0 hj] at this
 rw[toList_push];exact this
theorem JH.done {o a b:Array Keyed}{i j:Nat}(h:JH o a b i j):(a.extract 0 i++b.extract 0 j++o.reverse).Perm (a++b):=by
 rw[perm_iff_toList_perm,toList_append,toList_append,ZZ,ZZ,toList_append,toList_reverse]
 simp only[List.drop_zero,Nat.sub_zero]
 refine (List.Perm.append_left _ ((List.reverse_perm _).trans h)).trans ?_
 have:=pm4 (r:=a.toList.drop i) (s:=b.toList.drop j) (List.Perm.refl (a.toList.take i++b.toList.take j))
 rw[take_append_drop,take_append_drop,append_assoc] at this
 exact this
theorem JH.last {o a b:Array Keyed}{i j:Nat}(h:JH o a b i j):(b.extract 0 j++a.extract 0 i++o.reverse).Perm (a++b):=by
 refine Array.Perm.trans ?_ h.done
 rw[perm_iff_toList_perm]
 simp only[toList_append]
 exact List.perm_append_comm.append_right _
theorem JH.Vm {o a b:Array Keyed}{i j:Nat}(h:JH o a b i j)(h1:1<=i)(hi:i-1<a.size):JH (o.push a[i-1]) a b (i-1) j:=by
 obtain ⟨n,rfl⟩:∃ n,i=n+1:=⟨i-1,by omega⟩
 exact JH.Qt (i:=n) h hi
theorem JH.subB {o a b:Array Keyed}{i j:Nat}(h:JH o a b i j)(h1:1<=j)(hj:j-1<b.size):JH (o.push b[j-1]) a b i (j-1):=by
 obtain ⟨n,rfl⟩:∃ n,j=n+1:=⟨j-1,by omega⟩
 exact JH.UL (j:=n) h hj
theorem zaw (ik:Any prog w A E s κ U){a b:Array Keyed}{st:SortSt}{Q:Array Keyed->SortSt->Prop}(ha:∀ x∈a.toList,U x)(hb:∀ x∈b.toList,U x)(a1:1<=a.size)(b1:1<=b.size)(kd:kindOf st=κ)
  (k:∀ out g,out.Perm (a++b)->Q out (setG st g)):wpS (model prog w) A E s (Ut a b) Q st:=by
 unfold Ut
 refine wpS_bind (wpS_lift (wpAny_rule ⟨rfl,?_⟩))
 refine wpS_bind (Zr (show a.size-1<a.size by omega) ?_)
 have j0:JH #[a[a.size-1]] a b (a.size-1) b.size:=by
  have:JH #[] a b (a.size-1+1) b.size:=by unfold JH;rw[show a.size-1+1=a.size by omega];simp
  exact this.Qt (by omega)
 refine Z3 (λ_=>wpS_pure (k _ (gallopOf st) j0.done)) λe1=>?_
 refine Z3 (λ_=>wpS_pure (k _ (gallopOf st) j0.last)) λe2=>?_
 have e1:¬ a.size-1=0:=mt beq_iff_eq.mpr e1
 have e2:¬ b.size=1:=mt beq_iff_eq.mpr e2
 have UA:∀ {i:Nat}(h:i<a.size),U a[i]:=λh=>ha _ (by simp)
 have UB:∀ {i:Nat}(h:i<b.size),U b[i]:=λh=>hb _ (by simp)
 have fin:∀ {c:Array Keyed}(g:Nat),c.Perm (a++b)->Q c (setG st g):=λg h=>k _ g h
 refine wpS_bind (wpS_get ?_)
 refine wpS_bind ?_
 refine wpS_forRange (I:=λx c s2=>∃ out na nb mg g,s2=setG st g/\c=(none,na,nb,out,mg)/\JH out a b na nb/\1<=na/\na<a.size/\2<=nb/\nb<=b.size/\na+nb+1+x<=a.size+b.size) ?turn ?over ⟨#[a[a.size-1]],a.size-1,b.size,gallopOf st,gallopOf st,rfl,rfl,j0,by omega,by omega,by omega,by omega,by omega⟩
 case over=>
  rintro _ _ ⟨out,na,nb,mg,g,rfl,rfl,j,p1,p2,p3,p4,h3⟩
  exfalso;omega
 case turn=>
  rintro x _ _ x1 x2 ⟨out,na,nb,mg,g,rfl,rfl,j,p1,p2,p3,p4,h3⟩
  refine wpS_bind (wpS_mono (Q:=λc s2=>s2=setG st g/\((∃ r o,c=(some r,o)/\r.Perm (a++b))\/∃ out na nb ac bc,c=(none,na,nb,out,ac,bc)/\JH out a b na nb/\1<=na/\na<a.size/\2<=nb/\nb<=b.size/\na+nb+2+x<=a.size+b.size)) ?_ ?_)
  ·refine wpS_forRange (I:=λy c s2=>∃ out na nb ac bc,s2=setG st g/\c=(none,na,nb,out,ac,bc)/\JH out a b na nb/\1<=na/\na<a.size/\2<=nb/\nb<=b.size/\na+nb+1+x+y<=a.size+b.size) ?turn1 ?over1 ⟨out,na,nb,0,0,rfl,rfl,j,p1,p2,p3,p4,by omega⟩
   case over1=>
    rintro _ _ ⟨out,na,nb,ac,bc,rfl,rfl,j,p1,p2,p3,p4,h3⟩
    exfalso;omega
   case turn1=>
    rintro y _ _ y1 y2 ⟨out,na,nb,ac,bc,rfl,rfl,j,p1,p2,p3,p4,h3⟩
    have iA:na-1<a.size:=by omega
    have iB:nb-1<b.size:=by omega
    refine wpS_bind (Zr iB (wpS_bind (Zr iA (wpS_bind (ik (UB iB) (UA iA) kd λw=>?_)))))
    cases w with
    | true=>
     refine Z3 (λ_=>wpS_bind (Zr iA ?_)) (λz=>absurd rfl z)
     refine Z3 (λ_=>wpS_pure ⟨rfl,.inl ⟨_,_,rfl,(j.Vm p1 iA).done⟩⟩) λn=>?_
     have n:¬ na-1=0:=mt beq_iff_eq.mpr n
     refine Z3 (λ_=>wpS_pure ⟨rfl,.inr ⟨_,na-1,nb,_,_,rfl,j.Vm p1 iA,by omega,iA,p3,p4,by omega⟩⟩) λ_=>wpS_pure ⟨_,na-1,nb,_,_,rfl,rfl,j.Vm p1 iA,by omega,iA,p3,p4,by omega⟩
    | false=>
     refine Z3 (λz=>by cases z) (λ_=>wpS_bind (Zr iB ?_))
     refine Z3 (λ_=>wpS_pure ⟨rfl,.inl ⟨_,_,rfl,(j.subB (by omega) iB).last⟩⟩) λn=>?_
     have n:¬ nb-1=1:=mt beq_iff_eq.mpr n
     refine Z3 (λ_=>wpS_pure ⟨rfl,.inr ⟨_,na,nb-1,_,_,rfl,j.subB (by omega) iB,p1,p2,by omega,by omega,by omega⟩⟩) λ_=>wpS_pure ⟨_,na,nb-1,_,_,rfl,rfl,j.subB (by omega) iB,p1,p2,by omega,by omega,by omega⟩
  ·rintro _ _ ⟨rfl,⟨r,o,rfl,p⟩ | ⟨out,na,nb,ac,bc,rfl,j,p1,p2,p3,p4,h3⟩⟩
   ·exact wpS_pure (wpS_pure (fin g p))
   refine wpS_bind (wpS_lift (wpAny_rule ⟨rfl,?_⟩))
   refine wpS_bind (wpS_mono (Q:=λc s2=>∃ g,s2=setG st g/\((∃ r o,c=(some r,o)/\r.Perm (a++b))\/∃ out na nb mg ac bc,c=(none,na,nb,out,mg,ac,bc)/\JH out a b na nb/\1<=na/\na<a.size/\2<=nb/\nb<=b.size/\na+nb+2+x<=a.size+b.size)) ?_ ?_)
   ·refine wpS_forRange (I:=λy c s2=>∃ out na nb mg ac bc g,s2=setG st g/\c=(none,na,nb,out,mg,ac,bc)/\JH out a b na nb/\1<=na/\na<a.size/\2<=nb/\nb<=b.size/\na+nb+2+x+y<=a.size+b.size) ?turn2 ?over2 ⟨out,na,nb,_,ac,bc,g,rfl,rfl,j,p1,p2,p3,p4,by omega⟩
    case over2=>
     rintro _ _ ⟨out,na,nb,mg,ac,bc,g,rfl,rfl,j,p1,p2,p3,p4,h3⟩
     exfalso;omega
    case turn2=>
     rintro y _ _ y1 y2 ⟨out,na,nb,mg,ac,bc,g,rfl,rfl,j,p1,p2,p3,p4,h3⟩
     have iB:nb-1<b.size:=by omega
     refine Z3 (λ_=>wpS_bind (wpS_modify ?_)) (λ_=>wpS_bind (wpS_modify ?_))
     all_goals
      refine wpS_bind (Zr iB (wpS_bind (YG (base:=0) (n:=na) (hint:=na-1) ik (UB iB) ha (by omega) (by omega) kd λk1 hk1=>?_)))
      refine Z3 (λhk=>Z3 (λ_=>wpS_pure ⟨_,rfl,.inl ⟨_,_,rfl,(j.zdo hk1).done⟩⟩) λm1=>?_) (λhk=>?_)
      ·have j2:=j.zdo hk1
       have m1:¬ k1=0:=mt beq_iff_eq.mpr m1
       have q1:1<=k1:=by omega
       refine wpS_bind (Zr iB ?_)
       refine Z3 (λ_=>wpS_pure ⟨_,rfl,.inl ⟨_,_,rfl,(j2.subB (by omega) iB).last⟩⟩) λn3=>?_
       have n3:¬ nb-1=1:=mt beq_iff_eq.mpr n3
       refine wpS_bind (Zr (show k1-1<a.size by omega) (wpS_bind (YG (base:=0) (n:=nb-1) (hint:=nb-1-1) ik (UA _) hb (by omega) (by omega) kd λk2 hk2=>?_)))
       refine Z3 (λ_=>Z3 (λ_=>wpS_pure ⟨_,rfl,.inl ⟨_,_,rfl,((j2.subB (by omega) iB).zaj hk2).last⟩⟩) λm3=>Z3 (λ_=>wpS_pure ⟨_,rfl,.inl ⟨_,_,rfl,((j2.subB (by omega) iB).zaj hk2).done⟩⟩) λm4=>?_) (λ_=>?_)
       ·have j3:=(j2.subB (by omega) iB).zaj hk2
        have m3:¬ k2=1:=mt beq_iff_eq.mpr m3
        have m4:¬ k2=0:=mt beq_iff_eq.mpr m4
        have i3:2<=k2:=by omega
        have i4:k2<=b.size:=by omega
        refine wpS_bind (Zr (show k1-1<a.size by omega) ?_)
        refine Z3 (λ_=>wpS_pure ⟨_,rfl,.inl ⟨_,_,rfl,(j3.Vm q1 (by omega)).done⟩⟩) λn4=>?_
        have n4:¬ k1-1=0:=mt beq_iff_eq.mpr n4
        refine Z3 (λ_=>wpS_pure ⟨_,rfl,.inr ⟨_,k1-1,k2,_,_,_,rfl,j3.Vm q1 (by omega),by omega,by omega,i3,i4,by omega⟩⟩) λ_=>wpS_pure ⟨_,k1-1,k2,_,_,_,_,rfl,rfl,j3.Vm q1 (by omega),by omega,by omega,i3,i4,by omega⟩
       ·have j3:=j2.subB (by omega) iB
        have i3:2<=nb-1:=by omega
        have i4:nb-1<=b.size:=by omega
        refine wpS_bind (Zr (show k1-1<a.size by omega) ?_)
        refine Z3 (λ_=>wpS_pure ⟨_,rfl,.inl ⟨_,_,rfl,(j3.Vm q1 (by omega)).done⟩⟩) λn4=>?_
        have n4:¬ k1-1=0:=mt beq_iff_eq.mpr n4
        refine Z3 (λ_=>wpS_pure ⟨_,rfl,.inr ⟨_,k1-1,(nb-1),_,_,_,rfl,j3.Vm q1 (by omega),by omega,by omega,i3,i4,by omega⟩⟩) λ_=>wpS_pure ⟨_,k1-1,(nb-1),_,_,_,_,rfl,rfl,j3.Vm q1 (by omega),by omega,by omega,i3,i4,by omega⟩
      ·have j2:=j
       have q1:=p1
       refine wpS_bind (Zr iB ?_)
       refine Z3 (λ_=>wpS_pure ⟨_,rfl,.inl ⟨_,_,rfl,(j2.subB (by omega) iB).last⟩⟩) λn3=>?_
       have n3:¬ nb-1=1:=mt beq_iff_eq.mpr n3
       refine wpS_bind (Zr (show na-1<a.size by omega) (wpS_bind (YG (base:=0) (n:=nb-1) (hint:=nb-1-1) ik (UA _) hb (by omega) (by omega) kd λk2 hk2=>?_)))
       refine Z3 (λ_=>Z3 (λ_=>wpS_pure ⟨_,rfl,.inl ⟨_,_,rfl,((j2.subB (by omega) iB).zaj hk2).last⟩⟩) λm3=>Z3 (λ_=>wpS_pure ⟨_,rfl,.inl ⟨_,_,rfl,((j2.subB (by omega) iB).zaj hk2).done⟩⟩) λm4=>?_) (λ_=>?_)
       ·have j3:=(j2.subB (by omega) iB).zaj hk2
        have m3:¬ k2=1:=mt beq_iff_eq.mpr m3
        have m4:¬ k2=0:=mt beq_iff_eq.mpr m4
        have i3:2<=k2:=by omega
        have i4:k2<=b.size:=by omega
        refine wpS_bind (Zr (show na-1<a.size by omega) ?_)
        refine Z3 (λ_=>wpS_pure ⟨_,rfl,.inl ⟨_,_,rfl,(j3.Vm q1 (by omega)).done⟩⟩) λn4=>?_
        have n4:¬ na-1=0:=mt beq_iff_eq.mpr n4
        refine Z3 (λ_=>wpS_pure ⟨_,rfl,.inr ⟨_,na-1,k2,_,_,_,rfl,j3.Vm q1 (by omega),by omega,by omega,i3,i4,by omega⟩⟩) λ_=>wpS_pure ⟨_,na-1,k2,_,_,_,_,rfl,rfl,j3.Vm q1 (by omega),by omega,by omega,i3,i4,by omega⟩
       ·have j3:=j2.subB (by omega) iB
        have i3:2<=nb-1:=by omega
        have i4:nb-1<=b.size:=by omega
        refine wpS_bind (Zr (show na-1<a.size by omega) ?_)
        refine Z3 (λ_=>wpS_pure ⟨_,rfl,.inl ⟨_,_,rfl,(j3.Vm q1 (by omega)).done⟩⟩) λn4=>?_
        have n4:¬ na-1=0:=mt beq_iff_eq.mpr n4
        refine Z3 (λ_=>wpS_pure ⟨_,rfl,.inr ⟨_,na-1,(nb-1),_,_,_,rfl,j3.Vm q1 (by omega),by omega,by omega,i3,i4,by omega⟩⟩) λ_=>wpS_pure ⟨_,na-1,(nb-1),_,_,_,_,rfl,rfl,j3.Vm q1 (by omega),by omega,by omega,i3,i4,by omega⟩
   ·rintro _ _ ⟨g2,rfl,⟨r,o,rfl,p⟩ | ⟨out,na,nb,mg,ac,bc,rfl,j,p1,p2,p3,p4,h3⟩⟩
    ·exact wpS_pure (wpS_pure (fin g2 p))
    ·exact wpS_bind (wpS_modify (wpS_pure ⟨out,na,nb,_,_,rfl,rfl,j,p1,p2,p3,p4,by omega⟩))
theorem zaU (l:List Keyed):∀ (n sa:Nat) (a:Array Keyed),sa+n+l.length<=a.size->
  ((l.zipIdx n).foldl (λ(a:Array Keyed) (q:Keyed×Nat)=>a.setIfInBounds (sa+q.2) q.1) a).toList=a.toList.take (sa+n)++l++a.toList.drop (sa+n+l.length):=by
 induction l with
 | nil=>intro n sa a h;simp
 | cons x l ih=>
  intro n sa a h
  rw[length_cons] at h
  rw[List.zipIdx_cons,foldl_cons,ih (n+1) sa _ (by rw[Array.size_setIfInBounds];omega)]
  have hi:sa+n<a.size:=by omega
  simp only[Array.toList_setIfInBounds]
  rw[show sa+(n+1)=sa+n+1 by omega,List.take_set,length_cons,show sa+n+1+l.length=sa+n+(l.length+1) by omega]
  rw[List.drop_set_of_lt (by omega)]
  have:(a.toList.take (sa+n+1)).set (sa+n) x=a.toList.take (sa+n)++[x]:=by
   rw[take_succ,List.set_append_right _ _ (by simp;omega)]
   rw[List.getElem?_eq_getElem (by simpa using hi)]
   have:(sa+n)-(a.toList.take (sa+n)).length=0:=by simp;omega
   rw[this];rfl
  rw[this]
  simp
theorem za1 {m a:Array Keyed}{sa sb nb:Nat}(h:m.Perm (a.extract sa sb++a.extract sb (sb+nb)))(h1:sa<=sb)(h2:sb+nb<=a.size):
  (m.toList.zipIdx.foldl (λ(a:Array Keyed) (q:Keyed×Nat)=>a.setIfInBounds (sa+q.2) q.1) a).Perm a:=by
 have hl:m.toList.length=sb+nb-sa:=by
  have:=h.size_eq
  simp at this ⊢
  omega
 rw[perm_iff_toList_perm,zaU m.toList 0 sa a (by omega)]
 rw[perm_iff_toList_perm,toList_append,ZZ,ZZ] at h
 have e:a.toList=a.toList.take (sa+0)++((a.toList.drop sa).take (sb-sa)++(a.toList.drop sb).take (sb+nb-sb))++a.toList.drop (sa+0+m.toList.length):=by
  rw[hl,show sa+0+(sb+nb-sa)=sb+nb by omega,append_assoc,append_assoc]
  rw[← W2 (l:=a.toList) (k:=sb) (i:=sb+nb) (by omega),← W2 h1,Nat.add_zero,take_append_drop]
 rw[append_assoc]
 refine List.Perm.trans ?_ (List.Perm.of_eq e.symm)
 rw[append_assoc]
 exact List.Perm.append_left _ (h.append_right _)
theorem zhF {st st2:SortSt}{Q:PUnit->SortSt->Prop}(h:Q ⟨⟩ st2):wpS (model prog w) A E s (set st2:StateT SortSt Sem PUnit) Q st:=
 wpS_modify (f:=λ_=>st2) h
theorem zhu {α:Type}{x y:α}(e:x=y){P:α->Prop}(h:P y):P x:=e ▸ h
theorem zca (na nb p p2:Nat):((#[(0,na,p),(na,nb,p2)]:Array (Nat×Nat×Nat)).setIfInBounds 0 (0,na+nb,p)).eraseIdxIfInBounds (0+1) = #[(0,na+nb,p)]:=by
 apply Array.toList_inj.mp
 simp
theorem zbn (ik:Any prog w A E s κ U){a:Array Keyed}{na nb p p2 g:Nat}{Q:Bool->SortSt->Prop}(hU:∀ x∈a.toList,U x)(hs:na+nb=a.size)(a1:1<=na)(b1:1<=nb)
  (k:∀ xs g2,xs.Perm a->Q true (SortSt.mk' κ xs #[(0,na+nb,p)] g2 none)):wpS (model prog w) A E s (mergeAt' 0) Q (SortSt.mk' κ a #[(0,na,p),(na,nb,p2)] g none):=by
 unfold mergeAt'
 refine wpS_bind (wpS_get ?_)
 have UA:∀ {i:Nat}(h:i<a.size),U a[i]:=λh=>hU _ (by simp)
 refine wpS_bind (zhF ?_)
 refine zhu (zca na nb p p2) (P:=λq=>wpS (model prog w) A E s _ Q (SortSt.mk' κ a q g none)) ?_
 refine wpS_bind (Zr (arr:=a) (i:=na) (by omega) ?_)
 refine wpS_bind (YG (arr:=a) (base:=0) (n:=na) (hint:=0) ik (UA _) hU (by omega) (by omega) rfl λk1 hk1=>?_)
 refine Z3 (λ_=>wpS_pure (k a g (Array.Perm.refl _))) λm1=>?_
 have m1:¬ na-k1=0:=mt beq_iff_eq.mpr m1
 refine wpS_bind (Zr (arr:=a) (i:=0+k1+(na-k1)-1) (by omega) ?_)
 refine wpS_bind (YG (arr:=a) (base:=na) (n:=nb) (hint:=nb-1) ik (UA _) hU (by omega) (by omega) rfl λk2 hk2=>?_)
 refine Z3 (λ_=>wpS_pure (k a g (Array.Perm.refl _))) λm2=>?_
 have m2:¬ k2=0:=mt beq_iff_eq.mpr m2
 have hx:∀ x∈(a.extract (0+k1) na).toList,U x:=λx hx=>hU x (by rw[ZZ] at hx;exact mem_of_mem_drop (mem_of_mem_take hx))
 have hy:∀ x∈(a.extract na (na+k2)).toList,U x:=λx hx=>hU x (by rw[ZZ] at hx;exact mem_of_mem_drop (mem_of_mem_take hx))
 have hx1:1<=(a.extract (0+k1) na).size:=by rw[Array.size_extract];omega
 have hy1:1<=(a.extract na (na+k2)).size:=by rw[Array.size_extract];omega
 have fin:∀ (out:Array Keyed) (g2:Nat),out.Perm (a.extract (0+k1) na++a.extract na (na+k2))->Q true (SortSt.mk' κ (out.toList.zipIdx.foldl (λ(a:Array Keyed) (q:Keyed×Nat)=>a.setIfInBounds (0+k1+q.2) q.1) a) #[(0,na+nb,p)] g2 none):=
  λout g2 h=>k _ g2 (za1 h (by omega) (by omega))
 refine Z3 (λ_=>wpS_bind (zb0 ik hx hy hx1 hy1 rfl λout g2 h=>?_)) (λ_=>wpS_bind (zaw ik hx hy hx1 hy1 rfl λout g2 h=>?_))
 all_goals exact wpS_bind (wpS_modify (wpS_bind (wpS_get (wpS_pure (fin out g2 h)))))
theorem Uz (n pw m:Nat):(((#[(0,n,0)]:Array (Nat×Nat×Nat)).modify 0 λx=>(x.1,x.2.1,pw)).push (n,m,0)) = #[(0,n,pw),(n,m,0)]:=by
 apply Array.toList_inj.mp
 simp[Array.toList_modify]
theorem QQ (ik:Any prog w A E s κ U){a:Array Keyed}{g:Nat}{Q:Unit->SortSt->Prop}(hU:∀ x∈a.toList,U x)(hs:a.size=64)
  (k:∀ xs pend g,xs.Perm a->Q () (SortSt.mk' κ xs pend g none)):wpS (model prog w) A E s sortRuns' Q (SortSt.mk' κ a #[] g none):=by
 rw[sortRuns'_eq]
 refine wpS_bind (wpS_get ?_)
 dsimp only
 have hz:(arrOf (SortSt.mk' κ a #[] g none)).size=64:=hs
 have hmr:minRun' 64 64 0=32:=rfl
 simp only[hz,hmr]
 have kk:∀ {x:Nat}{xs:Array Keyed}{pe:Array (Nat×Nat×Nat)},xs.Perm a->In κ U 64 (SortSt.mk' κ xs pe x none):=λp=>
  ⟨rfl,λx hx=>hU x ((perm_iff_toList_perm.mp p).mem_iff.mp hx),p.size_eq.trans hs⟩
 refine wpS_bind (wpS_mono (wpS_forRange
  (I:=λx c st' => ∃ xs,xs.Perm a/\((x=0/\c=(none,0)/\st'=SortSt.mk' κ xs #[] g none)
   \/ (x=1/\∃ n,32<=n/\n<=64/\c=(none,n)/\st'=SortSt.mk' κ xs #[(0,n,0)] g none)
   \/ (x=2/\∃ n pw,32<=n/\n<64/\c=(none,64)/\st'=SortSt.mk' κ xs #[(0,n,pw),(n,64-n,0)] g none)))
  (Q:=λc st' => ∃ xs,xs.Perm a/\c=(none,64)/\(st'=SortSt.mk' κ xs #[(0,64,0)] g none\/∃ n pw,32<=n/\n<64/\st'=SortSt.mk' κ xs #[(0,n,pw),(n,64-n,0)] g none)) ?step ?fin ⟨a,Array.Perm.refl _,.inl ⟨rfl,rfl,rfl⟩⟩) ?post)
 case fin=>
  rintro c st' ⟨xs,p,⟨hx,_,_⟩ | ⟨hx,_⟩ | ⟨hx,_⟩⟩ <;> omega
 case step=>
  rintro x c st' _ hx ⟨xs,p,⟨rfl,rfl,rfl⟩ | ⟨rfl,n,n1,n2,rfl,rfl⟩ | ⟨rfl,n,pw,n1,n2,rfl,rfl⟩⟩
  ·dsimp only
   refine Z3 (λz=>by omega) λ_=>?_
   refine wpS_bind (JS ik (kk p) (by omega) (by omega) λm ys m1 m2 q=>?_)
   have q:ys.Perm a:=Array.Perm.trans q p
   refine Z3 (λh=>wpS_bind (wpS_lift (wpAny_rule ⟨rfl,wpS_bind (W0 ik (kk (x:=g) q) (by omega) λzs r=>?_)⟩))) (λh=>?_)
   ·have r:zs.Perm a:=Array.Perm.trans r q
    exact wpS_bind (wpS_get (wpS_bind (wpS_modify (wpS_pure ⟨zs,r,.inr (.inl ⟨rfl,32,by omega,by omega,rfl,rfl⟩)⟩))))
   ·exact wpS_bind (wpS_get (wpS_bind (wpS_modify (wpS_pure ⟨ys,q,.inr (.inl ⟨rfl,m,by omega,by omega,by rw[zero_add],rfl⟩)⟩))))
  ·dsimp only
   refine Z3 (λz=>?_) λz=>?_
   ·obtain rfl:n=64:=by omega
    exact wpS_pure ⟨xs,p,rfl,.inl rfl⟩
   refine wpS_bind (JS ik (kk p) (by omega) (by omega) λm ys m1 m2 q=>?_)
   have q:ys.Perm a:=Array.Perm.trans q p
   refine Z3 (λh=>wpS_bind (wpS_lift (wpAny_rule ⟨rfl,wpS_bind (W0 ik (kk (x:=g) q) (by omega) λzs r=>?_)⟩))) (λh=>?_)
   ·have r:zs.Perm a:=Array.Perm.trans r q
    have f:min (64-n) 32=64-n:=by omega
    refine wpS_bind (wpS_get (wpS_bind (wpS_mono (wpS_forRange (I:=λx c s2=>c=(none,())/\s2=SortSt.mk' κ zs #[(0,n,0)] g none) (Q:=λc s2=>c=(none,())/\s2=SortSt.mk' κ zs #[(0,n,0)] g none) ?_ (λ_ _ hh=>hh) ⟨rfl,rfl⟩) ?_)))
    ·rintro x _ _ _ _ ⟨rfl,rfl⟩
     exact wpS_bind (wpS_get (wpS_pure ⟨rfl,rfl⟩))
    ·rintro _ _ ⟨rfl,rfl⟩
     refine wpS_bind (wpS_modify (wpS_bind (wpS_modify (wpS_pure ⟨zs,r,.inr (.inr ⟨rfl,n,power' 64 (2*0+n) (2*0+n+n+min (64-n) 32) 64,n1,by omega,?_,?_⟩)⟩))))
     ·rw[f,show n+(64-n)=64 by omega]
     ·rw[f];exact congrArg (λq=>SortSt.mk' κ zs q g none) (Uz ..)
   ·have f:m=64-n:=by omega
    refine wpS_bind (wpS_get (wpS_bind (wpS_mono (wpS_forRange (I:=λx c s2=>c=(none,())/\s2=SortSt.mk' κ ys #[(0,n,0)] g none) (Q:=λc s2=>c=(none,())/\s2=SortSt.mk' κ ys #[(0,n,0)] g none) ?_ (λ_ _ hh=>hh) ⟨rfl,rfl⟩) ?_)))
    ·rintro x _ _ _ _ ⟨rfl,rfl⟩
     exact wpS_bind (wpS_get (wpS_pure ⟨rfl,rfl⟩))
    ·rintro _ _ ⟨rfl,rfl⟩
     refine wpS_bind (wpS_modify (wpS_bind (wpS_modify (wpS_pure ⟨ys,q,.inr (.inr ⟨rfl,n,power' 64 (2*0+n) (2*0+n+n+m) 64,n1,by omega,?_,?_⟩)⟩))))
     ·rw[f,show n+(64-n)=64 by omega]
     ·rw[f];exact congrArg (λq=>SortSt.mk' κ ys q g none) (Uz ..)
  ·dsimp only
   exact Z3 (λ_=>wpS_pure ⟨xs,p,rfl,.inr ⟨n,pw,n1,n2,rfl⟩⟩) λz=>by omega
 case post=> 
  rintro c st' ⟨xs,p,rfl,rfl | ⟨n,pw,n1,n2,rfl⟩⟩
  ·refine wpS_bind (wpS_mono (wpS_forRange (I:=λ_ c s2=>c=(none,())/\s2=SortSt.mk' κ xs #[(0,64,0)] g none) (Q:=λc s2=>c=(none,())/\s2=SortSt.mk' κ xs #[(0,64,0)] g none) ?_ (λ_ _ hh=>hh) ⟨rfl,rfl⟩) ?_)
   ·rintro x _ _ _ _ ⟨rfl,rfl⟩
    exact wpS_bind (wpS_get (Z3 (λ_=>wpS_pure ⟨rfl,rfl⟩) λz=>absurd (Nat.le_refl 1) z))
   ·rintro _ _ ⟨rfl,rfl⟩
    exact wpS_pure (k _ _ _ p)
  ·refine wpS_bind (wpS_mono (wpS_forRange (I:=λx c s2=>c=(none,())/\((x=0/\s2=SortSt.mk' κ xs #[(0,n,pw),(n,64-n,0)] g none)\/∃ ys g2,ys.Perm a/\s2=SortSt.mk' κ ys #[(0,n+(64-n),pw)] g2 none)) (Q:=λc s2=>c=(none,())/\∃ ys pend g2,ys.Perm a/\s2=SortSt.mk' κ ys pend g2 none) ?_ ?_ ⟨rfl,.inl ⟨rfl,rfl⟩⟩) ?_)
   ·rintro x _ _ _ _ ⟨rfl,⟨rfl,rfl⟩ | ⟨ys,g2,q,rfl⟩⟩
    ·refine wpS_bind (wpS_get (Z3 (λz=>absurd z (show ¬ 2<=1 by omega)) λ_=>?_))
     refine wpS_bind (zbn ik (λx hx=>hU x ((perm_iff_toList_perm.mp p).mem_iff.mp hx)) ?_ (by omega) (by omega) λzs g2 r=>?_)
     ·have:=p.size_eq;omega
     ·exact wpS_pure ⟨rfl,.inr ⟨zs,g2,r.trans p,rfl⟩⟩
    ·exact wpS_bind (wpS_get (Z3 (λ_=>wpS_pure ⟨rfl,_,_,g2,q,rfl⟩) λz=>absurd (Nat.le_refl 1) z))
   ·rintro _ _ ⟨rfl,⟨z,_⟩ | ⟨ys,g2,q,rfl⟩⟩
    ·omega
    ·exact ⟨rfl,_,_,g2,q,rfl⟩
   ·rintro _ _ ⟨rfl,ys,pend,g2,q,rfl⟩
    exact wpS_pure (k _ _ _ q)
end
end Prm
namespace L2
open PySem PySem.Spec PyProof.Rows StbG J7
section
variable {prog:Program}{w:World}{A:Around}{E:Value->Shared->Prop}{s:Shared}
theorem zbD:Prm.Any prog w A E s (tuples' true) (λp=>∃ x y,ZM s.heap p.1 x y):=by
 rintro x y st Q ⟨a,b,hx⟩ ⟨c,d,hy⟩ kd k
 rw[lt'_eq]
 refine wpS_bind (wpS_get ?_)
 rw[kd]
 exact wpS_bind (wpS_lift (wpAny_attempt (zbW hx hy ⟨rfl,wpS_pure (k _)⟩)))
theorem Qj {a:Addr}{vs:List Value}{n:Nat}{P:PySem.Fin->Shared->Prop}(ho:s.heap.get? a=some (seqObj "list" vs.toArray n))(hv:∀ v∈vs,∃ x y,ZM s.heap v x y)(z64:vs.length=64)
  (k:∀ st' : SortSt,(arrOf st').Perm (pz vs)->P (.done (.ret .none)) { s with heap:=sortedHeap s.heap a vs ((arrOf st').map (·.2)) }):wpAny (model prog w) A (Builtin.«list.sort» ⟨[.ref a],[]⟩) P E s:=by
 have la:a<s.heap.objs.size:=lt_size ho
 have zl:(64:Nat)<=sizeLine:=by decide
 obtain ⟨e1,ho1⟩:∃ e1,(s.heap.update a (Obj.mapSeq λ_=>#[])).get? a=some (seqObj "list" #[] e1):=⟨_,get?_update_seq ho λ_=>#[]⟩
 have ho6:(((s.heap.update a (Obj.mapSeq λ_=>#[])).push (seqObj "tuple" vs.toArray 0)).push (seqObj "list" #[] 0)).get? a=some (seqObj "list" #[] e1):=get?_push_of_some _ (get?_push_of_some _ ho1)
 rw[list_sort_plain]
 refine wpAny_bind (listItems_at ho rfl (wpAny_bind (listUpdate_at ho rfl ?_ (by rw[size_toArray];omega) (zero_le _))))
 refine wpAny_bind (seqEpoch_at ho1 rfl (wpAny_bind (wpAny_newTuple ?_ (by show vs.toArray.toList.length<=_;rw[List.toList_toArray];omega))))
 refine wpAny_bind (wpAny_newList (wpAny_holding ?_) (zero_le _))
 show wpAny (model prog w) A _ P E { s with heap:=((s.heap.update a (Obj.mapSeq λ_=>#[])).push (seqObj "tuple" vs.toArray 0)).push (seqObj "list" #[] 0) }
 have keep:∀ v∈vs,∀ x y,ZM s.heap v x y->ZM (((s.heap.update a (Obj.mapSeq λ_=>#[])).push (seqObj "tuple" vs.toArray 0)).push (seqObj "list" #[] 0)) v x y:=λv hv' x y pa=>by
  obtain ⟨p,o,t,u,m,e,e1',c1,d1⟩:=pa
  have npa:a≠p:=λz=>by
   subst z
   rw[ho] at e1'
   have eo:=Option.some.inj e1'
   rw[← eo] at c1
   have c2:Value.type "list" = Value.type "tuple" := c1
   injection c2 with c2
   exact absurd c2 (by decide)
  exact ⟨p,o,t,u,m,e,get?_push_of_some _ (get?_push_of_some _ ((get?_update_other s.heap _ npa).trans e1')),c1,d1⟩
 have osz:∀ st' : SortSt,(arrOf st').Perm (pz vs)->((arrOf st').map (·.2)).size<=sizeLine+1:=λst' hp=>by rw[Array.size_map,hp.size_eq,Wq];omega
 dsimp only
 have h2:¬ vs.toArray.size<2:=by rw[size_toArray];omega
 rw[if_neg h2,if_neg h2]
 refine wpAny_bind (JR (λv hv' => ?_) (λz=>by subst z;simp at h2) ?_)
 ·obtain ⟨x,y,pa⟩:=hv v hv'
  exact ⟨x,y,keep v hv' x y pa⟩
 refine wpAny_bind (wpAny_mono (Prm.QQ (κ:=tuples' true) (U:=λp=>∃ x y,ZM (((s.heap.update a (Obj.mapSeq λ_=>#[])).push (seqObj "tuple" vs.toArray 0)).push (seqObj "list" #[] 0)) p.1 x y) (a:=pz vs) (g:=7) (Q:=λ_ st' => (arrOf st').Perm (pz vs)/\failedOf st'=none)
   (λh1 h2 kd k=>zbD (s:={ s with heap:=_ }) h1 h2 kd k) (λp hp=>?_) (by rw[Wq];exact z64) λxs pend g p=>⟨p,rfl⟩) ?_ λ_ _ e=>e)
 ·obtain ⟨m1,m2⟩:=zaD hp
  obtain ⟨x,y,pa⟩:=hv _ m1
  exact ⟨x,y,keep _ m1 x y pa⟩
 rintro ⟨⟨⟩,st'⟩ s' ⟨rfl,hp,hf⟩
 dsimp only
 refine wpAny_bind (seqEpoch_at ho6 rfl (wpAny_bind (listUpdate_at ho6 rfl ?_ (zero_le _) (osz st' hp))))
 rw[hf]
 simp only[bne_self_eq_false,false_eq_true,if_false]
 exact wpAny_pure (k st' hp)
theorem Va {a:Addr}{vs:List Value}{n:Nat}{ρ:Keyed->Int}{P:PySem.Fin->Shared->Prop}(ho:s.heap.get? a=some (seqObj "list" vs.toArray n))(hv:∀ v∈vs,∃ x y,ZM s.heap v x y/\0<=y/\y<1000/\∀ q,ρ (v,q)=x*1000+y)(z64:vs.length<=64)
  (k:∀ st' : SortSt,(arrOf st').Perm (pz vs)->(vs.length<64->Up ρ (λ_=>0) (arrOf st') (pz vs).size)->P (.done (.ret .none)) { s with heap:=sortedHeap s.heap a vs ((arrOf st').map (·.2)) }):wpAny (model prog w) A (Builtin.«list.sort» ⟨[.ref a],[]⟩) P E s:=by
 by_cases h:vs.length<64
 ·exact VF ho hv h λst' a1 a2=>k st' a1 λ_=>a2
 ·exact Qj ho (λv hv' => let ⟨x,y,pa,_⟩:=hv v hv';⟨x,y,pa⟩) (by omega) λst' a1=>k st' a1 λz=>absurd z h
theorem Vy {S:Addr}{M:List (Addr×List Int)}{Q:Value->Shared->Prop}(hh:A.handled=none)(T:TSt prog w s.heap S (ldd w) M)(h2:∀ q∈M,∃ x y,q.2=[x,y]/\0<=y/\y<1000)(z64:M.length<=64)
  (k:∀ (s1:Shared) (M' : List (Addr×List Int)) (st' : SortSt),M'.Perm M->(∀ b o,s.heap.get? b=some o->s1.heap.get? b=some o)->s1.gens=s.gens->s1.drawn=s.drawn->s1.os=s.os->s.toks<=s1.toks->
   (arrOf st').Perm (pz (M'.map λq=>.ref q.1))->(M.length<64->Up (λp=>pN s.heap p.1) (λ_=>0) (arrOf st') (pz (M'.map λq=>.ref q.1)).size)->
   Q (.ref s1.heap.objs.size) { s1 with heap:=sortedHeap (s1.heap.push (seqObj "list" (M'.map λq=>Value.ref q.1).toArray 0)) s1.heap.objs.size (M'.map λq=>.ref q.1) ((arrOf st').map (·.2)) }):
  wpAny (model prog w) A (call (.builtin "sorted") [.ref S]) Q E s:=by
 have zl:(64:Nat)<=sizeLine:=by decide
 have hK:∀ q∈M,XX prog w s.heap q.2 q.1:=by
  obtain ⟨o,es,ep,t,ps,_,_,_,_,_,_,hK,_⟩:=T
  exact hK
 refine Calls.call_function_entry kind_sorted plain_sorted entry_sorted (args_sorted1 _) (show wpAny _ _ (Builtin.«sorted» _) _ _ _ from ?_)
 unfold Builtin.«sorted»
 refine wpAny_bind (m:=checkCount "sorted" 1 1 _) (wpAny_pure (wpAny_bind (Vp hh T λs1 M' pm kp eg ed eo tk=>?_)))
 have hl:(M'.map λq=>Value.ref q.1).length<=64:=by rw[length_map,pm.length_eq];exact z64
 refine wpAny_bind (wpAny_newList ?_ (by omega))
 have oL:(s1.heap.push (seqObj "list" (M'.map λq=>Value.ref q.1).toArray 0)).get? s1.heap.objs.size=some (seqObj "list" (M'.map λq=>Value.ref q.1).toArray 0):=get?_push_size _ rfl
 refine wpAny_bind (wpAny_holding (wpAny_call_entry PyProof.Rows.slot_list_sort ⟨_,oL,rfl⟩ PyProof.Rows.entry_list_sort (Va (ρ:=λp=>pN s.heap p.1) (s:={ s1 with heap:=_ }) oL (λv hv=>?_) hl λst' a1 a2=>⟨_,rfl,wpAny_pure ⟨_,rfl,k s1 M' st' pm kp eg ed eo tk a1 λz=>a2 (by rw[length_map,pm.length_eq];exact z)⟩⟩) (args_list_sort _)))
 obtain ⟨q,hq,rfl⟩:=mem_map.mp hv
 have hq:=pm.mem_iff.mp hq
 obtain ⟨x,y,e,y0,y1⟩:=h2 q hq
 have pa:=zc3 (e ▸ hK q hq)
 exact ⟨x,y,pa.keep λb o e=>get?_push_of_some _ (kp b o e),y0,y1,λ_=>zfY pa⟩
end
section
theorem zbx {K:PySem.W.Frag}{h:Heap}{its:List Value}{Z:List (Value×V×(Int×Int))}(z1:Z.map (·.1)=its)(z3:∀ z∈Z,RelV z.2.1 z.1/\Dat K G z.2.1 (dPr z.2.2)/\ZM h z.1 z.2.2.1 z.2.2.2){st' : SortSt}(a1:(arrOf st').Perm (pz its))(a2:its.length<64->Up (λp=>pN h p.1) (λ_=>0) (arrOf st') (pz its).size):
  ∃ Z' : List (Value×V×(Int×Int)),Z'.Perm Z/\Vals (Z'.map (·.2.1)) ((arrOf st').map (·.2)).toList/\Zz K G (Z'.map (·.2.1)) ((Z'.map (·.2.2)).map dPr)/\(its.length<64->(Z'.map (·.2.2)).Pairwise (λa b=>a.1*1000+a.2<=b.1*1000+b.2)):=by
 have mem:∀ q∈(arrOf st').toList,q.1∈its/\q.2=q.1:=λq hq=>zaD ((perm_iff_toList_perm.mp a1).mem_iff.mp hq)
 have hperm:((arrOf st').toList.map (·.2)).Perm its:=by
  have:=(perm_iff_toList_perm.mp a1).map (·.2)
  have e:(pz its).toList.map (·.2)=its:=by
   have:(pz its).toList=its.zip its:=by simp[pz]
   rw[this,← List.unzip_snd,List.unzip_zip (by rfl)]
  rw[e] at this;exact this
 obtain ⟨Z',p1,e1⟩:=zbg hperm z1
 have zl:Z'.length=(arrOf st').size:=by have:=congrArg List.length e1;simpa using this
 have hZ:∀ z∈Z',RelV z.2.1 z.1/\Dat K G z.2.1 (dPr z.2.2)/\ZM h z.1 z.2.2.1 z.2.2.2:=λz hz=>z3 z (p1.mem_iff.mp hz)
 have hvals:∀ L:List (Value×V×(Int×Int)),(∀ z∈L,RelV z.2.1 z.1/\Dat K G z.2.1 (dPr z.2.2)/\ZM h z.1 z.2.2.1 z.2.2.2)->Vals (L.map (·.2.1)) (L.map (·.1))/\Zz K G (L.map (·.2.1)) ((L.map (·.2.2)).map dPr):=by
  intro L
  induction L with
  | nil=>intro _;exact ⟨.nil,ZL⟩
  | cons z L ih=>
   intro h
   obtain ⟨i1,i2⟩:=ih λy hy=>h y (mem_cons_of_mem _ hy)
   obtain ⟨h1,h2,_⟩:=h z mem_cons_self
   exact ⟨.cons h1 i1,ZD h2 i2⟩
 obtain ⟨hV,hD⟩:=hvals Z' hZ
 rw[e1] at hV
 have eo:((arrOf st').map (·.2)).toList=(arrOf st').toList.map (·.2):=by simp
 refine ⟨Z',p1,by rw[eo];exact hV,hD,λshort=>?_⟩
 have a2:=a2 short
 rw[List.pairwise_iff_getElem]
 intro i j hi hj hij
 have hj' : j<Z'.length:=by simpa using hj
 have at_:∀ m (hm:m<Z'.length),R (λp=>pN h p.1) (arrOf st') m=Z'[m].2.2.1*1000+Z'[m].2.2.2:=λm hm=>by
  have hm' : m<(arrOf st').size:=by omega
  have ea:(arrOf st')[m]?=some (arrOf st')[m]:=Array.getElem?_eq_getElem hm'
  have q1:Z'[m].1=(arrOf st')[m].2:=by
   have h1:(Z'.map (·.1))[m]?=some Z'[m].1:=by rw[getElem?_map,List.getElem?_eq_getElem hm];rfl
   rw[e1,getElem?_map] at h1
   have h2:(arrOf st').toList[m]?=some (arrOf st')[m]:=by simp[hm']
   rw[h2] at h1
   exact (Option.some.inj h1).symm
  have q2:=(mem (arrOf st')[m] (by simp)).2
  unfold R
  rw[ea]
  show pN h (arrOf st')[m].1=_
  rw[← q2,← q1]
  exact zfY (hZ _ (getElem_mem hm)).2.2
 have:=a2 i j hij (by rw[← a1.size_eq];omega)
 rw[at_ i (by omega),at_ j hj'] at this
 simp only[List.getElem_map]
 omega
end
section
variable {X:Cx}{pins:List (Addr×Obj)}{σ:St}{H G:Hp}{s:Shared}
theorem zag {p:Addr}{vs:List V}{ps:List (Int×Int)}{Q:VK}(hc:X.calm=true)(hu:X.A.units+8<cLine)(I:Inv X pins σ H s)(sg:Zm G H)(hq:SqL X.K H p vs)(hd:Zz X.K G vs (ps.map dPr))(few:∀ L:List (Int×Int),L.Nodup->(∀ q∈L,q∈ps)->L.length<=64)(hps:∀ q∈ps,0<=q.2/\q.2<1000)
  (k:∀ (l:Addr) (us:List V) (qs:List (Int×Int)),H l=none->qs.Nodup->(∀ q,q∈qs↔q∈ps)->Zz X.K G us (qs.map dPr)->(qs.length<64->qs.Pairwise (λa b=>a.1*1000+a.2<=b.1*1000+b.2))->Q (.ref l) (upd H l (.lst us))):
  wpAny (model X.prog X.w) X.A (call (.type "set") [.ref p]) (λv s1=>wpAny (model X.prog X.w) X.A (call (.builtin "sorted") [v]) (EP X pins σ Q) X.xe s1) X.xe s:=by
 obtain ⟨its,r',pl,hz⟩:=I.list hq
 obtain ⟨Z,z1,z2,z3⟩:=triples I sg r' hd
 have hZl:Z.length=its.length:=by rw[← z1,length_map]
 let f:Nat->Addr×List Int:=λi=>match Z[i]? with | some z=>(adr z.1,Vi z.2.2) | none=>(0,[])
 have fz:∀ {i z},Z[i]?=some z->f i=(adr z.1,Vi z.2.2):=λ{i z} e=>by show (match Z[i]? with | some z=>_ | none=>_)=_;rw[e]
 have fex:∀ i,i<its.toArray.size->∃ z,Z[i]?=some z/\z∈Z:=λi hi=>by
  have hi:i<Z.length:=by rw[hZl];simpa using hi
  exact ⟨Z[i],List.getElem?_eq_getElem hi,getElem_mem hi⟩
 have keyps:∀ {m:Nat}{kk:List Int},m<its.toArray.size->(f m).2=kk->∃ q∈ps,kk=Vi q:=λ{m kk} hm e=>by
  obtain ⟨z,e1,e2⟩:=fex m hm
  refine ⟨z.2.2,by rw[← z2];exact List.mem_map_of_mem e2,?_⟩
  rw[← e,fz e1]
 have psm:∀ q∈ps,∃ m,m<its.toArray.size/\(f m).2=Vi q:=λq hq=>by
  rw[← z2] at hq
  obtain ⟨z,hz,rfl⟩:=mem_map.mp hq
  obtain ⟨i,hi,e⟩:=getElem_of_mem hz
  exact ⟨i,by simpa [← hZl] using hi,by rw[fz (by rw[List.getElem?_eq_getElem hi,e])]⟩
 have few' : ∀ L:List (List Int),L.Nodup->(∀ kk∈L,∃ m,m<its.toArray.size/\(f m).2=kk)->L.length<=64:=λL nd h=>by
  obtain ⟨P,e,hP⟩:=Vr (R:=λ(kk:List Int) (q:Int×Int)=>q∈ps/\kk=Vi q) (M:=L) λkk hk=>by
   obtain ⟨m,hm,e⟩:=h kk hk
   obtain ⟨q,hq,e⟩:=keyps hm e
   exact ⟨q,hq,e⟩
  have em:P.map Vi=L.map id:=J9 e λi q z h1 h2=>(hP i q z h1 h2).2.symm
  rw[List.map_id] at em
  rw[← e]
  refine few P (zgy (f:=Vi) (by rw[em];exact nd)) λq hq=>?_
  obtain ⟨i,hi,e3⟩:=getElem_of_mem hq
  exact (hP i (L[i]'(by omega)) q (List.getElem?_eq_getElem (by omega)) (by rw[List.getElem?_eq_getElem hi,e3])).1
 refine QD (its:=f) (I.ok.hd hc) (λA' hA=>by omega) pl.isList (λi v hv=>?_) (λi hi=>?_) (λL nd h=>few' L nd h) λh1 tk1 M T mt kp ht=>?_
 ·have hi:i<its.toArray.size:=(Array.getElem?_eq_some_iff.mp hv).1
  obtain ⟨z,e1,e2⟩:=fex i hi
  have ev:its[i]?=some v:=by simpa using hv
  rw[← z1,getElem?_map,e1] at ev
  have ev:z.1=v:=Option.some.inj ev
  rw[fz e1,← ev]
  exact (Qa (prog:=X.prog) (w:=X.w) (z3 z e2).2.2).2
 ·obtain ⟨z,e1,e2⟩:=fex i hi
  rw[fz e1]
  exact (Qa (z3 z e2).2.2).1
 have ndM:(M.map Prod.snd).Nodup:=by
  obtain ⟨_,_,_,_,_,_,_,_,_,_,_,_,nd,_⟩:=T
  exact nd
 have hMl:M.length<=64:=by
  have:=few' (M.map Prod.snd) ndM λkk hk=>(mt.1 kk).mp hk
  rwa [length_map] at this
 refine Vy (s:={ s with heap:=h1,toks:=tk1 }) (I.ok.hd hc) T (λq hq=>?_) hMl λs2 M' st' pm kp2 eg ed eo ht2 a1 a2=>?_
 ·obtain ⟨m,hm,e⟩:=mt.2 q hq
  obtain ⟨q',hq',e'⟩:=keyps hm rfl
  exact ⟨q'.1,q'.2,by rw[e,e'],hps q' hq'⟩
 have old:∀ b o,s.heap.get? b=some o->h1.get? b=some o:=λb o e=>kp b o (lt_size e) e
 obtain ⟨Z1,zl1,hZ1⟩:=Vr (R:=λ(q:Addr×List Int) (z:Value×V×(Int×Int))=>z∈Z/\z.1 = .ref q.1/\Vi z.2.2=q.2) (M:=M') λq hq=>by
  obtain ⟨m,hm,e⟩:=mt.2 q (pm.mem_iff.mp hq)
  obtain ⟨z,e1,e2⟩:=fex m hm
  rw[fz e1] at e
  refine ⟨z,e2,?_,?_⟩
  ·rw[e];exact (Qa (prog:=X.prog) (w:=X.w) (z3 z e2).2.2).2
  ·rw[e]
 have zz1:Z1.map (·.1)=M'.map λq=>Value.ref q.1:=J9 zl1 λi q z h1 h2=>(hZ1 i q z h1 h2).2.1
 have zz2:Z1.map (λz=>Vi z.2.2)=M'.map Prod.snd:=J9 zl1 λi q z h1 h2=>(hZ1 i q z h1 h2).2.2
 have zz3:∀ z∈Z1,RelV z.2.1 z.1/\Dat X.K G z.2.1 (dPr z.2.2)/\ZM h1 z.1 z.2.2.1 z.2.2.2:=λz hz' => by
  obtain ⟨i,hi,e⟩:=getElem_of_mem hz'
  obtain ⟨b1,b2,b3⟩:=z3 z (hZ1 i (M'[i]'(by omega)) z (List.getElem?_eq_getElem (by omega)) (by rw[List.getElem?_eq_getElem hi,e])).1
  exact ⟨b1,b2,b3.keep old⟩
 obtain ⟨Z',p1,hV,hD,hpw⟩:=zbx zz1 zz3 a1 λz=>a2 (by rw[length_map,pm.length_eq] at z;exact z)
 have nd1:(Z1.map (·.2.2)).Nodup:=by
  refine zgy (f:=Vi) ?_
  rw[map_map]
  show (Z1.map λz=>Vi z.2.2).Nodup
  rw[zz2]
  exact ((pm.map Prod.snd).nodup_iff).mpr ndM
 have hmem:∀ q,q∈Z'.map (·.2.2)↔q∈ps:=λq=>by
  rw[(p1.map (·.2.2)).mem_iff]
  constructor
  ·intro h
   obtain ⟨z,hz',rfl⟩:=mem_map.mp h
   have:Vi z.2.2∈M'.map Prod.snd:=by rw[← zz2];exact mem_map.mpr ⟨z,hz',rfl⟩
   obtain ⟨m,hm,e⟩:=(mt.1 _).mp (((pm.map Prod.snd).mem_iff).mp this)
   obtain ⟨q',hq',e'⟩:=keyps hm e
   rw[Ue e'];exact hq'
  ·intro h
   have:Vi q∈Z1.map (λz=>Vi z.2.2):=by rw[zz2,(pm.map Prod.snd).mem_iff];exact (mt.1 _).mpr (psm q h)
   obtain ⟨z,hz',e⟩:=mem_map.mp this
   exact mem_map.mpr ⟨z,hz',Ue e⟩
 obtain ⟨h2,g2,d2,tk2,os2⟩:=s2
 have eg:g2=s.gens:=eg
 have ed:d2=s.drawn:=ed
 have eo:os2=s.os:=eo
 subst eg ed eo
 have big:s.heap.objs.size<=h2.objs.size:=by
  obtain ⟨oS,_,_,_,_,gS,_⟩:=T
  exact le_of_lt (lt_size (kp2 _ _ gS))
 obtain ⟨c,hcc⟩:=sortedHeap_at (h:=h2.push (seqObj "list" (M'.map λq=>Value.ref q.1).toArray 0)) (a:=h2.objs.size) (vs:=M'.map λq=>Value.ref q.1) (out:=(arrOf st').map (·.2)) (n:=0) (get?_push_size _ rfl)
 have zlen:(Z'.map (·.2.1)).length<=sizeLine:=by
  have:(64:Nat)<=sizeLine:=by decide
  rw[length_map,p1.length_eq,zl1,pm.length_eq];omega
 refine ⟨.ref h2.objs.size,_,I.laid (t' := tk2) (λb o e=>?_) big (show Yh X.prog X.w _ (sortedHeap (h2.push (seqObj "list" (M'.map λq=>Value.ref q.1).toArray 0)) h2.objs.size (M'.map λq=>Value.ref q.1) ((arrOf st').map (·.2))) _ (.lst (Z'.map (·.2.1))) from ⟨zlen,((arrOf st').map (·.2)).toList,c,hV,hcc⟩),rfl,k _ _ (Z'.map (·.2.2)) (I.hok.fresh big) (((p1.map (·.2.2)).nodup_iff).mpr nd1) hmem hD λz=>hpw (by rw[length_map] at z ⊢;rw[p1.length_eq] at z;omega)⟩
 have e2:=kp2 b o (old b o e)
 have lt:=lt_size e2
 have lt:b<h2.objs.size:=lt
 rw[sortedHeap_old (ne_of_lt lt) (by rw[size_push'];exact lt_succ_of_lt lt)]
 exact get?_push_of_some _ e2
def zeH (K:PySem.W.Frag):List V->Hp->VK->Prop:=λxs H Q=>∃ (G:Hp) (p:Addr) (vs:List V) (ps:List (Int×Int)),xs=[.ref p]/\Zm G H/\SqL K H p vs/\Zz K G vs (ps.map dPr)/\(∀ L:List (Int×Int),L.Nodup->(∀ q∈L,q∈ps)->L.length<=64)/\(∀ q∈ps,0<=q.2/\q.2<1000)/\
 ∀ (l:Addr) (us:List V) (qs:List (Int×Int)),H l=none->qs.Nodup->(∀ q,q∈qs↔q∈ps)->Zz K G us (qs.map dPr)->(qs.length<64->qs.Pairwise (λa b=>a.1*1000+a.2<=b.1*1000+b.2))->Q (.ref l) (upd H l (.lst us))
theorem zbT {K:PySem.W.Frag}(eK:X.K=K)(hc:X.calm=true)(hu:X.A.units+8<cLine)(hg:Gl X "sorted")(hm:X.mg "sorted" = none)(hg2:Gl X "set")(hm2:X.mg "set" = none){e:Expr}{t:TA}{p1 p2 q1 q2:Pos}(ha:PA X [e] t)
  (he1:starEach [.Call (.Name "set" p2) [e] [] q2] X.env=[(false,eval (.Call (.Name "set" p2) [e] [] q2) X.env)]:=by rfl) (he2:starEach [e] X.env=(false,eval e X.env)::starEach [] X.env:=by rfl):
  PE X (.Call (.Name "sorted" p1) [.Call (.Name "set" p2) [e] [] q2] [] q1) (tCB (zeH K) t):=by
 subst eK
 intro pins s σ H Q I h
 refine wpAny_Call_Name_kw (Wf I hg hm zbv (PyProof.Rows.callWith_builtin1 ?_ he1 rfl))
 rw[he1]
 show wpAny _ _ (spliced [(false,eval (.Call (.Name "set" p2) [e] [] q2) X.env)]) _ _ s
 refine spliced_cons (wpAny_Call_Name_kw (Wf I hg2 hm2 boot_set (PyProof.Rows.callWith_type1 (thn (ha q2 pins s σ H _ I h) λus s1 ⟨vs,H1,I1,r1,z1⟩=>?_) he2 rfl)))
 obtain ⟨G,p,vs',ps,rfl,sg,hq,hd,few,hps,k⟩:=z1
 obtain ⟨u,rfl,rx⟩:=vals1 r1
 cases rx
 exact thn (zag (Q:=Q) hc hu I1 sg hq hd few hps k) λv s2 z=>spliced_nil z
end
theorem zbQ {n:Nat}{ps:List (Int×Int)}(hn:n<=8)(hps:∀ q∈ps,0<=q.1/\q.1<n/\0<=q.2/\q.2<n)(L:List (Int×Int))(nd:L.Nodup)(h:∀ q∈L,q∈ps):L.length<=64:=by
 have hle:L.length<=(zb8 n).length:=List.Nodup.length_le_of_subset nd (l₂:=zb8 n) λq hq=>Uo.mpr (hps q (h q hq))
 have:(zb8 n).length<=64:=by
  have:n=0\/n=1\/n=2\/n=3\/n=4\/n=5\/n=6\/n=7\/n=8:=by omega
  rcases this with rfl | rfl | rfl | rfl | rfl | rfl | rfl | rfl | rfl <;> decide
 omega
section
variable {K:PySem.W.Frag}{B:Hp}{ρ:List PV}
theorem zdU {t:TA}{n:Nat}{ps:List (Int×Int)}{R:PV->List PV->Prop}(h:Ea K B t (msk ρ) [.list (ps.map dPr)])(hn:n<=8)(hps:∀ q∈ps,0<=q.1/\q.1<n/\0<=q.2/\q.2<n)
  (k:∀ qs:List (Int×Int),qs.Nodup->(∀ q,q∈qs↔q∈ps)->(qs.length<64->qs=zdw n ps)->R (.dat (.list (qs.map dPr))) ρ):Eg K B (tCB (zeH K) t) ρ R:=λE G0 H0 G H σ F r Q q=>
 h G σ r.rx G H (Zm.refl _) r.g.gh _ λxs G1 H1 g hx=>by
  obtain ⟨v,r',rfl,hv,hx⟩:=hx.cons
  rw[hx.nil]
  obtain ⟨p,ys,rfl,hp,hys⟩:=hv.lst
  have s2:Zm G1 H1:=(r.grow g).g.gh
  refine ⟨G1,p,ys,ps,rfl,s2,SqL.of (s2 _ _ hp),hys,zbQ hn hps,λq hq=>by have:=hps q hq;omega,λl us rs hl nd hmem hd hs=>?_⟩
  have g2:=Z4 (o:=.lst us) s2 hl
  exact q _ _ ρ _ _ F [] (k rs nd hmem λz=>zc9 (by omega) hps nd hmem (hs z)) (g.gg.trans g2.gg) ((r.grow g).grow g2) ⟨rfl,_,rfl,Ys Zn (hd.same g2.gg)⟩ WK
theorem zaz {t:TA}{n:Nat}{ps:List (Nat×Nat)}{R:PV->List PV->Prop}(h:Ea K B t (msk ρ) [.list ((ps.map M41.up).map dPr)])(hn:n<=8)(hps:∀ q∈ps,q.1<n/\q.2<n)
  (k:∀ F:List (Nat×Nat),F.Nodup->(∀ q,q∈F↔q∈ps)->(F.length<64->F=M41.Xj n ps)->R (.dat (.list ((F.map M41.up).map dPr))) ρ):Eg K B (tCB (zeH K) t) ρ R:=by
 refine zdU h hn (λq hq=>?_) λqs nd hm sh=>?_
 ·obtain ⟨a,ha,rfl⟩:=mem_map.mp hq
  have:=hps a ha
  show 0<=(a.1:Int)/\(a.1:Int)<n/\0<=(a.2:Int)/\(a.2:Int)<n
  omega
 ·have e:qs=(qs.map λq=>(q.1.toNat,q.2.toNat)).map M41.up:=by
   rw[map_map]
   conv=>lhs;rw[← List.map_id qs]
   refine map_congr_left λq hq=>?_
   obtain ⟨a,_,rfl⟩:=mem_map.mp ((hm q).mp hq)
   rfl
  generalize qs.map (λq=>(q.1.toNat,q.2.toNat))=F at e
  subst e
  refine k F (List.Pairwise.of_map M41.up (λa b h e=>h (by rw[e])) nd) (λq=>?_) λz=>?_
  ·rw[← M41.zbw (ps:=F),hm,M41.zbw]
  ·have:=sh (by rw[length_map];exact z)
   rw[M41.zcl] at this
   exact (List.map_inj_right λa b h=>M41.zdh h).mp this
end
end L2
namespace K35
open PySem L2 Lw M41
inductive Dk (n:Nat) (es:List PyData):Prop
 | mk (cs:List Int) (a:Nat) (_:es=[.list (cs.map PyData.int),.int (a:Nat)]) (_:cs.length<=63) (_:a<=n):Dk n es
def zie:List PyData->List PyData->Prop:=λes ds=>∃ n:Nat,Dk n es/\n<=10 ^ 6/\ds=[]
def RNx:List PyData->List PyData->PyData->List PyData->Prop:=λes ds x es' => ∃ r:Int,x = .int r/\∀ n,Dk n es->Dk (n+1) es'
def LkI (K:PySem.W.Frag)(n:Nat)(p:Addr)(fp:List Addr)(G H:Hp):Prop:=fp=[]/\∃ xs es,H p=some (.lst xs)/\Zz K G xs es/\Dk n es
noncomputable def lkT (K:PySem.W.Frag):TF K Nat:=zid (λn p fp G H=>LkI K n p fp G H) (λ{n p fp G H G' H'} ⟨e,xs,es,h1,h2,h3⟩ s k=>⟨e,xs,es,by rw[k p mem_cons_self];exact h1,h2.same s,h3⟩) (λ{n p fp G H} ⟨e,xs,es,h1,h2,h3⟩ a ha=>by
 subst e
 rw[mem_singleton.mp ha];exact ⟨_,h1⟩)
def zfz (n:Nat)(ds:List PyData):Prop:=ds=[]/\n<=10 ^ 6
inductive RDw (n:Nat) (ds:List PyData) (x:PyData) (n' : Nat):Prop
 | mk (r:Int) (_:x = .int r) (_:n'=n+1):RDw n ds x n'
inductive zh1 (n:Nat) (ds:List PyData):Prop
 | mk (m:Nat) (_:ds=[.int (m:Nat)]) (_:m<=8) (_:n<=10 ^ 5):zh1 n ds
inductive RTu (n:Nat) (ds:List PyData) (x:PyData) (n' : Nat):Prop
 | mk (m:Nat) (l:List Nat) (_:ds=[.int (m:Nat)]) (_:x = .list (l.map λ(i:Nat)=>.int (i:Nat))) (_:l.Perm (List.range m)) (_:n' <= n+8):RTu n ds x n'
def Tel (ps:List (Nat×Nat))(n:Nat)(F:List (Nat×Nat)):Prop:=F.Nodup/\(∀ q,q∈F↔q∈pairsOf (Zh ps n))/\(F.length<64->F=pairsOf (Zh ps n))
def PrC (i:List (Nat×Nat)×Nat)(ds:List PyData):Prop:=ds=[.list (i.1.map dP)]/\i.2<=8/\∀ q∈i.1,q.1<i.2/\q.2<i.2
inductive RcC (i:List (Nat×Nat)×Nat) (d:PyData):Prop
 | mk (F:List (Nat×Nat)) (_:d=dPs F) (_:Tel i.1 i.2 F):RcC i d
theorem UW {n:Nat}{a b:List (Nat×Nat)}(h:∀ q,q∈a↔q∈b):Xj n a=Xj n b:=by
 unfold Xj
 exact List.filter_congr λq _=>decide_eq_decide.mpr (h q)
theorem Uj {a b:List (Nat×Nat)}(h:∀ q,q∈a↔q∈b)(e:V5 a a.length=[]):V5 b b.length=[]:=by
 refine List.eq_nil_iff_forall_not_mem.mpr λq hq=>?_
 obtain ⟨h1,j,h2,h3⟩:=WX.mp hq
 have:q∈V5 a a.length:=WX.mpr ⟨λz=>h1 ((h q).mp z),j,(h _).mpr h2,(h _).mpr h3⟩
 rw[e] at this;cases this
theorem WL {n:Nat}{F:List (Nat×Nat)}(nd:F.Nodup)(h:∀ q∈F,q.1<n/\q.2<n):F.length<=n*n:=by
 have:=List.Nodup.length_le_of_subset nd (l₂:=zav n) λq hq=>W4.mpr (h q hq)
 rw[zcx] at this;exact this
theorem za3 {n:Nat}(q:Nat×Nat):Pl (n+1) (dP q):=zdd λd hd=>by
 rcases mem_cons.mp hd with rfl | hd
 ·exact zbC _
 ·rw[mem_singleton.mp hd];exact zbC _
theorem zfA {n:Nat}(l:List (Nat×Nat)):Pl (n+2) (.list (l.map dP)):=JB λd hd=>by
 obtain ⟨a,_,rfl⟩:=mem_map.mp hd;exact za3 a
theorem zei (a b:Nat×Nat):PySem.Spec.same (dP a) (dP b)=decide (a=b):=by
 have e:PySem.Spec.same (dP a) (dP b)=(decide ((a.1:Int)=b.1)&&decide ((a.2:Int)=b.2)):=by
  show PySem.Spec.same (.tuple [.int _,.int _]) (.tuple [.int _,.int _])=_
  simp[PySem.Spec.same,sameAll]
  rfl
 rw[e]
 obtain ⟨a1,a2⟩:=a
 obtain ⟨b1,b2⟩:=b
 by_cases h1:a1=b1
 ·by_cases h2:a2=b2
  ·subst h1 h2;simp
  ·have:¬ (a2:Int)=b2:=by omega
   simp[h1,h2,this]
 ·have:¬ (a1:Int)=b1:=by omega
  simp[h1,this]
theorem zgk (l:List (Nat×Nat))(q:Nat×Nat):((l.map dP).any λe=>PySem.Spec.same e (dP q))=decide (q∈l):=by
 rw[List.any_map]
 induction l with
 | nil=>rfl
 | cons a r ih=>
  rw[any_cons,ih]
  show (PySem.Spec.same (dP a) (dP q)||_)=_
  rw[zei]
  by_cases h:a=q
  ·subst h;simp
  ·have h' : ¬ q=a:=λz=>h z.symm
   simp[h,h']
theorem zad {α:Type}{l:List α}{j:Nat}(h:j<l.length):(l[j]::l.eraseIdx j).Perm l:=by
 rw[List.eraseIdx_eq_take_drop_succ]
 refine List.perm_middle.symm.trans (List.Perm.of_eq ?_)
 rw[← List.drop_eq_getElem_cons h,take_append_drop]
theorem zaJ {α β:Type}(f:α->β)(l:List α)(j:Nat):(l.map f).eraseIdx j=(l.eraseIdx j).map f:=by
 rw[List.eraseIdx_eq_take_drop_succ,List.eraseIdx_eq_take_drop_succ,map_append,map_take,map_drop]
theorem zcp (l:List (Nat×Nat)):l.map dP=(l.map up).map dPr:=by rw[map_map];rfl
section
theorem zdT (T:Top K mg):T.Zy.O P w base 1 (spL K zie RNx):=by
 refine T.Zy.F.okL YL (by rintro _ _ ⟨n,_,_,rfl⟩;rfl) λcdv A outer s H E hr p es ds hP=>?_
 obtain ⟨n,⟨cs,a,rfl,hcl,ha⟩,hn,rfl⟩:=hP
 have fin:∀ n,Dk n [.list (cs.map PyData.int),.int (a:Nat)]->Dk (n+1) [.list (cs.map PyData.int),.int ((a+1:Nat))]:=λn hD=>by
  obtain ⟨cs2,a2,e,h3,h4⟩:=hD
  simp only[List.cons.injEq,PyData.int.injEq,and_true] at e
  exact ⟨cs,a+1,rfl,hcl,by omega⟩
 refine ⟨_,(Zg (ZJ (i:=1) YL.nd rfl (Or.inl rfl) (WN (Yy (K:=K) rfl) (pv 0) Zo (λ_ _=>rfl)))
   (Zg (ZJ (i:=2) YL.nd rfl (Or.inl rfl) (WN (Yy (K:=K) rfl) (pv 0) Zo (λ_ _=>rfl)))
   (Zg (zgp (ZF Jd (pv 2) Zo) (zfd (pv 0) Zo set_list))
   (Zg (Qf (Yi zhK (pv 2) (Yj (YZ (K:=K) rfl) (by rfl) T.ze3 PySem.boot_len (Za (pv 1) Zf Ze)) (Yv _)) (Zq (Yu (WN (Yy (K:=K) rfl) (pv 1) (pv 2) (λ_ _=>rfl)))) Y7)
   (Zg (Qf (Yi zaR (Yj (YZ (K:=K) rfl) (by rfl) T.ze3 PySem.boot_len (Za (pv 1) Zf Ze)) Zo (Yv _)) (Zq (Yu (ZF Jd (ZF Wo (ZF Wo (pv 2) (pv 2)) Zo) (pv 2)))) Y7)
   (Zg (ZJ (i:=3) YL.nd rfl (Or.inl rfl) (ZF YC (ZF Wo (ZF Jd (ZF Jd (ZF YC (WN (Yy (K:=K) rfl) (pv 1) (ZF YC (pv 2) (Yj (YZ (K:=K) rfl) (by rfl) T.ze3 PySem.boot_len (Za (pv 1) Zf Ze))) (λ_ _=>rfl)) Zo) (ZF Wo (pv 2) Zo)) Zo) Zo) Zo))
   (Zq (Yu (ZF YC (ZF Wo (pv 3) (pv 3)) Zo))))))))) ,?_⟩
 refine Zt (ZC (zcL (zdA (n:=0) rfl rfl Zu rfl rfl) ?_))
 refine Zt (ZC (zcL (zdA (n:=1) rfl rfl Zu rfl rfl) ?_))
 refine Zt (zea (i:=0) (Ji (Wj (Zb rfl) Zu λ_=>Zj _) rfl ⟨_,_,_,1,1,rfl,rfl,rfl,Zu,rfl,?_⟩))
 have he:((a:Int)+1)=((a+1:Nat):Int):=by omega
 rw[he]
 refine Zt (zaY (Yt (Wj (Zb rfl) (Wn (Jq (Zc (Zb rfl) Zi)) (by rw[length_map])) λ_=>YH _)) (λh=>?_) λh=>YT ?_)
 ·have hal:a<cs.length:=by
   have:=of_decide_eq_true h
   omega
  exact Xg (Z8 (JM (n:=a) (d:=.int (cs.getD a 0)) (Zb rfl) (Zb rfl) (by rw[length_map];exact X4 hal) (by rw[getElem?_map,getD_eq_getElem?_getD,List.getElem?_eq_getElem hal];rfl)) ⟨_,_,rfl,⟨_,rfl,fin⟩,rfl⟩)
 refine Zt (zaY (Yt (Ug (Wn (Jq (Zc (Zb rfl) Zi)) (by rw[length_map])) Zu)) (λh2=>?_) λh2=>YT ?_)
 ·exact Xg (Z8 (Wj (YW (YW (Zb rfl) (Zb rfl) (mw (by omega) (by omega)) λ_=>Zj _) Zu (mw (by
   have:((a:Int)*a).natAbs<=10 ^ 6*10 ^ 6:=by rw[Int.natAbs_mul];exact mul_le_mul (by omega) (by omega)
   omega) (by decide)) λ_=>Zj _) (Zb rfl) λ_=>Zj _) ⟨_,_,rfl,⟨_,rfl,fin⟩,rfl⟩)
 have hp:0<cs.length:=by
  have:=of_decide_eq_false h2
  omega
 have hi1:a % cs.length<cs.length:=mod_lt _ hp
 have hb:∀ z:Int,(0:Int)<=z % 2147483629/\z % 2147483629<2147483629:=λz=>⟨emod_nonneg _ (by decide),emod_lt_of_pos _ (by decide)⟩
 have hz:=hb (cs.getD (a % cs.length) 0)
 refine Zt (ZC (Z8 (YW (YW (Wj (Wj (YW (JM (n:=a % cs.length) (d:=.int (cs.getD (a % cs.length) 0)) (Zb rfl) (YW (Zb rfl) (Wn (Jq (Zc (Zb rfl) Zi)) (by rw[length_map])) (by omega) λ_=>Zj _) (by rw[length_map,← Int.natCast_emod];exact X4 hi1) (by rw[getElem?_map,getD_eq_getElem?_getD,List.getElem?_eq_getElem hi1];rfl)) Zu (by decide) λ_=>Zj _) (YW (Zb rfl) Zu (mw (by omega) (by decide)) λ_=>Zj _) λ_=>Zj _) Zu λ_=>Zj _) Zu (mw (by omega) (by decide)) λ_=>Zj _) Zu (by decide) λ_=>Zj _) ?_))
 generalize hM:(cs.getD (a % cs.length) 0 % 2147483629+(a:Int)*7919+5)*50021 % 2147483587=m
 have hm:0<=m/\m<2147483587:=by rw[← hM];exact ⟨emod_nonneg _ (by decide),emod_lt_of_pos _ (by decide)⟩
 exact Xg (Z8 (YW (YW (Zb rfl) (Zb rfl) (mw (by omega) (by omega)) λ_=>Zj _) Zu (by decide) λ_=>Zj _) ⟨_,_,rfl,⟨_,rfl,fin⟩,rfl⟩)
theorem zhk {k:Nat}{f:Addr}{fd:FuncData}{ps:List Str}{Pre:List PyData->List PyData->Prop}{R:List PyData->List PyData->PyData->List PyData->Prop}{Pre' : Nat->List PyData->Prop}{R' : Nat->List PyData->PyData->Nat->Prop}(F:Xy P w K mg base CX0 k f fd ps (spL K Pre R))
  (hP:∀ n es ds,Dk n es->Pre' n ds->Pre es ds) (hR:∀ n es ds x es',Dk n es->Pre' n ds->R es ds x es' -> ∃ n',Dk n' es' /\ R' n ds x n'):Xy P w K mg base CX0 k f fd ps (spT (lkT K) Pre' R'):=
 F.imp λvs H Q E h=>by
  obtain ⟨p,fp,us,G,n,ds,e,sg,gn,lv,⟨e2,xs,es,h1,h2,h3⟩,hv,hp,kk⟩:=h
  subst e2
  refine ⟨p,us,G,xs,es,ds,e,sg,gn p mem_cons_self,h1,h2,hv,hP n es ds h3 hp,λv x es' xs' G' H' hr gw gp hp' hd hx=>?_⟩
  obtain ⟨n',d',r'⟩:=hR n es ds x es' h3 hp hr
  have eE:(λb=>b=p)=(λb=>b∈[p]):=funext λb=>propext mem_singleton.symm
  rw[eE] at gw
  exact kk v x n' G' H' r' gw (λa ha=>by rw[mem_singleton.mp ha];exact gp) (λa ha=>by rw[mem_singleton.mp ha];exact ⟨_,hp'⟩) ⟨rfl,xs',es',hp',hd,d'⟩ hx
theorem zeL (T:Top K mg):T.Zy.O P w base 1 (spT (lkT K) zfz RDw):=
 zhk (zdT T) (λn es ds h ⟨e,h1⟩=>⟨n,h,h1,e⟩) λn es ds x es' h _ ⟨r,e2,s⟩=>⟨n+1,s n h,r,e2,rfl⟩
theorem zeO {B:Hp}{ρ:List PV}{X:XK}{i c:Nat}{p:Addr}{fp:List Addr}{R:PV->List PV->Prop}(hi:ρ[i]?=some ((lkT K).pv c p fp))(hc:c<=10 ^ 6)(k:∀ r:Int,R (.dat (.int r)) (ρ.set i ((lkT K).pv (c+1) p fp))):Eg K B (WP (spT (lkT K) zfz RDw) [] X (YD (JP i) Ud)) ρ R:=
 V9 hi (Jl Zi ⟨c,hi,⟨rfl,hc⟩,λx s2 hx=>by
  obtain ⟨r,rfl,rfl⟩:=hx
  exact k r⟩)
theorem QC {B:Hp}{ρ:List PV}{X:XK}{i c:Nat}{p:Addr}{fp:List Addr}{te:TE}{m:Nat}{R:PV->List PV->Prop}(hi:ρ[i]?=some ((lkT K).pv c p fp))(hc:c<=10 ^ 6)(hm:Er K B te (ρ.set i ((lkT K).pv (c+1) p fp)) (.int (m:Nat)))(h1:1<=m)(k:∀ r:Nat,r<m->R (.dat (.int (r:Nat))) (ρ.set i ((lkT K).pv (c+1) p fp))):Eg K B (tOp (rI (λ_ j=>0<j) λi j=>.int (i % j)) (WP (spT (lkT K) zfz RDw) [] X (YD (JP i) Ud)) te) ρ R:=
 zcT (zeO hi hc λr=>⟨_,rfl,Ji hm rfl ⟨_,.int (r % (m:Int)),rfl,λG σ va vb ha hb=>zej (zaq ha) (zaq hb) (show (0:Int)<(m:Int) by omega) (Zj _),by
  have h0:0<=r % (m:Int):=emod_nonneg _ (by omega)
  have h2:r % (m:Int)<m:=emod_lt_of_pos _ (by omega)
  obtain ⟨z,hz⟩:=eq_ofNat_of_zero_le h0
  rw[hz];exact k z (by omega)⟩⟩)
theorem zew (T:Top K mg):T.XR.O P w base 2 (spT (lkT K) zh1 RTu):=by
 have G__law_next:=@zeL T
 refine T.XR.F.okT Xp (by rintro _ _ ⟨_,rfl,_⟩;rfl) λcdv A outer s H E hr p fp n ds hP=>?_
 obtain ⟨m,rfl,hm8,hn⟩:=hP
 have zl:(2000:Nat)<sizeLine:=by decide
 have hu:=hr.units
 refine ⟨_,(Zg (ZJ (i:=2) Xp.nd rfl (Or.inl rfl) (zbS rfl (by rfl) T.zfM (by rfl) T.Q0 (Za (pv 1) Zf Ze)))
   (Zg (ZJ (i:=3) Xp.nd rfl (Or.inl rfl) (Xh Zf))
   (Zg (U3 PassesOwn.never (Yi (Wt (K:=K) rfl hu) (pv 2) (Xh Zf) (Yv _)) (Zq (J8 (zay plainAttrs_list PySem.F.slot_list_append PySem.F.type_list_append QR (pv 3) (Za (zay plainAttrs_list PySem.F.slot_list_pop PySem.F.type_list_pop zc1 (pv 2) (Za (ZF YC (peN T.Zy G__law_next hr (Za (pv 0) Zf Ze)) (Yj (YZ (K:=K) rfl) (by rfl) T.ze3 PySem.boot_len (Za (pv 2) Zf Ze))) Zf Yz)) Zf Wv)))))
   (Zq (Yu (pv 3)))))) ,?_⟩
 refine Zt (ZC (zcu (Jl (Zc (Zb rfl) Zi) ⟨m,rfl,by omega,?_⟩)))
 refine Zt (ZC (VP Zi (by show 0<=sizeLine;decide) ?_))
 refine Zt (Ub (λk ρ=>∃ (c:Nat) (left found:List Nat),left.length=k/\(found++left).Perm (List.range m)/\c+k<=n+m/\ρ=[(lkT K).pv c p fp,.dat (.int (m:Nat)),.own (left.map λ(i:Nat)=>PyData.int (i:Nat)),.own (found.map λ(i:Nat)=>PyData.int (i:Nat))]) m ⟨n,List.range m,[],length_range,by rw[List.nil_append],Nat.le_refl _,rfl⟩ ?_)
 rintro k _ ⟨c,left,found,hk,hp,hc,rfl⟩
 have hlen:=hp.length_eq
 rw[length_append,length_range] at hlen
 refine ⟨!decide (left=[]),zdC (Yt (W9 (n:=2) (Ux rfl rfl) (WF Zi (by show 0<=sizeLine;decide)) (JB λd hd=>by obtain ⟨_,_,rfl⟩:=mem_map.mp hd;exact zbC _) (JB λd hd=>by cases hd) (by decide))) ?_,λh=>?_,λh=>?_⟩
 ·congr 1
  cases left with
  | nil=>rfl
  | cons a r=>rfl
 ·have hne:left≠[]:=by simpa using h
  have hpos:0<left.length:=List.length_pos_iff.mpr hne
  refine zdc (zce (i:=2) rfl rfl (QC (m:=left.length) (c:=c) rfl (by omega) (Wn (Jq (Zc (Ux rfl rfl) Zi)) (by rw[length_map])) hpos λj hj=>?_)) rfl rfl
  refine ⟨_,_,j,.int (left[j]:Nat),rfl,rfl,rfl,by rw[getElem?_map,List.getElem?_eq_getElem hj];rfl,by omega,?_⟩
  refine ⟨_,_,_,rfl,rfl,rfl,by rw[length_map];omega,k-1,by omega,c+1,left.eraseIdx j,found++[left[j]],?_,?_,by omega,?_⟩
  ·rw[List.length_eraseIdx_of_lt hj];omega
  ·refine List.Perm.trans ?_ hp
   rw[append_assoc]
   refine List.Perm.append_left _ ?_
   exact zad hj
  ·rw[map_append,zaJ];rfl
 ·have hne:left=[]:=by simpa using h
  subst hne
  refine zfm (Xg (Z8 (Zb rfl) ⟨_,c,rfl,⟨m,found,rfl,rfl,by rw[append_nil] at hp;exact hp,by omega⟩,rfl⟩))
theorem zgw (T:Top K mg):T.Yd.O P w base 1 (spN K PrC RcC):=by
 refine T.Yd.F.okN Zw (by rintro _ _ ⟨rfl,_⟩;rfl) λcdv A outer s H E hr i ds hR=>?_
 obtain ⟨ps,n⟩:=i
 obtain ⟨rfl,h8,hps⟩:=hR
 have h8:n<=8:=h8
 have hps:∀ q∈ps,q.1<n/\q.2<n:=hps
 have zl:(10000:Nat)<sizeLine:=by decide
 have hu:=hr.units
 have hu8:=Nat.lt_of_le_of_lt (Nat.add_le_add_left (show 8<=64 by decide) _) hr.units
 have nn:n*n<=64:=mul_le_mul h8 h8
 have bk:=Xr ps hps (List.replicate n 0) length_replicate YF.1 YF.2
 have bkN:(Zh ps n).length=n:=XM
 refine ⟨_,(Zg (ZJ (i:=1) Zw.nd rfl (Or.inr rfl) (zbT (K:=K) rfl rfl hu8 (by rfl) T.zbz (by rfl) T.zh5 (Za (pv 0) Zf Ze)))
   (Zg (ZJ (i:=2) Zw.nd rfl (Or.inl rfl) zcJ)
   (Zg (U3 PassesOwn.never (zaW (pv 2)) (Zg (ZJ (i:=3) Zw.nd rfl (Or.inl rfl) (Xh Zf))
   (Zg (WM PassesOwn.never rfl (Vq (pv 1)) (Qu (n:=2) rfl (Yk (Z5 (i:=4) Zw.nd rfl (Or.inr rfl)) (Yk (Z5 (i:=5) Zw.nd rfl (Or.inr rfl)) Jh)) (by rfl)) (Zq (ZJ (i:=3) Zw.nd rfl (Or.inl rfl) (ZF zaI (pv 3) (zdn (x:= "k") (x2:= "l") (cap:=["i", "j", "found"]) (js:=[4,5,1]) ⟨rfl,by decide +kernel,by decide +kernel,rfl,rfl,(by show ∀ p∈(_:List (Str×NameKind)),p.2=NameKind.free->List.lookup p.1 (Zd Yw).names=some NameKind.cell;decide +kernel),by decide +kernel,by decide +kernel,by decide +kernel⟩ rfl rfl (λ_ _ h=>h) (Vq (pv 1)) (λ_ _ _ _=>⟨(Vu (PW.pt (pw_and (Yi zaR (pv 3) (pv 0) (Yv _)) (pw_and1 (Yi (zb7 (K:=K) rfl hu) (Jg (Za (pv 2) (Za (pv 1) Zf Ze) Ze)) (pv 4) (by rfl)))))),(Jg (Za (pv 2) (Za (pv 1) Zf Ze) Ze))⟩))))))
   (Zg (ZJ (i:=2) Zw.nd rfl (Or.inl rfl) (Qg (Wt (K:=K) rfl hu) (pv 3) (Xh Zf) (Yv _)))
   (Zq (ZJ (i:=1) Zw.nd rfl (Or.inr rfl) (zbT (K:=K) rfl rfl hu8 (by rfl) T.zbz (by rfl) T.zh5 (Za (ZF zaI (pv 1) (pv 3)) Zf Yz))))))))
   (Zq (Yu (Yb (Yg (K:=K) rfl) (by rfl) T.Jo zep (Za (pv 1) Zf Ze))))))) ,?_⟩
 refine Zt (ZC (zaz (n:=n) (ps:=ps) (Zc (Wn (Zb rfl) (show PyData.list (ps.map dP)=_ by rw[zcp])) Zi) h8 hps λF nd hm sh=>?_))
 refine Zt (ZC (Z8 zga ?_))
 refine Zt (Ub (λm ρ=>∃ (F:List (Nat×Nat)) (b:Bool) (v3 v4 v5:PV),F.Nodup/\(∀ q∈F,q.1<n/\q.2<n)/\(∀ q∈ps,q∈F)/\(∀ q∈F,ah (Zh ps n) q.1 q.2=true)/\(F.length<64->F=Xj n F)/\(b=false->V5 F F.length=[])/\m=(if b then 1 else 0)+(64-F.length)/\ρ=[.dat (.list (ps.map dP)),.dat (.list (F.map dP)),.dat (.bool b),v3,v4,v5]) (1+(64-F.length)) ⟨F,true,_,_,_,nd,λq hq=>hps q ((hm q).mp hq),λq hq=>(hm q).mpr hq,λq hq=>bk.2.2.2.1 q ((hm q).mp hq),λz=>(sh z).trans (UW λq=>(hm q).symm),λh=>Bool.noConfusion h,rfl,by rw[zcp F];rfl⟩ ?_)
 clear sh hm nd F
 rintro m _ ⟨F,b,v3,v4,v5,nd,hFm,hq2,hq3,hso,hq4,hm,rfl⟩
 refine ⟨b,zg5 (Zb rfl),λhb=>?_,λhb=>?_⟩
 ·subst hb
  have hFl:F.length<=64:=Nat.le_trans (WL nd hFm) nn
  have frl:∀ i,i<=F.length->(V5 F i).length<=i*64:=λi=>by
   induction i with
   | zero=>intro _;unfold V5;simp
   | succ i ih=>
    intro hi
    unfold V5 at ih ⊢
    rw[List.take_succ_eq_append_getElem (by omega),flatMap_append,length_append,flatMap_singleton]
    have:=ih (by omega)
    have h2:(zfv F F[i]).length<=64:=by
     unfold zfv
     rw[length_map]
     exact Nat.le_trans (List.length_filter_le _ _) hFl
    omega
  refine Zt (ZC (Z8 (WF Zi (by show 0<=sizeLine;decide)) ?_))
  refine Zt (JK F dP (zby (Zb rfl)) (λi ρ=>∃ v4 v5:PV,ρ=[.dat (.list (ps.map dP)),.dat (.list (F.map dP)),.dat (.bool true),.dat (.list ((V5 F i).map dP)),v4,v5]) ⟨v4,v5,rfl⟩ ?_ ?_)
  ·rintro i hi _ ⟨v4,v5,rfl⟩
   have hf:=frl i (by omega)
   refine Q4 (ZC (Z8 (Wn (VD (Zb rfl) (zdy (js:=[4,5,1]) F (λr=>.int (r.1:Nat)) (λr=>.int (r.2:Nat)) (λr=>if decide (F[i].2=r.1) && !decide ((F[i].1,r.2)∈F) then some (dP (F[i].1,r.2)) else none) (zby (Zb rfl)) (by omega) λr hr=>lxB ?_ λ_=>JD (Zc (Zb rfl) (Zc (Zb rfl) Zi)) (by show 2<=sizeLine;decide)) ?_) ?_) ⟨.dat (.int (F[i].1:Nat)),.dat (.int (F[i].2:Nat)),rfl⟩))
   ·refine zdv (zdC (Yt (Ug (Zb rfl) (Zb rfl))) ?_) λ_=>Yt (Wn (zey (JD (Zc (Zb rfl) (Zc (Zb rfl) Zi)) (by show 2<=sizeLine;decide)) (Zb rfl) (za3 (F[i].1,r.2)) λe he=>?_) ?_)
    ·exact decide_eq_decide.mpr (by omega)
    ·obtain ⟨a,_,rfl⟩:=mem_map.mp he;exact za3 a
    ·rw[if_pos rfl,zgk F (F[i].1,r.2)]
   ·rw[zaF,length_map,length_map]
    have:=List.length_filter_le (λr:Nat×Nat=>decide (F[i].2=r.1) && !decide ((F[i].1,r.2)∈F)) F
    have:F.length*64<=64*64:=Nat.mul_le_mul_right _ hFl
    have:i*64<=F.length*64:=Nat.mul_le_mul_right _ (by omega)
    omega
   ·rw[zaF]
    unfold V5
    rw[List.take_succ_eq_append_getElem hi,flatMap_append,flatMap_singleton,map_append]
    congr 1;congr 1
    unfold zfv
    rw[map_map];rfl
  ·rintro _ ⟨v4,v5,rfl⟩
   have hfr:=frl F.length (Nat.le_refl _)
   have:F.length*64<=64*64:=Nat.mul_le_mul_right _ hFl
   generalize hR:V5 F F.length=fr at hfr
   have frm:∀ q,q∈fr↔q∉F/\∃ j,(q.1,j)∈F/\(j,q.2)∈F:=λq=>by rw[← hR];exact WX
   refine Zt (ZC (Z8 (d:=.bool (!decide (fr=[]))) (Wn (W9 (n:=4) (Zb rfl) (WF Zi (by show 0<=sizeLine;decide)) (zfA fr) (JB λd hd=>by cases hd) (by decide)) ?_) ?_))
   ·cases fr with
    | nil=>rfl
    | cons a r=>rfl
   have all:∀ q∈F++fr,q.1<n/\q.2<n:=λq hq=>by
    rcases mem_append.mp hq with hq | hq
    ·exact hFm q hq
    ·obtain ⟨_,j,h1,h2⟩:=(frm q).mp hq
     exact ⟨(hFm _ h1).1,(hFm _ h2).2⟩
   refine ZC (zaz (n:=n) (ps:=F++fr) (Zc (Wn (VD (Zb rfl) (Zb rfl) (by rw[length_map,length_map];omega)) (by rw[← map_append,zcp])) Zi) h8 all λF' nd' hm' sh' => ?_)
   have sub:F ⊆ F' := λq hq=>(hm' q).mpr (List.mem_append_left _ hq)
   have hF' : ∀ q∈F',q.1<n/\q.2<n:=λq hq=>all q ((hm' q).mp hq)
   have l' : F'.length<=64:=Nat.le_trans (WL nd' hF') nn
   have ge:=List.Nodup.length_le_of_subset nd sub
   refine ⟨_,?_,F',!decide (fr=[]),.dat (.list (fr.map dP)),v4,v5,nd',hF',λq hq=>sub (hq2 q hq),λq hq=>?_,λz=>(sh' z).trans (UW λq=>(hm' q).symm),λhb=>?_,rfl,by rw[zcp F'];rfl⟩
   ·subst hm
    by_cases e:fr=[]
    ·rw[decide_eq_true e]
     show 0+_<1+_
     omega
    ·rw[decide_eq_false e]
     obtain ⟨a,ha⟩:=List.exists_mem_of_ne_nil fr e
     have nd2:(a::F).Nodup:=nodup_cons.mpr ⟨((frm a).mp ha).1,nd⟩
     have:=List.Nodup.length_le_of_subset nd2 (l₂:=F') λq hq=>by
      rcases mem_cons.mp hq with rfl | hq
      ·exact (hm' _).mpr (mem_append_right _ ha)
      ·exact sub hq
     rw[length_cons] at this
     show 1+_<1+_
     omega
   ·rcases mem_append.mp ((hm' q).mp hq) with h | h
    ·exact hq3 q h
    ·obtain ⟨_,j,h1,h2⟩:=(frm q).mp h
     have hj:=(hFm _ h1).2
     have hq1:=(hF' q hq).1
     exact bk.1 q.1 j q.2 (by rw[show (List.foldl (λk q=>wl k q.1 q.2) (List.replicate n 0) ps).length=n from bkN];exact hq1) (by rw[show (List.foldl (λk q=>wl k q.1 q.2) (List.replicate n 0) ps).length=n from bkN];exact hj) (hq3 _ h1) (hq3 _ h2)
   ·have e:fr=[]:=by simpa using hb
    refine Uj (a:=F) (λq=>?_) (hR.trans e)
    rw[hm',e,append_nil]
 ·subst hb
  have cl:Xj n F=pairsOf (Zh ps n):=zaM hps hq2 (λq hq=>hq3 q (Yq.mp hq).2) (Uj (λq=>⟨λh=>Yq.mpr ⟨hFm q h,h⟩,λh=>(Yq.mp h).2⟩) (hq4 rfl))
  refine Xg (Z8 (Y0 (Zc (Zb rfl) Zi)) ⟨_,rfl,F,rfl,nd,λq=>?_,λz=>?_⟩)
  ·rw[← cl]
   exact ⟨λh=>Yq.mpr ⟨hFm q h,h⟩,λh=>(Yq.mp h).2⟩
  ·rw[← cl];exact hso z
end
noncomputable def gdk (k:Kn):Bool:=(List.range k.length).all λt=>!ah k t t
inductive RCl (C:Addr):List PyData->Except Addr PyData->Prop
 | mk (ps:List (Nat×Nat)) (n:Nat) (_:n<=8) (_:∀ q∈ps,q.1<n/\q.2<n):RCl C [dPs ps,.int (n:Nat)] (if gdk (Zh ps n) then .ok (dPs (pairsOf (Zh ps n))) else .error C)
section
theorem QM (T:Top K mg):Xy P w K mg base (CX1 P w) 3 T.ZW.f T.ZW.fd ["pairs", "many"] (spX K (RCl T.Zv)):=by
 have G_bits_of:=@zeh T
 have G_pairs_of:T.Xx.O P w base 2 (spP K RPo):=(zcF T).mono (by decide)
 refine Fun.okX T.ZW.F Wa (by rintro _ _ ⟨⟩;rfl) λcdv A outer s H E hr ds r hR=>?_
 cases hR with
 | mk ps n h8 hps=>
 have hl:(Zh ps n).length=n:=XM
 have e1:∀ {ρ:List PV},ρ[2]?=some (.dat (dK (Zh ps n)))->Ei K B0 _ (msk ρ) ((List.range (Zh ps n).length).map λ(t:Nat)=>PyData.tuple [.int (t:Nat),.int ((Zh ps n).getD t 0:Nat)]):=λh=>by rw[← zeo];exact zbI (Zc (Zb (i:=2) (by rw[getElem?_map,h];rfl)) Zi)
 refine ⟨_,(Zg (ZJ (i:=2) Wa.nd rfl (Or.inl rfl) (peN T.Jr G_bits_of hr (Za (pv 0) (Za (pv 1) Zf Ze) Ze)))
   (Zg (WM PassesOwn.leaving rfl (Qh (by rfl) T.Ws (Za (pv 2) Zf Ze)) (Qu (n:=2) rfl (Yk (Z5 (i:=3) Wa.nd rfl (Or.inl rfl)) (Yk (Z5 (i:=4) Wa.nd rfl (Or.inl rfl)) Jh)) (by rfl)) (Zq (Qf (Vz (ZF zbA (ZF za5 (pv 4) (pv 3)) Zo)) (Zq (zcD zek hr.hd T.JX (by rfl) (Za (zg8 (pv 3)) Zf Vd))) Y7)))
   (Zq (Yu (peN T.Xx G_pairs_of hr (Za (pv 2) Zf Ze)))))) ,λd e=>?_,λC e=>?_⟩
 ·by_cases hg:gdk (Zh ps n)=true
  ·rw[if_pos hg] at e
   cases e
   have hno:∀ t,t<n->ah (Zh ps n) t t=false:=λt ht=>by
    have:=all_eq_true.mp hg t (mem_range.mpr (by rw[hl];exact ht))
    simpa using this
   refine Zt (ZC (Z8 (XN (Zc (Zb rfl) (Zc (Zb rfl) Zi)) (RBi.mk ps n h8 hps)) ?_))
   refine Zt (JK (List.range (Zh ps n).length) (λ(t:Nat)=>PyData.tuple [.int (t:Nat),.int ((Zh ps n).getD t 0:Nat)]) (e1 rfl) (λi ρ=>∃ v3 v4:PV,ρ=[.dat (dPs ps),.dat (.int (n:Nat)),.dat (dK (Zh ps n)),v3,v4]) ⟨_,_,rfl⟩ ?_ ?_)
   ·rintro i hi _ ⟨v3,v4,rfl⟩
    rw[rix _ i hi]
    rw[length_range,hl] at hi
    exact Q4 (Q3 (zdC (VR (Zb rfl) (Zb rfl)) (hno i hi)) (YT ⟨_,_,rfl⟩))
   ·rintro _ ⟨v3,v4,rfl⟩
    exact Xg (Z8 (XN (Zc (Zb rfl) Zi) (RPo.mk _ (by rw[hl];exact h8))) rfl)
  ·rw[if_neg hg] at e;cases e
 ·by_cases hg:gdk (Zh ps n)=true
  ·rw[if_pos hg] at e;cases e
  ·rw[if_neg hg] at e
   cases e
   refine zef (ZC (Z8 (XN (Zc (Zb rfl) (Zc (Zb rfl) Zi)) (RBi.mk ps n h8 hps)) ?_))
   refine zct (zeu (List.range (Zh ps n).length) (λ(t:Nat)=>PyData.tuple [.int (t:Nat),.int ((Zh ps n).getD t 0:Nat)]) (e1 rfl) (λi ρ=>(∃ v3 v4:PV,ρ=[.dat (dPs ps),.dat (.int (n:Nat)),.dat (dK (Zh ps n)),v3,v4])/\∀ t,t<i->ah (Zh ps n) t t=false) ⟨⟨_,_,rfl⟩,λt z=>absurd z (not_lt_zero t)⟩ ?_ ?_)
   ·rintro i hi _ ⟨⟨v3,v4,rfl⟩,hno⟩
    rw[rix _ i hi]
    rw[length_range,hl] at hi
    refine Q4 (zfR (VR (Zb rfl) (Zb rfl)) (λhc=>zaC (Zc (zhG (Zb rfl) (by omega)) Zi) (by show 1<=sizeLine;decide)) λhc=>svX (YT ⟨⟨_,_,rfl⟩,λt ht=>?_⟩))
    by_cases z:t=i
    ·rw[z];exact hc
    ·exact hno t (by omega)
   ·rintro _ ⟨_,hno⟩
    rw[length_range] at hno
    refine absurd (all_eq_true.mpr λt ht=>?_) hg
    rw[hno t (mem_range.mp ht)];rfl
end
theorem zfV {X:Cx}{P:Program}{w:World}:UJ (CX1 P w) X E0:=λ_ _ _ _ _ _ _ h=>by
 obtain ⟨_,_,_,_,_,_,z⟩:=h
 exact z.elim
noncomputable def lgd (ps:List (Nat×Nat)):Bool:=!ps.any λq=>decide (q.1=q.2)
inductive RGd:List PyData->PyData->Prop
 | mk (ps:List (Nat×Nat)) (_:ps.length<=1000):RGd [dPs ps] (.bool (lgd ps))
theorem Ui {α:Type}(c:α->Bool)(f:α->PyData):∀ l:List α,PySem.Spec.same (.list (l.filterMap λa=>if c a then some (f a) else none)) (.list []) = !l.any c
 | []=>rfl
 | a::r=>by
  rw[filterMap_cons,any_cons]
  cases h:c a with
  | true=>rw[if_pos rfl];rfl
  | false=>rw[if_neg Bool.false_ne_true,Bool.false_or];exact Ui c f r
theorem zfQ (l:List (Nat×Nat)):Pl 2 (dPs l):=zdd λd hd=>by
 obtain ⟨q,_,rfl⟩:=mem_map.mp hd
 exact za3 q
inductive zht (n:Nat) (ds:List PyData):Prop
 | mk (m:Nat) (_:ds=[.int (m:Nat)]) (_:m<=8) (_:n+100<=10 ^ 5):zht n ds
inductive RPr (n:Nat) (ds es:List PyData) (n' : Nat):Prop
 | mk (m:Nat) (ps:List (Nat×Nat)) (_:ds=[.int (m:Nat)]) (_:es=ps.map dP) (_:∀ q∈ps,q.1<m/\q.2<m) (_:IsO (Zh ps m)) (_:ps.length<=8) (_:n' <= n+100):RPr n ds es n'
noncomputable def dAs (ps:List (Nat×Nat)) (n:Nat):PyData:=if gdk (Zh ps n) then dPs (pairsOf (Zh ps n)) else .str "clash"
inductive RAs:List PyData->PyData->Prop
 | mk (ps:List (Nat×Nat)) (n:Nat) (_:n<=8) (_:∀ q∈ps,q.1<n/\q.2<n):RAs [dPs ps,.int (n:Nat)] (dAs ps n)
section
theorem ze8 (T:Top K mg):T.Y9.O P w base 1 (spP K RGd):=by
 refine T.Y9.F.okP QG (by rintro _ _ ⟨⟩;rfl) λcdv A outer s H E hr ds d hR=>?_
 cases hR with
 | mk ps hz=>
 have zl:(2000:Nat)<sizeLine:=by decide
 have hu:=hr.units
 refine ⟨_,(Zq (Yu (Qg (zdO (K:=K) rfl hu) (zgz (x:= "pair") (cap:=[]) (js:=[]) ⟨rfl,by decide +kernel,by decide +kernel,rfl,(by show ∀ p∈(_:List (Str×NameKind)),p.2=NameKind.free->List.lookup p.1 (Zd Xb).names=some NameKind.cell;decide +kernel),by decide +kernel,by decide +kernel,by decide +kernel⟩ rfl rfl (λ_ _ h=>h) (zdp (pv 0)) (λ_ _ _ _=>⟨(Vu (Yi zaR (WN (VL (K:=K) rfl) (pv 0) Zo (λ_ _=>rfl)) (WN (VL (K:=K) rfl) (pv 0) Zo (λ_ _=>rfl)) (Yv _))),(pv 0)⟩)) (Xh Zf) (Yv _)))) ,?_⟩
 refine Xg (Z8 (Wn (W9 (n:=2) (zhx (js:=[]) ps dP (λq=>if decide (q.1=q.2) then some (dP q) else none) (zdq (Zb rfl)) (by omega) λq hq=>lxB (zdC (Yt (Ug (zb1 (n:=0) (d:=.int (q.1:Nat)) (Zb rfl) Zu rfl rfl) (zb1 (n:=1) (d:=.int (q.2:Nat)) (Zb rfl) Zu rfl rfl))) (decide_eq_decide.mpr (by omega))) λ_=>Zb rfl) (WF Zi (by show 0<=sizeLine;decide)) (JB λd hd=>by
  rw[zaF] at hd
  obtain ⟨q,_,rfl⟩:=mem_map.mp hd
  exact za3 q) (JB λd hd=>by cases hd) (by decide)) ?_) rfl)
 rw[Ui];rfl
theorem zba (T:Top K mg):T.YJ.O P w base 3 (zgR (lkT K) zht RPr):=by
 have G__law_next:T.Zy.O P w base 2 (spT (lkT K) zfz RDw):=(zeL T).mono (by decide)
 have G__law_turn:=@zew T
 refine T.YJ.F.zia ZX (by rintro _ _ ⟨_,rfl,_⟩;rfl) λcdv A outer s H E hr p fp n ds hP=>?_
 obtain ⟨m,rfl,hm8,hn⟩:=hP
 have zl:(2000:Nat)<sizeLine:=by decide
 refine ⟨_,(Zg (ZJ (i:=2) ZX.nd rfl (Or.inl rfl) (peN T.XR G__law_turn hr (Za (pv 0) (Za (pv 1) Zf Ze) Ze)))
   (Zg (ZJ (i:=3) ZX.nd rfl (Or.inl rfl) (Xh Zf))
   (Zg (WM PassesOwn.never rfl (Wl (by rfl) T.Q0 (Za (ZF Wo (ZF YC (peN T.Zy G__law_next hr (Za (pv 0) Zf Ze)) (ZF Jd (pv 1) Zo)) (Yb Qv (by rfl) T.int_ zh2 (Za (Qg zfh (pv 1) Zo (Yv _)) Zf zai))) Zf Yz)) (Z5 (i:=4) ZX.nd rfl (Or.inl rfl)) (Zg (ZJ (i:=5) ZX.nd rfl (Or.inl rfl) (peN T.Zy G__law_next hr (Za (pv 0) Zf Ze)))
   (Zg (ZJ (i:=6) ZX.nd rfl (Or.inl rfl) (ZF Jd Zo (ZF YC (pv 5) (ZF zdu (pv 1) Zo))))
   (Zq (J8 (zay plainAttrs_list PySem.F.slot_list_append PySem.F.type_list_append QR (pv 3) (Za (Jg (Za (WN (Yy (K:=K) rfl) (pv 2) (WN (Yy (K:=K) rfl) (Xh (Za (ZF YC (ZF WW (pv 5) (pv 1)) (pv 6)) (Za (ZF zdu (pv 6) Zo) Zf Yz) Yz)) (ZF YC (ZF WW (pv 5) Zo) Zo) (λ_ _=>rfl)) (λ_ _=>rfl)) (Za (WN (Yy (K:=K) rfl) (pv 2) (pv 6) (λ_ _=>rfl)) Zf Yn) Yn)) Zf VM)))))))
   (Zq (Yu (pv 3)))))) ,?_⟩
 refine Zt (ZC (V9 (s:=n) rfl (Jl (Zc (Zb rfl) Zi) ⟨n,rfl,⟨m,rfl,by omega,by omega⟩,λx s2 hx=>?_⟩)))
 obtain ⟨m',l,e,rfl,hl,hs2⟩:=hx
 cases e
 have hll:l.length=m:=by rw[hl.length_eq,length_range]
 have hnd:l.Nodup:=hl.nodup_iff.mpr List.nodup_range
 have hlm:∀ x∈l,x<m:=λx hx=>mem_range.mp (hl.mem_iff.mp hx)
 refine Zt (ZC (VP Zi (by show 0<=sizeLine;decide) ?_))
 show Sv K B0 _ [(lkT K).pv s2 p fp,.dat (.int (m:Nat)),.dat (.list (l.map λ(i:Nat)=>.int (i:Nat))),.own [],.un,.un,.un] _
 refine Zt (zax (zbR (Qi (zcT (QC (m:=m+1) (c:=s2) rfl (by omega) (Wj (Zb rfl) Zu λ_=>Zj _) (by omega) λr hr=>⟨_,rfl,Ji (zb3 (Zc (Wj (Zb rfl) Zu λ_=>YH _) Zi)) rfl ⟨_,.int ((r*(if 1<m then 1 else 0):Nat):Int),rfl,λG σ va vb ha hb=>zic (zej (zaq ha) (zaq hb) (mw (by omega) (by split <;> decide)) (Zj _)) ?_,_,rfl,Jl Zi ⟨_,rfl,?_,?_⟩⟩⟩)))))
 ·congr 1
  by_cases h:1<m
  ·have:(1:Int)<(m:Nat):=by omega
   rw[decide_eq_true this,if_pos h];simp
  ·have:¬ (1:Int)<(m:Nat):=by omega
   rw[decide_eq_false this,if_neg h];simp
 ·split <;> omega
 generalize hN:r*(if 1<m then 1 else 0)=N
 have hN8:N<=m/\(0<N->1<m):=by
  subst hN
  split
  ·constructor <;> omega
  ·constructor <;> omega
 refine ⟨λi ρ=>∃ (c:Nat) (ps:List (Nat×Nat)) (v4 v5 v6:PV),c<=s2+1+i/\ps.length=i/\(∀ q∈ps,∃ a b,a<b/\b<m/\l[a]?=some q.1/\l[b]?=some q.2)/\ρ=[(lkT K).pv c p fp,.dat (.int (m:Nat)),.dat (.list (l.map λ(i:Nat)=>.int (i:Nat))),.own (ps.map dP),v4,v5,v6],⟨s2+1,[],_,_,_,Nat.le_refl _,rfl,(λq h=>nomatch h),rfl⟩,?_,?_⟩
 ·rintro i hi _ ⟨c,ps,v4,v5,v6,hc,hpl,hps,rfl⟩
  rw[length_map,length_range] at hi
  rw[List.getElem_map,rix]
  have h1m:1<m:=hN8.2 (by omega)
  refine Qn (Zt (ZC (zeO (c:=c) rfl (by omega) λz=>?_)))
  have em:∀ x y:Int,0<y->0<=x % y/\x % y<y:=λx y h=>⟨emod_nonneg _ (by omega),emod_lt_of_pos _ h⟩
  refine Zt (ZC (Z8 (Wj Zu (YW (Zb rfl) (Wj (Zb rfl) Zu λ_=>Zj _) (by omega) λ_=>Zj _) λ_=>Zj _) ?_))
  obtain ⟨b,hb⟩:=eq_ofNat_of_zero_le (show 0<=1+z % ((m:Int)-1) by have:=em z ((m:Int)-1) (by omega);omega)
  have hbm:1<=b/\b<m:=by have:=em z ((m:Int)-1) (by omega);omega
  rw[hb]
  obtain ⟨a,ha⟩:=eq_ofNat_of_zero_le (em (z / (m:Int)) (b:Int) (by omega)).1
  have hab0:a<b:=by have:=em (z / (m:Int)) (b:Int) (by omega);omega
  obtain ⟨x2,hx2⟩:=eq_ofNat_of_zero_le (em (z / 64) 2 (by decide)).1
  have hx22:x2<2:=by have:=em (z / 64) 2 (by decide);omega
  obtain ⟨a',hxa,hab⟩:∃ a' : Nat,[PyData.int (a:Nat),.int ((b:Int)-1)][x2]?=some (.int (a' : Nat))/\a'<b:=by
   have:x2=0\/x2=1:=by omega
   rcases this with rfl | rfl
   ·exact ⟨a,rfl,hab0⟩
   ·exact ⟨b-1,by show some (PyData.int ((b:Int)-1))=_;congr 2;omega,by omega⟩
  have gl:∀ x,x<m->(l.map λ(i:Nat)=>PyData.int (i:Nat))[x]?=some (.int (l.getD x 0:Nat))/\ixN (l.map λ(i:Nat)=>PyData.int (i:Nat)).length (x:Nat)=some x:=λx hx=>by
   refine ⟨?_,by rw[length_map];exact X4 (by omega)⟩
   rw[getElem?_map,getD_eq_getElem?_getD,List.getElem?_eq_getElem (by omega)];rfl
  refine zdc (Z8 (d:=dP (l.getD a' 0,l.getD b 0)) (JD (Zc (JM (n:=a') (Zb rfl) (JM (n:=x2) (WF (Zc (YW (YW (Zb rfl) (Zb rfl) ⟨by omega,w0 (by omega)⟩ λ_=>Zj _) (Zb rfl) (by omega) λ_=>by rw[ha];exact Zj _) (Zc (Wj (Zb rfl) Zu λ_=>Zj _) Zi)) (by show 2<=sizeLine;decide)) (Wn (YW (YW (Zb rfl) Zu ⟨by decide,w0 (by decide)⟩ λ_=>Zj _) Zu (by decide) λ_=>Zj _) (show _=PyData.int (x2:Nat) by rw[← hx2])) (X4 hx22) hxa) (gl a' (by omega)).2 (gl a' (by omega)).1) (Zc (JM (n:=b) (Zb rfl) (Zb rfl) (gl b (by omega)).2 (gl b (by omega)).1) Zi)) (by show 2<=sizeLine;decide)) ⟨_,_,_,rfl,rfl,rfl,by rw[length_map];omega,c+1,ps++[(l.getD a' 0,l.getD b 0)],.dat (.int (i:Nat)),.dat (.int z),.dat (.int (b:Nat)),by omega,by rw[length_append,hpl];rfl,λq hq=>?_,by rw[map_append];rfl⟩) rfl rfl
  rcases mem_append.mp hq with hq | hq
  ·exact hps q hq
  ·rw[mem_singleton.mp hq]
   have e1:∀ x,x<m->l[x]?=some (l.getD x 0):=λx hx=>by rw[getD_eq_getElem?_getD,List.getElem?_eq_getElem (by omega)];rfl
   exact ⟨a',b,hab,hbm.2,e1 a' (by omega),e1 b (by omega)⟩
 ·rintro _ ⟨c,ps,v4,v5,v6,hc,hpl,hps,rfl⟩
  rw[length_map,length_range] at hc hpl
  have hpm:∀ q∈ps,q.1<m/\q.2<m:=λq hq=>by
   obtain ⟨a,b,_,_,h1,h2⟩:=hps q hq
   exact ⟨hlm _ (mem_of_getElem? h1),hlm _ (mem_of_getElem? h2)⟩
  have ix:∀ {x y:Nat},l[x]?=some y->l.idxOf y=x:=λ{x y} h=>by
   obtain ⟨hx,e⟩:=List.getElem?_eq_some_iff.mp h
   subst e
   exact hnd.idxOf_getElem x hx
  have hO:IsO (Zh ps m):=IsO.bits hpm (λa b=>l.idxOf a<l.idxOf b) (λa b c h1 h2=>Nat.lt_trans h1 h2) (λa h=>lt_irrefl _ h) λq hq=>by
   obtain ⟨a,b,hab,_,h1,h2⟩:=hps q hq
   show l.idxOf q.1<l.idxOf q.2
   rw[ix h1,ix h2];exact hab
  exact zeU rfl ⟨_,c,rfl,.mk m ps rfl rfl hpm hO (by omega) (by omega),rfl⟩
theorem zcr (T:Top K mg):T.YK.O P w base 4 (spP K RAs):=by
 have G_closed:Xy P w K mg base (CX1 P w) 3 T.ZW.f T.ZW.fd ["pairs", "many"] (spX K (RCl T.Zv)):=QM T
 refine T.YK.F.okP Yx (by rintro _ _ ⟨⟩;rfl) λcdv A outer s H E hr ds d hR=>?_
 cases hR with
 | mk ps n h8 hps=>
 have hu:=hr.units
 refine ⟨_,(Zg (ZJ (i:=2) Yx.nd rfl (Or.inl rfl) zf9)
   (Zg (zeP (i:=2) (j:=3) (zcR G_closed (hr.mono (by decide)) (by rfl) T.ZW.m T.ZW.F.kp T.ZW.b (zgA (Za (pv 0) (Za (pv 1) Zf Ze) Ze))) rfl rfl Yx.nd rfl (Or.inl rfl) (by rfl) T.cm_OrderError rfl rfl (λ_=>(Zg (Qf (zaW (Yj (Qp (K:=K) rfl) (by rfl) T.Xa zg0 (Za (pv 3) (Za (Jg (Za (Xe (v:=.ref T.Xu) (by rfl) T.cm_NoAsk rfl) (Za (Xe (v:=.ref T.Ym) (by rfl) T.cm_NoField rfl) (Za (Xe (v:=.ref T.Xo) (by rfl) T.cm_NoNet rfl) (Za (Xe (v:=.ref T.Z7) (by rfl) T.cm_NoNumber rfl) (Za (Xe (v:=.ref T.Yl) (by rfl) T.cm_NoOrder rfl) (Za (Xe (v:=.ref T.Yp) (by rfl) T.cm_NoPlace rfl) (Za (Xe (v:=.ref T.Xn) (by rfl) T.cm_NoRow rfl) (Za (Xe (v:=.ref T.Yo) (by rfl) T.cm_NoThing rfl) Zf Ze) Ze) Ze) Ze) Ze) Ze) Ze) Ze)) Zf)))) (Zq (Yu JN)) Y7)
   (Zq (ZJ (i:=2) Yx.nd rfl (Or.inl rfl) (WN (Yy (K:=K) rfl) (Xh (Za JN (Za JN Zf ZQ) ZQ)) (Yb Qv (by rfl) T.int_ zh2 (Za (zgl (Yj (Qp (K:=K) rfl) (by rfl) T.Xa zg0 (Za (pv 3) (Za (Xe (v:=.ref T.Zv) (by rfl) T.cm_Clash rfl) Zf))) (ze7 (Yj (Qp (K:=K) rfl) (by rfl) T.Xa zg0 (Za (pv 3) (Za (za0 (v:=.ty "ValueError") (by rfl) T.Vx Vn rfl) Zf))))) Zf zaK)) (λ_ _=>rfl)))))))
   (Zq (Yu (pv 2))))) ,?_⟩
 refine Zt (ZC (Z8 zfj ?_))
 have hR:=RCl.mk (C:=T.Zv) ps n h8 hps
 unfold dAs
 cases hg:gdk (Zh ps n) with
 | true=>
  rw[hg] at hR
  refine Zt (zcf (d:=dPs (pairsOf (Zh ps n))) (λE=>Uq (Zc (Zb rfl) (Zc (Zb rfl) Zi)) hR) ?_)
  exact Xg (Z8 (Zb rfl) rfl)
 | false=>
  rw[hg] at hR
  refine Zt (zee (zc0 (Zc (Zb rfl) (Zc (Zb rfl) Zi)) hR) T.exm ?_)
  refine Zt (Q3 (zg5 (zex (us:=[.ref T.Xu,.ref T.Ym,.ref T.Xo,.ref T.Z7,.ref T.Yl,.ref T.Yp,.ref T.Xn,.ref T.Yo]) rfl T.JX.c (λ_ _ _ q=>q) (by show 8<=sizeLine;decide) rfl T.oth)) (YT ?_))
  refine ZC (Ji (JM (n:=1) (d:=.str "clash") (WF (Zc Vf (Zc Vf Zi)) (by show 2<=sizeLine;decide)) (Wn (zb3 (Zc (zgH (zdH rfl T.JX.c rfl T.own) λ_=>zdH rfl T.JX.c rfl T.vae) Zi)) rfl) rfl rfl) rfl ?_)
  exact Xg (Z8 (Zb rfl) rfl)
end
theorem bits_le {n:Nat}{a b:List (Nat×Nat)}(ha:∀ q∈a,q.1<n/\q.2<n)(hb:∀ q∈b,q.1<n/\q.2<n)(h:∀ q∈a,q∈b)(t c:Nat)(ht:t<n)(e:ah (Zh a n) t c=true):ah (Zh b n) t c=true:=by
 obtain ⟨_,_,_,_,mn⟩:=Xr a ha (List.replicate n 0) length_replicate YF.1 YF.2
 obtain ⟨tr,lo,_,hold,_⟩:=Xr b hb (List.replicate n 0) length_replicate YF.1 YF.2
 have hl:(List.foldl (λk q=>wl k q.1 q.2) (List.replicate n 0) b).length=n:=XM
 exact (mn (λx y=>x<n/\ah (Zh b n) x y=true) (λx y z hxy hyz=>⟨hxy.1,tr x y z (by rw[hl];exact hxy.1) (by rw[hl];exact hyz.1) hxy.2 hyz.2⟩) (λx y _ hxy=>absurd hxy (by rw[JQ];exact Bool.false_ne_true)) (λq hq=>⟨(ha q hq).1,hold q (h q hq)⟩) t c ht e).2
theorem zaL {n:Nat}{a b:List (Nat×Nat)}(ha:∀ q∈a,q.1<n/\q.2<n)(h:∀ q,q∈a↔q∈b):Zh a n=Zh b n:=by
 have hb:∀ q∈b,q.1<n/\q.2<n:=λq hq=>ha q ((h q).mpr hq)
 have la:(Zh a n).length=n:=XM
 have lb:(Zh b n).length=n:=XM
 refine ext_getElem? λt=>?_
 by_cases ht:t<n
 ·rw[List.getElem?_eq_getElem (by omega),List.getElem?_eq_getElem (by omega)]
  congr 1
  refine Nat.eq_of_testBit_eq λc=>?_
  have e1:∀ (l:Kn) (h:t<l.length),l[t]=l.getD t 0:=λl h=>by rw[getD_eq_getElem?_getD,List.getElem?_eq_getElem h];rfl
  rw[e1,e1]
  show ah (Zh a n) t c=ah (Zh b n) t c
  rw[Bool.eq_iff_iff]
  exact ⟨bits_le ha hb (λq hq=>(h q).mp hq) t c ht,bits_le hb ha (λq hq=>(h q).mpr hq) t c ht⟩
 ·rw[List.getElem?_eq_none (by omega),List.getElem?_eq_none (by omega)]
theorem zcN {n:Nat}{a b:List (Nat×Nat)}(ha:∀ q∈a,q.1<n/\q.2<n)(h:∀ q,q∈a↔q∈b):dAs a n=dAs b n:=by
 unfold dAs
 rw[zaL ha h]
theorem VH {k:Kn}:gdk k=true↔∀ t,t<k.length->ah k t t=false:=by
 unfold gdk
 rw[all_eq_true]
 exact ⟨λh t ht=>by simpa using h t (mem_range.mpr ht),λh t ht=>by rw[h t (mem_range.mp ht)];rfl⟩
theorem zhl {n:Nat}(h8:n<=8){F:List (Nat×Nat)}(nd:F.Nodup)(h:∀ q∈F,(q.1<n/\q.2<n)/\q.1≠q.2):F.length<64:=by
 have:=List.Nodup.length_le_of_subset nd (l₂:=(zav n).filter λq=>decide (q.1≠q.2)) λq hq=>mem_filter.mpr ⟨W4.mpr (h q hq).1,decide_eq_true (h q hq).2⟩
 have h2:((zav n).filter λq=>decide (q.1≠q.2)).length<64:=by
  have:n=0\/n=1\/n=2\/n=3\/n=4\/n=5\/n=6\/n=7\/n=8:=by omega
  rcases this with rfl | rfl | rfl | rfl | rfl | rfl | rfl | rfl | rfl <;> decide
 omega
theorem zcj {ps F:List (Nat×Nat)}{n:Nat}(h8:n<=8)(t:Tel ps n F)(hg:gdk (Zh ps n)=true):F=pairsOf (Zh ps n)/\lgd F=true/\F.length<64:=by
 obtain ⟨nd,hm,sh⟩:=t
 have hl:(Zh ps n).length=n:=XM
 have hd:∀ q∈F,(q.1<n/\q.2<n)/\q.1≠q.2:=λq hq=>by
  obtain ⟨h1,h2,h3⟩:=Z9.mp ((hm q).mp hq)
  refine ⟨⟨by omega,by omega⟩,λe=>?_⟩
  rw[← e,VH.mp hg _ h1] at h3;cases h3
 have hf:=zhl h8 nd hd
 refine ⟨sh hf,?_,hf⟩
 unfold lgd
 rw[not_eq_true',List.any_eq_false]
 exact λq hq=>by rw[decide_eq_false (hd q hq).2];exact Bool.false_ne_true
theorem zeZ {ps F:List (Nat×Nat)}{n:Nat}(t:Tel ps n F)(hg:gdk (Zh ps n)=false):lgd F=false:=by
 obtain ⟨nd,hm,sh⟩:=t
 have:¬ ∀ t,t<(Zh ps n).length->ah (Zh ps n) t t=false:=λz=>by
  rw[VH.mpr z] at hg;cases hg
 cases e:lgd F with
 | false=>rfl
 | true=>
  refine absurd (λt ht=>?_) this
  cases ea:ah (Zh ps n) t t with
  | false=>rfl
  | true=>
   have hq:(t,t)∈F:=(hm _).mpr (Z9.mpr ⟨ht,ht,ea⟩)
   unfold lgd at e
   rw[not_eq_true',List.any_eq_false] at e
   exact absurd (decide_eq_true rfl) (e _ hq)
theorem zaH {ps F:List (Nat×Nat)}{n:Nat}(h8:n<=8)(t:Tel ps n F):F.length<=64/\∀ q∈F,q.1<n/\q.2<n:=by
 obtain ⟨nd,hm,_⟩:=t
 have hF:∀ q∈F,q.1<n/\q.2<n:=λq hq=>by
  obtain ⟨h1,h2,_⟩:=Z9.mp ((hm q).mp hq)
  rw[XM] at h1 h2
  exact ⟨h1,h2⟩
 exact ⟨Nat.le_trans (WL nd hF) (mul_le_mul h8 h8),hF⟩
section
theorem zf7 {B:Hp}{ρ:List PV}{ta tb:TE}{a b:Bool}(ha:Er K B ta ρ (.bool a))(hb:Er K B tb ρ (.bool b)):Er K B (tOp rNe ta tb) ρ (.bool (!decide (a=b))):=λG σ r=>Jz (ha G σ r) (hb G σ r) λG1 H x y Q s1 s2 hx hy k=>by
 rw[hx.bl,hy.bl]
 have:=k (.bl (!decide (a=b))) G1 H (Yr.refl s2) (YH _)
 cases a <;> cases b <;> exact ⟨rfl,this⟩
theorem zdP {B:Hp}{ρ:List PV}{ds:List PyData}{n:Nat}{t:TS}{R:L2.Pn}(i:Nat)(hi:ρ[i]?=some (.own ds))(hD:Dk n ds)(h:∀ p,Sv K B t (ρ.set i ((lkT K).pv n p [])) R):Sv K B t ρ R:=λE G0 H0 G H σ F D r dn=>by
 obtain ⟨p,xs,e,hx,hp,hd⟩:=r.sl i _ hi
 have hlt:i<ρ.length:=(List.getElem?_eq_some_iff.mp hi).1
 refine h p E G0 H0 G H σ F D ⟨r.g,r.bb,by rw[length_set];exact r.ls,λj v hj=>?_,r.fr,r.dj,λj ds' a hj ha=>?_⟩ dn
 ·by_cases z:j=i
  ·subst z
   rw[getElem?_set_self hlt] at hj
   cases hj
   exact (lkT K).sl.mpr ⟨e,hx,rfl,xs,ds,hp,hd,hD⟩
  ·rw[getElem?_set_ne (Ne.symm z)] at hj
   exact r.sl j v hj
 ·by_cases z:j=i
  ·subst z
   rw[getElem?_set_self hlt] at hj
   cases hj
  ·rw[getElem?_set_ne (Ne.symm z)] at hj
   exact r.ow j ds' a hj ha
theorem JT (ps:List (Nat×Nat))(n:Nat):Pl 2 (dAs ps n):=by
 unfold dAs
 split
 ·exact zfQ _
 ·exact zaG (by decide +kernel)
theorem zd7 {f:Addr}{fd:FuncData}(F:Fun K "law" "law" Qc f fd)(T:Top K mg):Xy P w K mg base CX0 8 f fd ["script"] (VB K):=by
 have G__law_next:T.Zy.O P w base 7 (spT (lkT K) zfz RDw):=(zeL T).mono (by decide)
 have G__law_pairs:T.YJ.O P w base 7 (zgR (lkT K) zht RPr):=(zba T).mono (by decide)
 have G__law_closed:T.Yd.O P w base 7 (spN K PrC RcC):=(zgw T).mono (by decide)
 have G__law_good:T.Y9.O P w base 7 (spP K RGd):=(ze8 T).mono (by decide)
 have G__law_asked:T.YK.O P w base 7 (spP K RAs):=(zcr T).mono (by decide)
 have G_closed:Xy P w K mg base (CX1 P w) 3 T.ZW.f T.ZW.fd ["pairs", "many"] (spX K (RCl T.Zv)):=QM T
 refine F.zhB Xi λcdv A outer s H E hr ns hns=>?_
 have hu:=hr.units
 have zl:(2000:Nat)<sizeLine:=by decide
 have em:∀ x y:Int,0<y->0<=x % y/\x % y<y:=λx y h=>⟨emod_nonneg _ (by omega),emod_lt_of_pos _ h⟩
 refine ⟨_,(Zg (ZJ (i:=1) Xi.nd rfl (Or.inl rfl) (Xh (Za (Uw (Us (K:=K) rfl) (pv 0) Qd (Vw Zo)) (Za Zo Zf ZQ) Yn)))
   (Zg (WM PassesOwn.never rfl (Wl (by rfl) T.Q0 (Za Zo Zf ZQ)) (Z5 (i:=2) Xi.nd rfl (Or.inl rfl)) (Zg (ZJ (i:=3) Xi.nd rfl (Or.inl rfl) (ZF YC (peN T.Zy G__law_next hr (Za (pv 1) Zf Ze)) Zo))
   (Zg (ZJ (i:=4) Xi.nd rfl (Or.inl rfl) (peN T.YJ G__law_pairs hr (Za (pv 1) (Za (pv 3) Zf Ze) Ze)))
   (Zg (Qf (Yi zaR (ZF YC (peN T.Zy G__law_next hr (Za (pv 1) Zf Ze)) Zo) Zo (Yv _)) (Zq (ZJ (i:=4) Xi.nd rfl (Or.inl rfl) (Yb (U8 (K:=K) rfl) (by rfl) T.zfM VV (Za (peN T.Yd G__law_closed hr (Za (pv 4) Zf Ze)) Zf Wv)))) Y7)
   (Zg (Qf (Yi zfh (pv 3) Zo (Yv _)) (Zq (WM PassesOwn.never rfl (Wl (by rfl) T.Q0 (Za (WN (Yy (K:=K) rfl) (Xh (Za Zo (Za Zo (Za Zo (Za Zo Zf ZQ) ZQ) ZQ) ZQ)) (ZF YC (peN T.Zy G__law_next hr (Za (pv 1) Zf Ze)) Zo) (λ_ _=>rfl)) Zf Yn)) (Z5 (i:=5) Xi.nd rfl (Or.inl rfl)) (Zg (ZJ (i:=6) Xi.nd rfl (Or.inl rfl) (peN T.Zy G__law_next hr (Za (pv 1) Zf Ze)))
   (Zq (J8 (zay plainAttrs_list PySem.F.slot_list_insert PySem.F.type_list_insert zbG (pv 4) (Za (ZF YC (pv 6) (ZF Jd (Yj (YZ (K:=K) rfl) (by rfl) T.ze3 PySem.boot_len (Za (pv 4) Zf Ze)) Zo)) (Za (Jg (Za (ZF YC (ZF WW (pv 6) Zo) (pv 3)) (Za (ZF YC (ZF WW (pv 6) Zo) (pv 3)) Zf Yz) Yz)) Zf VM) Yz))))))) Y7)
   (Zg (ZJ (i:=7) Xi.nd rfl (Or.inl rfl) (peN T.Yd G__law_closed hr (Za (pv 4) Zf Ze)))
   (Zg (Qf (zgh (zaW (peN T.Y9 G__law_good hr (Za (pv 7) Zf Ze)))) (Zq (ZJ (i:=7) Xi.nd rfl (Or.inl rfl) JN)) Y7)
   (Zg (WM PassesOwn.never rfl (Vq (Xh (Za (Yb (Yg (K:=K) rfl) (by rfl) T.Jo zep (Za (pv 4) Zf Ze)) (Za (Yb (Yg (K:=K) rfl) (by rfl) T.Jo zep (Za (zbU (pv 4) Qd Qd (Vw (zhq zfc Zo))) Zf Yn)) (Za (Yb (Yg (K:=K) rfl) (by rfl) T.Jo zep (Za (ZF zaI (pv 4) (Uw (Us (K:=K) rfl) (pv 4) Qd (Vw Zo))) Zf Yz)) Zf Wv) Wv) Wv))) (Z5 (i:=8) Xi.nd rfl (Or.inl rfl)) (Zg (ZJ (i:=9) Xi.nd rfl (Or.inl rfl) (peN T.YK G__law_asked hr (Za (pv 8) (Za (pv 3) Zf Ze) Ze)))
   (Zq (Qf ((pw_or (Yi (Wt (K:=K) rfl hu) (pv 9) (pv 7) (Yv _)) (pw_or1 (Yi zhj (Yj (zcz (K:=K) rfl) (by rfl) T.Xa zg0 (Za (pv 9) (Za (za0 (v:=.ty "tuple") (by rfl) T.Jo zep rfl) Zf))) (Qg (Wt (K:=K) rfl hu) (pv 7) JN (Yv _)) (Yv _))))).pt (Zq (Yu zcJ)) Y7))))
   (Zq (Qf ((pw_and (Yi (Wt (K:=K) rfl hu) (pv 7) JN (Yv _)) (pw_and1 (Yi (Wt (K:=K) rfl hu) (zbt G_closed (hr.mono (by decide)) (by rfl) T.ZW.m T.ZW.F.kp T.ZW.b .nil zfV (Za (pv 7) (Za (pv 3) Zf Ze) Ze)) (pv 7) (Yv _))))).pt (Zq (Yu zcJ)) Y7))))))))))
   (Zq (Yu zcJ)))) ,?_⟩
 obtain ⟨cs,hcs,hcl,_⟩:=zeM PyData.int ns none (some 63)
 refine Zt (ZC (VP (Zc (Wn (zcg rfl zaB zdm) (by rw[hcs])) (Zc Zu Zi)) (by show 2<=sizeLine;decide) ?_))
 refine zdP (n:=0) 1 rfl ⟨cs,0,rfl,by omega,by decide⟩ λp=>?_
 refine Zt (JK (List.range 10) (λ(i:Nat)=>PyData.int (i:Nat)) (zbN (n:=10) (Zc Zu Zi) (by decide)) (λi ρ=>∃ (c:Nat) (v2 v3 v4 v5 v6 v7 v8 v9:PV),c<=1000*i/\ρ=[.scr ns,(lkT K).pv c p [],v2,v3,v4,v5,v6,v7,v8,v9]) ⟨0,_,_,_,_,_,_,_,_,Nat.le_refl _,rfl⟩ ?_ ?_)
 ·rintro i hi _ ⟨c,v2,v3,v4,v5,v6,v7,v8,v9,hc,rfl⟩
  rw[rix 10 i hi]
  rw[length_range] at hi
  refine Qn (Zt (ZC (QC (m:=9) (c:=c) rfl (by omega) Zu (by decide) λn hn=>?_)))
  show Sv K B0 _ [.scr ns,(lkT K).pv (c+1) p [],.dat (.int (i:Nat)),.dat (.int (n:Nat)),v4,v5,v6,v7,v8,v9] _
  refine Zt (ZC (za6 (s:=c+1) rfl (Jl (Zc (Zb rfl) Zi) ⟨c+1,rfl,⟨n,rfl,by omega,by omega⟩,λes c2 hx=>?_⟩)))
  cases hx with
  | mk n' ps0 e e2 hps0 hO hpl0 hc2=>
  subst e2
  injection e with e _
  injection e with e
  have e:n'=n:=by omega
  subst e
  show Sv K B0 _ [.scr ns,(lkT K).pv c2 p [],.dat (.int (i:Nat)),.dat (.int (n' : Nat)),.own (ps0.map dP),v5,v6,v7,v8,v9] _
  refine VG (fun ρ' => ∃ (c3:Nat) (ps:List (Nat×Nat)),c3<=c2+1/\(∀ q∈ps,q.1<n' /\ q.2<n')/\ps.length<=64/\ρ'=[.scr ns,(lkT K).pv c3 p [],.dat (.int (i:Nat)),.dat (.int (n' : Nat)),.own (ps.map dP),v5,v6,v7,v8,v9]) (zfD (zcZ (zcT (QC (i:=1) (m:=2) (c:=c2) rfl (by omega) Zu (by decide) λr hr=>⟨_,rfl,Z8 Zu ⟨_,.bool (decide ((r:Int)=1)),rfl,λG σ va vb ha hb=>zdk (zaq ha) (zaq hb),_,rfl,?_⟩⟩)))) ?_
  ·by_cases h1:(r:Int)=1
   ·rw[decide_eq_true h1,if_pos rfl]
    refine zbr 4 rfl ?_
    refine ZC (zda (U0 (i:=(ps0,n')) (Zc (Zb rfl) Zi) ⟨rfl,by omega,hps0⟩ λd hd=>?_))
    obtain ⟨F,rfl,hF⟩:=hd
    obtain ⟨h2,h3⟩:=zaH (by omega) hF
    exact ⟨F.map dP,rfl,c2+1,F,Nat.le_refl _,h3,h2,rfl⟩
   ·rw[decide_eq_false h1,if_neg Bool.false_ne_true]
    exact YT ⟨c2+1,ps0,Nat.le_refl _,hps0,by omega,rfl⟩
  rintro _ ⟨c3,ps1,hc3,hps1,hpl1,rfl⟩
  refine VG (fun ρ' => ∃ (c4:Nat) (ps:List (Nat×Nat)) (v5 v6:PV),c4<=c3+10/\(∀ q∈ps,q.1<n' /\ q.2<n')/\ps.length<=70/\ρ'=[.scr ns,(lkT K).pv c4 p [],.dat (.int (i:Nat)),.dat (.int (n' : Nat)),.own (ps.map dP),v5,v6,v7,v8,v9]) (zaY (Yt (Wj (Zb rfl) Zu λ_=>YH _)) (λh0=>?_) λh0=>YT ⟨c3,ps1,v5,v6,by omega,hps1,by omega,rfl⟩) ?_
  ·have hn0:0<n' := by
    have:=of_decide_eq_true h0
    omega
   refine zax (zbR (Qi (zcT (Z8 (WF (Zc Zu (Zc Zu (Zc Zu (Zc Zu Zi)))) (by show 4<=sizeLine;decide)) ⟨_,rfl,QC (i:=1) (m:=4) (c:=c3) rfl (by omega) Zu (by decide) λr hr=>⟨_,.int ([0,0,1,3].getD r 0:Nat),rfl,λG σ va vb ha hb=>zdb (n:=r) (zaq ha) (zaq hb) (X4 hr) ?_,_,rfl,Jl Zi ⟨_,rfl,?_,λk ρ=>∃ (c4:Nat) (ps:List (Nat×Nat)) (v5 v6:PV),c4<=c3+1+k/\(∀ q∈ps,q.1<n' /\ q.2<n')/\ps.length<=64+k/\ρ=[.scr ns,(lkT K).pv c4 p [],.dat (.int (i:Nat)),.dat (.int (n' : Nat)),.own (ps.map dP),v5,v6,v7,v8,v9],⟨c3+1,ps1,v5,v6,Nat.le_refl _,hps1,hpl1,rfl⟩,?_,?_⟩⟩⟩))))
   ·have:r=0\/r=1\/r=2\/r=3:=by omega
    rcases this with rfl | rfl | rfl | rfl <;> rfl
   ·have:r=0\/r=1\/r=2\/r=3:=by omega
    rcases this with rfl | rfl | rfl | rfl <;> decide
   ·have hr3:[0,0,1,3].getD r 0<=3:=by
     have:r=0\/r=1\/r=2\/r=3:=by omega
     rcases this with rfl | rfl | rfl | rfl <;> decide
    rintro k hk _ ⟨c4,ps,v5,v6,hc4,hps,hpl,rfl⟩
    rw[length_map,length_range] at hk
    rw[List.getElem_map,rix]
    refine Qn (Zt (ZC (zeO (c:=c4) rfl (by omega) λz=>?_)))
    show Sv K B0 _ [.scr ns,(lkT K).pv (c4+1) p [],.dat (.int (i:Nat)),.dat (.int (n' : Nat)),.own (ps.map dP),.dat (.int (k:Nat)),.dat (.int z),v7,v8,v9] _
    obtain ⟨a,ha⟩:=eq_ofNat_of_zero_le (em (z / 64) (n' : Int) (by omega)).1
    have ha2:a<n' := by have:=em (z / 64) (n' : Int) (by omega);omega
    obtain ⟨b,hb⟩:=eq_ofNat_of_zero_le (em (z / 512) (n' : Int) (by omega)).1
    have hb2:b<n' := by have:=em (z / 512) (n' : Int) (by omega);omega
    obtain ⟨j,hj⟩:=eq_ofNat_of_zero_le (em z ((ps.length:Int)+1) (by omega)).1
    have hj2:j<=ps.length:=by have:=em z ((ps.length:Int)+1) (by omega);omega
    refine zeG rfl rfl (Qi (Ji (d:=.int (j:Nat)) (Wn (YW (Zb rfl) (Wj (Wn (Jq (Zc (Ux rfl rfl) Zi)) (by rw[length_map])) Zu λ_=>Zj _) (by omega) λ_=>Zj _) (by rw[← hj])) rfl ⟨_,rfl,Jl (Zc (JD (Zc (Wn (YW (YW (Zb rfl) Zu ⟨by decide,w0 (by decide)⟩ λ_=>Zj _) (Zb rfl) (by omega) λ_=>Zj _) (show _=PyData.int (a:Nat) by rw[← ha])) (Zc (Wn (YW (YW (Zb rfl) Zu ⟨by decide,w0 (by decide)⟩ λ_=>Zj _) (Zb rfl) (by omega) λ_=>Zj _) (show _=PyData.int (b:Nat) by rw[← hb])) Zi)) (by show 2<=sizeLine;decide)) Zi) ⟨j,dP (a,b),_,_,rfl,rfl,rfl,by rw[length_map];exact hj2,by rw[length_map];omega,?_⟩⟩))
    refine ⟨c4+1,ps.take j++(a,b)::ps.drop j,.dat (.int (k:Nat)),.dat (.int z),by omega,λq hq=>?_,?_,?_⟩
    ·rcases mem_append.mp hq with hq | hq
     ·exact hps q (mem_of_mem_take hq)
     ·rcases mem_cons.mp hq with rfl | hq
      ·exact ⟨ha2,hb2⟩
      ·exact hps q (mem_of_mem_drop hq)
    ·rw[length_append,length_cons,length_take,length_drop];omega
    ·rw[map_append,map_cons,map_take,map_drop];rfl
   ·have hr3:[0,0,1,3].getD r 0<=3:=by
     have:r=0\/r=1\/r=2\/r=3:=by omega
     rcases this with rfl | rfl | rfl | rfl <;> decide
    rintro _ ⟨c4,ps,v5,v6,hc4,hps,hpl,rfl⟩
    rw[length_map,length_range] at hc4 hpl
    exact ⟨c4,ps,v5,v6,by omega,hps,by omega,rfl⟩
  rintro _ ⟨c4,ps,v5,v6,hc4,hps,hpl,rfl⟩
  refine zbr 4 rfl ?_
  refine Zt (ZC (U0 (i:=(ps,n')) (Zc (Zb rfl) Zi) ⟨rfl,by omega,hps⟩ λd hd=>?_))
  obtain ⟨F,rfl,hF⟩:=hd
  obtain ⟨hFl,hFm⟩:=zaH (by omega) hF
  show Sv K B0 _ [.scr ns,(lkT K).pv c4 p [],.dat (.int (i:Nat)),.dat (.int (n' : Nat)),.dat (.list (ps.map dP)),v5,v6,.dat (dPs F),v8,v9] _
  refine VG (fun ρ' => ρ'=[.scr ns,(lkT K).pv c4 p [],.dat (.int (i:Nat)),.dat (.int (n' : Nat)),.dat (.list (ps.map dP)),v5,v6,.dat (dAs ps n'),v8,v9]) ?_ ?_
  ·cases hg:gdk (Zh ps n') with
   | true=>
    obtain ⟨e1,e2,_⟩:=zcj (by omega) hF hg
    refine Q3 (zdC (zdj (zg5 (XN (Zc (Zb rfl) Zi) (RGd.mk F (by omega))))) (by rw[e2];rfl)) (YT ?_)
    unfold dAs
    rw[hg,if_pos rfl,← e1]
   | false=>
    refine zgr (zdC (zdj (zg5 (XN (Zc (Zb rfl) Zi) (RGd.mk F (by omega))))) (by rw[zeZ hF hg];rfl)) (ZC (Z8 Vf ?_))
    unfold dAs
    rw[hg,if_neg Bool.false_ne_true];rfl
  rintro _ rfl
  have isT:∀ {B:Hp}{ρ:List PV},ρ[9]?=some (.dat (dAs ps n'))->Er K B (tCB (zgZ K) (YD (JP 9) (YD (tC (.ty "tuple")) Ud))) ρ (.bool (gdk (Zh ps n'))):=λ{B ρ} h=>by
   unfold dAs at h
   cases hg:gdk (Zh ps n') with
   | true=>rw[hg,if_pos rfl] at h;exact zdt (Zb h) T.tt
   | false=>rw[hg,if_neg Bool.false_ne_true] at h;exact zdt (Zb h) T.st
  have neC:(!PySem.Spec.same (dAs ps n') (.str "clash"))=gdk (Zh ps n'):=by
   unfold dAs
   cases hg:gdk (Zh ps n') with
   | true=>rw[if_pos rfl];rfl
   | false=>rw[if_neg Bool.false_ne_true,same_self];rfl
  have sl:slD (ps.map dP) none (some 1)=(ps.take 1).map dP:=by
   unfold slD
   rw[show HT.sIx (ps.map dP).length 0 none=0 from rfl,List.drop_zero]
   have:HT.sIx (ps.map dP).length (ps.map dP).length (some 1)=min 1 (ps.map dP).length:=rfl
   rw[this,map_take,Nat.sub_zero,List.take_eq_take_iff]
   omega
  refine Zt (JK [ps,ps.reverse,ps++ps.take 1] dPs (zby (WF (Zc (Y0 (Zc (Zb rfl) Zi)) (Zc (Wn (Y0 (Zc (zgG (Zb rfl) (by rw[length_map];omega)) Zi)) (by rw[← List.map_reverse])) (Zc (Wn (Y0 (Zc (VD (Zb rfl) (zfo (Zb rfl) zaB zdm) (by rw[sl,length_map,length_map,length_take];omega)) Zi)) (by rw[sl,← map_append])) Zi))) (by show 3<=sizeLine;decide))) (λ_ ρ=>∃ v8 v9:PV,ρ=[.scr ns,(lkT K).pv c4 p [],.dat (.int (i:Nat)),.dat (.int (n' : Nat)),.dat (.list (ps.map dP)),v5,v6,.dat (dAs ps n'),v8,v9]) ⟨_,_,rfl⟩ ?_ ?_)
  ·rintro k hk _ ⟨v8,v9,rfl⟩
   have hmem:[ps,ps.reverse,ps++ps.take 1][k]∈[ps,ps.reverse,ps++ps.take 1]:=getElem_mem hk
   generalize [ps,ps.reverse,ps++ps.take 1][k]=sm at hmem
   have hsm:∀ q,q∈sm↔q∈ps:=λq=>by
    simp only[mem_cons,List.not_mem_nil,or_false] at hmem
    rcases hmem with rfl | rfl | rfl
    ·exact Iff.rfl
    ·exact List.mem_reverse
    ·rw[mem_append]
     exact ⟨λh=>h.elim id mem_of_mem_take,.inl⟩
   have hs2:∀ q∈sm,q.1<n' /\ q.2<n' := λq hq=>hps q ((hsm q).mp hq)
   refine Qn (Zt (ZC (Z8 (Wn (XN (Zc (Zb rfl) (Zc (Zb rfl) Zi)) (RAs.mk sm n' (by omega) hs2)) (zcN hs2 hsm)) ?_)))
   refine Q3 (zdC (zf2 (Yt (W9 (g:=λb=>!b) (n:=2) (Zb rfl) (Zb rfl) (JT _ _) (JT _ _) (by decide))) λ_=>Yt (zf7 (isT rfl) (Wn (W9 (g:=λb=>!b) (n:=2) (Zb rfl) Vf (JT _ _) (zaG (by decide +kernel)) (by decide)) (by rw[neC])))) ?_) (YT ⟨_,_,rfl⟩)
   rw[same_self,decide_eq_true rfl];rfl
  ·rintro _ ⟨v8,v9,rfl⟩
   refine Q3 (zdC (zdv (Yt (W9 (g:=λb=>!b) (n:=2) (Zb rfl) Vf (JT _ _) (zaG (by decide +kernel)) (by decide))) λhc=>Yt (Wn (W9 (g:=λb=>!b) (n:=2) (Uq (d:=dAs ps n') (Zc (Zb rfl) (Zc (Zb rfl) Zi)) ?_) (Zb rfl) (JT _ _) (JT _ _) (by decide)) (show _=PyData.bool false by rw[same_self];rfl))) ?_) (YT ⟨c4,_,_,_,_,_,_,_,_,by omega,rfl⟩)
   ·have hg:gdk (Zh ps n')=true:=by rw[← neC];exact hc
    have hl:(Zh ps n').length=n' := XM
    have io:IsO (Zh ps n'):=by
     obtain ⟨h1,h2,_,_,_⟩:=Xr ps hps (List.replicate n' 0) length_replicate YF.1 YF.2
     exact ⟨h1,h2,VH.mp hg⟩
    have e1:dAs ps n'=dPs (pairsOf (Zh ps n')):=by unfold dAs;rw[hg,if_pos rfl]
    have:=RCl.mk (C:=T.Zv) (pairsOf (Zh ps n')) n' (by omega) (λq hq=>by
     obtain ⟨h1,h2,_⟩:=Z9.mp hq
     rw[hl] at h1 h2
     exact ⟨h1,h2⟩)
    have bp:=zab io
    rw[hl] at bp
    rw[bp,hg,if_pos rfl] at this
    rw[e1];exact this
   ·exact Bool.and_false _
 ·rintro _ ⟨c,v2,v3,v4,v5,v6,v7,v8,v9,hc,rfl⟩
  exact Xg (Z8 zga rfl)
end
theorem zeS (P:Program)(w:World)(K:PySem.W.Frag)(mg:Str->Option Value)(base:Heap):OkL P w K mg base:=Classical.byContradiction λh=>(@Classical.epsilon_spec EnC (λe=>¬ OkL e.P e.w e.K e.mg e.base) ⟨⟨P,w,K,mg,base⟩,h⟩) (λf fd F T=>zd7 F T)
theorem zfl {P:Program}{w:World}{K:PySem.W.Frag}{mg:Str->Option Value}{base:Heap}{f:Addr}{fd:FuncData}(F:Fun K "law" "law" Qc f fd)(T:Top K mg):Xy P w K mg base CX0 8 f fd ["script"] (VB K):=zeS P w K mg base f fd F T
structure Pm (K:PySem.W.Frag)(x:Str)(st:Stmt)(f:Addr)(oc:Value)(od:Option Addr)(kV dc pm:Value)(an:Option Addr)(cd ct:Value)(sl:Array (Option Value)):Prop where
 a:PySem.W.nsIn K mainGlobals x=some (some (.ref f))
 l:K.lookup f=some ⟨oc,od,.func (PySem.W.fnOf x x (YM st) (ZR st) (Zd st) .none kV dc pm an cd ct),sl⟩
 c:codeIn K cd x=true
 k:keepIn K (.ref f)=true
def Pn (K:PySem.W.Frag)(n:Str)(s:Stmt):Prop:=∃ f oc od kV dc pm an cd ct sl,Pm K n s f oc od kV dc pm an cd ct sl
noncomputable def Pn.go {K:PySem.W.Frag}{h:Heap}{mg:Str->Option Value}{n:Str}{s:Stmt}{ps:List Str}(p:Pn K n s) (X:K.In h) (G:h.Ns mainGlobals mg) (hb:∀ (kV doc pm:Value) (an:Option Addr) (cdv ct:Value) (us:List Value),us.length=ps.length->bindArgs (PySem.W.fnOf n n (YM s) (ZR s) (Zd s) .none kV doc pm an cdv ct) ⟨us,[]⟩=pure (ps.zip us)):Fn1 K mg n s ps:=Classical.choice (by
 obtain ⟨f,oc,od,kV,dc,pm,an,cd,ct,sl,p⟩:=p
 exact ⟨⟨f,_,zbO (st:=s) p.l p.c p.k,(zbO (st:=s) p.l p.c p.k).binds hb,mg_of X G p.a⟩⟩)
noncomputable def Pn.go1 {K:PySem.W.Frag}{h:Heap}{mg:Str->Option Value}{n:Str}{s:Stmt}{x0:Str}(p:Pn K n s) (X:K.In h) (G:h.Ns mainGlobals mg) (hb:∀ (kV doc pm:Value) (an:Option Addr) (cdv ct:Value) (u0:Value),bindArgs (PySem.W.fnOf n n (YM s) (ZR s) (Zd s) .none kV doc pm an cdv ct) ⟨[u0],[]⟩=pure ([x0].zip [u0])):Fn1 K mg n s [x0]:=p.go X G λa b c d e f us hl=>match us,hl with | [u0],_=>hb a b c d e f u0
noncomputable def Pn.go2 {K:PySem.W.Frag}{h:Heap}{mg:Str->Option Value}{n:Str}{s:Stmt}{x0 x1:Str}(p:Pn K n s) (X:K.In h) (G:h.Ns mainGlobals mg) (hb:∀ (kV doc pm:Value) (an:Option Addr) (cdv ct:Value) (u0 u1:Value),bindArgs (PySem.W.fnOf n n (YM s) (ZR s) (Zd s) .none kV doc pm an cdv ct) ⟨[u0,u1],[]⟩=pure ([x0,x1].zip [u0,u1])):Fn1 K mg n s [x0,x1]:=p.go X G λa b c d e f us hl=>match us,hl with | [u0,u1],_=>hb a b c d e f u0 u1
noncomputable def Pn.go3 {K:PySem.W.Frag}{h:Heap}{mg:Str->Option Value}{n:Str}{s:Stmt}{x0 x1 x2:Str}(p:Pn K n s) (X:K.In h) (G:h.Ns mainGlobals mg) (hb:∀ (kV doc pm:Value) (an:Option Addr) (cdv ct:Value) (u0 u1 u2:Value),bindArgs (PySem.W.fnOf n n (YM s) (ZR s) (Zd s) .none kV doc pm an cdv ct) ⟨[u0,u1,u2],[]⟩=pure ([x0,x1,x2].zip [u0,u1,u2])):Fn1 K mg n s [x0,x1,x2]:=p.go X G λa b c d e f us hl=>match us,hl with | [u0,u1,u2],_=>hb a b c d e f u0 u1 u2
theorem zfC {l:PySem.W.OpenLaw}{w:World}{K:PySem.W.Frag}{h:Heap}{mg:Str->Option Value}{fa:Addr}{fz10:Addr}(X:K.In h)(G:h.Ns mainGlobals mg)(hfa:mg "law" = some (.ref fa))
  {odz10 anz10:Option Addr}{slz10:Array (Option Value)}{ocz10 kVz10 dcz10 pmz10 cdz10 ctz10:Value}
  (pz0:Pn K "closed" Qs)
  (pz1:Pn K "bits_of" Jj)
  (pz2:Pn K "with_look" Xc)
  (pz3:Pn K "pairs_of" Xv)
  (pz4:Pn K "_law_next" X3)
  (pz5:Pn K "_law_closed" Yw)
  (pz6:Pn K "_law_good" Xb)
  (pz7:Pn K "_law_turn" XJ)
  (pz8:Pn K "_law_pairs" Xk)
  (pz9:Pn K "_law_asked" Xm)
  (pz10:Pm K "law" Qc fz10 ocz10 odz10 kVz10 dcz10 pmz10 anz10 cdz10 ctz10 slz10)
  (z_len:PySem.W.nsIn K mainGlobals "len" = some none)
  (z_range:PySem.W.nsIn K mainGlobals "range" = some none)
  (z_tuple:PySem.W.nsIn K mainGlobals "tuple" = some none)
  (z_isinstance:PySem.W.nsIn K mainGlobals "isinstance" = some none)
  (z_list:PySem.W.nsIn K mainGlobals "list" = some none)
  (z_int:PySem.W.nsIn K mainGlobals "int" = some none)
  (z_bool:PySem.W.nsIn K mainGlobals "bool" = some none)
  (z_sorted:PySem.W.nsIn K mainGlobals "sorted" = some none)
  (z_enumerate:PySem.W.nsIn K mainGlobals "enumerate" = some none)
  (z_set:PySem.W.nsIn K mainGlobals "set" = some none)
  (z_ValueError:PySem.W.nsIn K mainGlobals "ValueError" = some none)
  {Z6 Z7 Yl Zv Ym Xn Xo Yp Yo Xu:Addr}{xo1:Value}{xo2:Option Addr}{xo3:ClassData}{xo4:Array (Option Value)}
  (ac_OrderError:PySem.W.nsIn K mainGlobals "OrderError" = some (some (.ref Z6)))
  (ac_NoNumber:PySem.W.nsIn K mainGlobals "NoNumber" = some (some (.ref Z7)))
  (ac_NoOrder:PySem.W.nsIn K mainGlobals "NoOrder" = some (some (.ref Yl)))
  (ac_Clash:PySem.W.nsIn K mainGlobals "Clash" = some (some (.ref Zv)))
  (ac_NoField:PySem.W.nsIn K mainGlobals "NoField" = some (some (.ref Ym)))
  (ac_NoRow:PySem.W.nsIn K mainGlobals "NoRow" = some (some (.ref Xn)))
  (ac_NoNet:PySem.W.nsIn K mainGlobals "NoNet" = some (some (.ref Xo)))
  (ac_NoPlace:PySem.W.nsIn K mainGlobals "NoPlace" = some (some (.ref Yp)))
  (ac_NoThing:PySem.W.nsIn K mainGlobals "NoThing" = some (some (.ref Yo)))
  (ac_NoAsk:PySem.W.nsIn K mainGlobals "NoAsk" = some (some (.ref Xu)))
  (xlk:K.lookup Zv=some ⟨xo1,xo2,.cls xo3,xo4⟩)
  (xga:findIn K (.ref Zv) "__getattribute__" = some (some (.builtin "BaseException.__getattribute__")))
  (xgn:findIn K (.ref Zv) "__getattr__" = some none)
  (xcl:findIn K (.ref Zv) "__class__" = some (some (.builtin "object.__class__")))
  (xsb:subIn K (.ref Zv) (.type "BaseException")=some true)
  (xso:subIn K (.ref Zv) (.type "object")=some true)
  (xeq:excIn K Zv zhS "ValueError.__new__" = true)
  (xem:exmOne K (.ref Zv) (.ref Z6)=some true)
  (xot:kitAny K (.ref Zv) [.ref Xu,.ref Ym,.ref Xo,.ref Z7,.ref Yl,.ref Yp,.ref Xn,.ref Yo]=some false)
  (xow:kitOne K (.ref Zv) (.ref Zv)=some true)
  (xva:kitOne K (.ref Zv) (.type "ValueError")=some true)
  (tt:kitOne K (.type "tuple") (.type "tuple")=some true)
  (st:kitOne K (.type "str") (.type "tuple")=some false):
  ∃ fd:FuncData,(∀ (s:Shared) (v:Value),BindsTo s fd ⟨[v],[]⟩ [("script",v)])/\∀ base:Heap,K.In base->base.Ns mainGlobals mg->Xy l.prog w K mg base CX0 8 fa fd ["script"] (VB K):=by
 have e:=hfa.symm.trans (mg_of X G pz10.a)
 cases e
 exact ⟨PySem.W.fnOf "law" "law" (YM Qc) (ZR Qc) (Zd Qc) .none kVz10 dcz10 pmz10 anz10 cdz10 ctz10,λs v=>.of_eq rfl,λbase _ _=>zfl (zbO (st:=Qc) pz10.l pz10.c pz10.k)
  ⟨pz0.go2 X G λ_ _ _ _ _ _ _ _=>rfl,
  pz1.go2 X G λ_ _ _ _ _ _ _ _=>rfl,
  pz2.go3 X G λ_ _ _ _ _ _ _ _ _=>rfl,
  pz3.go1 X G λ_ _ _ _ _ _ _=>rfl,
  pz4.go1 X G λ_ _ _ _ _ _ _=>rfl,
  pz5.go1 X G λ_ _ _ _ _ _ _=>rfl,
  pz6.go1 X G λ_ _ _ _ _ _ _=>rfl,
  pz7.go2 X G λ_ _ _ _ _ _ _ _=>rfl,
  pz8.go2 X G λ_ _ _ _ _ _ _ _=>rfl,
  pz9.go2 X G λ_ _ _ _ _ _ _ _=>rfl,
   mg_none_of X G z_len,
   mg_none_of X G z_range,
   mg_none_of X G z_tuple,
   mg_none_of X G z_isinstance,
   mg_none_of X G z_list,
   mg_none_of X G z_int,
   mg_none_of X G z_bool,
   mg_none_of X G z_sorted,
   mg_none_of X G z_enumerate,
   mg_none_of X G z_set,
   mg_none_of X G z_ValueError,
   tt,
   st,
   Z6,mg_of X G ac_OrderError,Z7,mg_of X G ac_NoNumber,Yl,mg_of X G ac_NoOrder,Zv,mg_of X G ac_Clash,Ym,mg_of X G ac_NoField,Xn,mg_of X G ac_NoRow,Xo,mg_of X G ac_NoNet,Yp,mg_of X G ac_NoPlace,Yo,mg_of X G ac_NoThing,Xu,mg_of X G ac_NoAsk,⟨mg_of X G ac_Clash,⟨xga,xgn,xcl,xsb,xso,⟨_,_,_,_,xlk⟩⟩,xeq⟩,xem,xot,xow,xva⟩⟩
theorem walk {l:PySem.W.OpenLaw}{q:Program}{loose:List Str}{XP:(Str->Option Value)->Heap->Prop}{YP:World->Heap->Prop}{d:DefRec}{K:Params->PySem.W.Frag}(hn:l.most=some 63)(hdf:d.params.defaults=[])
  (hY:∀ (w:World) (h:Heap),YP w h->(K w.params).In h)
  (F:∀ (w:World) (mg:Str->Option Value) (fa:Addr) (h:Heap),(K w.params).In h->h.Ns mainGlobals mg->mg d.name=some (.ref fa)->
   ∃ fd:FuncData,(∀ (s:Shared) (u:Value),BindsTo s fd ⟨[u],[]⟩ [("script",u)])/\∀ base:Heap,(K w.params).In base->base.Ns mainGlobals mg->Xy l.prog w (K w.params) mg base CX0 8 fa fd ["script"] (VB (K w.params))):
  PySem.W.WalkO q loose XP YP l.row.toRowW d [] (λf vs=>PySem.call f vs):=
 L2.zem (n:=63) (k:=8) (x:= "script") (CX:=λ_=>CX0) (sp:=λw=>VB (K w.params)) hn (by decide) hdf ⟨rfl,by decide,by decide⟩ hY F (λ_ _ a ns hl _ hS=>⟨a,ns,rfl,hS,hl,λ_=>rfl⟩) λ_ _ _ _ _ z=>z
end K35
def PySem.W.Fast.tw18271920333290660517:Nat:=0
def PySem.W.Fast.tw10308171904312735564:Nat:=0
def PySem.W.Fast.tw12319030151364083694:Nat:=0
def PySem.W.Fast.tw1991232016925108532:Nat:=0
def PySem.W.Fast.tw4721182867478556536:Nat:=0
def PySem.W.Fast.tw3519507731216713337:Nat:=0
def PySem.W.Fast.tw130241436855539832:=0
def PySem.W.Fast.tw11975850263941138148:=0
def PySem.W.Fast.tw1235024624651824419:=0
def PySem.W.Fast.tw9728041275238354923:=0
def PySem.W.Fast.tw5067855539102068396:=0
def PySem.W.Fast.tw10718739021631629033:=0
def PySem.W.Fast.tw8864959758771464252:=0
def PySem.W.Fast.tw5017147705309979685:=0
def PySem.W.Fast.tw8834681389799411126:=0
def PySem.W.Fast.tw936289507990363729:=0
def PySem.W.Fast.tw5112626938041734469:=0
def PySem.W.Fast.tw6861977256366198205:=0
def PySem.W.Fast.tw18387060721422592937:=0
def PySem.W.Fast.tw16755845194145245386:=0
def PySem.W.Fast.tw11026984034907208074:=0
def PySem.W.Fast.tw8086057473295661330:=0
def PySem.W.Fast.tw14182524490784073287:=0
def PySem.W.Fast.tw7073368449341222372:=0
def PySem.W.Fast.tw2791704739790002000:=0
def PySem.W.Fast.tw6592219133934194439:=0
def PySem.W.Fast.tw18068081630768697542:=0
def PySem.W.Fast.tw16843812927826908495:=0
def PySem.W.Fast.tw9216510150513639511:=0
def PySem.W.Fast.tw12961977167979103142:=0
def PySem.W.Fast.tw8130819854678296032:=0
def PySem.W.Fast.tw5009431293110580655:=0
def PySem.W.Fast.tw6918896975860550458:=0
def PySem.W.Fast.tw16612297446610576872:=0
def PySem.W.Fast.tw2137519491549789673:=0
def PySem.W.Fast.tw13320037557983160418:=0
def PySem.W.Fast.tw1059161830439414220:=0
def PySem.W.Fast.tw2270387474068178959:=0
def PySem.W.Fast.tw11003427327548993814:=0
def PySem.W.Fast.tw5750820811676158961:=0
def PySem.W.Fast.tw8443555864240550243:=0
def PySem.W.Fast.tw12255762128918819498:=0
def PySem.W.Fast.tw4713488240791737958:=0
def PySem.W.Fast.tw6640711271841389648:=0
def PySem.W.Fast.tw12885194246139884812:=0
def PySem.W.Fast.tw5354591313865538614:=0
def PySem.W.Fast.tw13435531184883617066:=0
def PySem.W.Fast.tw14135265660001470621:=0
def PySem.W.Fast.tw8257150087424759118:=0
def PySem.W.Fast.tw12940380672170273365:=0
def PySem.W.Fast.tw10957428812595112453:=0
def PySem.W.Fast.tw17523554856663953649:=0
def PySem.W.Fast.tw2481645607903810197:=0
def PySem.W.Fast.tw14946981711275280425:=0
def PySem.W.Fast.tw10022966208442653060:=0
def PySem.W.Fast.tw6964780909037992496:=0
def PySem.W.Fast.tw11365345477293520762:=0
def PySem.W.Fast.tw946094959383416393:=0
def PySem.W.Fast.tw571869308055381647:=0
def PySem.W.Fast.tw1645425674026451708:=0
def PySem.W.Fast.tw15317055023229039130:=0
open PySem PySem.W PyProof.Rows
set_option maxRecDepth 100000 in
set_option maxHeartbeats 0 in
theorem PySem.Challenge.cw_ordertext_k35_closed_holds : PySem.Challenge.rw_ordertext_k35_closed.Holds := by
 w_on;o_law;k_head;(case hw=>w_witness2)
 k_fill
 refine K35.walk (l:=PySem.Challenge.rw_ordertext_k35_closed) rfl rfl (λw h Y=>PySem.W.kIn_of Y) ?F
 case F=>
  intro w mg fa h KX G hmg
  refine' K35.zfC KX G hmg ?pz0 ?pz1 ?pz2 ?pz3 ?pz4 ?pz5 ?pz6 ?pz7 ?pz8 ?pz9 ?pz10 ?z_len ?z_range ?z_tuple ?z_isinstance ?z_list ?z_int ?z_bool ?z_sorted ?z_enumerate ?z_set ?z_ValueError ?ac_OrderError ?ac_NoNumber ?ac_NoOrder ?ac_Clash ?ac_NoField ?ac_NoRow ?ac_NoNet ?ac_NoPlace ?ac_NoThing ?ac_NoAsk ?xlk ?xga ?xgn ?xcl ?xsb ?xso ?xeq ?xem ?xot ?xow ?xva ?tt ?st
  case pz0|pz1|pz2|pz3|pz4|pz5|pz6|pz7|pz8|pz9=>exact ⟨_,_,_,_,_,_,_,_,_,_,by k_is,by k_is,by k_is,by k_is⟩
  (case pz10=>exact ⟨by k_is,by k_is,by k_is,by k_is⟩)
  (case z_len=>k_is)
  (case z_range=>k_is)
  (case z_tuple=>k_is)
  (case z_isinstance=>k_is)
  (case z_list=>k_is)
  (case z_int=>k_is)
  (case z_bool=>k_is)
  (case z_sorted=>k_is)
  (case z_enumerate=>k_is)
  (case z_set=>k_is)
  (case z_ValueError=>k_is)
  (case ac_OrderError=>k_is)
  (case ac_NoNumber=>k_is)
  (case ac_NoOrder=>k_is)
  (case ac_Clash=>k_is)
  (case ac_NoField=>k_is)
  (case ac_NoRow=>k_is)
  (case ac_NoNet=>k_is)
  (case ac_NoPlace=>k_is)
  (case ac_NoThing=>k_is)
  (case ac_NoAsk=>k_is)
  (case xlk=>k_is)
  (case xga=>first | kit_is | k_is | rfl | kernel_rfl)
  (case xgn=>first | kit_is | k_is | rfl | kernel_rfl)
  (case xcl=>first | kit_is | k_is | rfl | kernel_rfl)
  (case xsb=>first | kit_is | k_is | rfl | kernel_rfl)
  (case xso=>first | kit_is | k_is | rfl | kernel_rfl)
  (case xeq=>first | kit_is | k_is | rfl | kernel_rfl)
  (case xem=>first | kit_is | k_is | rfl | kernel_rfl)
  (case xot=>first | kit_is | k_is | rfl | kernel_rfl)
  (case xow=>first | kit_is | k_is | rfl | kernel_rfl)
  (case xva=>first | kit_is | k_is | rfl | kernel_rfl)
  (case tt=>first | kit_is | k_is | rfl)
  (case st=>first | kit_is | k_is | rfl)
